import PyProof.Rows.All
import Wide.All
import OpenK.AllK
import Wide.FinOn
import Lean
import PyProof.EqAt
import PyProof.EqKinds
import PyProof.TupleCall
import PySem.Challenge.RW_roadsall_k11_no_plans
set_option Elab.async false
set_option linter.all false
set_option maxRecDepth 100000
set_option maxHeartbeats 4000000
noncomputable section
abbrev VP:=PySem.Value->PySem.Shared->Prop
abbrev PN:=List (PySem.Addr×PySem.Obj)
abbrev SV:=PySem.Str->Option PySem.Value
abbrev Aa:=PySem.Addr->Prop
abbrev LS:=List PySem.Str
abbrev LV:=List PySem.Value
abbrev Ab:=List PySem.Expr
abbrev OV:=Option PySem.Value
abbrev FG:=PySem.W.Frag
abbrev bw:=@List.getElem?_eq_some_iff
abbrev aW:=@List.all_eq_true
abbrev bE:=@List.mem_cons_of_mem
abbrev bq:=@of_decide_eq_true
abbrev bi:=@List.mem_append
abbrev bP:=@List.mem_singleton
abbrev ci:=@Bool.false_ne_true
abbrev cu:=@Nat.lt_of_lt_of_le
abbrev cV:=@List.mem_of_getElem?
abbrev cU:=@List.getElem?_set_ne
abbrev aV:=@PySem.Heap.lt_size
abbrev bo:=@List.length_cons
abbrev c7:=@List.getElem?_append_right
abbrev bN:=@List.length_append
abbrev bb:=@List.mem_map
abbrev bt:=@List.mem_range
abbrev dv:=@List.mem_append_left
abbrev cv:=@List.length_set
abbrev et:=@List.getElem?_set_self
abbrev bM:=@Nat.ne_of_lt
abbrev bL:=@Nat.le_trans
abbrev c6:=@PySem.W.kia_one
abbrev dQ:=@List.append_assoc
abbrev fw:=@List.mem_of_mem_take
abbrev dH:=@decide_eq_true
abbrev fv:=@Int.emod_lt_of_pos
abbrev fu:=@Bool.eq_false_iff
abbrev gJ:=@List.replicate_succ
abbrev gI:=@List.mem_map_of_mem
abbrev gH:=@List.filterMap_cons
abbrev gG:=@Array.length_toList
abbrev kC:=@List.eq_nil_of_length_eq_zero
abbrev fk:=@List.mem_filter
abbrev fj:=@Int.emod_nonneg
abbrev ia:=@List.length_pos_iff
abbrev jr:=@Array.getElem?_toList
abbrev mB:=@List.exists_cons_of_length_pos
abbrev bS:=@Ne.symm
abbrev eO:=@List.map_nil
abbrev kB:=@List.getElem?_take_of_lt
abbrev gF:=@Nat.not_lt_zero
abbrev gE:=@List.append_nil
abbrev h_:=@PySem.wpAny_truthy_bool
abbrev f8:=@List.any_cons
abbrev hZ:=@Option.bind_some
abbrev mz:=@List.getElem?_eq_none_iff
abbrev hY:=@List.find?_cons
abbrev jq:=@List.nodup_append
abbrev jp:=@Array.all_eq_true
abbrev jo:=@List.length_take
abbrev jn:=@List.getElem_mem
abbrev jm:=@List.any_eq_true
abbrev kA:=@List.mem_filterMap
abbrev dP:=@congrFun
abbrev jl:=@List.foldl_cons
abbrev hX:=@Nat.lt_irrefl
abbrev my:=@List.set_getElem_self
abbrev mx:=@List.length_filter_le
abbrev kz:=@List.flatten_cons
abbrev jk:=@PySem.wpAny_passesOwn
abbrev ky:=@Nat.lt_succ_self
abbrev mw:=@PySem.mem_of_lookup
abbrev jj:=@PySem.W.mg_of
abbrev qd:=@Option.isSome_iff_exists
abbrev hV:=@PySem.F.called_set
abbrev mv:=@PySem.W.kitx_list
abbrev qa:=@List.take_of_length_le
abbrev mu:=@List.pairwise_map
abbrev kw:=@List.drop_zero
abbrev ji:=@List.all_map
abbrev vf:=@PyProof.Rows.slot_tuple_getitem
abbrev p_:=@PySem.wpAny_getItem_str_slice
abbrev p0:=@List.length_singleton
abbrev ms:=@List.mem_reverse
abbrev ve:=@Array.eq_empty_of_size_eq_zero
abbrev jh:=@PySem.codeAny_mono
abbrev vd:=@PyProof.Rows.boot_isinstance
abbrev vc:=@PyProof.Rows.callWith_type1
abbrev vb:=@Array.getD_eq_getD_getElem?
abbrev u_:=@Classical.byContradiction
abbrev u9:=@Array.getElem?_eq_getElem
abbrev pZ:=@Nat.lt_succ_of_le
abbrev pY:=@Bool.not_eq_true'
abbrev u7:=@PySem.F.args_tuple_add_2
abbrev mr:=@List.map_take
abbrev mq:=@List.all_cons
abbrev pX:=@PySem.wpAny_Call_Name_kw
abbrev u6:=@PySem.F.plainAttrs_list
abbrev u5:=@PySem.F.entry_tuple_add
abbrev u4:=@List.getElem?_replicate
abbrev pW:=@List.drop_length
abbrev u3:=@PySem.F.slot_tuple_add
abbrev kv:=@Nat.not_lt
abbrev mo:=@Nat.ne_of_gt
abbrev mn:=@Int.ne_of_gt
abbrev pV:=@Option.map_some
abbrev pU:=@List.range_succ
abbrev pT:=@List.nil_append
abbrev pS:=@List.find?_some
abbrev pR:=@Bool.or_eq_true
abbrev qF:=@List.pairwise_reverse
abbrev qE:=@List.mem_iff_getElem?
abbrev qD:=@PySem.W.looks_findIn
abbrev qC:=@List.mem_iff_getElem
abbrev qB:=@Array.mem_toList_iff
abbrev qA:=@PySem.SetTable.insertAt_perm
abbrev l7:=@PySem.wpAny_execs_nil
abbrev l0:=@PySem.post_val_or_str
abbrev lZ:=@Bool.and_true
abbrev qz:=@Nat.lt_of_le_of_lt
abbrev qy:=@Bool.not_eq_false'
abbrev qx:=@Bool.false_eq_true
abbrev gK:=@if_true
abbrev iM:=@if_false
abbrev qv:=@PySem.codeAny_call_builtin
abbrev qu:=@PySem.W.kitx_none
abbrev qt:=@Option.some.injEq
abbrev qo:=@Option.isSome_map
abbrev lY:=@Nat.zero_add
abbrev lX:=@Nat.sub_self
abbrev lW:=@Nat.mul_comm
abbrev qm:=@Nat.le_of_lt_succ
abbrev lV:=@List.map_set
abbrev qj:=@List.length_range
abbrev lU:=@List.all_nil
abbrev qh:=@List.range'_succ
abbrev qg:=@List.length_drop
abbrev qf:=@PySem.Heap.SameBut.update
abbrev lT:=@PySem.wpAny_standAt
abbrev lS:=@Sum.inr.inj
abbrev lR:=@Nat.le_succ
namespace L2
open PySem PySem.Spec PyProof.Rows
noncomputable abbrev cS:=Sum Int Str
noncomputable def pb:cS->Value->Bool
 | .inl k,v=>Value.isInt k v
 | .inr x,v=>Value.isStrOf x v
noncomputable def L0 (w:World):cS->Int
 | .inl k=>hashInt k
 | .inr x=>hashStr w x
theorem cc:∀{k:cS}{v:Value},pb k v=true->(∃i t,k=Sum.inl i/\v=Value.int i t)\/(∃x t,k=Sum.inr x/\v=Value.str x t)
 | .inl i,v,h=>by obtain⟨t,e⟩:=Value.isInt_shape (k:=i) (v:=v) h;exact .inl ⟨i,t,rfl,e⟩
 | .inr x,v,h=>by obtain⟨t,e⟩:=Value.isStrOf_shape (x:=x) (v:=v) h;exact .inr ⟨x,t,rfl,e⟩
theorem y_ (i:Int) (t:Tok):pb (.inl i) (.int i t)=true:=by simp [pb,Value.isInt]
theorem y9 (x:Str) (t:Tok):pb (.inr x) (.str x t)=true:=by simp [pb,Value.isStrOf]
theorem GA (a b:Int):decide ((Sum.inl a:cS)=Sum.inl b)=(a == b):=by
 by_cases e:a=b
 .subst e;simp
 .have h:¬(Sum.inl a:cS)=Sum.inl b:=fun q=>e (Sum.inl.inj q);rw [decide_eq_false h];exact (beq_eq_false_iff_ne.mpr e).symm
theorem Gx (a b:Str):decide ((Sum.inr a:cS)=Sum.inr b)=decide (a=b):=by
 by_cases e:a=b
 .subst e;simp
 .have h:¬(Sum.inr a:cS)=Sum.inr b:=fun q=>e (lS q);rw [decide_eq_false h,decide_eq_false e]
theorem Gz (a:Int) (b:Str):decide ((Sum.inl a:cS)=Sum.inr b)=false:=decide_eq_false (fun q=>nomatch q)
theorem Gy (a:Str) (b:Int):decide ((Sum.inr a:cS)=Sum.inl b)=false:=decide_eq_false (fun q=>nomatch q)
noncomputable def bX (prog:Program) (w:World):PySem.KeyKind prog w cS where
 is:=pb
 hash:=L0 w
 inj:=fun v a b c f=>by
  rcases cc c with ⟨i,t,rfl,rfl⟩ | ⟨x,t,rfl,rfl⟩
  .rcases cc f with ⟨j,u,rfl,e⟩ | ⟨y,u,rfl,e⟩
   .injection e with s _;rw [s]
   .exact nomatch e
  .rcases cc f with ⟨j,u,rfl,e⟩ | ⟨y,u,rfl,e⟩
   .exact nomatch e
   .injection e with s _;rw [s]
 byValue:=fun k v h=>by rcases cc h with ⟨i,t,rfl,rfl⟩ | ⟨x,t,rfl,rfl⟩ <;> rfl
 pyHash:=fun n h=>by
  rcases cc n with ⟨i,t,rfl,rfl⟩ | ⟨x,t,rfl,rfl⟩
  .exact wpAny_pyHash_int h
  .exact wpAny_pyHash_str h
 eqBool:=fun m n h=>by
  rcases cc m with ⟨i,t,rfl,rfl⟩ | ⟨x,t,rfl,rfl⟩
  .rcases cc n with ⟨j,u,rfl,rfl⟩ | ⟨y,u,rfl,rfl⟩
   .rw [GA] at h;exact wpAny_eqBool_int h
   .rw [Gz] at h;exact SeqAt.EqAt.int_str i t y u _ _ _ _ h
  .rcases cc n with ⟨j,u,rfl,rfl⟩ | ⟨y,u,rfl,rfl⟩
   .rw [Gy] at h;exact SeqAt.EqAt.str_int x t j u _ _ _ _ h
   .rw [Gx] at h;exact wpAny_eqBool_str h
 «strs»:=fun k x t v h=>by
  rcases cc h with ⟨i,u,rfl,e⟩ | ⟨y,u,rfl,e⟩
  .exact nomatch e
  .injection e with s _;subst s;cases v <;> rfl
theorem tL (prog:Program) (w:World) (i:Int) (t:Tok):(bX prog w).is (.inl i) (.int i t)=true:=y_ i t
theorem tK (prog:Program) (w:World) (x:Str) (t:Tok):(bX prog w).is (.inr x) (.str x t)=true:=y9 x t
inductive V where
 | non | bl (b:Bool) | int (i:Int) | str (x:Str) | byt (b:Array UInt8) | flt (b:UInt64) | ref (a:Addr) | ty (n:String)
 deriving DecidableEq
noncomputable def RelV:V->Value->Prop
 | .non,u=>u=Value.none
 | .bl b,u=>u=Value.bool b
 | .int i,u=>∃t,u=Value.int i t
 | .str x,u=>∃t,u=Value.str x t
 | .byt b,u=>∃t,u=Value.bytes b t
 | .flt b,u=>∃t,u=Value.float b t
 | .ref a,u=>u=Value.ref a
 | .ty n,u=>u=Value.type n
noncomputable abbrev aU:List V->LV->Prop:=Paired RelV
variable {d:LV}
theorem aU.length (r:aU xs d):xs.length=d.length:=Paired.length r
theorem aU.get:∀{xs:List V}{d:LV}{i:Nat}{x:V},aU xs d->xs[i]? = some x->∃u,d[i]? = some u/\RelV x u
 | _,_,_,_,.nil,e=>by simp at e
 | _,_,0,_,.cons r _,e=>by simp at e;subst e;exact⟨_,rfl,r⟩
 | _,_,i+1,x,.cons _ t,e=>by obtain⟨u,Y,q⟩:=aU.get (i:=i) (x:=x) t (by simpa using e);exact⟨u,by simpa using Y,q⟩
variable {u:Value}
theorem aU.set (r:RelV x u):∀{xs:List V}{d:LV} (i:Nat),aU xs d->aU (xs.set i x) (d.set i u)
 | _,_,_,.nil=>.nil
 | _,_,0,.cons _ t=>.cons r t
 | _,_,i+1,.cons q t=>.cons q (aU.set r i t)
theorem aU.append:∀{xs ys:List V}{d w:LV},aU xs d->aU ys w->aU (xs++ys) (d++w)
 | _,_,_,_,.nil,s=>s
 | _,_,_,_,.cons r t,s=>.cons r (aU.append t s)
theorem aU.take:∀{xs:List V}{d:LV} (n:Nat),aU xs d->aU (xs.take n) (d.take n)
 | _,_,0,_=>.nil
 | _,_,_+1,.nil=>.nil
 | _,_,n+1,.cons r t=>.cons r (aU.take n t)
theorem aU.drop:∀{xs:List V}{d:LV} (n:Nat),aU xs d->aU (xs.drop n) (d.drop n)
 | _,_,0,r=>r
 | _,_,_+1,.nil=>.nil
 | _,_,n+1,.cons _ t=>aU.drop n t
theorem aU.none_of:∀{xs:List V}{d:LV}{i:Nat},aU xs d->xs[i]? = none->d[i]? = none:=fun {xs d i} r e=>by have Y:=r.length;have q:xs.length≤i:=mz.mp e;exact mz.mpr (by lia)
noncomputable def n0:Option V->OV->Prop
 | some v,some u=>RelV v u
 | none,none=>True
 | _,_=>False
noncomputable def KV:List (κ×V)->List (κ×Value)->Prop:=Paired fun (p:κ×V) (q:κ×Value)=>p.1=q.1/\RelV p.2 q.2
noncomputable def kV:cS->V
 | .inl i=>.int i
 | .inr x=>.str x
inductive HO where
 | lst (xs:List V)
 | tup (xs:List V)
 | dK (kvs:List (cS×V)) | dT (kvs:List (List cS×V))
 | set (S:Int->Bool) (n:Nat)
 | ins (C dx:Addr) (fs:List (Str×V))
 | own (x:Addr)
 | xd (fs:List (Str×V))
 | met (f x:Addr)
 | rng (lo hi:Int)
 | frz (o:Obj) (u:HO)
 | tbl (ps:Array Value)
 | ext (φ:Heap->Prop)
noncomputable abbrev Hp:=Addr->Option HO
noncomputable def cF (H:Hp) (a:Addr) (o:HO):Hp:=fun b=>if b=a then some o else H b
variable {H:Hp}{a:Addr}
theorem a1:cF H a o a=some o:=by unfold cF;rw [if_pos rfl]
variable {b:Addr}
theorem aF (h:b≠a):cF H a o b=H b:=by unfold cF;rw [if_neg h]
theorem cf (h:H a=some o) (h':H b=none):a≠b:=by intro e;subst e;rw [h] at h';cases h'
section
variable (P:Program) (w:World)
noncomputable def cH (H:Hp) (h:Heap) (a:Addr):HO->Prop
 | .lst xs=>xs.length≤sizeLine/\∃(i:LV) (n:Nat),aU xs i/\h.get? a=some { cls:=.type "list",data:=.seq i.toArray n }
 | .tup xs=>xs.length≤sizeLine/\∃i:LV,aU xs i/\IsTup h a i.toArray
 | .dK j=>j.length≤sizeLine/\(a == sysModules)=false/\∃k,KV j k/\h.DictOf (bX P w) a k
 | .dT j=>j.length≤sizeLine/\(a == sysModules)=false/\∃xs:List (List cS×Addr×Value),
   Paired (fun (p:List cS×V) (e:List cS×Addr×Value)=>p.1=e.1/\H e.2.1=some (.tup (p.1.map kV))/\RelV p.2 e.2.2) j xs /\
   ∃o es b,h.get? a=some o/\o.ExactDict/\o.data=.dict es b/\es.toList=xs.map (entryOfKey (tupleKind (bX P w)))/\(xs.map (·.1)).Nodup
 | .set S n=>h.SetOf (intKind P w) a S n
 | .ins C dx fs=>H dx=some (.own a)/\fs.length≤1000/\dx≠a/\h.get? a=some (PySem.W.instObj C dx) /\
   ∃m,h.Ns1 dx m/\(∀f,n0 (fs.lookup f) (m f))/\PySem.Within m (fs.map (·.1))
 | .own _=>∃o,h.get? a=some o
 | .xd fs=>∃m,h.Ns1 a m/\∀f,n0 (fs.lookup f) (m f)
 | .rng I J=>∃t u v,h.get? a=some { cls:=.type "range",data:=.fields #[.int I t,.int J u,.int 1 v] }
 | .frz o u=>h.get? a=some o/\cH H h a u
 | .tbl ps=>h.get? a=some { cls:=.none,data:=.fields ps }
 | .met f x=>h.get? a=some (PySem.W.methodObj (.ref f) (.ref x))
 | .ext s=>s h/\(∃o,h.get? a=some o)/\∀Y q:Heap,s Y->(∀o,Y.get? a=some o->q.get? a=some o)->s q
noncomputable def hU (H:Hp) (h:Heap):Prop:=∀a o,H a=some o->cH P w H h a o
end
section
variable {P:Program}{w:World}{H H':Hp}{h h':Heap}{a:Addr}{o:HO}
theorem cH.lt (x:cH P w H h a o):a < h.objs.size:=by
 cases o with
 | lst xs=>obtain⟨_,_,_,_,e⟩:=x;exact aV e
 | tup xs=>obtain⟨_,_,_,p⟩:=x;exact p.lt
 | dK j=>obtain⟨_,_,_,_,o,_,_,e,_⟩:=x;exact aV e
 | dT j=>obtain⟨_,_,_,_,o,_,_,e,_⟩:=x;exact aV e
 | set S n=>obtain⟨o,_,_,_,e,_⟩:=x;exact aV e
 | ins C dx fs=>obtain⟨_,_,_,e,_⟩:=x;exact aV e
 | own y=>obtain⟨_,e⟩:=x;exact aV e
 | xd fs=>obtain⟨_,⟨_,_,_,e,_⟩,_⟩:=x;exact aV e
 | rng I J=>obtain⟨_,_,_,e⟩:=x;exact aV e
 | frz b u=>obtain⟨e,_⟩:=x;exact aV e
 | tbl ps=>exact aV (show h.get? a=some _ from x)
 | met f y=>exact aV (show h.get? a=some _ from x)
 | ext s=>obtain⟨_,⟨_,e⟩,_⟩:=x;exact aV e
theorem Paired.mapP:∀{l:List α}{h:List N},Paired F l h->(∀a b,F a b->i a b)->Paired i l h
 | _,_,.nil,_=>.nil
 | _,_,.cons r t,f=>.cons (f _ _ r) (Paired.mapP t f)
theorem cH.stay (x:cH P w H h a o) (k:∀b u,(b=a\/H b=some (.own a))->h.get? b=some u->h'.get? b=some u)
  (F:∀b,H b=some (.own a)->H' b=some (.own a)) (K:∀b xs,H b=some (.tup xs)->H' b=some (.tup xs)):cH P w H' h' a o:=by
 induction o with
 | lst xs=>obtain⟨z,i,n,r,e⟩:=x;exact⟨z,i,n,r,k _ _ (.inl rfl) e⟩
 | tup xs=>obtain⟨z,i,r,s,e,c⟩:=x;exact⟨z,i,r,s,k _ _ (.inl rfl) e,c⟩
 | dK j=>obtain⟨z,y,E,r,s,es,m,e,c⟩:=x;exact⟨z,y,E,r,s,es,m,k _ _ (.inl rfl) e,c⟩
 | dT j=>obtain⟨z,y,xs,r,s,es,m,e,c⟩:=x;exact⟨z,y,xs,Paired.mapP r fun p q z=>⟨z.1,K _ _ z.2.1,z.2.2⟩,s,es,m,k _ _ (.inl rfl) e,c⟩
 | set S n=>obtain⟨s,es,m,t,e,c⟩:=x;exact⟨s,es,m,t,k _ _ (.inl rfl) e,c⟩
 | ins C dx fs=>obtain⟨d,z,D,e,A,⟨g,es,m,l,c⟩,r⟩:=x;exact⟨F _ d,z,D,k _ _ (.inl rfl) e,A,⟨g,es,m,k _ _ (.inr d) l,c⟩,r⟩
 | own y=>obtain⟨s,e⟩:=x;exact⟨s,k _ _ (.inl rfl) e⟩
 | xd fs=>obtain⟨A,⟨g,es,m,e,c⟩,r⟩:=x;exact⟨A,⟨g,es,m,k _ _ (.inl rfl) e,c⟩,r⟩
 | rng I J=>obtain⟨t,u,v,e⟩:=x;exact⟨t,u,v,k _ _ (.inl rfl) e⟩
 | frz s u B=>obtain⟨e,q⟩:=x;exact⟨k _ _ (.inl rfl) e,B q⟩
 | tbl ps=>have e:h.get? a=some { cls:=.none,data:=.fields ps }:=x;show h'.get? a=some { cls:=.none,data:=.fields ps };exact k a _ (.inl rfl) e
 | met f y=>have e:h.get? a=some (PySem.W.methodObj (.ref f) (.ref y)):=x;show h'.get? a=some (PySem.W.methodObj (.ref f) (.ref y));exact k a _ (.inl rfl) e
 | ext G=>obtain⟨p,⟨o,e⟩,st⟩:=x;exact⟨st _ _ p fun o q=>k _ _ (.inl rfl) q,⟨o,k _ _ (.inl rfl) e⟩,st⟩
theorem hU.lt (x:hU P w H h) (e:H a=some o):a < h.objs.size:=(x a o e).lt
theorem hU.fresh (x:hU P w H h) (e:h.objs.size≤a):H a=none:=by
 cases q:H a with
 | none=>rfl
 | some u=>exact absurd (cu (x.lt q) e) (hX _)
theorem hU.kept (x:hU P w H h) (k:∀b u,h.get? b=some u->h'.get? b=some u):hU P w H h':=fun a o e=>
 (x a o e).stay (fun b u _ q=>k b u q) (fun _ q=>q) fun _ _ q=>q
theorem hU.laid (x:hU P w H h) (k:∀b u,h.get? b=some u->h'.get? b=some u) (p:h.objs.size≤a) (n:cH P w (cF H a o) h' a o):hU P w (cF H a o) h':=fun b u e=>by
 have f:=x.fresh p;by_cases s:b=a
 .subst s;rw [a1] at e;cases e;exact n
 .rw [aF s] at e;exact (x b u e).stay (fun c v _ q=>k c v q) (fun c q=>by rw [aF (cf q f)];exact q) fun c xs q=>by rw [aF (cf q f)];exact q
end
noncomputable def Rd (H:Hp) (a:Addr) (u:HO):Prop:=H a=some u\/∃o,H a=some (.frz o u)
theorem Rd.ok {P:Program}{w:World}{H:Hp}{h:Heap}{a:Addr}{u:HO} (r:Rd H a u) (x:hU P w H h):cH P w H h a u:=by
 rcases r with r | ⟨o,r⟩
 .exact x a u r
 .obtain⟨_,q⟩:=x a _ r;exact q
noncomputable def KJ:Option HO->Prop
 | some (.lst _)=>True
 | some (.dK _)=>True
 | some (.dT _)=>True
 | some (.set _ _)=>True
 | some (.ins _ _ _)=>True
 | some (.ext _)=>True
 | _=>False
section
variable {P:Program}{w:World}{H:Hp}{h h':Heap}{x e:Addr}{o':HO}
theorem hU.write (ok:hU P w H h) (m:KJ (H x)) (d:e=x\/H e=some (.own x)) (k:∀b u,b≠e->h.get? b=some u->h'.get? b=some u) (o:∃u,h'.get? e=some u)
  (p:cH P w (cF H x o') h' x o'):hU P w (cF H x o') h':=fun b u q=>by
 have n:∀c y,H c=some (.own y)->c≠x:=fun c y r z=>by subst z;rw [r] at m;exact m
 have t:∀c xs,H c=some (.tup xs)->c≠x:=fun c xs r z=>by subst z;rw [r] at m;exact m
 by_cases s:b=x
 .subst s;rw [a1] at q;cases q;exact p
 .rw [aF s] at q;by_cases a:b=e
  .have g:H b=some (.own x):=by
    rcases d with z | z
    .exact absurd (a.trans z) s
    .rw [a];exact z
   rw [q] at g;cases g;obtain⟨v,i⟩:=o;exact⟨v,by rw [a];exact i⟩
  .refine (ok b u q).stay (fun c v f r=>k c v ?_ r) (fun c r=>by rw [aF (n c b r)];exact r) fun c xs r=>by rw [aF (t c xs r)];exact r
   rcases f with rfl | f
   .exact a
   .rintro rfl;rcases d with z | z
    .exact n c b f z
    .rw [f] at z;cases z;exact s rfl
end
structure Un (fs ex:List Addr) (H H':Hp) (h h':Heap):Prop where
 keep:∀b o,h.get? b=some o->H b=none->b ∉ fs->b ∉ ex->h'.get? b=some o
 slot:∀b o,h.get? b=some o->H b=none->b ∈ fs->b ∉ ex->∃sl,h'.get? b=some { o with slots:=sl }
 free:∀b o,h.get? b=some o->H b=none->b ∉ ex->H' b=none
 there:∀b o,h.get? b=some o->b ∉ ex->∃o',h'.get? b=some o'
 tups:∀b xs,H b=some (.tup xs)->H' b=some (.tup xs)
 frzs:∀b o u,H b=some (.frz o u)->H' b=some (.frz o u)
 tbls:∀b ps,H b=some (.tbl ps)->∃more,H' b=some (.tbl (ps++more))
section
variable {fs fs' ex ex':List Addr}{H U H2:Hp}{h Y q h':Heap}{a x e:Addr}{o:HO}
theorem Un.any (u:Un fs ex H U h Y) (q:h.get? b=some i) (n:H b=none) (a:b ∉ ex):∃s,Y.get? b=some { i with slots:=s }:=by
 by_cases x:b ∈ fs
 .exact u.slot b i q n x a
 .exact⟨i.slots,u.keep b i q n x a⟩
theorem Un.kept (k:∀b u,h.get? b=some u->h'.get? b=some u):Un fs ex H H h h':=
 ⟨fun b o q _ _ _=>k b o q,fun b o q _ _ _=>⟨o.slots,k b o q⟩,fun _ _ _ n _=>n,fun b o q _=>⟨o,k b o q⟩,fun _ _ q=>q,fun _ _ _ q=>q,fun _ ps q=>⟨#[],by rw [q];simp⟩⟩
theorem Un.refl:Un fs ex H H h h:=Un.kept fun _ _ q=>q
theorem Un.laid (k:∀b u,h.get? b=some u->h'.get? b=some u) (p:h.objs.size≤a) (x:H a=none):Un fs ex H (cF H a o) h h' where
 keep:=fun b u q _ _ _=>k b u q
 slot:=fun b u q _ _ _=>⟨u.slots,k b u q⟩
 free:=fun b u q n _=>by rw [aF (bM (cu (aV q) p))];exact n
 there:=fun b u q _=>⟨u,k b u q⟩
 tups:=fun b xs q=>by rw [aF (cf q x)];exact q
 frzs:=fun b u xs q=>by rw [aF (cf q x)];exact q
 tbls:=fun b ps q=>⟨#[],by rw [aF (cf q x),q];simp⟩
theorem Un.write (m:KJ (H x)) (p:e=x\/H e=some (.own x)) (k:∀b u,b≠e->h.get? b=some u->h'.get? b=some u) (s:∃u,h'.get? e=some u):Un fs ex H (cF H x o) h h':=by
 have t:∀b,H b=none->b≠x:=fun b n z=>by subst z;rw [n] at m;exact m
 have c:∀b,H b=none->b≠e:=fun b n z=>by
  subst z;rcases p with r | r
  .exact t b n r
  .rw [n] at r;cases r
 have f:∀b u,H b=some u->¬KJ (some u)->b≠x:=fun b u q nm z=>by subst z;rw [q] at m;exact nm m
 refine⟨fun b u q n _ _=>k b u (c b n) q,fun b u q n _ _=>⟨u.slots,k b u (c b n) q⟩,fun b u q n _=>by rw [aF (t b n)];exact n,fun b u q _=>?_,
  fun b xs q=>by rw [aF (f b _ q fun z=>z)];exact q,fun b u xs q=>by rw [aF (f b _ q fun z=>z)];exact q,fun b ps q=>⟨#[],by rw [aF (f b _ q fun z=>z),q];simp⟩⟩
 by_cases a:b=e
 .subst a;exact s
 .exact⟨u,k b u a q⟩
end
noncomputable def trk (h:Heap) (H:Hp):List Addr:=(List.range h.objs.size).filter fun a=>(H a).isSome
noncomputable def rA (h:Heap) (H:Hp):Heap:=PySem.W.hideAll h (trk h H)
theorem ze (h:Heap) (H:Hp):(rA h H).objs.size=h.objs.size:=PySem.W.hideAll_size _ _
variable {h:Heap}{o:Obj}
theorem BC (e:h.get? b=some o) (n:H b=none):(rA h H).get? b=some o:=
 PySem.W.hideAll_get _ e fun m=>by have q:(H b).isSome=true:=(fk.mp m).2;rw [n] at q;simp at q
theorem Dp (e:(rA h H).get? b=some o):h.get? b=some o/\H b=none:=by
 have a:h.get? b=some o:=PySem.W.of_hideAll (trk h H) e;refine⟨a,?_⟩;cases q:H b with
 | none=>rfl
 | some x=>have m:b ∈ trk h H:=fk.mpr ⟨bt.mpr (aV a),by simp [q]⟩;have z:(rA h H).get? b=none:=PySem.W.hideAll_none (trk h H) m;rw [z] at e;cases e
noncomputable def kt (g h:Heap) (L:Addr):PN:=(List.range h.objs.size).filterMap fun a=>if a=L\/(g.get? a).isSome=true then none else (h.get? a).map fun o=>(a,o)
variable {g:Heap}{L:Addr}
theorem tM (Y:a≠L) (q:g.get? a=none) (x:h.get? a=some o):(a,o) ∈ kt g h L:=
 kA.mpr ⟨a,bt.mpr (aV x),by simp [Y,q,x]⟩
theorem nc (x:p ∈ kt g h L):p.1≠L/\g.get? p.1=none/\h.get? p.1=some p.2:=by
 obtain⟨b,_,e⟩:=kA.mp x;split at e
 .cases e
 .rename_i n;cases q:h.get? b with
  | none=>rw [q] at e;simp at e
  | some u=>
   rw [q] at e;simp only [pV,qt] at e;subst e;refine⟨fun z=>n (.inl z),?_,q⟩;show g.get? b=none;cases r:g.get? b with
   | none=>rfl
   | some v=>exact (n (.inr (by simp [r]))).elim
noncomputable def bx (g h:Heap) (L d:Addr):PN:=(kt g h L).filter fun p=>decide (p.1≠d)
theorem nq:News g L h (kt g h L):=fun p x=>let ⟨a,b,c⟩:=nc x;⟨c,a,b⟩
structure Mod (K:FG) (mg:SV) (base:Heap):Prop where
 kin:K.In base
 glob:base.Ns mainGlobals mg
 blt:∃mb,base.Ns builtinsNs mb/\∀x:Str,x≠"__name__"->mb x=bootBuiltins x
 nolimit:base.NoLimit
structure Cx where
 prog:Program
 w:World
 K:FG
 mg:SV
 base:Heap
 A:Around
 N:LS
 s₀:Shared
 H₀:Hp
 env:Env
 outer:List Env
 stack:List Env
 ex:List Addr
 fn:Str->Bool
 calm:Bool
 pn:PN
 xe:VP
noncomputable def jb (l:List Env):List Addr:=l.filterMap (·.frame)
noncomputable abbrev Cx.fs (X:Cx):List Addr:=jb X.outer
noncomputable def EU (sc:Scope) (x:Str):Prop:=sc.names.lookup x=some .local\/sc.names.lookup x=some .cell\/sc.names.lookup x=some .free
noncomputable def Loc (sc:Scope) (x:Str):Prop:=sc.names.lookup x=some .local\/sc.names.lookup x=some .cell
noncomputable def Look (e:Env) (h:Heap) (m:SV) (x:Str) (u:Value):Prop:=
 (e.kindOf x=some .local/\m x=some u)\/((e.kindOf x=some .cell\/e.kindOf x=some .free)/\∃c,e.cells.lookup x=some c/\h.IsCell c (some u))
structure Cx.Ok (X:Cx):Prop where
 mod:Mod X.K X.mg X.base
 kind:X.env.scope.kind=.function
 glob:X.env.globals=mainGlobals
 blt:X.env.builtins=builtinsNs
 above:X.s₀.heap.objs.size≤X.env.locals
 inj:∀x y c,X.env.cells.lookup x=some c->X.env.cells.lookup y=some c->x=y
 has:∀x,(X.env.kindOf x=some .cell\/X.env.kindOf x=some .free)->∃c,X.env.cells.lookup x=some c
 cab:∀x c,X.fn x=true->X.env.cells.lookup x=some c->X.s₀.heap.objs.size≤c
 hd:X.calm=true->X.A.handled=none
 frames:X.A.frames=some X.stack
 stk:X.stack=X.outer\/(X.stack=X.env::X.outer/\X.env.frame=some X.env.locals)
 exf:∀b ∈ X.ex,b≠X.env.locals/\∀x c,X.env.cells.lookup x=some c->c≠b
 bs:∀b o,X.base.get? b=some o->X.s₀.heap.get? b=some o/\X.H₀ b=none
 bsz:X.base.objs.size≤X.s₀.heap.objs.size
 noex:∀b o,X.base.get? b=some o->b ∉ X.ex
 exfs:∀b ∈ X.ex,b ∉ X.fs
 funs:X.s₀.heap.FunFrames X.base X.outer
 frf:∀b ∈ X.fs,X.H₀ b=none
structure Inv (X:Cx) (pins:PN) (σ:List (Option V)) (H:Hp) (s:Shared):Prop where
 ok:X.Ok
 os:s.os=X.s₀.os
 bare:AllBare s.gens
 base:Un X.fs X.ex X.H₀ H X.s₀.heap s.heap
 loc:∃m,s.heap.Ns X.env.locals m/\∀(i:Nat) (x:Str) (v:V),X.N[i]? = some x->σ[i]? = some (some v)->EU X.env.scope x->∃u,RelV v u/\Look X.env s.heap m x u
 cell:∀x c,X.env.cells.lookup x=some c->∃v,s.heap.IsCell c v
 free:H X.env.locals=none
 freeC:∀x c,X.env.cells.lookup x=some c->H c=none
 pin:∀p ∈ X.pn++pins,s.heap.get? p.1=some p.2/\H p.1=none/\p.1≠X.env.locals/\p.1 ∉ X.fs/\∀v,p.2.data≠.cell v
 hok:hU X.prog X.w H s.heap
 len:σ.length=X.N.length
section
variable {X:Cx}{B:PN}{G:List (Option V)}{H H':Hp}{s:Shared}{h':Heap}
theorem Cx.Ok.nofr (ok:X.Ok) (e:X.base.get? b=some o):b ∉ X.fs:=fun h=>by have:=(ok.funs.mem h).1;rw [e] at this;cases this
theorem Inv.bs (I:Inv X B G H s):∀b o,X.base.get? b=some o->s.heap.get? b=some o/\H b=none:=fun b o e=>
 ⟨I.base.keep b o (I.ok.bs b o e).1 (I.ok.bs b o e).2 (I.ok.nofr e) (I.ok.noex b o e),I.base.free b o (I.ok.bs b o e).1 (I.ok.bs b o e).2 (I.ok.noex b o e)⟩
theorem Inv.bk (I:Inv X B G H s):∀b o,X.base.get? b=some o->s.heap.get? b=some o:=fun b o e=>(I.bs b o e).1
theorem Inv.mod (I:Inv X B G H s):Mod X.K X.mg X.base:=I.ok.mod
theorem Inv.kIn (I:Inv X B G H s):X.K.In s.heap:=I.ok.mod.kin.keeps I.bk
theorem Inv.fr (I:Inv X B G H s):∃m,Fr X.base X.env.locals s.heap m:=
 let ⟨m,h,_⟩:=I.loc
 ⟨m,h,I.bk,bL I.ok.bsz I.ok.above⟩
theorem Inv.lt (I:Inv X B G H s):X.env.locals < s.heap.objs.size:=let ⟨_,h,_⟩:=I.loc;h.lt
theorem Inv.sz (I:Inv X B G H s):X.s₀.heap.objs.size≤s.heap.objs.size:=bL I.ok.above (Nat.le_of_lt I.lt)
theorem Inv.nofs (I:Inv X B G H s) (h:s.heap.objs.size≤a):a ∉ X.fs:=fun b=>by obtain⟨_,o,x,_⟩:=I.ok.funs.mem b;exact absurd (cu (aV x) (bL I.sz h)) (hX _)
theorem Inv.cne (I:Inv X B G H s):∀x c,X.env.cells.lookup x=some c->c≠X.env.locals:=fun x c e z=>by obtain⟨v,o,n,d⟩:=I.cell x c e;obtain⟨m,⟨o',es,p,a,h,_⟩,_⟩:=I.loc;rw [z,a] at n;cases n;rw [h] at d;cases d
theorem Inv.funs (I:Inv X B G H s):s.heap.FunFrames X.base X.outer:=by
 have all:∀(l:List Env),(∀b ∈ jb l,b ∈ X.fs)->X.s₀.heap.FunFrames X.base l->s.heap.FunFrames X.base l:=by
  intro l;induction l with
  | nil=>intro _ _;trivial
  | cons n r i=>
   intro a c;obtain⟨k,⟨L,o,f,m,t,d⟩,p⟩:=c;have h:L ∈ X.fs:=a L (by unfold jb;rw [gH,f];exact List.mem_cons_self);obtain⟨q,e⟩:=I.base.slot L o t (I.ok.frf L h) h fun z=>I.ok.exfs L z h
   exact⟨k,⟨L,_,f,m,e,d⟩,i (fun b x=>a b (by unfold jb;rw [gH,f];exact bE _ x)) p⟩
 exact all X.outer (fun _ x=>x) I.ok.funs
theorem Inv.stack (I:Inv X B G H s):s.heap.FunFrames X.base X.stack:=by
 rcases I.ok.stk with e | ⟨e,h⟩
 .rw [e];exact I.funs
 .rw [e];obtain⟨m,n,_⟩:=I.loc;refine .cons (by rw [I.ok.kind];decide) h n ?_ I.funs;exact Heap.get?_none_of_le (bL I.ok.bsz I.ok.above)
theorem Inv.stkSub (I:Inv X B G H s):∀b ∈ jb X.stack,b ∈ X.env.locals::X.fs:=fun b h=>by
 rcases I.ok.stk with e | ⟨e,f⟩
 .rw [e] at h;exact bE _ h
 .rw [e] at h;unfold jb at h;rw [gH,f] at h;exact h
theorem Inv.stkFree (I:Inv X B G H s):∀b ∈ jb X.stack,H b=none:=fun b h=>by
 rcases List.mem_cons.mp (I.stkSub b h) with e | h
 .rw [e];exact I.free
 .obtain⟨_,o,x,_⟩:=I.ok.funs.mem h;exact I.base.free b o x (I.ok.frf b h) fun z=>I.ok.exfs b z h
theorem Inv.step {g':Array GenState}{t':Nat}{d':Drawn}{ch:List Addr} (I:Inv X B G H s)
  (a:∀b ∈ ch,(b ∈ X.ex\/X.s₀.heap.objs.size≤b)/\b≠X.env.locals/\(∀x c,X.env.cells.lookup x=some c->c≠b)/\∀p ∈ X.pn++B,p.1≠b)
  (t:∀b o,b≠X.env.locals->b ∉ X.fs->b ∉ ch->s.heap.get? b=some o->H b=none->h'.get? b=some o)
  (slot:∀b o,b≠X.env.locals->b ∈ X.fs->b ∉ ch->s.heap.get? b=some o->H b=none->∃N,h'.get? b=some { o with slots:=N }) (f:∀b o,b ∉ ch->s.heap.get? b=some o->H b=none->H' b=none)
  (y:∀b o,b ∉ ch->s.heap.get? b=some o->∃o',h'.get? b=some o')
  (E:∀b xs,H b=some (.tup xs)->H' b=some (.tup xs)) (P:∀b o u,H b=some (.frz o u)->H' b=some (.frz o u)) (D:∀b ps,H b=some (.tbl ps)->∃A,H' b=some (.tbl (ps++A)))
  (ns:∀m,s.heap.Ns X.env.locals m->h'.Ns X.env.locals m) (M:hU X.prog X.w H' h') (W:AllBare g') :
  Inv X B G H' { s with heap:=h',gens:=g',drawn:=d',toks:=t' }:=by
 have L:∀b o,X.s₀.heap.get? b=some o->b≠X.env.locals:=fun b o e=>bM (cu (aV e) I.ok.above);have C:∀b o,X.s₀.heap.get? b=some o->b ∉ X.ex->b ∉ ch:=fun b o e h j=>by
  rcases (a b j).1 with z | z
  .exact h z
  .exact absurd (cu (aV e) z) (hX _)
 have K:∀x c,X.env.cells.lookup x=some c->∀v,s.heap.IsCell c v->h'.IsCell c v:=fun x c e v hz=>by
  obtain⟨o,S,J⟩:=hz;have w:c ∉ ch:=fun z=>(a c z).2.2.1 x c e rfl;by_cases Q:c ∈ X.fs
  .obtain⟨N,q⟩:=slot c o (I.cne x c e) Q w S (I.freeC x c e);exact⟨_,q,J⟩
  .exact⟨o,t c o (I.cne x c e) Q w S (I.freeC x c e),J⟩
 refine⟨I.ok,I.os,W,⟨fun b o e n j h=>?_,fun b o e n j h=>?_,fun b o e n h=>?_,fun b o e h=>?_,fun b xs e=>E b xs (I.base.tups b xs e),fun b o xs e=>P b o xs (I.base.frzs b o xs e),fun b ps e=>?_⟩,?_,fun x c e=>?_,?_,fun x c e=>?_,fun p R=>?_,M,I.len⟩
 .exact t b o (L b o e) j (C b o e h) (I.base.keep b o e n j h) (I.base.free b o e n h)
 .obtain⟨N,g⟩:=I.base.slot b o e n j h;obtain⟨O,F⟩:=slot b _ (L b o e) j (C b o e h) g (I.base.free b o e n h);exact⟨O,F⟩
 .obtain⟨o',g⟩:=I.base.there b o e h;exact f b o' (C b o e h) g (I.base.free b o e n h)
 .obtain⟨o',g⟩:=I.base.there b o e h;exact y b o' (C b o e h) g
 .obtain⟨m1,g⟩:=I.base.tbls b ps e;obtain⟨m2,F⟩:=D b _ g;exact⟨m1++m2,by rw [F,Array.append_assoc]⟩
 .obtain⟨m,Z,Y⟩:=I.loc;refine⟨m,ns m Z,fun i x v g F V=>?_⟩;obtain⟨u,r,l⟩:=Y i x v g F V;refine⟨u,r,?_⟩;rcases l with l | ⟨k,c,e,z⟩
  .exact .inl l
  .exact .inr ⟨k,c,e,K x c e _ z⟩
 .obtain⟨v,z⟩:=I.cell x c e;exact⟨v,K x c e v z⟩
 .obtain⟨m,⟨o,_,_,S,_⟩,_⟩:=I.loc;exact f _ o (fun z=>(a _ z).2.1 rfl) S I.free
 .obtain⟨v,o,S,J⟩:=I.cell x c e;exact f c o (fun z=>(a c z).2.2.1 x c e rfl) S (I.freeC x c e)
 .obtain⟨e,n,T,U,d⟩:=I.pin p R;have w:p.1 ∉ ch:=fun z=>(a p.1 z).2.2.2 p R rfl;exact⟨t p.1 p.2 T U w e n,f p.1 p.2 w e n,T,U,d⟩
theorem Inv.un {t':Nat} (I:Inv X B G H s) (u:Un X.fs [] H H' s.heap h') (k:hU X.prog X.w H' h'):Inv X B G H' { s with heap:=h',toks:=t' }:=by
 obtain⟨m,⟨o,es,q,f,r⟩,_⟩:=id I.loc;obtain⟨l,L⟩:=u.any f I.free (by simp);exact I.step (g':=s.gens) (d':=s.drawn) (ch:=[]) (fun _ z=>nomatch z) (fun b o _ a _ e n=>u.keep b o e n a (by simp)) (fun b o _ a _ e n=>u.slot b o e n a (by simp)) (fun b o _ e n=>u.free b o e n (by simp)) (fun b o _ e=>u.there b o e (by simp)) u.tups u.frzs u.tbls (fun v c=>by obtain⟨o',x,p,h,t⟩:=c;rw [f] at h;cases h;exact⟨_,x,p,L,t⟩) k I.bare
theorem Inv.call {g':Array GenState}{t':Nat}{d':Drawn}{ch:List Addr} (I:Inv X B G H s) (u:Un (jb X.stack) ch H H' s.heap h') (q:hU X.prog X.w H' h') (g:AllBare g')
  (a:∀b ∈ ch,(b ∈ X.ex\/X.s₀.heap.objs.size≤b)/\b≠X.env.locals/\(∀x c,X.env.cells.lookup x=some c->c≠b)/\∀p ∈ X.pn++B,p.1≠b) :
  Inv X B G H' { s with heap:=h',gens:=g',drawn:=d',toks:=t' }:=by
 obtain⟨m,⟨o,es,j,v,r⟩,_⟩:=id I.loc;obtain⟨y,L⟩:=u.any v I.free fun z=>(a _ z).2.1 rfl;exact I.step (ch:=ch) a (fun b o L d h e n=>u.keep b o e n (fun z=>(List.mem_cons.mp (I.stkSub b z)).elim L d) h) (fun b o _ _ h e n=>u.any e n h) (fun b o h e n=>u.free b o e n h) (fun b o h e=>u.there b o e h) u.tups u.frzs u.tbls (fun l w=>by obtain⟨o',t,f,k,i⟩:=w;rw [v] at k;cases k;exact⟨_,t,f,L,i⟩) q g
theorem Inv.turned {t':Nat}{i:Addr} (I:Inv X B G H s) (k:∀b o,b≠i->s.heap.get? b=some o->h'.get? b=some o) (j:H i=none) (L:i≠X.env.locals)
  (Y:i ∈ X.ex\/X.s₀.heap.objs.size≤i) (q:∀x c,X.env.cells.lookup x=some c->c≠i) (d:∀p ∈ X.pn++B,p.1≠i):Inv X B G H { s with heap:=h',toks:=t' }:=by
 have t:∀b u,H b=some u->b≠i:=fun b u e z=>by rw [z,j] at e;cases e
 refine I.step (g':=s.gens) (d':=s.drawn) (ch:=[i]) (fun b w=>?_) (fun b o _ _ a e _=>k b o (fun z=>a (by simp [z])) e) (fun b o _ _ a e _=>⟨o.slots,k b o (fun z=>a (by simp [z])) e⟩) (fun _ _ _ _ n=>n)
  (fun b o a e=>⟨o,k b o (fun z=>a (by simp [z])) e⟩) (fun _ _ e=>e) (fun _ _ _ e=>e) (fun b ps e=>⟨#[],by rw [e];simp⟩) (fun m g=>?_) (fun b u e=>?_) I.bare
 .have e:b=i:=by simpa using w
  subst e;exact⟨Y,L,q,d⟩
 .obtain⟨o,es,f,l,r⟩:=g;exact⟨o,es,f,k _ o (bS L) l,r⟩
 .refine (I.hok b u e).stay (fun c v a h=>k c v ?_ h) (fun _ h=>h) fun _ _ h=>h;rcases a with z | z
  .rw [z];exact t b u e
  .exact t c _ z
theorem Inv.tok (I:Inv X B G H s) (t:Nat):Inv X B G H { s with toks:=t }:=I.un (h':=s.heap) (t':=t) Un.refl I.hok
theorem Inv.kept {t':Nat} (I:Inv X B G H s) (k:∀b u,s.heap.get? b=some u->h'.get? b=some u):Inv X B G H { s with heap:=h',toks:=t' }:=I.un (Un.kept k) (I.hok.kept k)
theorem Inv.laid {a:Addr}{o:HO}{t':Nat} (I:Inv X B G H s) (k:∀b u,s.heap.get? b=some u->h'.get? b=some u) (h:s.heap.objs.size≤a) (n:cH X.prog X.w (cF H a o) h' a o) :
  Inv X B G (cF H a o) { s with heap:=h',toks:=t' }:=I.un (Un.laid k h (I.hok.fresh h)) (I.hok.laid k h n)
theorem Inv.write {x e:Addr}{o:HO}{t:Nat} (I:Inv X B G H s) (m:KJ (H x)) (a:e=x\/H e=some (.own x)) (k:∀b u,b≠e->s.heap.get? b=some u->h'.get? b=some u) (h:∃u,h'.get? e=some u)
  (n:cH X.prog X.w (cF H x o) h' x o):Inv X B G (cF H x o) { s with heap:=h',toks:=t }:=I.un (Un.write m a k h) (I.hok.write m a k h n)
theorem Inv.pins_of (I:Inv X B G H s) (h:∀p ∈ i,s.heap.get? p.1=some p.2/\H p.1=none/\p.1≠X.env.locals/\p.1 ∉ X.fs/\∀v,p.2.data≠.cell v):Inv X i G H s:=
 ⟨I.ok,I.os,I.bare,I.base,I.loc,I.cell,I.free,I.freeC,fun p x=>(bi.mp x).elim (fun z=>I.pin p (dv _ z)) (h p),I.hok,I.len⟩
theorem nj {N:LS} (s:N.Nodup) {i j:Nat}{x:Str} (a:N[i]? = some x) (b:N[j]? = some x):i=j:=by obtain⟨Y,e⟩:=bw.mp a;obtain⟨q,h⟩:=bw.mp b;exact (List.getElem_inj s).mp (e.trans h.symm)
theorem iQ {M:Model}{A:Around}{E:VP}{i:Nat}{x:Str}{v:V}{u:Value}{Q:Unit->Shared->Prop} (I:Inv X B G H s) (hN:X.N.Nodup) (J:X.N[i]? = some x) (S:Loc X.env.scope x) (r:RelV v u)
  (h:∀z,Inv X B (G.set i (some v)) H z->(∃a,Heap.SameBut a s.heap z.heap/\(a=X.env.locals\/X.env.cells.lookup x=some a))->Q () z) (hf:X.fn x=true\/X.env.scope.names.lookup x=some .local:=by first | exact .inl rfl | exact .inr rfl | assumption):wpAny M A (storeName X.env x u) Q E s:=by
 obtain⟨m,hn,hl⟩:=id I.loc;have U:(X.env.scope.kind == .class || (X.env.scope.kind == .module && X.env.locals != X.env.globals))=false:=by rw [I.ok.kind];rfl
 have P:i < G.length:=by rw [I.len];exact (bw.mp J).1
 have D:=I.cne;have g:∀{a:Addr}{h':Heap},(∃o,s.heap.get? a=some o/\H a=none)->Heap.SameBut a s.heap h'->hU X.prog X.w H h':=fun {a h'} ha t b ob e=>by
  obtain⟨_,_,F⟩:=ha;refine (I.hok b ob e).stay (fun c w' l q=>(t.2 c ?_).trans q) (fun _ q=>q) fun _ _ q=>q;rintro rfl;rcases l with rfl | l
  .rw [F] at e;cases e
  .rw [F] at l;cases l
 rcases S with C | C
 .refine wpAny_storeName_local C hn (fun h' hn' t=>?_) U;obtain⟨oL,_,_,hoL,_⟩:=id hn;refine h _ ⟨I.ok,I.os,I.bare,⟨fun b o e n L S=>?_,fun b o e n L S=>?_,I.base.free,fun b o e S=>?_,I.base.tups,I.base.frzs,I.base.tbls⟩,⟨_,hn',fun j y v' w K e3=>?_⟩,fun y c e=>?_,I.free,I.freeC,fun p hp=>?_,g ⟨oL,hoL,I.free⟩ t,by simpa using I.len⟩ ⟨_,t,.inl rfl⟩
  .exact (t.2 b (bM (cu (aV e) I.ok.above))).trans (I.base.keep b o e n L S)
  .obtain⟨sl,w⟩:=I.base.slot b o e n L S;exact⟨sl,(t.2 b (bM (cu (aV e) I.ok.above))).trans w⟩
  .obtain⟨o',w⟩:=I.base.there b o e S;exact⟨o',(t.2 b (bM (cu (aV e) I.ok.above))).trans w⟩
  .by_cases O:j=i
   .subst O;rw [J] at w;cases w;rw [et P] at K;cases K;exact⟨u,r,.inl ⟨C,by simp⟩⟩
   .rw [cU (bS O)] at K;obtain⟨u',r',q⟩:=hl j y v' w K e3;refine⟨u',r',?_⟩;rcases q with ⟨k,e⟩ | ⟨k,c,e,f⟩
    .refine .inl ⟨k,?_⟩;have:y≠x:=fun e=>O (nj hN w (e ▸ J));simp [this,e]
    .exact .inr ⟨k,c,e,f.sameBut t (D y c e)⟩
  .obtain⟨w',f⟩:=I.cell y c e;exact⟨w',f.sameBut t (D y c e)⟩
  .obtain⟨e,n,ne,nf,d⟩:=I.pin p hp;exact⟨(t.2 p.1 ne).trans e,n,ne,nf,d⟩
 .have N:X.fn x=true:=by
   rcases hf with f | f
   .exact f
   .rw [f] at C;cases C
  obtain⟨c,l⟩:=I.ok.has x (.inl C);obtain⟨w',f⟩:=I.cell x c l;refine wpAny_storeName_cell I.ok.kind C l f (fun h' R t=>?_);obtain⟨oc,W,Y⟩:=id f;refine h { s with heap:=h' } ⟨I.ok,I.os,I.bare,⟨fun b o e n L S=>?_,fun b o e n L S=>?_,I.base.free,fun b o e S=>?_,I.base.tups,I.base.frzs,I.base.tbls⟩,⟨m,hn.sameBut t (bS (D x c l)),fun j y v' w K e3=>?_⟩,fun y Z e=>?_,I.free,I.freeC,fun p hp=>?_,g ⟨oc,W,I.freeC x c l⟩ t,by simpa using I.len⟩ ⟨c,t,.inr l⟩
  .exact (t.2 b (bM (cu (aV e) (I.ok.cab x c N l)))).trans (I.base.keep b o e n L S)
  .obtain⟨sl,w⟩:=I.base.slot b o e n L S;exact⟨sl,(t.2 b (bM (cu (aV e) (I.ok.cab x c N l)))).trans w⟩
  .obtain⟨o',w⟩:=I.base.there b o e S;exact⟨o',(t.2 b (bM (cu (aV e) (I.ok.cab x c N l)))).trans w⟩
  .by_cases O:j=i
   .subst O;rw [J] at w;cases w;rw [et P] at K;cases K;exact⟨u,r,.inr ⟨.inl C,c,l,R⟩⟩
   .rw [cU (bS O)] at K;obtain⟨u',r',q⟩:=hl j y v' w K e3;refine⟨u',r',?_⟩;rcases q with q | ⟨k,Z,e,z'⟩
    .exact .inl q
    .refine .inr ⟨k,Z,e,z'.sameBut t ?_⟩;rintro rfl;exact O (nj hN w (I.ok.inj _ _ _ e l ▸ J))
  .by_cases T:Z=c
   .subst T;exact⟨_,R⟩
   .obtain⟨w2,z2⟩:=I.cell y Z e;exact⟨w2,z2.sameBut t T⟩
  .obtain⟨e,n,ne,nf,d⟩:=I.pin p hp;refine⟨(t.2 p.1 ?_).trans e,n,ne,nf,d⟩;intro q;rw [q,W] at e;have q':oc=p.2:=Option.some.inj e;exact d w' (by rw [<- q'];exact Y)
theorem sT (I:Inv X B G H s) (N:X.N.Nodup) (J:X.N[i]? = some x) (e:Loc X.env.scope x) (r:RelV v u)
  (h:∀z,Inv X B (G.set i (some v)) H z->Q () z) (f:X.fn x=true\/X.env.scope.names.lookup x=some .local:=by first | exact .inl rfl | exact .inr rfl | assumption):wpAny M A (storeName X.env x u) Q E s:=
 iQ I N J e r (fun z a _=>h z a) f
theorem Inv.call' (I:Inv X B G H s) (n:z.os=s.os) (u:Un (jb X.stack) i H H' s.heap z.heap) (o:hU X.prog X.w H' z.heap) (a:AllBare z.gens)
  (h:∀b ∈ i,(b ∈ X.ex\/X.s₀.heap.objs.size≤b)/\b≠X.env.locals/\(∀x c,X.env.cells.lookup x=some c->c≠b)/\∀p ∈ X.pn++B,p.1≠b):Inv X B G H' z:=by
 obtain⟨h',g,d,t,o'⟩:=z;have e:o'=s.os:=n;subst e;exact I.call (g':=g) (t':=t) (d':=d) u o a h
end
noncomputable abbrev XK:=Value->Option Addr->Hp->Prop
noncomputable abbrev St:=List (Option V)
noncomputable abbrev VK:=V->Hp->Prop
noncomputable abbrev TE:=St->Hp->VK->Prop
noncomputable abbrev TT:=St->Hp->(Bool->Hp->Prop)->Prop
noncomputable abbrev TA:=St->Hp->(List V->Hp->Prop)->Prop
structure Ends where
 nx:St->Hp->Prop
 rt:VK
 bk:St->Hp->Prop:=fun _ _=>False
 ct:St->Hp->Prop:=fun _ _=>False
noncomputable abbrev TS:=Ends->St->Hp->Prop
noncomputable def EP (X:Cx) (B:PN) (G:St) (Q:VK) (u:Value) (z:Shared):Prop:=∃v H',Inv X B G H' z/\RelV v u/\Q v H'
noncomputable def TP (X:Cx) (B:PN) (G:St) (Q:Bool->Hp->Prop) (b:Bool) (z:Shared):Prop:=∃H',Inv X B G H' z/\Q b H'
noncomputable def AP (X:Cx) (B:PN) (G:St) (Q:List V->Hp->Prop) (d:LV) (z:Shared):Prop:=∃v H',Inv X B G H' z/\aU v d/\Q v H'
noncomputable def SP (X:Cx) (B:PN) (D:Ends) (f:Flow) (z:Shared):Prop:=
 match f with
 | .next=>∃h H',Inv X B h H' z/\D.nx h H'
 | .brk=>∃h H',Inv X B h H' z/\D.bk h H'
 | .cont=>∃h H',Inv X B h H' z/\D.ct h H'
 | .ret u=>∃v h H',Inv X B h H' z/\RelV v u/\D.rt v H'
noncomputable def PE (X:Cx) (e:Expr) (t:TE):Prop:=
 ∀(B:PN) (s:Shared) (G:St) (H:Hp) (Q:VK),Inv X B G H s->t G H Q->wpAny (model X.prog X.w) X.A (eval e X.env) (EP X B G Q) X.xe s
noncomputable def PT (X:Cx) (e:Expr) (t:TT):Prop:=
 ∀(B:PN) (s:Shared) (G:St) (H:Hp) (Q:Bool->Hp->Prop),Inv X B G H s->t G H Q->wpAny (model X.prog X.w) X.A (isTrue e X.env (eval e X.env)) (TP X B G Q) X.xe s
noncomputable def PW (X:Cx) (e:Expr) (t:TT):Prop:=
 ∀(w:Sem Value) (B:PN) (s:Shared) (G:St) (H:Hp) (Q:Bool->Hp->Prop),Inv X B G H s->t G H Q->wpAny (model X.prog X.w) X.A (isTrue e X.env w) (TP X B G Q) X.xe s
variable {X:Cx}
theorem PW.pt (h:PW X e t):PT X e t:=h _
noncomputable def PA (X:Cx) (es:Ab) (t:TA):Prop:=
 ∀(O:Pos) (B:PN) (s:Shared) (G:St) (H:Hp) (Q:List V->Hp->Prop),Inv X B G H s->t G H Q->wpAny (model X.prog X.w) X.A (spliced (backTo O (starEach es X.env))) (AP X B G Q) X.xe s
noncomputable def PS (X:Cx) (st:Stmt) (t:TS):Prop:=
 ∀(B:PN) (s:Shared) (G:St) (H:Hp) (D:Ends),Inv X B G H s->t D G H->wpAny (model X.prog X.w) X.A (exec st X.env) (SP X B D) X.xe s
noncomputable def fN (X:Cx) (st:List Stmt) (t:TS):Prop:=
 ∀(B:PN) (s:Shared) (G:St) (H:Hp) (D:Ends),Inv X B G H s->t D G H->wpAny (model X.prog X.w) X.A (execs st X.env) (SP X B D) X.xe s
variable {M:Model}{A:Around}{E:VP}{s:Shared}
theorem cZ (h:wpAny M A t Q E s) (e:∀a s,Q a s->i a s):wpAny M A t i E s:=wpAny_mono h e fun _ _ x=>x
section
variable {X:Cx}
noncomputable def Iw (i:Nat):TE:=fun G H Q=>∃v,G[i]? = some (some v)/\Q v H
noncomputable def tC (v:V):TE:=fun _ H Q=>Q v H
theorem A0 (N:X.N[i]? = some x) (w:EU X.env.scope x) (n:(x == ("__debug__":Str))=false:=by decide) (d:(x == ("__classdict__":Str))=false:=by decide):PE X (.Name x O) (Iw i):=by
 intro B s G H Q I h;obtain⟨v,e,h⟩:=h;obtain⟨m,q,t⟩:=I.loc;obtain⟨u,r,l⟩:=t i x v N e w;have f:EP X B G Q u s:=⟨v,H,I,r,h⟩;rcases l with ⟨k,p⟩ | ⟨k,c,b,a⟩
 .exact wpAny_Name (wpAny_loadName_local I.ok.kind k q p f) n
 .rcases k with k | k
  .exact wpAny_Name (wpAny_loadName_cell I.ok.kind k b a f) n
  .exact wpAny_Name (wpAny_loadName_free I.ok.kind k b a f d) n
theorem FZ {i N O}:PE X (.Constant (.int i) N O) (tC (.int i)):=fun _ _ _ H _ I h=>wpAny_Constant_int ⟨.int i,H,I.tok _,⟨_,rfl⟩,h⟩
theorem IT {b i O}:PE X (.Constant (.bool b) i O) (tC (.bl b)):=fun _ _ _ H _ I h=>Constant_bool ⟨.bl b,H,I,rfl,h⟩
theorem FY {i O}:PE X (.Constant .none i O) (tC .non):=fun _ _ _ H _ I h=>Constant_none ⟨.non,H,I,rfl,h⟩
theorem FV {x i O}:PE X (.Constant (.str x) i O) (tC (.str x)):=fun _ _ _ H _ I h=>Calls.Constant_str ⟨.str x,H,I.tok _,⟨_,rfl⟩,h⟩
noncomputable def Gl (X:Cx) (x:Str):Prop:=X.env.kindOf x=some .globalImplicit
theorem j6 (I:Inv X B G H s) (g:Gl X x) (m:X.mg x=some u) (h:Q u s)
  (d:(x == ("__debug__":Str))=false:=by decide):wpAny (model X.prog X.w) X.A (eval (.Name x O) X.env) Q E s:=
 Calls.Name_function_global I.ok.kind g (Calls.loadGlobal_global (by rw [I.ok.glob];exact I.mod.glob.keeps I.bk) m h) d
theorem nu (I:Inv X B G H s) (g:Gl X x) (m:X.mg x=none) (v:bootBuiltins x=some u) (h:Q u s)
  (n:x≠"__name__":=by decide) (d:(x == ("__debug__":Str))=false:=by decide):wpAny (model X.prog X.w) X.A (eval (.Name x O) X.env) Q E s:=by
 obtain⟨b,Y,q⟩:=I.mod.blt;exact Calls.Name_function_global I.ok.kind g (Calls.loadGlobal_builtin (by rw [I.ok.glob];exact I.mod.glob.keeps I.bk) m (by rw [I.ok.blt];exact Y.keeps I.bk) ((q x n).trans v) h) d
theorem xF (g:Gl X x) (m:X.mg x=some u) (r:RelV v u) (d:(x == ("__debug__":Str))=false:=by decide):PE X (.Name x O) (tC v):=
 fun _ _ _ H _ I h=>j6 I g m ⟨v,H,I,r,h⟩ d
theorem xG (g:Gl X x) (m:X.mg x=none) (a:bootBuiltins x=some u) (r:RelV v u) (n:x≠"__name__":=by decide) (d:(x == ("__debug__":Str))=false:=by decide):PE X (.Name x O) (tC v):=
 fun _ _ _ H _ I h=>nu I g m a ⟨v,H,I,r,h⟩ n d
noncomputable def Nr (ta tb:TE) (k:Int->Int->Hp->Prop):St->Hp->Prop:=fun G H=>ta G H fun x U=>tb G U fun y H2=>∃i j,x=.int i/\y=.int j/\k i j H2
variable {a b:Expr}{ta tb:TE}{O:Pos}
noncomputable def yJ (p:Int->Int->Bool) (ta tb:TE):TE:=fun G H Q=>Nr ta tb (fun i j H2=>Q (.bl (p i j)) H2) G H
noncomputable abbrev N3:TE->TE->TE:=yJ fun i j=>decide (i < j)
noncomputable abbrev N4:TE->TE->TE:=yJ fun i j=>decide (i≤j)
noncomputable abbrev N5:TE->TE->TE:=yJ fun i j=>decide (j < i)
noncomputable abbrev N6:TE->TE->TE:=yJ fun i j=>decide (j≤i)
noncomputable abbrev Np:TE->TE->TE:=yJ fun i j=>decide (i=j)
noncomputable abbrev Nn:TE->TE->TE:=yJ fun i j=>!decide (i=j)
variable {tA tB':TT}{bx:Ab}
noncomputable def LD (t u:TT):TT:=fun G H Q=>t G H fun c U=>if c=true then u G U Q else Q false U
noncomputable def Nm (t u:TT):TT:=fun G H Q=>t G H fun c U=>if c=true then Q true U else u G U Q
noncomputable def tNot (t:TT):TT:=fun G H Q=>t G H fun c U=>Q (!c) U
theorem C_ (x:PT X a tA):PW X (.BoolOp .And [a] O) tA:=by
 intro w B s G H Q I h;refine isTrue_and (cZ (x B s G H Q I h) fun c n e=>?_);cases c with
 | true=>exact isTrue_and_nil e
 | false=>exact e
theorem FM (x:PT X a tA):PW X (.BoolOp .Or [a] O) tA:=by
 intro w B s G H Q I h;refine isTrue_or (cZ (x B s G H Q I h) fun c n e=>?_);cases c with
 | false=>exact isTrue_or_nil e
 | true=>exact e
theorem FN (e:PT X a tA) (n:PW X (.BoolOp .And (b::bx) O) tB'):PW X (.BoolOp .And (a::b::bx) O) (LD tA tB'):=by
 intro w B s G H Q I h;refine isTrue_and (cZ (e B s G H _ I h) fun c k z=>?_);obtain⟨U,x,q⟩:=z;cases c with
 | true=>exact n w B k G U Q x q
 | false=>exact⟨U,x,q⟩
theorem IN (e:PT X a tA) (n:PW X (.BoolOp .Or (b::bx) O) tB'):PW X (.BoolOp .Or (a::b::bx) O) (Nm tA tB'):=by
 intro w B s G H Q I h;refine isTrue_or (cZ (e B s G H _ I h) fun c k z=>?_);obtain⟨U,x,q⟩:=z;cases c with
 | true=>exact⟨U,x,q⟩
 | false=>exact n w B k G U Q x q
theorem FO (x:PT X a tA):PT X (.UnaryOp .Not a O) (tNot tA):=by intro B s G H Q I h;exact isTrue_not (x B s G H (fun c U=>Q (!c) U) I h)
noncomputable def IE (ta tb:TE):TE:=fun G H Q=>ta G H fun x U=>∃c,x=.bl c/\if c=true then tb G U Q else Q (.bl false) U
noncomputable def Lv (ta tb:TE):TE:=fun G H Q=>ta G H fun x U=>∃c,x=.bl c/\if c=true then Q (.bl true) U else tb G U Q
noncomputable def Iy (ta:TE):TE:=fun G H Q=>ta G H fun x U=>∃c,x=.bl c/\Q (.bl (!c)) U
theorem FW {i} (h:PE X a t):PE X (.BoolOp i [a] O) t:=fun B s G H Q I w=>BoolOp_one (h B s G H Q I w)
theorem F5 (n:PE X a ta) (k:PE X (.BoolOp .And (b::bx) O) tb):PE X (.BoolOp .And (a::b::bx) O) (IE ta tb):=by
 intro B s G H Q I h;refine BoolOp_and (cZ (n B s G H _ I h) fun v f z=>?_);obtain⟨x,U,e,r,q⟩:=z;obtain⟨c,rfl,q⟩:=q;cases r;refine h_ ?_;cases c with
 | true=>exact k B f G U Q e q
 | false=>exact⟨.bl false,U,e,rfl,q⟩
theorem pe_or (n:PE X a ta) (k:PE X (.BoolOp .Or (b::bx) O) tb):PE X (.BoolOp .Or (a::b::bx) O) (Lv ta tb):=by
 intro B s G H Q I h;refine BoolOp_or (cZ (n B s G H _ I h) fun v f z=>?_);obtain⟨x,U,e,r,q⟩:=z;obtain⟨c,rfl,q⟩:=q;cases r;refine h_ ?_;cases c with
 | false=>exact k B f G U Q e q
 | true=>exact⟨.bl true,U,e,rfl,q⟩
theorem FX (n:PE X a ta):PE X (.UnaryOp .Not a O) (Iy ta):=by intro B s G H Q I h;refine UnaryOp_ (cZ (n B s G H _ I h) fun v k z=>?_);obtain⟨x,U,e,r,q⟩:=z;obtain⟨c,rfl,q⟩:=q;cases r;exact not_of (h_ ⟨.bl (!c),U,e,rfl,q⟩)
noncomputable def No (t:TT) (ta tb:TE):TE:=fun G H Q=>t G H fun c U=>if c=true then ta G U Q else tb G U Q
theorem A3 (f:PT X c tA) (n:PE X a ta) (k:PE X b tb):PE X (.IfExp c a b O) (No tA ta tb):=by
 intro B s G H Q I h;refine wpAny_IfExp (cZ (f B s G H _ I h) fun d e z=>?_);obtain⟨U,x,q⟩:=z;cases d with
 | true=>exact n B e G U Q x q
 | false=>exact k B e G U Q x q
end
noncomputable def eN (K:FG) (H:Hp) (a:Addr) (xs:List V):Prop:=
 Rd H a (.lst xs) \/
  ∃(o:Obj) (i:Array Value) (n:Nat),K.lookup a=some o/\o.cls=.type "list"/\o.dict=none/\o.data=.seq i n/\i.size≤sizeLine/\aU xs i.toList
noncomputable def n6 (K:FG) (H:Hp) (a:Addr) (xs:List V):Prop:=
 Rd H a (.tup xs) \/
  ∃(o:Obj) (i:Array Value) (n:Nat),K.lookup a=some o/\o.cls=.type "tuple"/\o.data=.seq i n/\i.size≤sizeLine/\aU xs i.toList
noncomputable def Mh:Value->Option V
 | .none=>some .non
 | .bool b=>some (.bl b)
 | .int i _=>some (.int i)
 | .str x _=>some (.str x)
 | .bytes b _=>some (.byt b)
 | .float b _=>some (.flt b)
 | .ref a=>some (.ref a)
 | .type n=>some (.ty n)
 | _=>none
theorem RelV.abs (r:RelV x u):Mh u=some x:=by
 cases x with
 | non=>cases r;rfl
 | bl _=>cases r;rfl
 | int _=>obtain⟨t,rfl⟩:=r;rfl
 | str _=>obtain⟨t,rfl⟩:=r;rfl
 | byt _=>obtain⟨t,rfl⟩:=r;rfl
 | flt _=>obtain⟨t,rfl⟩:=r;rfl
 | ref _=>cases r;rfl
 | ty _=>cases r;rfl
theorem RelV.inj (r:RelV x u) (q:RelV y u):x=y:=Option.some.inj (r.abs.symm.trans q.abs)
theorem aU.inj:∀{xs ys:List V}{d:LV},aU xs d->aU ys d->xs=ys
 | _,_,_,.nil,.nil=>rfl
 | _,_,_,.cons r t,.cons h x=>by rw [r.inj h,aU.inj t x]
section
variable {X:Cx}{B:PN}{G:St}{H:Hp}{s:Shared}{a:Addr}{xs ys:List V}
theorem eN.of {K:FG} (h:H a=some (.lst xs)):eN K H a xs:=.inl (.inl h)
theorem n6.of {K:FG} (h:H a=some (.tup xs)):n6 K H a xs:=.inl (.inl h)
theorem Inv.list (I:Inv X B G H s) (h:eN X.K H a xs):∃i:LV,aU xs i/\PlainL s.heap a i.toArray/\xs.length≤sizeLine:=by
 rcases h with h | ⟨o,i,n,k,c,d,x,f,r⟩
 .obtain⟨z,i,n,r,e⟩:=h.ok I.hok;exact⟨i,r,⟨_,n,e,rfl,rfl,rfl⟩,z⟩
 .refine⟨i.toList,r,⟨o,n,I.kIn a o k,c,d,by simpa using x⟩,?_⟩;have e:=r.length;simp only [gG] at e;lia
theorem Inv.tuple (I:Inv X B G H s) (h:n6 X.K H a xs):∃i:LV,aU xs i/\IsTup s.heap a i.toArray/\xs.length≤sizeLine:=by
 rcases h with h | ⟨o,i,n,k,c,x,f,r⟩
 .obtain⟨z,i,r,p⟩:=h.ok I.hok;exact⟨i,r,p,z⟩
 .refine⟨i.toList,r,⟨o,I.kIn a o k,c,n,by simpa using x⟩,?_⟩;have e:=r.length;simp only [gG] at e;lia
theorem Inv.list_inj (I:Inv X B G H s) (h:eN X.K H a xs) (h':eN X.K H a ys):xs=ys:=by
 obtain⟨t,r,⟨o,n,e,_,_,d⟩,_⟩:=I.list h;obtain⟨i,b,⟨o',c,k,_,_,x⟩,_⟩:=I.list h';rw [e] at k;cases k;rw [d] at x;injection x with f _;have:t=i:=by simpa using congrArg Array.toList f
 subst this;exact r.inj b
theorem Inv.tuple_inj (I:Inv X B G H s) (h:n6 X.K H a xs) (h':n6 X.K H a ys):xs=ys:=by
 obtain⟨t,r,⟨o,e,_,n,d⟩,_⟩:=I.tuple h;obtain⟨i,b,⟨o',k,_,c,x⟩,_⟩:=I.tuple h';rw [e] at k;cases k;rw [d] at x;injection x with f _;have:t=i:=by simpa using congrArg Array.toList f
 subst this;exact r.inj b
end
noncomputable abbrev Cx.wish (X:Cx) (E:VP):Cx:={ X with xe:=E }
noncomputable abbrev Cx.nox (X:Cx):Cx:=X.wish fun _ _=>False
theorem Cx.Ok.wish (ok:X.Ok) (E:VP):(X.wish E).Ok:=
 ⟨ok.mod,ok.kind,ok.glob,ok.blt,ok.above,ok.inj,ok.has,ok.cab,ok.hd,ok.frames,ok.stk,ok.exf,ok.bs,ok.bsz,ok.noex,ok.exfs,ok.funs,ok.frf⟩
theorem Cx.Ok.unwish (ok:(X.wish E).Ok):X.Ok:=
 ⟨ok.mod,ok.kind,ok.glob,ok.blt,ok.above,ok.inj,ok.has,ok.cab,ok.hd,ok.frames,ok.stk,ok.exf,ok.bs,ok.bsz,ok.noex,ok.exfs,ok.funs,ok.frf⟩
section
variable {X:Cx}{B:PN}{G:St}{H:Hp}{s:Shared}{E:VP}
theorem Inv.wish (I:Inv X B G H s) (E:VP):Inv (X.wish E) B G H s:=⟨I.ok.wish E,I.os,I.bare,I.base,I.loc,I.cell,I.free,I.freeC,I.pin,I.hok,I.len⟩
theorem Inv.unwish (I:Inv (X.wish E) B G H s):Inv X B G H s:=⟨I.ok.unwish,I.os,I.bare,I.base,I.loc,I.cell,I.free,I.freeC,I.pin,I.hok,I.len⟩
theorem SP.unwish (h:SP (X.wish E) B D f z):SP X B D f z:=by
 cases f with
 | next=>obtain⟨x,H',I,q⟩:=h;exact⟨x,H',I.unwish,q⟩
 | brk=>obtain⟨x,H',I,q⟩:=h;exact⟨x,H',I.unwish,q⟩
 | cont=>obtain⟨x,H',I,q⟩:=h;exact⟨x,H',I.unwish,q⟩
 | ret u=>obtain⟨v,x,H',I,r,q⟩:=h;exact⟨v,x,H',I.unwish,r,q⟩
theorem fN.nox {st:List Stmt}{t:TS} (h:fN X.nox st t):fN X st t:=fun B s G H D I w=>
 wpAny_mono (h B s G H D (I.wish _) w) (fun _ _ q=>q.unwish) fun _ _ z=>False.elim z
end
section
variable {X:Cx}{st:Stmt}{bx:List Stmt}{t u:TS}{e:Expr}{te:TE}{O:Pos}
noncomputable def Iz:TS:=fun D G H=>D.nx G H
noncomputable def Ls (t u:TS):TS:=fun D G H=>t { D with nx:=u D } G H
theorem C':fN X [] Iz:=fun _ _ G H _ I h=>l7 ⟨G,H,I,h⟩
theorem j0 (Y:PS X st t) (q:fN X bx u):fN X (st::bx) (Ls t u):=by
 intro B s G H D I h;refine wpAny_execs_cons (cZ (Y B s G H { D with nx:=u D } I h) fun f n x=>?_);cases f with
 | next=>obtain⟨a,H',e,x⟩:=x;exact q B n a H' D e x
 | ret v=>exact x
 | brk=>exact x
 | cont=>exact x
theorem q_ (Y:PS X st t):fN X [st] t:=by
 intro B s G H D I h;refine wpAny_execs_cons (cZ (Y B s G H D I h) fun f x q=>?_);cases f with
 | next=>exact l7 q
 | ret v=>exact q
 | brk=>exact q
 | cont=>exact q
theorem Inv.quiet (I:Inv X B G H s):interactive X.env=false:=by simp [interactive,I.ok.kind]
noncomputable def IA (te:TE):TS:=fun D G H=>te G H fun _ U=>D.nx G U
theorem xA (n:PE X e te) (k:swapsWith e none O.line X.env=pure false:=by rfl):PS X (.Expr e O) (IA te):=by intro B s G H D I h;exact wpAny_Expr_any (cZ (n B s G H _ I h) fun v f z=>by obtain⟨x,U,a,r,q⟩:=z;exact⟨G,U,a,q⟩) I.quiet k
noncomputable def Lu (te:TE):TS:=fun D G H=>te G H D.rt
theorem FR (n:PE X e te):PS X (.Return (some e) O) (Lu te):=by intro B s G H D I h;exact wpAny_Return_some (cZ (n B s G H _ I h) fun v k z=>by obtain⟨x,U,a,r,q⟩:=z;exact⟨x,G,U,a,r,q⟩)
noncomputable def Lz (c:TT) (t u:TS):TS:=fun D G H=>c G H fun b U=>if b=true then t D G U else u D G U
theorem Et {c:Expr}{a b:List Stmt}{tc:TT} (f:PT X c tc) (n:fN X a t) (k:fN X b u):PS X (.If c a b O) (Lz tc t u):=by
 intro B s G H D I h;refine wpAny_If (cZ (f B s G H _ I h) fun d e z=>?_);obtain⟨U,x,q⟩:=z;cases d with
 | true=>exact n B e G U D x q
 | false=>exact k B e G U D x q
noncomputable def Ao:TS:=fun _ _ _=>False
theorem AO:PS X st Ao:=fun _ _ _ _ _ _ h=>h.elim
theorem kM:fN X aq Ao:=fun _ _ _ _ _ _ h=>h.elim
end
noncomputable abbrev TG:=V->St->Hp->(St->Hp->Prop)->Prop
noncomputable abbrev Ha:=List V->St->Hp->(St->Hp->Prop)->Prop
noncomputable def PG (X:Cx) (a:Expr) (t:TG):Prop:=
 ∀(B:PN) (s:Shared) (G:St) (H:Hp) (v:V) (u:Value) (Q:St->Hp->Prop),Inv X B G H s->RelV v u->t v G H Q ->
  wpAny (model X.prog X.w) X.A (assign a X.env u) (fun _ z=>∃h H',Inv X B h H' z/\Q h H') X.xe s
noncomputable def JX (X:Cx) (x:Ab) (t:Ha):Prop:=
 ∀(B:PN) (s:Shared) (G:St) (H:Hp) (v:List V) (d:LV) (Q:St->Hp->Prop),Inv X B G H s->aU v d->t v G H Q ->
  wpAny (model X.prog X.w) X.A (assignInOrder ((assignEach x X.env).map (·.2)) d) (fun _ z=>∃h H',Inv X B h H' z/\Q h H') X.xe s
noncomputable abbrev G':=V->V->V->Hp->(Hp->Prop)->Prop
noncomputable def JW (X:Cx) (t:G'):Prop:=
 ∀(B:PN) (s:Shared) (G:St) (H:Hp) (o i v:V) (x h u:Value) (Q:Hp->Prop),Inv X B G H s->RelV o x->RelV i h->RelV v u->t o i v H Q ->
  wpAny (model X.prog X.w) X.A (setItem x h u) (fun _ z=>∃H',Inv X B G H' z/\Q H') X.xe s
noncomputable abbrev Ob:=V->V->Hp->VK->Prop
section
variable {X:Cx}{O:Pos}
noncomputable def EF (i:Nat):TG:=fun v G H Q=>Q (G.set i (some v)) H
theorem xE (N:X.N.Nodup) (J:X.N[i]? = some x) (e:Loc X.env.scope x) (f:X.fn x=true\/X.env.scope.names.lookup x=some .local:=by first | exact .inl rfl | exact .inr rfl | assumption):PG X (.Name x O) (EF i):=by intro B s G H v u Q I r h;exact wpAny_assign_Name (sT I N J e r (fun z a=>⟨_,H,a,h⟩) f)
noncomputable def L8:Ha:=fun v G H Q=>v=[]/\Q G H
noncomputable def Jw (t:TG) (u:Ha):Ha:=fun s G H Q=>∃v r,s=v::r/\t v G H fun h H'=>u r h H' Q
theorem Di:JX X [] L8:=by intro B s G H v d Q I r h;obtain⟨e,h⟩:=h;subst e;cases r;exact assignInOrder_nil ⟨G,H,I,h⟩
theorem AZ {e:Expr}{es:Ab}{t:TG}{u:Ha} (Y:PG X e t) (q:JX X es u)
  (k:(assignEach (e::es) X.env).map (·.2)=assign e X.env::(assignEach es X.env).map (·.2):=by rfl):JX X (e::es) (Jw t u):=by
 intro B s G H p d Q I r h;obtain⟨v,m,n,h⟩:=h;subst n;cases r with
 | cons r b=>rw [k];refine assignInOrder_cons (cZ (Y B s G H _ _ _ I r h) fun _ c z=>?_);obtain⟨x,U,a,f⟩:=z;exact q B c x U _ _ Q a b f
noncomputable def L6 (K:FG) (n:Nat) (t:Ha):TG:=fun v G H Q=>∃a xs,v=.ref a/\n6 K H a xs/\xs.length=n/\t xs G H Q
theorem FT (p:X.calm=true) (h:JX X es t)
  (q:(assignEach es X.env).length=n:=by rfl) (x:(assignEach es X.env).findIdx? (·.1)=none:=by rfl):PG X (.Tuple es k O) (L6 X.K n t):=by
 intro B s G H v u Q I r w;obtain⟨a,xs,m,d,l,w⟩:=w;subst m;cases r;obtain⟨j,f,g,z⟩:=I.tuple d;refine assign_Tuple_tuple (I.ok.hd p) g (by simp [q,<- l,f.length]) x fun h' i=>?_
 have c:Inv X B G H { s with heap:=h' }:=I.kept (t':=s.toks) fun b o e=>i b o (bM (aV e)) e;exact h B _ G H xs _ Q c (by simpa using f) w
noncomputable def L7 (to x:TE) (t:G'):TG:=fun v G H Q=>to G H fun o U=>x G U fun i H2=>t o i v H2 fun h=>Q G h
theorem FU {o i:Expr}{to a:TE}{t:G'} (c:PE X o to) (J:PE X i a) (m:JW X t)
  (b:∀v,assign (.Subscript o i O) X.env v=(do
   let N <- holding [v] (eval o X.env)
   let iv <- holding [v,N] (eval i X.env)
   standAt O
   holding [v,N,iv] (setItem N iv v)
   release [v,N,iv] []):=by intro _;rfl):PG X (.Subscript o i O) (L7 to a t):=by
 intro B s G H v u Q I r h;rw [b];refine wpAny_bind (wpAny_holding (cZ (c B s G H _ I h) fun N j z=>?_));obtain⟨x,U,n,w,q⟩:=z;refine wpAny_bind (wpAny_holding (cZ (J B j G U _ n q) fun iv l z=>?_));obtain⟨y,H2,k,g,p⟩:=z;refine wpAny_bind (lT (wpAny_bind (wpAny_holding (cZ (m B l G H2 x y v N iv u _ k w g r p) fun _ S z=>?_))));obtain⟨e,f,d⟩:=z;exact wpAny_release ⟨G,e,f,d⟩
noncomputable def ID (te:TE) (g:TG):TS:=fun D G H=>te G H fun x U=>g x G U D.nx
theorem AQ {tg e:Expr}{te:TE}{g:TG} (n:PE X e te) (k:PG X tg g) (f:swapsWithSole [tg] e O.line X.env=pure false:=by rfl) (w:swappedStores [tg] e X.env=pure none:=by rfl)
  (Y:(assignEach [tg] X.env).map (·.2)=[assign tg X.env]:=by rfl):PS X (.Assign [tg] e O) (ID te g):=by
 intro B s G H D I h;refine wpAny_Assign_stores (cZ (n B s G H _ I h) fun v c z=>?_) f w;obtain⟨x,U,a,r,b⟩:=z;rw [Y];exact cZ (k B c G U x v _ a r b) fun _ m q=>q
theorem FQ (k:X.N.Nodup) (J:X.N[i]? = some x) (m:Loc X.env.scope x) (f:PE X e te) (c:swapsWith e (some (.Name x N)) O.line X.env=pure false:=by rfl) (b:X.fn x=true\/X.env.scope.names.lookup x=some .local:=by first | exact .inl rfl | exact .inr rfl | assumption) :
  PS X (.Assign [.Name x N] e O) (ID te (EF i)):=by
 intro B s G H D I h;refine wpAny_Assign_Name (cZ (f B s G H _ I h) fun v t z=>?_) c;obtain⟨y,U,a,r,q⟩:=z;exact sT a k J m r (fun p n=>⟨_,U,n,q⟩) b
end
section
variable {X:Cx}{O:Pos}
noncomputable def Fy (c:TT) (tb:TS):TS:=fun D G H=>∃W:Nat->St->Hp->Prop,(∃m,W m G H)/\∀m G H,W m G H ->
 c G H fun b U=>if b=true then ∃N:St->Hp->Prop,(∀h H',N h H'->∃x,x < m/\W x h H')/\tb { D with nx:=N,ct:=N,bk:=D.nx } G U else D.nx G U
theorem AN (l:PassesOwn (model X.prog X.w) X.A X.env X.xe) (S:PT X c tc) (o:fN X i tb):PS X (.While c i [] O) (Fy tc tb):=by
 intro B s G H D I h;obtain⟨W,⟨K,C⟩,t⟩:=h;refine wpAny_While (codeAny_whileLoop (fun n z=>∃k H',Inv X B k H' z/\W n k H') ?_ K ⟨G,H,I,C⟩);rintro n P ⟨a,U,y,E⟩;refine jk l (cZ (S B P a U _ y (t n a U E)) fun b A F=>?_);obtain⟨H2,g,q⟩:=F;cases b with
 | true=>
  obtain⟨N,j,q⟩:=q;rw [if_pos rfl];refine jk l (cZ (o B A a H2 _ g q) fun f J m=>?_);cases f with
  | next=>obtain⟨x,e,r,w⟩:=m;obtain⟨d,p,u⟩:=j x e w;exact⟨d,p,x,e,r,u⟩
  | cont=>obtain⟨x,e,r,w⟩:=m;obtain⟨d,p,u⟩:=j x e w;exact⟨d,p,x,e,r,u⟩
  | brk=>exact m
  | ret v=>exact m
 | false=>rw [if_neg ci];exact l7 ⟨a,H2,g,q⟩
end
structure It where
 go:Nat->Hp->Prop
 yld:Nat->Hp->V->Hp->Prop
 stop:Nat->Hp->Prop
noncomputable def oN (X:Cx) (B:PN) (H:Hp) (b:Addr):Prop:=
 H b=none/\b≠X.env.locals/\b ∉ X.fs/\(b ∈ X.ex\/X.s₀.heap.objs.size≤b)/\(∀x c,X.env.cells.lookup x=some c->c≠b)/\∀p ∈ X.pn++B,p.1≠b
variable {B:PN}{G:St}
theorem Inv.fpOk (I:Inv X B G H s) (h:s.heap.objs.size≤b) (n:H' b=none):oN X B H' b:=by
 refine⟨n,mo (cu I.lt h),I.nofs h,.inr (bL I.sz h),fun x c e z=>?_,fun p a z=>?_⟩
 .obtain⟨v,q⟩:=I.cell x c e;exact absurd (cu q.lt (by rw [z];exact h)) (hX _)
 .exact absurd (cu (aV (I.pin p a).1) (by rw [z];exact h)) (hX _)
structure Turn (P:Program) (w:World) (K:FG) (tg:Expr) (J:It) (fp:List Addr) (it:Addr) (tn:Nat->Heap->Prop):Prop where
 mem:it ∈ fp
 obj:∀i h,tn i h->∀b ∈ fp,∃o,h.get? b=some o/\∀v,o.data≠.cell v
 keep:∀i h h',tn i h->(∀b ∈ fp,∀o,h.get? b=some o->h'.get? b=some o)->tn i h'
 item:∀(X:Cx),X.prog=P->X.w=w->X.K=K->X.calm=true->∀(i:Nat) (pins:PN) (s:Shared) (σ:St) (H:Hp) (E:VP),Inv X pins σ H s->(∀b ∈ fp,oN X pins H b)->tn i s.heap->J.go i H ->
  wpAny (model P w) X.A (pyNext (.ref it)) (fun r s1=>∃u,r=some u /\
   wpAny (model P w) X.A (letOwnedTupleGo tg (.ref it) u) (fun _ s2=>∃x H',Inv X pins σ H' s2/\RelV x u/\J.yld i H x H'/\tn (i+1) s2.heap/\∀b ∈ fp,H' b=none) E s1) E s
 done:∀(X:Cx),X.prog=P->X.w=w->X.K=K->X.calm=true->∀(i:Nat) (pins:PN) (s:Shared) (σ:St) (H:Hp) (E:VP),Inv X pins σ H s->(∀b ∈ fp,oN X pins H b)->tn i s.heap->J.stop i H ->
  wpAny (model P w) X.A (pyNext (.ref it)) (fun r s1=>r=none/\Inv X pins σ H s1) E s
 self:∀(A:Around) (i:Nat) (s:Shared) (Q:VP) (E:VP),tn i s.heap->Q (.ref it) s->wpAny (model P w) A (pyIter (.ref it)) Q E s
noncomputable abbrev TI:=St->Hp->(It->Hp->Prop)->Prop
noncomputable def KI (X:Cx) (B:PN) (G:St) (tg:Expr) (R:It->Hp->Prop) (i:Value) (s:Shared):Prop:=
 ∃(t:Addr) (f:List Addr) (n:Nat->Heap->Prop) (J:It) (H':Hp),i=.ref t/\Inv X B G H' s/\Turn X.prog X.w X.K tg J f t n/\n 0 s.heap/\(∀b ∈ f,oN X B H' b)/\R J H'
noncomputable def PI (X:Cx) (tg iter:Expr) (w:TI):Prop:=
 ∀(B:PN) (s:Shared) (G:St) (H:Hp) (R:It->Hp->Prop),Inv X B G H s->w G H R ->
  wpAny (model X.prog X.w) X.A (eval iter X.env) (fun v h=>wpAny (model X.prog X.w) X.A (pyIter v) (KI X B G tg R) X.xe h) X.xe s
variable {tg:Expr}
theorem xX (e:s.heap.get? i=some o) (c:o.cls=.type n) (d:o.data=.fields N)
    (a:["enumerate","zip","dict_itemiterator","dict_reverseitemiterator","odict_iterator","itertools.zip_longest","itertools.pairwise"].contains n=false) (x:Q () s):wpAny M A (letOwnedTupleGo tg (.ref i) u) Q E s:=by
  unfold letOwnedTupleGo;cases tg <;> first
    | exact wpAny_pure x
    | (cases u <;> first
        | exact wpAny_pure x
        | (refine wpAny_bind (wpAny_load e ?_)
           rw [c,d];show wpAny M A (if (["enumerate","zip","dict_itemiterator","dict_reverseitemiterator","odict_iterator","itertools.zip_longest","itertools.pairwise"].contains n && N[0]? == some (rawInt _))=true then _ else _) Q E s;rw [if_neg (by intro h;rw [a,Bool.false_and] at h;cases h)];exact wpAny_pure x))
noncomputable def JY (K:FG) (a:Addr):It:=
 ⟨fun i H=>∃xs x,eN K H a xs/\xs[i]? = some x,fun i H x H'=>H'=H/\∀xs,eN K H a xs->xs[i]? = some x,fun i H=>∃xs,eN K H a xs/\xs.length≤i⟩
noncomputable def MV (K:FG) (a:Addr):It:=
 ⟨fun i H=>∃xs x,n6 K H a xs/\xs[i]? = some x,fun i H x H'=>H'=H/\∀xs,n6 K H a xs->xs[i]? = some x,fun i H=>∃xs,n6 K H a xs/\xs.length≤i⟩
noncomputable def KL (I:Int) (n:Nat):It:=⟨fun i _=>i < n,fun i H x H'=>H'=H/\x=.int (I+i),fun i _=>n≤i⟩
variable {w:World}{K:FG}
theorem oX (a t:Addr):Turn P w K tg (JY K a) [t] t (fun i h=>h.IsListIter t a i) where
 mem:=by simp
 obj:=fun i h st b n=>by
  have e:b=t:=by simpa using n
  subst e;obtain⟨o,e,c,d⟩:=st;exact⟨o,e,fun v z=>by rw [d] at z;cases z⟩
 keep:=fun i h h' st k=>st.at fun o e=>k t (by simp) o e
 item:=by
  intro X F C S M i B s G H E I m st A;subst F C S;obtain⟨xs,x,q,D⟩:=A;obtain⟨J,L,p,U⟩:=I.list q;obtain⟨u,R,V⟩:=L.get D;obtain⟨r,g,Q,j,l,y⟩:=m t (by simp);refine wpAny_pyNext_list_item st p.isList (x:=u) (by simpa using R) fun h' f W=>?_
  have N:Inv X B G H { s with heap:=h' }:=I.turned (t':=s.toks) (fun b o n e=>(W.2 b n).trans e) r g j l y;obtain⟨o,e,c,d⟩:=id f;exact⟨u,rfl,xX (s:={ s with heap:=h' }) e c d (by decide) ⟨x,H,N,V,⟨rfl,fun ys T=>by rw [I.list_inj T q];exact D⟩,f,fun b n=>(m b n).1⟩⟩
 done:=by intro X F C S M i B s G H E I m st A;subst F C S;obtain⟨xs,q,D⟩:=A;obtain⟨J,L,p,U⟩:=I.list q;obtain⟨r,g,Q,j,l,y⟩:=m t (by simp);have Y:=L.length;exact wpAny_pyNext_list_end (I.ok.hd M) st p.isList (by simp;lia) fun h' O=>⟨rfl,I.turned (t':=s.toks) (fun b o n e=>O b o n e) r g j l y⟩
 self:=fun _ _ _ _ _ st h=>wpAny_pyIter_listiter st h
theorem vr (a t:Addr):Turn P w K tg (MV K a) [t] t (fun i h=>h.IsTupleIter t a i) where
 mem:=by simp
 obj:=fun i h st b n=>by
  have e:b=t:=by simpa using n
  subst e;obtain⟨o,e,c,d⟩:=st;exact⟨o,e,fun v z=>by rw [d] at z;cases z⟩
 keep:=fun i h h' st k=>st.at fun o e=>k t (by simp) o e
 item:=by
  intro X A D F M i B s G H E I r st C;subst A D F;obtain⟨xs,x,q,J⟩:=C;obtain⟨f,L,p,U⟩:=I.tuple q;obtain⟨u,R,V⟩:=L.get J;obtain⟨g,j,Q,l,y,S⟩:=r t (by simp);refine wpAny_pyNext_tuple_item st (show s.heap.IsTuple a f.toArray from p) (x:=u) (by simpa using R) fun h' m W=>?_
  have N:Inv X B G H { s with heap:=h' }:=I.turned (t':=s.toks) (fun b o n e=>(W.2 b n).trans e) g j l y S;obtain⟨o,e,c,d⟩:=id m;exact⟨u,rfl,xX (s:={ s with heap:=h' }) e c d (by decide) ⟨x,H,N,V,⟨rfl,fun ys T=>by rw [I.tuple_inj T q];exact J⟩,m,fun b n=>(r b n).1⟩⟩
 done:=by intro X A D F M i B s G H E I r st C;subst A D F;obtain⟨xs,q,J⟩:=C;obtain⟨f,L,p,U⟩:=I.tuple q;obtain⟨g,j,Q,l,y,S⟩:=r t (by simp);have Y:=L.length;exact wpAny_pyNext_tuple_end (I.ok.hd M) st (show s.heap.IsTuple a f.toArray from p) (by simp;lia) fun h' O=>⟨rfl,I.turned (t':=s.toks) (fun b o n e=>O b o n e) g j l y S⟩
 self:=fun _ _ _ _ _ st h=>wpAny_pyIter_tupleiter st h
theorem vw (a:Addr) (I:Int) (n:Nat):Turn P w K tg (KL I n) [a] a (fun i h=>IsRangeIter h a (I+(i:Nat) * 1) ((n:Int)-(i:Nat)) 1) where
 mem:=by simp
 obj:=fun i h st b f=>by
  have e:b=a:=by simpa using f
  subst e;exact⟨_,st,fun v z=>by have L:Data.fields _=Data.cell v:=z;cases L⟩
 keep:=fun i h h' st k=>k a (by simp) _ st
 item:=by
  intro X j S g l i B s G H E x m st y;subst j S g;obtain⟨r,p,C,q,d,u⟩:=m a (by simp);have W:=Walks.range (prog:=X.prog) (w:=X.w) (x.ok.hd l) a I 1 n;refine W.item i s _ _ y st fun v h' tk D c J=>?_
  obtain⟨t,rfl⟩:=D;have F:Inv X B G H { s with heap:=h',toks:=tk }:=x.turned (fun b o f e=>J b o (by simpa using f) e) r p q d u;refine⟨_,rfl,xX (s:={ s with heap:=h',toks:=tk }) (n:="range_iterator") c rfl rfl (by decide) ⟨.int (I+i),H,F,⟨t,?_⟩,⟨rfl,rfl⟩,c,fun b f=>(m b f).1⟩⟩;rw [Int.mul_one]
 done:=by intro X j S g l i B s G H E x m st y;subst j S g;obtain⟨r,p,C,q,d,u⟩:=m a (by simp);exact wpAny_pyNext_range_end (x.ok.hd l) st (by have:n≤i:=y;lia) fun h' A=>⟨rfl,x.turned (t':=s.toks) (fun b o f e=>A b o f e) r p q d u⟩
 self:=fun _ _ _ _ _ st h=>wpAny_pyIter_rangeiter st h
section
variable {X:Cx}{tg:Expr}
noncomputable def Jr (K:FG) (tl:TE):TI:=fun G H R=>tl G H fun x U=>∃a,x=.ref a/\(∃xs,eN K U a xs)/\R (JY K a) U
theorem Dh (c:PE X l tl):PI X tg l (Jr X.K tl):=by
 intro B s G H R I h;refine cZ (c B s G H _ I h) fun v k z=>?_
 obtain⟨x,U,n,t,r⟩:=z;obtain⟨a,e,⟨xs,m⟩,q⟩:=r;subst e;cases t;obtain⟨i,d,p,z⟩:=n.list m;refine wpAny_pyIter_list p.isList ?_;refine⟨k.heap.objs.size,[k.heap.objs.size],_,_,U,rfl,n.kept (t':=k.toks) fun b o e=>Heap.get?_push_of_some _ e,oX a _,⟨_,Heap.get?_push_size _ rfl,rfl,rfl⟩,fun b f=>?_,q⟩;have e:b=k.heap.objs.size:=by simpa using f
 subst e;exact n.fpOk (Nat.le_refl _) (n.hok.fresh (Nat.le_refl _))
theorem AK {I J:Int}{t u v:Tok}{tk:Nat} (h:Inv X B G H s) (Y:-(2 ^ 62)≤I) (q:I < 2 ^ 62) (f:-(2 ^ 62)≤J) (c:J < 2 ^ 62)
  (x:R (KL I (J-I).toNat) H):wpAny (model X.prog X.w) X.A (pyIter (.ref s.heap.objs.size)) (KI X B G tg R) E { s with heap:=s.heap.push { cls:=.type "range",data:=.fields #[.int I t,.int J u,.int 1 v] },toks:=tk }:=by
 refine wpAny_pyIter_range (IsRange.new ..) (small_one Y q f c) ?_;have a:Inv X B G H { s with heap:=s.heap.push { cls:=.type "range",data:=.fields #[.int I t,.int J u,.int 1 v] },toks:=tk }:=h.kept fun b o e=>Heap.get?_push_of_some _ e;refine⟨(s.heap.push { cls:=.type "range",data:=.fields #[.int I t,.int J u,.int 1 v] }).objs.size,[(s.heap.push { cls:=.type "range",data:=.fields #[.int I t,.int J u,.int 1 v] }).objs.size],_,_,H,rfl,
  a.kept (t':=tk) fun b o e=>Heap.get?_push_of_some _ e,vw _ I (J-I).toNat,?_,fun b m=>?_,x⟩
 .have n:I+((0:Nat):Int) * 1=I:=by simp
  have k:(((J-I).toNat:Nat):Int)-((0:Nat):Int)=Builtin.Range.rangeSize I J 1:=by rw [rangeSize_one];split <;> lia
  show IsRangeIter _ _ (I+((0:Nat):Int) * 1) ((((J-I).toNat:Nat):Int)-((0:Nat):Int)) 1;rw [n,k];exact Heap.get?_push_size _ rfl
 .have e:b=(s.heap.push { cls:=.type "range",data:=.fields #[.int I t,.int J u,.int 1 v] }).objs.size:=by simpa using m
  subst e;exact a.fpOk (Nat.le_refl _) (a.hok.fresh (Nat.le_refl _))
noncomputable def Jq (ta:TA):TI:=fun G H R=>ta G H fun v U=>∃j:Int,v=[.int j]/\-(2 ^ 62)≤j/\j < 2 ^ 62/\R (KL 0 j.toNat) U
theorem yW {a:Expr}{ta:TA}{p O:Pos} (g:Gl X "range") (m:X.mg "range"=none) (k:PA X [a] ta) (f:starEach [a] X.env=[(false,eval a X.env)]:=by rfl):PI X tg (.Call (.Name "range" p) [a] [] O) (Jq ta):=by
 intro B s G H R I h;refine Call_ (nu I g m boot_range (vc (cZ (k O B s G H _ I h) fun d w z=>?_) f rfl));obtain⟨u,U,n,c,x⟩:=z;obtain⟨j,e,x,b,q⟩:=x;subst e;cases c with
 | cons r v=>cases v;obtain⟨t,rfl⟩:=r;exact call_range_1 (AK n (by lia) (by lia) x b (by simpa using q))
noncomputable def LA (w:TI) (g:TG) (tb:TS):TS:=fun D G H=>w G H fun J U=>∃W:Nat->Nat->St->Hp->Prop,(∃m,W 0 m G U)/\∀i m G H,W i m G H ->
 (J.stop i H/\D.nx G H)\/(J.go i H/\∃N:St->Hp->Prop,(∀h H',N h H'->∃e,e < m/\W (i+1) e h H')/\∀x H',J.yld i H x H'->g x G H' fun a H2=>tb { D with nx:=N,ct:=N,bk:=D.nx } a H2)
noncomputable def im (f:List Addr) (h:Heap):PN:=f.filterMap fun b=>(h.get? b).map fun o=>(b,o)
theorem ez (x:b ∈ i) (e:h.get? b=some o):(b,o) ∈ im i h:=kA.mpr ⟨b,x,by rw [e];rfl⟩
theorem yY (s:p ∈ im i h):p.1 ∈ i/\h.get? p.1=some p.2:=by
 obtain⟨b,a,e⟩:=kA.mp s;cases q:h.get? b with
 | none=>rw [q] at e;cases e
 | some o=>rw [q] at e;have x:(b,o)=p:=Option.some.inj e;subst x;exact⟨a,q⟩
theorem Inv.pinned (I:Inv X B G H s) (k:∀b ∈ i,oN X B H b) (c:∀b ∈ i,∃o,s.heap.get? b=some o/\∀v,o.data≠.cell v):Inv X (B++im i s.heap) G H s:=
 I.pins_of fun p m=>(bi.mp m).elim (fun z=>I.pin p (List.mem_append_right _ z)) fun z=>by obtain⟨x,e⟩:=yY z;obtain⟨f,a,n,_⟩:=k p.1 x;obtain⟨o,h,d⟩:=c p.1 x;rw [e] at h;cases h;exact⟨e,f,a,n,d⟩
theorem Inv.unpinned (I:Inv X (B++i) G H s):Inv X B G H s:=I.pins_of fun p h=>I.pin p (List.mem_append_right _ (dv _ h))
theorem vY {iter:Expr}{y:List Stmt}{wi:TI}{g:TG}{tb:TS}{O:Pos} (C:PassesOwn (model X.prog X.w) X.A X.env X.xe) (hc:X.calm=true) (J:PI X tg iter wi) (hg:PG X tg g) (p:fN X y tb)
  (hs:∀x,foldedSetIterable iter X.env x=pure x:=by intro _;rfl):PS X (.For tg iter y [] O) (LA wi g tb):=by
 intro B s G H D I h;refine wpAny_For (cZ (J B s G H _ I h) fun v s1 Y=>cZ Y fun itv s2 q=>?_) hs;obtain⟨it,P,tn,a,H2,e,I2,T,st2,f2,W,⟨m0,w0⟩,Q⟩:=q;subst e;have w:∀{H':Hp},(∀b ∈ P,H' b=none)->∀b ∈ P,oN X B H' b:=fun hn b p=>⟨hn b p,(f2 b p).2⟩
 refine codeAny_forLoop_any (fun n z=>∃i j H',Inv X B j H' z/\tn i z.heap/\(∀b ∈ P,H' b=none)/\W i n j H') ?_ m0 ⟨0,G,H2,I2,st2,fun b p=>(f2 b p).1,w0⟩;rintro n s3 ⟨i,l,R,I3,L,A,w3⟩;rcases Q i n l R w3 with ⟨M,qn⟩ | ⟨go,N,hN,step⟩
 .refine jk C (cZ (T.done X rfl rfl rfl hc i B s3 l R X.xe I3 (w A) L M) fun r s4 F=>?_);obtain⟨Z,I4⟩:=F;subst Z;exact l7 ⟨l,R,I4,qn⟩
 .refine jk C (cZ (T.item X rfl rfl rfl hc i B s3 l R X.xe I3 (w A) L go) fun r s4 F=>?_);obtain⟨u,Z,h4⟩:=F;subst Z;refine jk C (cZ h4 fun _ s5 F=>?_);obtain⟨x,H5,I5,r5,y5,K,V⟩:=F;have U:=I5.pinned (w V) (T.obj _ _ K);refine jk C (cZ (hg _ s5 l H5 x u _ U r5 (step x H5 y5)) fun _ s6 F=>?_);obtain⟨σ6,H6,I6,q6⟩:=F;refine jk C (cZ (p _ s6 σ6 H6 _ I6 q6) fun f s7 S=>?_);have again:∀{k:St}{c:Hp},Inv X (B++im P s5.heap) k c s7->N k c->∃m,m < n/\∃i j H',Inv X B j H' s7/\tn i s7.heap/\(∀b ∈ P,H' b=none)/\W i m j H':=fun {k c} t E=>by
   obtain⟨m',hm,w7⟩:=hN k c E;refine⟨m',hm,i+1,k,c,t.unpinned,T.keep _ _ _ K fun b p o e=>(t.pin (b,o) (List.mem_append_right _ (List.mem_append_right _ (ez p e)))).1,fun b p=>?_,w7⟩;obtain⟨o,e,d⟩:=T.obj _ _ K b p;exact (t.pin (b,o) (List.mem_append_right _ (List.mem_append_right _ (ez p e)))).2.1
  cases f with
  | next=>obtain⟨k,c,t,E⟩:=S;exact again t E
  | cont=>obtain⟨k,c,t,E⟩:=S;exact again t E
  | brk=>obtain⟨k,c,t,S⟩:=S;exact⟨k,c,t.unpinned,S⟩
  | ret v=>obtain⟨x7,k,c,t,r7,S⟩:=S;exact⟨x7,k,c,t.unpinned,r7,S⟩
end
noncomputable abbrev R2:=V->V->Hp->VK->Prop
noncomputable def fZ (X:Cx) (f:Value->Value->Sem Value) (r:R2):Prop:=
 ∀(B:PN) (s:Shared) (G:St) (H:Hp) (x y:V) (v u:Value) (Q:VK),Inv X B G H s->RelV x v->RelV y u->r x y H Q ->
  wpAny (model X.prog X.w) X.A (f v u) (EP X B G Q) X.xe s
noncomputable def Mi (X:Cx) (f:Value->Sem Value) (r:V->Hp->VK->Prop):Prop:=
 ∀(B:PN) (s:Shared) (G:St) (H:Hp) (x:V) (v:Value) (Q:VK),Inv X B G H s->RelV x v->r x H Q ->
  wpAny (model X.prog X.w) X.A (f v) (EP X B G Q) X.xe s
noncomputable def bZ (X:Cx) (f:Value) (r:List V->Hp->VK->Prop):Prop:=
 ∀(B:PN) (s:Shared) (G:St) (H:Hp) (xs:List V) (d:LV) (Q:VK),Inv X B G H s->aU xs d->r xs H Q ->
  wpAny (model X.prog X.w) X.A (call f d) (EP X B G Q) X.xe s
noncomputable def Mj (X:Cx) (r:V->Hp->(Bool->Hp->Prop)->Prop):Prop:=
 ∀(B:PN) (s:Shared) (G:St) (H:Hp) (x:V) (v:Value) (Q:Bool->Hp->Prop),Inv X B G H s->RelV x v->r x H Q ->
  wpAny (model X.prog X.w) X.A (truthy v) (TP X B G Q) X.xe s
noncomputable def Eo (r:R2) (ta tb:TE):TE:=fun G H Q=>ta G H fun x U=>tb G U fun y H2=>r x y H2 Q
noncomputable def Nk (r:V->Hp->VK->Prop) (ta:TE):TE:=fun G H Q=>ta G H fun x U=>r x U Q
noncomputable def rI (C:Int->Int->Prop) (g:Int->Int->V):R2:=fun x y H Q=>∃i j,x=.int i/\y=.int j/\C i j/\Q (g i j) H
noncomputable def C5 (g:Int->Int->V):R2:=fun x y H Q=>∃i j,x=.int i/\y=.int j/\Q (g i j) H
noncomputable def rU (g:Int->V):V->Hp->VK->Prop:=fun x H Q=>∃i,x=.int i/\Q (g i) H
section
variable {X:Cx}{a b c:Expr}{ta tb tc:TE}{O:Pos}
theorem G3 (r:PE X a ta) (t:PE X b tb) {B:PN}{s:Shared}{G:St}{H:Hp}{R:V->V->Hp->Prop} (I:Inv X B G H s)
  (h:ta G H fun x U=>tb G U fun y H2=>R x y H2) {Q:VP}{f:Value->Value->Sem Value}
  (p:∀v u k x y H2,Inv X B G H2 k->RelV x v->RelV y u->R x y H2->wpAny (model X.prog X.w) X.A (f v u) Q X.xe k) :
  wpAny (model X.prog X.w) X.A (eval a X.env) (fun v e=>wpAny (model X.prog X.w) X.A (eval b X.env) (fun u n=>wpAny (model X.prog X.w) X.A (f v u) Q X.xe n) X.xe e) X.xe s:=by
 refine cZ (r B s G H _ I h) fun v i z=>?_;obtain⟨x,U,c,w,q⟩:=z;refine cZ (t B i G U _ c q) fun u k z=>?_;obtain⟨y,H2,m,g,d⟩:=z;exact p v u k x y H2 m w g d
theorem IS {o:Operator}{r:R2} (f:fZ X (binaryOp o) r) (n:PE X a ta) (k:PE X b tb):PE X (.BinOp a o b O) (Eo r ta tb):=by intro B s G H Q I h;exact wpAny_BinOp (G3 n k I h fun v u t x y H2 e c m q=>f B t G H2 x y v u Q e c m q)
theorem IR (o:Mi X (unaryOp i) r) (n:PE X a ta):PE X (.UnaryOp i a O) (Nk r ta):=by intro B s G H Q I h;exact UnaryOp_ (cZ (n B s G H _ I h) fun v f z=>by obtain⟨x,U,e,k,q⟩:=z;exact o B f G U x v Q e k q)
theorem Ji {f:Value->Value->Sem Value}{C:Int->Int->Prop}{g:Int->Int->Int}
  (rule:∀(i j:Int) (t u:Tok) (s:Shared) (Q:VP) (E:VP),C i j->Q (.int (g i j) s.toks) { s with toks:=s.toks+1 }->wpAny (model X.prog X.w) X.A (f (.int i t) (.int j u)) Q E s) :
  fZ X f (rI C fun i j=>.int (g i j)):=by
 intro B s G H x y v u Q I r a h;obtain⟨i,j,rfl,rfl,c,q⟩:=h;obtain⟨t,rfl⟩:=r;obtain⟨e,rfl⟩:=a;exact rule i j t e s _ _ c ⟨.int (g i j),H,I.tok _,⟨_,rfl⟩,q⟩
theorem Jh {f:Value->Value->Sem Value}{g:Int->Int->Int}
  (rule:∀(i j:Int) (t u:Tok) (s:Shared) (Q:VP) (E:VP),Q (.int (g i j) s.toks) { s with toks:=s.toks+1 }->wpAny (model X.prog X.w) X.A (f (.int i t) (.int j u)) Q E s) :
  fZ X f (C5 fun i j=>.int (g i j)):=by
 intro B s G H x y v u Q I r a h;obtain⟨i,j,rfl,rfl,q⟩:=h;obtain⟨t,rfl⟩:=r;obtain⟨e,rfl⟩:=a;exact rule i j t e s _ _ ⟨.int (g i j),H,I.tok _,⟨_,rfl⟩,q⟩
theorem Dn {f:Value->Value->Sem Value}{g:Int->Int->Bool}
  (rule:∀(i j:Int) (t u:Tok) (s:Shared) (Q:VP) (E:VP),Q (.bool (g i j)) s->wpAny (model X.prog X.w) X.A (f (.int i t) (.int j u)) Q E s) :
  fZ X f (C5 fun i j=>.bl (g i j)):=by
 intro B s G H x y v u Q I r a h;obtain⟨i,j,rfl,rfl,q⟩:=h;obtain⟨t,rfl⟩:=r;obtain⟨e,rfl⟩:=a;exact rule i j t e s _ _ ⟨.bl (g i j),H,I,rfl,q⟩
noncomputable def Mp (i j:Int):Prop:=0≤j/\j≤1000000/\i.natAbs < 2 ^ 64
noncomputable def N1 (i j:Int):Prop:=(-(2 ^ 64) < i/\i < 2 ^ 64)\/(-(2 ^ 64) < j/\j < 2 ^ 64)
theorem vp (k:Nat):(0:Int)≤2 ^ k:=by rw [two_pow_cast];exact Int.natCast_nonneg _
theorem Gd:fZ X (binaryOp .Add) (C5 fun i j=>.int (i+j)):=Jh fun _ _ _ _ _ _ _ q=>add_int q
theorem F6:fZ X (binaryOp .Sub) (C5 fun i j=>.int (i-j)):=Jh fun _ _ _ _ _ _ _ q=>sub_int q
theorem Ga:fZ X (binaryOp .Mod) (rI (fun _ j=>0 < j) fun i j=>.int (i % j)):=Ji fun i j _ _ _ _ _ h q=>by have Y:(0:Int) < j:=h;exact mod_int' (by lia) (by rw [Int.fmod_eq_emod_of_nonneg i (by lia)];exact q)
theorem F_:fZ X (binaryOp .Pow) (rI Mp fun i j=>.int (i ^ j.toNat)):=Ji fun _ _ _ _ _ _ _ h q=>pow_int_small h.1 h.2.1 h.2.2 q
theorem F7:fZ X (binaryOp .RShift) (rI (fun _ j=>0≤j) fun i j=>.int (i / 2 ^ j.toNat)):=Ji fun i j _ _ _ _ _ h q=>
 rshift_int h (by rw [Int.fdiv_eq_ediv_of_nonneg i (vp _)];exact q)
theorem Nj {f:Value->Sem Value}{g:Int->Int}
  (rule:∀(i:Int) (t:Tok) (s:Shared) (Q:VP) (E:VP),Q (.int (g i) s.toks) { s with toks:=s.toks+1 }->wpAny (model X.prog X.w) X.A (f (.int i t)) Q E s) :
  Mi X f (rU fun i=>.int (g i)):=by
 intro B s G H x v Q I r h;obtain⟨i,rfl,q⟩:=h;obtain⟨t,rfl⟩:=r;exact rule i t s _ _ ⟨.int (g i),H,I.tok _,⟨_,rfl⟩,q⟩
theorem Fs:Mi X (unaryOp .USub) (rU fun i=>.int (-i)):=Nj fun _ _ _ _ _ q=>neg_int q
end
noncomputable def IG:V->V->Bool
 | .non,.non=>true | .non,.int _=>true | .int _,.non=>true | .non,.bl _=>true | .bl _,.non=>true | .non,.str _=>true | .str _,.non=>true
 | .int _,.int _=>true | .bl _,.bl _=>true | .str _,.str _=>true | .byt _,.byt _=>true
 | .int _,.str _=>true | .str _,.int _=>true | .bl _,.str _=>true | .str _,.bl _=>true
 | _,_=>false
noncomputable def Nw:R2:=fun x y H Q=>IG x y=true/\Q (.bl (decide (x=y))) H
noncomputable def Nv:R2:=fun x y H Q=>IG x y=true/\Q (.bl (!decide (x=y))) H
theorem ya {i j:Int}:decide (V.int i=V.int j)=(i == j):=by rw [Bool.eq_iff_iff];simp
theorem BP:decide (V.bl i=V.bl N)=(i == N):=by rw [Bool.eq_iff_iff];simp
theorem x_:decide (V.str i=V.str N)=(i == N):=by rw [Bool.eq_iff_iff];simp
theorem yb:decide (V.byt i=V.byt N)=(i.toList == N.toList):=by rw [Bool.eq_iff_iff];cases i;cases N;simp
section
variable {X:Cx}{a b c:Expr}{ta tb tc:TE}{O:Pos}
theorem be (I:Inv X B G H s) (q:Q (.bl k) H) (e:k=i):EP X B G Q (.bool i) s:=by subst e;exact⟨.bl k,H,I,rfl,q⟩
theorem A8:fZ X (compareOp .Eq) Nw:=by
 intro B s G H x y v u Q I n r h;obtain⟨e,q⟩:=h;cases x with
 | non=>
  cases n;cases y with
  | non=>cases r;exact PySem.EqNone.eq_none_none (be I q (by simp))
  | bl j=>cases r;exact PySem.EqNone.eq_none_bool (be I q (by simp))
  | int j=>obtain⟨a,rfl⟩:=r;exact PySem.EqNone.eq_none_int (be I q (by simp))
  | str j=>obtain⟨a,rfl⟩:=r;exact PySem.EqNone.eq_none_str (be I q (by simp))
  | _=>exact absurd (show false=true from e) ci
 | bl i=>
  cases n;cases y with
  | non=>cases r;exact PySem.EqNone.eq_bool_none (be I q (by simp))
  | bl j=>cases r;exact eq_bool (be I q BP)
  | str j=>obtain⟨a,rfl⟩:=r;exact PySem.EqMixed.eq_bool_str (be I q (by simp))
  | _=>exact absurd (show false=true from e) ci
 | int i=>
  obtain⟨t,rfl⟩:=n;cases y with
  | non=>cases r;exact PySem.EqNone.eq_int_none (be I q (by simp))
  | int j=>obtain⟨a,rfl⟩:=r;exact eq_int (be I q ya)
  | str j=>obtain⟨a,rfl⟩:=r;exact PySem.EqMixed.eq_int_str (be I q (by simp))
  | _=>exact absurd (show false=true from e) ci
 | str i=>
  obtain⟨t,rfl⟩:=n;cases y with
  | non=>cases r;exact PySem.EqNone.eq_str_none (be I q (by simp))
  | bl j=>cases r;exact PySem.EqMixed.eq_str_bool (be I q (by simp))
  | int j=>obtain⟨a,rfl⟩:=r;exact PySem.EqMixed.eq_str_int (be I q (by simp))
  | str j=>obtain⟨a,rfl⟩:=r;exact eq_str (be I q x_)
  | _=>exact absurd (show false=true from e) ci
 | byt i=>
  obtain⟨t,rfl⟩:=n;cases y with
  | byt j=>obtain⟨a,rfl⟩:=r;exact PySem.W.eq_bytes (be I q yb)
  | _=>exact absurd (show false=true from e) ci
 | _=>cases y <;> exact absurd (show false=true from e) ci
theorem A6:fZ X (compareOp .NotEq) Nv:=by
 intro B s G H x y v u Q I n r h;obtain⟨e,q⟩:=h;cases x with
 | non=>
  cases n;cases y with
  | non=>cases r;exact PySem.EqNone.ne_none_none (be I q (by simp))
  | bl j=>cases r;exact PySem.EqNone.ne_none_bool (be I q (by simp))
  | int j=>obtain⟨a,rfl⟩:=r;exact PySem.EqNone.ne_none_int (be I q (by simp))
  | str j=>obtain⟨a,rfl⟩:=r;exact PySem.EqNone.ne_none_str (be I q (by simp))
  | _=>exact absurd (show false=true from e) ci
 | bl i=>
  cases n;cases y with
  | non=>cases r;exact PySem.EqNone.ne_bool_none (be I q (by simp))
  | bl j=>cases r;exact ne_bool (be I q (congrArg not BP))
  | str j=>obtain⟨a,rfl⟩:=r;exact PySem.EqMixed.ne_bool_str (be I q (by simp))
  | _=>exact absurd (show false=true from e) ci
 | int i=>
  obtain⟨t,rfl⟩:=n;cases y with
  | non=>cases r;exact PySem.EqNone.ne_int_none (be I q (by simp))
  | int j=>obtain⟨a,rfl⟩:=r;exact ne_int (be I q (congrArg not ya))
  | str j=>obtain⟨a,rfl⟩:=r;exact PySem.EqMixed.ne_int_str (be I q (by simp))
  | _=>exact absurd (show false=true from e) ci
 | str i=>
  obtain⟨t,rfl⟩:=n;cases y with
  | non=>cases r;exact PySem.EqNone.ne_str_none (be I q (by simp))
  | bl j=>cases r;exact PySem.EqMixed.ne_str_bool (be I q (by simp))
  | int j=>obtain⟨a,rfl⟩:=r;exact PySem.EqMixed.ne_str_int (be I q (by simp))
  | str j=>obtain⟨a,rfl⟩:=r;exact ne_str (be I q (congrArg not x_))
  | _=>exact absurd (show false=true from e) ci
 | byt i=>
  obtain⟨t,rfl⟩:=n;cases y with
  | byt j=>obtain⟨a,rfl⟩:=r;exact PySem.W.ne_bytes (be I q (congrArg not yb))
  | _=>exact absurd (show false=true from e) ci
 | _=>cases y <;> exact absurd (show false=true from e) ci
theorem IW:fZ X (compareOp .Lt) (C5 fun i j=>.bl (decide (i < j))):=Dn fun _ _ _ _ _ _ _ q=>lt_int q
theorem IY:fZ X (compareOp .LtE) (C5 fun i j=>.bl (decide (i≤j))):=Dn fun _ _ _ _ _ _ _ q=>le_int q
theorem IZ:fZ X (compareOp .Gt) (C5 fun i j=>.bl (decide (j < i))):=Dn fun _ _ _ _ _ _ _ q=>gt_int q
theorem I0:fZ X (compareOp .GtE) (C5 fun i j=>.bl (decide (j≤i))):=Dn fun _ _ _ _ _ _ _ q=>ge_int q
theorem yX:fZ X (compareOp .In) (fun x y H Q=>∃i j,x=.str i/\y=.str j/\Q (.bl (!(Builtin.Str.occurrences j i 0 j.length 1).isEmpty)) H):=by intro B s G H x y v u Q I r a h;obtain⟨i,j,rfl,rfl,q⟩:=h;obtain⟨t,rfl⟩:=r;obtain⟨e,rfl⟩:=a;exact in_str (be I q rfl)
theorem Gb:fZ X (compareOp .Is) (fun x y H Q=>y=.non/\Q (.bl (decide (x=.non))) H):=by
 intro B s G H x y v u Q I r a h;obtain⟨rfl,q⟩:=h;cases a;refine is_none_gen (be I q ?_);cases x <;> first
  | (cases r;rfl)
  | (obtain⟨t,rfl⟩:=r;rfl)
theorem Dj:fZ X (compareOp .IsNot) (fun x y H Q=>y=.non/\Q (.bl (!decide (x=.non))) H):=by
 intro B s G H x y v u Q I r a h;obtain⟨rfl,q⟩:=h;cases a;refine isnot_none_gen (be I q ?_);cases x <;> first
  | (cases r;rfl)
  | (obtain⟨t,rfl⟩:=r;rfl)
theorem rg:fZ X (compareOp .NotIn) (fun x y H Q=>∃i j,x=.str i/\y=.str j/\Q (.bl (!(!(Builtin.Str.occurrences j i 0 j.length 1).isEmpty))) H):=by intro B s G H x y v u Q I r a h;obtain⟨i,j,rfl,rfl,q⟩:=h;obtain⟨t,rfl⟩:=r;obtain⟨e,rfl⟩:=a;exact notIn_str (be I q rfl)
theorem Gk (b:Expr) (h:i≠.In:=by decide) (q:i≠.NotIn:=by decide):behindInMarks i b=false:=by
 have e:(i == CmpOp.In)=false:=by cases i <;> first | rfl | exact absurd rfl h
 have x:(i == CmpOp.NotIn)=false:=by cases i <;> first | rfl | exact absurd rfl q
 cases b <;> simp [behindInMarks,e,x]
theorem rc {o:CmpOp}{r:R2} (f:fZ X (compareOp o) r) (n:PE X a ta) (k:PE X b tb) (m:behindInMarks o b=false):PE X (.Compare a [o] [b] O) (Eo r ta tb):=by intro B s G H Q I h;exact wpAny_Compare1 (G3 n k I h fun v u p x y H2 e c t q=>f B p G H2 x y v u Q e c t q) m
noncomputable def An (t:TE):TT:=fun G H Q=>t G H fun x H'=>∃k,x=.bl k/\Q k H'
theorem qZ (o:fZ X (compareOp i) r) (p:PE X a ta) (q:PE X b tb) (d:behindInMarks i b=false):PT X (.Compare a [i] [b] O) (An (Eo r ta tb)):=by
 intro B s G H Q I h;refine wpAny_isTrue_Compare1 (cZ (p B s G H _ I h) fun v K ⟨x,U,f,l,w⟩=>cZ (q B K G U _ f w) fun u P ⟨y,H2,m,S,g⟩=>
  cZ (o B P G H2 x y v u _ m l S g) fun c A ⟨z,n,t,F,k,e,j⟩=>?_) d
 subst e;cases F;exact h_ ⟨n,t,j⟩
noncomputable def vD (r e:R2) (ta tb tc:TE):TE:=fun G H Q=>ta G H fun x U=>tb G U fun y H2=>r x y H2 fun z h=>∃k,z=.bl k /\
 (if k=true then tc G h fun w a=>e y w a Q else Q (.bl false) h)
theorem A4 (K:fZ X (compareOp N) r) (o:fZ X (compareOp i) r') (j:PE X a ta) (l:PE X b tb) (S:PE X c tc)
  (F:lastMarks [N,i] [b,c]=false:=by with_unfolding_all rfl):PE X (.Compare a [N,i] [b,c] O) (vD r r' ta tb tc):=by
 intro B s G H Q I h;refine Compare_chain (cZ (j B s G H _ I h) fun v L ⟨x,U,p,D,P⟩=>chain_link (cZ (l B L G U _ p P) fun u M ⟨y,H2,w,m,A⟩=>
  cZ (K B M G H2 x y v u _ w D m A) fun d R ⟨z,n,f,E,k,e,q⟩=>?_)) F
 subst e;cases E;refine h_ ?_;cases k with
 | false=>exact ite_ff ⟨.bl false,n,f,rfl,q⟩
 | true=>exact ite_tt (chain_last (cZ (S B R G n _ f q) fun V T ⟨W,t,g,J,C⟩=>o B T G t y W u V Q g m J C))
theorem AM (D:fZ X (compareOp N) r) (o:fZ X (compareOp i) r') (K:PE X a ta) (P:PE X b tb) (A:PE X c tc)
  (C:lastMarks [N,i] [b,c]=false:=by with_unfolding_all rfl):PT X (.Compare a [N,i] [b,c] O) (An (vD r r' ta tb tc)):=by
 intro B s G H Q I h;refine isTrue_chain (cZ (K B s G H _ I h) fun v s1 ⟨x,U,w,V,L⟩=>test_link (cZ (P B s1 G U _ w L) fun u s2 ⟨y,H2,g,m,M⟩=>
  cZ (D B s2 G H2 x y v u _ g V m M) fun d s3 ⟨z,n,f,W,k,e,q⟩=>?_)) C
 subst e;cases W;refine h_ ?_;cases k with
 | false=>obtain⟨k',S,J⟩:=q;cases S;exact ite_ff ⟨n,f,J⟩
 | true=>refine ite_tt (test_last (cZ (A B s3 G n _ f q) fun w' s4 ⟨z',t,j,Y,R⟩=>cZ (o B s4 G t y z' u w' _ j m Y R) fun d' s5 E=>?_));obtain⟨z2,p,l,Z,k2,F,T⟩:=E;subst F;cases Z;exact h_ ⟨p,l,T⟩
noncomputable def G_ (K:FG) (x:V) (H:Hp) (k:Bool):Prop:=
 match x with
 | .non=>k=false
 | .bl b=>k=b
 | .int i=>k=(i != 0)
 | .str y=>y.length≤sizeLine/\k=((y.length:Int) != 0)
 | .byt y=>y.size≤sizeLine/\k=((y.size:Int) != 0)
 | .ref p=>(∃xs,eN K H p xs/\k=!xs.isEmpty)\/(∃xs,n6 K H p xs/\k=!xs.isEmpty)\/∃j,H p=some (.dK j)/\k=!j.isEmpty
 | _=>False
theorem wu (r:KV j i):(!i.isEmpty)=!j.isEmpty:=by cases r <;> rfl
theorem nC (r:aU xs i):(!i.toArray.isEmpty)=!xs.isEmpty:=by cases r <;> simp
theorem iq:(sizeLine:Nat) < 2 ^ 63:=by rw [sizeLine_eq];decide
theorem Ft:Mj X (fun x H Q=>∃k,G_ X.K x H k/\Q k H):=by
 intro B s G H x v Q I n h;obtain⟨k,e,q⟩:=h;have g:=iq;have o:sizeLine=16777216:=sizeLine_eq;cases x with
 | non=>cases n;have a:k=false:=e;subst a;exact truthy_none ⟨H,I,q⟩
 | bl b=>cases n;have a:k=b:=e;subst a;exact h_ ⟨H,I,q⟩
 | int i=>obtain⟨t,rfl⟩:=n;have a:k=(i != 0):=e;subst a;exact PySem.P.truthy_int ⟨H,I,q⟩
 | str y=>obtain⟨t,rfl⟩:=n;obtain⟨u,a⟩:y.length≤sizeLine/\k=((y.length:Int) != 0):=e;subst a;exact PySem.P.truthy_str (by lia) ⟨H,I.tok _,q⟩
 | byt y=>obtain⟨t,rfl⟩:=n;obtain⟨u,a⟩:y.size≤sizeLine/\k=((y.size:Int) != 0):=e;subst a;exact PySem.W.truthy_bytes (by lia) ⟨H,I.tok _,q⟩
 | ref p=>
  cases n;have a:(∃xs,eN X.K H p xs/\k=!xs.isEmpty)\/(∃xs,n6 X.K H p xs/\k=!xs.isEmpty)\/∃j,H p=some (.dK j)/\k=!j.isEmpty:=e;rcases a with ⟨xs,f,a⟩ | ⟨xs,f,a⟩ | ⟨j,f,a⟩
  .subst a;obtain⟨d,r,w,z⟩:=I.list f;have l:=r.length;exact wpAny_truthy_list w.isList (by simp only [List.size_toArray];lia) ⟨H,I.tok _,by rw [nC r];exact q⟩
  .subst a;obtain⟨d,r,w,z⟩:=I.tuple f;have l:=r.length;exact truthy_tuple w (by simp only [List.size_toArray];lia) ⟨H,I.tok _,by rw [nC r];exact q⟩
  .subst a;obtain⟨z,S,c,r,m⟩:j.length≤sizeLine/\(p == sysModules)=false/\∃c,KV j c/\s.heap.DictOf (bX X.prog X.w) p c:=I.hok p _ f;have l:j.length=c.length:=Paired.length r;exact wpAny_truthy_dict S m (by lia) ⟨H,I.tok _,by rw [wu r];exact q⟩
 | _=>exact (show False from e).elim
theorem AL (n:PE X a ta) (f:∀w,isTrue a X.env w=(do let v <- w;standAt a.pos;holding [v] (truthy v))) :
  PT X a (fun G H Q=>ta G H fun x H'=>∃k,G_ X.K x H' k/\Q k H'):=by
 intro B s G H Q I h;exact isTrue_plain (cZ (n B s G H _ I h) fun v b z=>by obtain⟨x,U,e,r,q⟩:=z;exact Ft B b G U x v Q e r q) (f _)
theorem wb:fZ X (binaryOp .Add) (fun x y H Q=>∃i j,x=.str i/\y=.str j/\i.length+j.length≤sizeLine/\Q (.str (i++j)) H):=by intro B s G H x y v u Q I r a h;obtain⟨i,j,rfl,rfl,z,q⟩:=h;obtain⟨t,rfl⟩:=r;obtain⟨e,rfl⟩:=a;exact add_str (fun e tk=>⟨.str (i++j),H,I.tok _,⟨_,rfl⟩,q⟩) z
theorem vals1 (r:aU [x] d):∃u,d=[u]/\RelV x u:=by
 cases r with
 | cons h a=>cases a;exact⟨_,rfl,h⟩
theorem vals2 (r:aU [x,y] d):∃u w,d=[u,w]/\RelV x u/\RelV y w:=by
 cases r with
 | cons h a=>
  cases a with
  | cons e s=>cases s;exact⟨_,_,rfl,h,e⟩
theorem zC (c:X.calm=true):bZ X (.builtin "max") (fun xs H Q=>∃i j,xs=[.int i,.int j]/\Q (.int (if j > i then j else i)) H):=by
 intro B s G H xs d Q I r h;obtain⟨i,j,rfl,q⟩:=h;obtain⟨u,w,rfl,⟨t,rfl⟩,⟨a,rfl⟩⟩:=vals2 r;refine max_two_ints (I.ok.hd c) fun h' tk k=>⟨_,H,I.kept k,?_,q⟩
 by_cases x:j > i
 .rw [if_pos x,if_pos x];exact⟨_,rfl⟩
 .rw [if_neg x,if_neg x];exact⟨_,rfl⟩
theorem zB (c:X.calm=true):bZ X (.builtin "min") (fun xs H Q=>∃i j,xs=[.int i,.int j]/\Q (.int (if j < i then j else i)) H):=by
 intro B s G H xs d Q I r h;obtain⟨i,j,rfl,q⟩:=h;obtain⟨u,w,rfl,⟨t,rfl⟩,⟨a,rfl⟩⟩:=vals2 r;refine min_two_ints (I.ok.hd c) fun h' tk k=>⟨_,H,I.kept k,?_,q⟩
 by_cases x:j < i
 .rw [if_pos x,if_pos x];exact⟨_,rfl⟩
 .rw [if_neg x,if_neg x];exact⟨_,rfl⟩
end
structure ObjM (h:Heap) (x dx C:Addr) (mA:SV):Prop where
 obj:h.get? x=some (PySem.W.instObj C dx)
 ns:h.Ns1 dx mA
 ne:dx≠x
theorem y6 (n:h.Ns1 dx i):∃d,h.get? dx=some d/\∀name,PySem.W.lookIn name d=some (i name):=by
 obtain⟨o,es,p,b,s,f,_,m⟩:=n;refine⟨o,b,fun name=>?_⟩;have e:=m name;unfold nsFind findBy at e;rw [<- Array.find?_toList] at e;unfold PySem.W.lookIn;rw [s];dsimp only;split
 .rename_i y q;rw [q] at e;exact congrArg some e
 .rename_i q;rw [q] at e;have a:es.toList.any (·.refKey)=false:=by
   rw [List.any_eq_false];intro y c;obtain⟨z,t,k⟩:=f y (qB.mp c);simp [DictEntry.refKey,k]
  have x:¬es.toList.any (·.refKey)=true:=by rw [a];exact ci
  rw [if_neg x];exact congrArg some e
theorem ObjM.look (I:ObjM h x dx C i):∃o,PySem.W.InstAt h x (PySem.W.instObj C dx) C (some o)/\∀name,PySem.W.lookIn name o=some (i name):=
 let ⟨o,a,l⟩:=y6 I.ns
 ⟨o,⟨I.obj,rfl,rfl,a⟩,l⟩
theorem n0.some_of {v:V}{o:OV} (r:n0 (some v) o):∃u,o=some u/\RelV v u:=by
 cases o with
 | none=>exact (show False from r).elim
 | some u=>exact⟨u,rfl,r⟩
section
variable {P:Program}{w:World}{H H':Hp}{h h':Heap}{a C dx:Addr}{fs fs':List (Str×V)}
theorem DG (o:hU P w H h) (e:H a=some (.ins C dx fs)):∃m,ObjM h a dx C m/\(∀f,n0 (fs.lookup f) (m f))/\PySem.Within m (fs.map (·.1))/\fs.length≤1000/\H dx=some (.own a):=by obtain⟨d,z,x,b,m,n,r,q⟩:=(show cH P w H h a (.ins C dx fs) from o a _ e);exact⟨m,⟨b,n,x⟩,r,q,z,d⟩
end
structure Cls (K:FG) (C:Addr):Prop where
 pg:PySem.W.plainGet K C Str.empty=true
 hd:PySem.W.hasDictIn K C=true
 po:PySem.W.plainOver K C=true
 sa:PySem.W.findIn K (.ref C) "__setattr__"=some (some (.builtin "object.__setattr__"))
theorem Cls.get (c:Cls K C) (f:Str):PySem.W.plainGet K C f=true:=c.pg
noncomputable def Hd (K:FG) (C:Addr) (f:Str):Prop:=PySem.W.findIn K (.ref C) f=some none
structure Con (K:FG) (C:Addr) (f:Str) (v:V) (u:Value):Prop where
 at_:PySem.W.findIn K (.ref C) f=some (some u)
 rel:RelV v u
 get:PySem.W.specialIn K u "__get__"=some none
 cp:PySem.W.copiedNames.contains f=false
structure Meth (K:FG) (C:Addr) (m:Str) (f:Addr):Prop where
 at_:PySem.W.findIn K (.ref C) m=some (some (.ref f))
 fn:PySem.W.isFn K (.ref f)=true
 kp:PySem.W.keepIn K (.ref f)=true
section
variable {X:Cx}{B:PN}{G:St}{H:Hp}{s:Shared}{A:Around}{E:VP}{Q:VP}{c:Value}{b:Bool}
inductive TyOf (K:FG) (H:Hp):V->Value->Prop where
 | non:TyOf K H .non (.type "NoneType")
 | bl (x:Bool):TyOf K H (.bl x) (.type "bool")
 | int (i:Int):TyOf K H (.int i) (.type "int")
 | str (x:Str):TyOf K H (.str x) (.type "str")
 | flt (x:UInt64):TyOf K H (.flt x) (.type "float")
 | lst {a:Addr}{xs:List V} (e:H a=some (.lst xs)):TyOf K H (.ref a) (.type "list")
 | frz {a:Addr}{o:Obj}{xs:List V} (e:H a=some (.frz o (.lst xs))):TyOf K H (.ref a) (.type "list")
 | tup {a:Addr}{xs:List V} (e:H a=some (.tup xs)):TyOf K H (.ref a) (.type "tuple")
 | dK {a:Addr}{kvs:List (cS×V)} (e:H a=some (.dK kvs)):TyOf K H (.ref a) (.type "dict")
 | dT {a:Addr}{kvs:List (List cS×V)} (e:H a=some (.dT kvs)):TyOf K H (.ref a) (.type "dict")
 | ins {a C dx:Addr}{fs:List (Str×V)} (e:H a=some (.ins C dx fs)) (cl:Cls K C) (ha:PySem.W.findIn K (.ref C) "__class__"=some (some (.builtin "object.__class__")))
   (hn:PySem.W.specialIn K (.builtin "object.__class__") "__get__"=some (some (.builtin "getset_descriptor.__get__"))) (htk:PySem.W.takesIn K (.builtin "object.__class__")=some true)
   (hm:PySem.W.mroIn K C (.type "object")=some true):TyOf K H (.ref a) (.ref C)
theorem fg (I:Inv X B G H s) (r:RelV x u) (F:TyOf X.K H x t) (e:PySem.W.kitOne X.K t c=some b) (h:∀tk,Q (.bool b) { s with toks:=tk }) :
  wpAny (model X.prog X.w) A (call (.builtin "isinstance") [u,c]) Q E s:=by
 cases F with
 | non=>cases (show u=Value.none from r);exact c6 qu I.kIn True.intro e (fun z=>nomatch z) h
 | bl y=>cases (show u=Value.bool y from r);exact c6 PySem.W.kitx_bool I.kIn True.intro e (fun z=>nomatch z) h
 | int i=>obtain⟨t,k⟩:=(show ∃t,u=Value.int i t from r);cases k;exact c6 PySem.W.kitx_int I.kIn True.intro e (fun z=>nomatch z) h
 | str y=>obtain⟨t,k⟩:=(show ∃t,u=Value.str y t from r);cases k;exact c6 PySem.W.kitx_str I.kIn True.intro e (fun z=>nomatch z) h
 | flt y=>obtain⟨t,k⟩:=(show ∃t,u=Value.float y t from r);cases k;exact c6 PySem.W.kitx_float I.kIn True.intro e (fun z=>nomatch z) h
 | @lst a xs f=>cases (show u=Value.ref a from r);obtain⟨_,_,n,_,Y⟩:=(show cH X.prog X.w H s.heap a (.lst xs) from I.hok a _ f);exact c6 mv I.kIn ⟨_,Y,rfl⟩ e (fun z=>nomatch z) h
 | @frz a S xs f=>cases (show u=Value.ref a from r);obtain⟨_,_,_,n,_,Y⟩:=(show cH X.prog X.w H s.heap a (.frz S (.lst xs)) from I.hok a _ f);exact c6 mv I.kIn ⟨_,Y,rfl⟩ e (fun z=>nomatch z) h
 | @tup a xs f=>cases (show u=Value.ref a from r);obtain⟨_,_,_,p⟩:=(show cH X.prog X.w H s.heap a (.tup xs) from I.hok a _ f);obtain⟨o,Y,q,_⟩:=p;exact c6 PySem.W.kitx_tuple I.kIn ⟨o,Y,q⟩ e (fun z=>nomatch z) h
 | @dK a j f=>cases (show u=Value.ref a from r);obtain⟨_,_,D,_,p⟩:=(show cH X.prog X.w H s.heap a (.dK j) from I.hok a _ f);obtain⟨o,es,v,Y,q,_⟩:=p;exact c6 PySem.W.kitx_dict I.kIn ⟨o,Y,q.1⟩ e (fun z=>nomatch z) h
 | @dT a j f=>cases (show u=Value.ref a from r);obtain⟨_,_,xs,_,o,es,v,Y,q,_⟩:=(show cH X.prog X.w H s.heap a (.dT j) from I.hok a _ f);exact c6 PySem.W.kitx_dict I.kIn ⟨o,Y,q.1⟩ e (fun z=>nomatch z) h
 | @ins a C dx fs f l d g m w=>cases (show u=Value.ref a from r);obtain⟨K,O,_⟩:=DG I.hok f;obtain⟨P,J,_⟩:=O.look;exact c6 (PySem.W.kitx_own (l.get _) l.hd d g m w) I.kIn J e (fun z=>nomatch z) h
end
structure Room (k:Nat) (A:Around):Prop where
 hd:A.handled=none
 dp:A.depth+3 * k+5 < recursionLimit
 un:A.units+16 * k+200 < cLine
variable {k:Nat}
theorem Room.deeper (r:Room (k+1) A) (e:Env):Room k (A.deeper e):=
 ⟨r.hd,by have:=r.dp;show A.depth+1+3 * k+5 < _;lia,by have:=r.un;show A.units+3+16 * k+200 < _;lia⟩
theorem Room.depth (r:Room k A):A.depth < recursionLimit:=by have:=r.dp;lia
noncomputable def Lw:TA:=fun _ H Q=>Q [] H
noncomputable def IB (ta:TE) (tr:TA):TA:=fun G H Q=>ta G H fun x U=>tr G U fun xs H2=>Q (x::xs) H2
section
variable {X:Cx}{e:Expr}{es:Ab}{te:TE}{t:TA}{O:Pos}
theorem eu:PA X [] Lw:=fun _ _ _ _ H Q I h=>Calls.spliced_nil ⟨[],H,I,.nil,h⟩
theorem cm (k:PE X e te) (r:PA X es t) (f:starEach (e::es) X.env=(false,eval e X.env)::starEach es X.env:=by rfl):PA X (e::es) (IB te t):=by intro O B s G H Q I h;rw [f];show wpAny _ _ (spliced ((false,eval e X.env)::backTo O (starEach es X.env))) _ _ s;refine Calls.spliced_cons (cZ (k B s G H _ I h) fun u p z=>?_);obtain⟨x,U,a,c,q⟩:=z;exact cZ (r O B p G U _ a q) fun d v z=>by obtain⟨xs,H2,n,m,b⟩:=z;exact⟨x::xs,H2,n,.cons c m,b⟩
noncomputable def Lr (t:TA):TE:=fun G H Q=>t G H fun xs U=>xs.length≤sizeLine/\∀p,U p=none->Q (.ref p) (cF U p (.tup xs))
noncomputable def Lx (t:TA):TE:=fun G H Q=>t G H fun xs U=>xs.length≤sizeLine/\∀p,U p=none->Q (.ref p) (cF U p (.lst xs))
theorem A1 {i} (h:PA X es t):PE X (.Tuple es i O) (Lr t):=by intro B s G H Q I n;refine wpAny_Tuple_spliced (cZ (h O B s G H _ I n) fun d x k=>?_);obtain⟨xs,U,a,r,z,q⟩:=k;refine⟨by rw [<- r.length];exact z,?_⟩;have f:U x.heap.objs.size=none:=a.hok.fresh (Nat.le_refl _);refine⟨.ref x.heap.objs.size,cF U x.heap.objs.size (.tup xs),a.laid (t':=x.toks) (fun b u e=>Heap.get?_push_of_some _ e) (Nat.le_refl _) ?_,rfl,q _ f⟩;exact⟨z,d,r,⟨_,Heap.get?_push_size _ rfl,rfl,_,rfl⟩⟩
theorem v9 (h:PA X es t):PE X (.List es O) (Lx t):=by intro B s G H Q I n;refine wpAny_List_spliced (cZ (h O B s G H _ I n) fun d x k=>?_);obtain⟨xs,U,a,r,z,q⟩:=k;refine⟨by rw [<- r.length];exact z,?_⟩;have f:U x.heap.objs.size=none:=a.hok.fresh (Nat.le_refl _);refine⟨.ref x.heap.objs.size,cF U x.heap.objs.size (.lst xs),a.laid (t':=x.toks) (fun b u e=>Heap.get?_push_of_some _ e) (Nat.le_refl _) ?_,rfl,q _ f⟩;exact⟨z,d,0,r,Heap.get?_push_size _ rfl⟩
end
noncomputable abbrev Sp:=List V->Hp->VK->XK->Prop
noncomputable abbrev zL:=List Env->Hp->Shared->XK->VP
structure Env0 (P:Program) (w:World) (K:FG) (mg:SV) (base:Heap) (A:Around) (outer:List Env) (s:Shared) (H:Hp):Prop where
 frames:A.frames=some outer
 mod:Mod K mg base
 bs:∀b o,base.get? b=some o->s.heap.get? b=some o/\H b=none
 bsz:base.objs.size≤s.heap.objs.size
 funs:s.heap.FunFrames base outer
 frf:∀b ∈ jb outer,H b=none
 hok:hU P w H s.heap
 bare:AllBare s.gens
noncomputable def CE (o:List Env) (P:Program) (w:World) (H:Hp) (s:Shared) (Q:VK) (u:Value) (z:Shared):Prop:=
 ∃v H',z.os=s.os/\AllBare z.gens/\Un (jb o) [] H H' s.heap z.heap/\hU P w H' z.heap/\RelV v u/\Q v H'
noncomputable def CR (CX:zL) (o:List Env) (P:Program) (w:World) (H:Hp) (s:Shared) (Q:VK) (E:XK) (r:Result) (z:Shared):Prop:=
 match r with
 | .ok (.ret u)=>CE o P w H s Q u z
 | .ok _=>False
 | .error e=>CX o H s E e z
structure FnOk (P:Program) (w:World) (K:FG) (mg:SV) (base:Heap) (CX:zL) (k:Nat) (f:Addr) (fd:FuncData) (ps:LS) (sp:Sp):Prop where
 len:∀vs H Q E,sp vs H Q E->vs.length=ps.length
 run:∀(A:Around) (outer:List Env) (s:Shared) (H:Hp) (args:Args) (us:LV) (vs:List V) (Q:VK) (E:XK),Room k A->Env0 P w K mg base A outer s H->BindsTo s fd args (ps.zip us)->aU vs us->sp vs H Q E ->
  codeAny (model P w) A (.call (.ref f) args) (CR CX outer P w H s Q E) s
theorem FnOk.imp (F:FnOk P w K mg base CX k f fd ps sp)
  (h:∀v H Q E,i v H Q E->sp v H Q E):FnOk P w K mg base CX k f fd ps i:=
 ⟨fun v H Q E q=>F.len v H Q E (h _ _ _ _ q),fun A o s H a d v Q E r e b n x=>F.run A o s H a d v Q E r e b n (h _ _ _ _ x)⟩
section
variable {X:Cx}{B:PN}{G:St}{H:Hp}{s z:Shared}
theorem Inv.env0 (I:Inv X B G H s):Env0 X.prog X.w X.K X.mg X.base X.A X.stack s H:=
 ⟨I.ok.frames,I.ok.mod,I.bs,bL I.ok.bsz I.sz,I.stack,I.stkFree,I.hok,I.bare⟩
theorem Inv.after (I:Inv X B G H s) (h:CE X.stack X.prog X.w H s Q u z):EP X B G Q u z:=by obtain⟨v,H',os,a,un,o,r,q⟩:=h;obtain⟨n,g,d,t,e⟩:=z;obtain rfl:e=s.os:=os;exact⟨v,H',I.call (h':=n) (g':=g) (d':=d) (t':=t) (ch:=[]) un o a (fun b x=>absurd x (by simp)),r,q⟩
end
noncomputable def IC (sp:Sp) (dvs:List V) (E:XK) (t:TA):TE:=fun G H Q=>t G H fun v U=>sp (v++dvs) U Q E
noncomputable def Binds (K:FG) (fd:FuncData) (ps:LS) (ds:LV):Prop:=
 ∀(s:Shared) (d:LV),K.In s.heap->(d++ds).length=ps.length->BindsTo s fd ⟨d,[]⟩ (ps.zip (d++ds))
theorem Binds.all (h:∀d:LV,d.length=ps.length->bindArgs fd ⟨d,[]⟩=pure (ps.zip d)):Binds K fd ps []:=fun s d _ l=>by rw [gE] at l ⊢;exact .of_eq (h d l)
noncomputable def wV (CX:zL) (X:Cx) (E:XK):Prop:=∀(B:PN) (G:St) (H:Hp) (s:Shared) (e:Value) (z:Shared),Inv X B G H s->CX X.stack H s E e z->X.xe e z
section
variable {X:Cx}{CX:zL}{k:Nat}{f C:Addr}{fd:FuncData}{ps:LS}{sp:Sp}{dvs:List V}{ds:LV}{E:XK}{x m:Str}{p O apos:Pos}{e o:Expr}{es:Ab}{ta:TE}{t:TA}
theorem FI (F:FnOk X.prog X.w X.K X.mg X.base CX k f fd ps sp) (c:Room k X.A) (b:Binds X.K fd ps ds) (a:aU dvs ds) (m:wV CX X E)
  (I:Inv X B G H s) (r:aU i d) (h:sp (i++dvs) H Q E):wpAny (model X.prog X.w) X.A (call (.ref f) d) (EP X B G Q) X.xe s:=by
 have x:aU (i++dvs) (d++ds):=r.append a;have n:(d++ds).length=ps.length:=by rw [<- x.length];exact F.len _ _ _ _ h
 refine wpAny_call (jh (F.run X.A X.stack s H ⟨d,[]⟩ (d++ds) (i++dvs) Q E c I.env0 (b s d I.kIn n) x h) fun r z q=>?_);cases r with
 | error e=>exact m B G H s e z I q
 | ok l=>
  cases l with
  | ret u=>exact I.after q
  | next=>exact False.elim q
  | brk=>exact False.elim q
  | cont=>exact False.elim q
theorem re (F:FnOk X.prog X.w X.K X.mg X.base CX k f fd ps sp) (i:Room k X.A) (g:Gl X x) (u:X.mg x=some (.ref f)) (w:PySem.W.keepIn X.K (.ref f)=true) (c:Binds X.K fd ps ds) (m:aU dvs ds) (j:wV CX X E)
  (n:PA X (e::es) t) (b:(x == ("__debug__":Str))=false:=by decide) (v:starEach (e::es) X.env=(false,eval e X.env)::starEach es X.env:=by rfl) (l:(backTo O (starEach es X.env)).any (·.1)=false:=by rfl) :
  PE X (.Call (.Name x p) (e::es) [] O) (IC sp dvs E t):=by
 intro B s G H Q I h;refine pX (j6 I g u ?_ b);refine PySem.W.callWith_K (h₀:=X.base) I.ok.mod.kin w (cZ (n O B s G H _ I h) fun d y z=>?_) v l;obtain⟨o,U,a,r,q⟩:=z;refine⟨a.kIn,?_⟩;exact FI F i c m j a r q
structure Mk (K:FG) (C f:Addr):Prop where
 makes:PySem.W.makesIn K C=true
 init:PySem.W.findIn K (.ref C) "__init__"=some (some (.ref f))
 fn:PySem.W.isFn K (.ref f)=true
 kp:PySem.W.keepIn K (.ref C)=true
end
section
variable {X:Cx}{CX:zL}{k:Nat}{f C:Addr}{fd:FuncData}{ps ks:LS}{sp:Sp}{E:XK}{x m:Str}{p O apos kpos:Pos}{e o:Expr}{es:Ab}{kws:List Keyword}{te ta:TE}{t tk:TA}{nm:Option Str}
structure KBinds (K:FG) (fd:FuncData) (ps ks:LS) (g:LV->LV->LV) (gV:List V->List V->List V):Prop where
 to:∀(s:Shared) (us ws:LV),K.In s.heap->(g us ws).length=ps.length->BindsTo s fd ⟨us,ks.zip ws⟩ (ps.zip (g us ws))
 rel:∀{vs:List V}{us:LV}{zs:List V}{ws:LV},aU vs us->aU zs ws->aU (gV vs zs) (g us ws)
variable {g:LV->LV->LV}{gV:List V->List V->List V}
end
structure FnScope (N P:LS) (sc:Scope):Prop where
 kind:sc.kind=.function
 co:sc.isCoroutine=false
 gen:sc.isGenerator=false
 nd:N.Nodup
 pre:N.take P.length=P
 par:∀x ∈ P,sc.names.lookup x=some .local\/sc.names.lookup x=some .cell
 nofree:∀y ∈ sc.names,y.2≠.free
theorem pI {kindOf:Str->Option NameKind}{x:Str}:∀{b:List (Str×Value)}{m:SV},(∀v,(x,v) ∉ b)->bindL kindOf b m x=m x
 | [],_,_=>rfl
 | (n,v)::r,m,h=>by
  unfold bindL;rw [pI fun w a=>h w (bE _ a)];split
  .have:x≠n:=by rintro rfl;exact h v List.mem_cons_self
   simp [this]
  .rfl
theorem pK {kindOf:Str->Option NameKind}{x:Str}:∀{b:List (Str×Value)}{m:SV},(∀v,(x,v) ∉ b)->bindC kindOf b m x=m x
 | [],_,_=>rfl
 | (n,v)::r,m,h=>by
  unfold bindC;rw [pK fun w a=>h w (bE _ a)];split
  .rfl
  .have:x≠n:=by rintro rfl;exact h v List.mem_cons_self
   simp [this]
theorem pJ {kindOf:Str->Option NameKind}{x:Str}{v:Value}:∀{P:LS}{s:LV}{i:Nat}{m:SV},P.Nodup->P[i]? = some x->s[i]? = some v->kindOf x=some .local ->
  bindL kindOf (P.zip s) m x=some v
 | [],_,_,_,_,h,_,_=>by simp at h
 | _::_,[],_,_,_,_,h,_=>by simp at h
 | p::P,w::s,0,m,n,Y,q,k=>by simp at Y q;subst Y;subst q;show bindL kindOf ((p,w)::P.zip s) m p=_;unfold bindL;rw [pI fun v a=>(List.nodup_cons.mp n).1 (List.of_mem_zip a).1,if_pos k];simp
 | p::P,w::s,i+1,m,n,Y,q,k=>by show bindL kindOf ((p,w)::P.zip s) m x=_;unfold bindL;exact pJ (i:=i) (List.nodup_cons.mp n).2 (by simpa using Y) (by simpa using q) k
theorem pL {kindOf:Str->Option NameKind}{x:Str}{v:Value}:∀{P:LS}{s:LV}{i:Nat}{m:SV},P.Nodup->P[i]? = some x->s[i]? = some v->kindOf x≠some .local ->
  bindC kindOf (P.zip s) m x=some v
 | [],_,_,_,_,h,_,_=>by simp at h
 | _::_,[],_,_,_,_,h,_=>by simp at h
 | p::P,w::s,0,m,n,Y,q,k=>by simp at Y q;subst Y;subst q;show bindC kindOf ((p,w)::P.zip s) m p=_;unfold bindC;rw [pK fun v a=>(List.nodup_cons.mp n).1 (List.of_mem_zip a).1,if_neg k];simp
 | p::P,w::s,i+1,m,n,Y,q,k=>by show bindC kindOf ((p,w)::P.zip s) m x=_;unfold bindC;exact pL (i:=i) (List.nodup_cons.mp n).2 (by simpa using Y) (by simpa using q) k
noncomputable def start (N:LS) (v:List V):St:=v.map some++List.replicate (N.length-v.length) none
noncomputable def lQ (CX:zL) (P:Program) (w:World) (K:FG) (mg:SV) (base:Heap) (N:LS) (q:Str) (c:Scope) (f:Addr) (d:Value) (A:Around) (o:List Env) (s:Shared) (H:Hp) (E:XK):Cx where
 prog:=P
 w:=w
 K:=K
 mg:=mg
 base:=base
 A:=A.deeper (envOfC q c s.heap.objs.size f d)
 N:=N
 s₀:=s
 H₀:=H
 env:=envOfC q c s.heap.objs.size f d
 outer:=o
 stack:=envOfC q c s.heap.objs.size f d::o
 ex:=[]
 calm:=true
 fn:=fun _=>true
 pn:=[]
 xe:=fun e z=>wpAny (model P w) (A.deeper (envOfC q c s.heap.objs.size f d)) (leaving (envOfC q c s.heap.objs.size f d) e) (fun _ h=>CX o H s E e h) (fun x h=>CX o H s E x h) z
variable {x:Str}
theorem uO {sc:Scope} (h:sc.names.lookup x=some .cell):∃c,(cellsFrom n sc.names []).lookup x=some c:=by have q:=PySem.W.cellsFrom_some sc.names n [] (.inl h);exact qd.mp q
theorem zd {CX:zL}{P:Program}{w:World}{K:FG}{mg:SV}{base:Heap}{N ps:LS}{l:Str}{o:Scope}{f:Addr}{G:Value}{A:Around}{t:List Env}{s M:Shared}{H:Hp}{E:XK}{d:LV}{B:List V}
  (S:FnScope N ps o) (Q:A.handled=none) (g:Env0 P w K mg base A t s H) (W:B.length=ps.length) (r:aU B d)
  (x:InCallC s s.heap.objs.size (bindL (envOfC l o s.heap.objs.size f G).kindOf (ps.zip d) fun _=>none) (cellsFrom (s.heap.objs.size+1) o.names []) (bindC (envOfC l o s.heap.objs.size f G).kindOf (ps.zip d) fun _=>none) M) :
  Inv (lQ CX P w K mg base N l o f G A t s H E) [] (start N B) H M:=by
 have R:ps.length≤N.length:=by have:=congrArg List.length S.pre;rw [jo] at this;lia
 obtain⟨Y,tk,rfl,I⟩:=x.done;have F:∀b:Addr,b ∉ (lQ CX P w K mg base N l o f G A t s H E).ex:=fun b z=>absurd (show b ∈ ([]:List Addr) from z) (by simp);refine⟨⟨g.mod,S.kind,rfl,rfl,Nat.le_refl _,fun y z c Y q=>?_,fun y j=>?_,fun y c _ h=>?_,fun _=>Q,Around.frames_deeper g.frames,.inr ⟨rfl,rfl⟩,fun b z=>absurd z (F b),g.bs,g.bsz,fun b _ _=>F b,fun b z=>absurd z (F b),g.funs,g.frf⟩,
  rfl,g.bare,Un.kept I,⟨_,x.toInCall.ns,fun i y v Y q U=>?_⟩,fun y c h=>⟨_,x.cell y c h⟩,g.hok.fresh (Nat.le_refl _),fun y c h=>?_,fun p C=>absurd (show p ∈ ([]:PN) from C) (by simp),g.hok.kept I,?_⟩
 .exact name_of_addr x.apart (mw Y) (mw q)
 .have j:o.names.lookup y=some .cell\/o.names.lookup y=some .free:=j;rcases j with j | j
  .exact uO j
  .exact absurd rfl (S.nofree _ (mw j))
 .exact Nat.le_of_lt (x.above y c (mw h))
 .have J:i < B.length:=by
   unfold start at q;by_cases J:i < B.length
   .exact J
   .rw [c7 (by simpa using J)] at q;rw [u4] at q;split at q <;> cases q
  have O:B[i]? = some v:=by
   unfold start at q;rw [List.getElem?_append_left (by simpa using J),List.getElem?_map] at q;cases e:B[i]? with
   | none=>rw [e] at q;cases q
   | some a=>rw [e] at q;cases q;rfl
  obtain⟨u,L,T⟩:=r.get O;have C:ps[i]? = some y:=by rw [<- S.pre,kB (by lia)];exact Y
  have D:ps.Nodup:=by rw [<- S.pre];exact S.nd.sublist (List.take_sublist _ _)
  refine⟨u,T,?_⟩;rcases S.par y (cV C) with k | k
  .exact .inl ⟨k,pJ D C L k⟩
  .obtain⟨c,e⟩:=uO (n:=s.heap.objs.size+1) k;refine .inr ⟨.inl k,c,e,?_⟩;have m:=x.cell y c e;rw [pL D C L (by show o.names.lookup y≠_;rw [k];decide)] at m;exact m
 .exact g.hok.fresh (Nat.le_of_lt (x.above y c (mw h)))
 .unfold start;show _=N.length;rw [bN,List.length_map,List.length_replicate];lia
theorem EH {CX:zL}{P:Program}{w:World}{K:FG}{mg:SV}{base:Heap}{k:Nat}{f:Addr}{name a:Str}{p:Arguments}{g:List Stmt}{c:Scope}{dV kV C pm m Z oc:Value}{W od:Option Addr}
  {T:Array (OV)}{N ps:LS}{sp:Sp} (lk:K.lookup f=some ⟨oc,od,.func (PySem.W.fnOf name a p g c dV kV C pm W m Z),T⟩) (M:PySem.W.codeIn K m a=true) (S:FnScope N ps c)
  (len:∀i H Q E,sp i H Q E->i.length=ps.length)
  (l:∀(A:Around) (h:List Env) (s:Shared) (H:Hp) (i:List V) (Q:VK) (E:XK),Room k (A.deeper (envOfC a c s.heap.objs.size f m))->sp i H Q E ->
   ∃t,fN (lQ CX P w K mg base N a c f m A h s H E) g t/\t { nx:=fun _ H'=>Q .non H',rt:=Q } (start N i) H) :
  FnOk P w K mg base CX (k+1) f (PySem.W.fnOf name a p g c dV kV C pm W m Z) ps sp:=by
 refine⟨len,fun A h s H Y d i Q E O D hb r L=>?_⟩;have hl:=len _ _ _ _ L;have X:K.In s.heap:=D.mod.kin.keeps fun b o e=>(D.bs b o e).1;have R:s.heap.NoLimit:=D.mod.nolimit.keeps fun b o e=>(D.bs b o e).1;have F:∀y ∈ ps.zip d,c.names.lookup y.1=some .local\/(c.names.lookup y.1=some .cell/\((cellsFrom (s.heap.objs.size+1) c.names []).lookup y.1).isSome=true):=fun ⟨n,v⟩ hy=>by
  rcases S.par n (List.of_mem_zip hy).1 with q | q
  .exact .inl q
  .exact .inr ⟨q,PySem.W.cellsFrom_some _ _ _ (.inl q)⟩
 refine codeAny_call_function O.depth (X _ _ lk) rfl S.co S.gen rfl (PySem.W.codeRec_of X M) (hb _ _ _ _ ?_);refine wpAny_newFunctionEnv_cells S.kind F fun env he s1 x=>?_;subst he;refine⟨R.keeps x.toInCall.keep,codeAny_func ?_⟩;obtain⟨t,ht,hq⟩:=l A h s H i Q E (O.deeper _) L;have I:Inv (lQ CX P w K mg base N a c f m A h s H E) [] (start N i) H s1:=zd S O.hd D hl r x;refine wpAny_mono (ht [] s1 (start N i) H _ I hq) (fun fl z B=>?_) fun e z B=>B;have G:∀{j:St}{H':Hp}{v:V}{u:Value},Inv (lQ CX P w K mg base N a c f m A h s H E) [] j H' z->RelV v u->Q v H'->CE h P w H s Q u z:=
  fun {j H' v u} J U q=>⟨v,H',J.os,J.bare,J.base,J.hok,U,q⟩
 cases fl with
 | ret u=>obtain⟨v,j,H',J,U,q⟩:=B;exact G J U q
 | next=>obtain⟨j,H',J,q⟩:=B;exact G (v:=V.non) (u:=Value.none) J rfl q
 | brk=>obtain⟨_,_,_,q⟩:=B;exact False.elim q
 | cont=>obtain⟨_,_,_,q⟩:=B;exact False.elim q
section
variable {X:Cx}{x:Str}{p O:Pos}{e:Expr}{es:Ab}{t:TA}{id T:String}{r:List V->Hp->VK->Prop}
noncomputable def Mt (r:List V->Hp->VK->Prop) (t:TA):TE:=fun G H Q=>t G H fun v U=>r v U Q
theorem gv (c:bZ X (.builtin id) r) (g:Gl X x) (m:X.mg x=none) (v:bootBuiltins x=some (.builtin id)) (n:PA X (e::es) t) (f:x≠"__name__":=by decide) (b:(x == ("__debug__":Str))=false:=by decide)
  (k:starEach (e::es) X.env=(false,eval e X.env)::starEach es X.env:=by rfl) (l:(backTo O (starEach es X.env)).any (·.1)=false:=by rfl):PE X (.Call (.Name x p) (e::es) [] O) (Mt r t):=by
 intro B s G H Q I h;refine pX (nu I g m v ?_ f b);exact PyProof.Rows.callWith_builtin1 (cZ (n O B s G H _ I h) fun d u z=>by obtain⟨i,U,a,w,q⟩:=z;exact c B u G U i d Q a w q) k l
theorem kO (c:bZ X (.type T) r) (g:Gl X x) (m:X.mg x=none) (v:bootBuiltins x=some (.type T)) (n:PA X (e::es) t) (f:x≠"__name__":=by decide) (b:(x == ("__debug__":Str))=false:=by decide)
  (k:starEach (e::es) X.env=(false,eval e X.env)::starEach es X.env:=by rfl) (l:(backTo O (starEach es X.env)).any (·.1)=false:=by rfl):PE X (.Call (.Name x p) (e::es) [] O) (Mt r t):=by
 intro B s G H Q I h;refine pX (nu I g m v ?_ f b);exact vc (cZ (n O B s G H _ I h) fun d u z=>by obtain⟨i,U,a,w,q⟩:=z;exact c B u G U i d Q a w q) k l
end
end L2
namespace HT
open PySem PyProof.Rows
section
variable {prog:Program}{w:World}{A:Around}{E:VP}{s:Shared}
theorem D3 (j:IsTup s.heap t N.toArray) (g:IsTup s.heap b i.toArray) (v:N≠[])
  (Y:i=[]->Q (.ref t) s) (q:i≠[]->Q (.ref s.heap.objs.size) { s with heap:=s.heap.push { cls:=.type "tuple",data:=.seq (N++i).toArray } })
  (z:N.length+i.length≤sizeLine):wpAny (model prog w) A (binaryOp .Add (.ref t) (.ref b)) Q E s:=by
 obtain⟨⟨cls,f,data,u⟩,o,m,n,r⟩:=id j;obtain⟨⟨k,d,data2,l⟩,h,c,p,x⟩:=id g;simp only at m r c x;subst m r c x;have e:N.toArray++i.toArray=(N++i).toArray:=by simp
 by_cases a:i=[]
 .exact concat_meets ⟨_,o,rfl⟩ ⟨_,h,rfl⟩ noFill_tuple_add seq_tuple_add u3 u5 (u7 _ _)
   (tuple_addW1 t b N.toArray i.toArray n p f d u l (by simpa using v) (by simp [a])) ⟨o,h,Y a⟩
 .refine concat_meets ⟨_,o,rfl⟩ ⟨_,h,rfl⟩ noFill_tuple_add seq_tuple_add u3 u5 (u7 _ _)
   (tuple_addW2 t b N.toArray i.toArray n p f d u l (by simpa using v) (by simpa using a) (by rw [List.size_toArray,List.size_toArray];exact z)) ⟨o,h,?_⟩
  rw [e];exact q a
noncomputable def d9 (n d:Nat):Option Int->Nat
 | none=>d
 | some v=>if v < 0 then (v+(n:Int)).toNat else min v.toNat n
theorem FF (n d:Nat) (x:d≤n) (o:Option Int):d9 n d o≤n:=by
 cases o with
 | none=>exact x
 | some v=>
  show (if v < 0 then (v+(n:Int)).toNat else min v.toNat n)≤n;by_cases h:v < 0
  .rw [if_pos h];lia
  .rw [if_neg h];exact Nat.min_le_right _ _
theorem yf (v:Int) (n d:Nat):(if v < 0 then max (v+(n:Int)) 0 else min v (n:Int))=((d9 n d (some v):Nat):Int):=by
 show (if v < 0 then max (v+(n:Int)) 0 else min v (n:Int))=(((if v < 0 then (v+(n:Int)).toNat else min v.toNat n):Nat):Int);by_cases h:v < 0
 .simp only [if_pos h];lia
 .simp only [if_neg h];lia
theorem wS (I J:Option Int) (n:Nat):Builtin.Slice.sliceAdjust I J 1 (n:Int)=(((d9 n 0 I:Nat):Int),((d9 n n J:Nat):Int)):=by
 have Y:¬((1:Int) < 0):=by lia
 unfold Builtin.Slice.sliceAdjust;simp only [Y,iM];refine Prod.ext ?_ ?_
 .cases I with
  | none=>rfl
  | some v=>exact yf v n 0
 .cases J with
  | none=>rfl
  | some v=>exact yf v n n
theorem vZ (i j:Nat):Builtin.Slice.slicePlaces (i:Int) (j:Int) 1=j-i:=by
 unfold Builtin.Slice.slicePlaces;have Y:(1:Int) > 0:=by lia
 simp only [Y,gK,Int.ediv_one];split <;> lia
theorem mS (p:IsPart v o) (h:Q o s):wpAny (model prog w) A (Builtin.Slice.slicePartIndex v) Q E s:=by
 cases p with
 | none=>exact slicePart_none h
 | int i t=>exact slicePart_int h
theorem kK {l:Addr}{v u:Value}{I J:Option Int}{n:Nat}{Q:Int×Int×Nat->Shared->Prop} (a:s.heap.IsSliceOf l v u .none) (p:IsPart v I) (e:IsPart u J)
  (h:Q (((d9 n 0 I:Nat):Int),1,d9 n n J-d9 n 0 I) s):wpAny (model prog w) A (Builtin.Slice.sliceApplied (.ref l) (pure (n:Int))) Q E s:=by
 obtain⟨os,o,c,d⟩:=id a;unfold Builtin.Slice.sliceApplied Builtin.Slice.sliceFields;refine wpAny_bind (wpAny_bind (wpAny_field o d (x:=v) rfl (wpAny_bind (wpAny_field o d (x:=u) rfl (wpAny_bind (wpAny_field o d (x:=.none) rfl (wpAny_pure ?_)))))));refine wpAny_bind (slicePart_none ?_);show wpAny _ _ (if ((1:Int) == 0)=true then _ else _) _ _ s;rw [if_neg (by decide)];refine wpAny_bind (mS p (wpAny_bind (mS e (wpAny_bind (wpAny_pure ?_)))));show wpAny _ _ (match Builtin.Slice.sliceAdjust I J 1 (n:Int) with | (I,J)=>pure (I,(1:Int),Builtin.Slice.slicePlaces I J 1)) _ _ s;rw [wS I J n];show wpAny _ _ (pure (((d9 n 0 I:Nat):Int),(1:Int),Builtin.Slice.slicePlaces ((d9 n 0 I:Nat):Int) ((d9 n n J:Nat):Int) 1)) _ _ s;rw [vZ];exact wpAny_pure h
theorem AY (xs:Array Value) (i k:Nat):((List.range k).filterMap fun (m:Nat)=>xs[((i:Int)+(m:Int) * 1).toNat]?).toArray=((xs.toList.drop i).take k).toArray:=by
 have e:(fun (m:Nat)=>xs[((i:Int)+(m:Int) * 1).toNat]?)=fun m=>xs[i+m]?:=by
  funext m;have:((i:Int)+(m:Int) * 1).toNat=i+m:=by lia
  rw [this]
 rw [e];have:=pick_run xs i k
 rw [List.filterMap_map] at this;have h:((fun x=>xs[x]?) ∘ fun x=>i+x)=fun m=>xs[i+m]?:=rfl;rw [h] at this;rw [this]
theorem ka {t l:Addr}{i:Array Value}{v u:Value}{I J:Option Int}{Q:VP} (x:IsTup s.heap t i) (e:s.heap.IsSliceOf l v u .none) (p:IsPart v I) (f:IsPart u J)
  (k:¬(d9 i.size 0 I=0/\d9 i.size i.size J=i.size))
  (h:Q (.ref s.heap.objs.size) { s with heap:=s.heap.push { cls:=.type "tuple",data:=.seq ((i.toList.drop (d9 i.size 0 I)).take (d9 i.size i.size J-d9 i.size 0 I)).toArray } })
  (z:i.size≤sizeLine):wpAny (model prog w) A (getItem (.ref t) (.ref l)) Q E s:=by
 have a:sizeOk (.seq ((i.toList.drop (d9 i.size 0 I)).take (d9 i.size i.size J-d9 i.size 0 I)).toArray):=by show ((i.toList.drop (d9 i.size 0 I)).take (d9 i.size i.size J-d9 i.size 0 I)).toArray.size≤sizeLine;rw [List.size_toArray,jo,qg,gG];lia
 have j:d9 i.size i.size J≤i.size:=FF _ _ (Nat.le_refl _) J;obtain⟨os,o,c,d⟩:=id e;have T:s.TypeIs (.ref l) "slice":=⟨os,o,c⟩;unfold getItem;try with_reducible refine wpAny_holding ?_
 first | refine wpAny_bind (wpAny_pure ?_) | skip
 refine wpAny_bind (wpAny_sequenceKey x.typeIs (by decide) ?_);refine wpAny_bind (wpAny_callSpecial?_slot (name:=Str.ofString "__getitem__") x.typeIs vf
  (wpAny_call_entry vf x.typeIs entry_tuple_getitem ?_ (args_tuple_getitem _ _)))
 show wpAny _ _ (Builtin.Tuple.tupleItemsOf (.ref t) >>= _) _ _ s;refine wpAny_bind (tupleItemsOf_ x ?_);refine wpAny_bind (wpAny_typeOf T ?_);rw [if_pos (by decide)];refine wpAny_bind (kK e p f ?_);have n:¬((((d9 i.size 0 I:Nat):Int) == 0 && (1:Int) == 1 && (d9 i.size i.size J-d9 i.size 0 I) == i.size)=true):=by intro q;rw [Bool.and_eq_true,Bool.and_eq_true] at q;have b:((d9 i.size 0 I:Nat):Int)=0:=eq_of_beq q.1.1;have r:d9 i.size i.size J-d9 i.size 0 I=i.size:=eq_of_beq q.2;exact k ⟨by lia,by lia⟩
 show wpAny _ _ (if (((d9 i.size 0 I:Nat):Int) == 0 && (1:Int) == 1 && (d9 i.size i.size J-d9 i.size 0 I) == i.size)=true then _ else _) _ _ s;rw [if_neg n,AY];first
  | exact wpAny_bind (m:=Builtin.Tuple.tupleExact _) (wpAny_newObj_type (wpAny_pure ⟨_,rfl,wpAny_pure h⟩) a)
  | exact wpAny_bind (m:=Builtin.Tuple.tupleExact _) (wpAny_newObj_type (wpAny_bind (wpAny_pure (wpAny_pure ⟨_,rfl,wpAny_pure h⟩))) a)
  | exact wpAny_bind (wpAny_bind (m:=Builtin.Tuple.tupleExact _) (wpAny_newObj_type (wpAny_pure (wpAny_pure ⟨_,rfl,wpAny_pure h⟩)) a))
  | exact wpAny_bind (wpAny_bind (m:=Builtin.Tuple.tupleExact _) (wpAny_newObj_type (wpAny_pure ⟨_,rfl,wpAny_pure h⟩) a))
end
end HT
namespace L2
open PySem PySem.Spec PyProof.Rows
noncomputable abbrev TO:=St->Hp->(Option Int->Hp->Prop)->Prop
noncomputable def PO (X:Cx) (e:Option Expr) (t:TO):Prop:=
 ∀(B:PN) (s:Shared) (G:St) (H:Hp) (Q:Option Int->Hp->Prop),Inv X B G H s->t G H Q ->
  wpAny (model X.prog X.w) X.A (evalPart e X.env) (fun u z=>∃o H',Inv X B G H' z/\IsPart u o/\Q o H') X.xe s
noncomputable def CS:TO:=fun _ H Q=>Q none H
noncomputable def Ix (t:TE):TO:=fun G H Q=>t G H fun x U=>∃i,x=.int i/\Q (some i) U
section
variable {X:Cx}{e:Expr}{te:TE}{I J:Option Expr}{tl th:TO}{O p2:Pos}
theorem Dd:PO X none CS:=by intro B s G H Q I h;rw [evalPart_none];exact wpAny_pure ⟨none,H,I,.none,h⟩
theorem Dc (h:PE X e te):PO X (some e) (Ix te):=by
 intro B s G H Q I w;rw [evalPart_some];refine cZ (h B s G H _ I w) fun u k z=>?_
 obtain⟨x,U,a,r,n⟩:=z;obtain⟨i,rfl,q⟩:=n;obtain⟨t,rfl⟩:=r;exact⟨some i,U,a,.int i t,q⟩
noncomputable def EW (X:Cx) (r:V->Option Int->Option Int->Hp->VK->Prop):Prop:=
 ∀(B:PN) (s:Shared) (G:St) (H:Hp) (x:V) (v h u:Value) (I J:Option Int) (l:Addr) (Q:VK),Inv X B G H s->RelV x v->s.heap.IsSliceOf l h u .none->IsPart h I->IsPart u J->r x I J H Q ->
  ∃T id,typeLookup (.type T) "__getitem__"=pure (some (.builtin id))/\s.TypeIs v T/\wpAny (model X.prog X.w) X.A (getItem v (.ref l)) (EP X B G Q) X.xe s
theorem EW.or (h:EW X r) (h':EW X i):EW X (fun x I J H Q=>r x I J H Q\/i x I J H Q):=by
 intro B s G H x v k f I J l Q a n e p u q;rcases q with q | q
 .exact h B s G H x v k f I J l Q a n e p u q
 .exact h' B s G H x v k f I J l Q a n e p u q
noncomputable def Nl (r:V->Option Int->Option Int->Hp->VK->Prop) (te:TE) (tl th:TO):TE:=fun G H Q=>te G H fun x U=>tl G U fun l H2=>th G H2 fun u h=>r x l u h Q
theorem A2 (y:EW X r) (g:PE X e te) (j:PO X I tl) (S:PO X J th):PE X (.Subscript e (.Slice I J none p2) O) (Nl r te tl th):=by
 intro B s G H Q a h;refine Subscript_ (cZ (g B s G H _ a h) fun v E z=>?_);obtain⟨x,U,m,D,P⟩:=z;refine wpAny_Slice (cZ (j B E G U _ m P) fun k L ⟨l,H2,t,F,A⟩=>cZ (S B L G H2 _ t A) fun f n z=>?_);obtain⟨u,c,p,K,C⟩:=z;rw [evalPart_none];refine wpAny_pure ?_;have d:Inv X B G c { n with heap:=n.heap.push { cls:=.type "slice",data:=.fields #[k,f,.none] } }:=p.kept (t':=n.toks) fun b M q=>Heap.get?_push_of_some _ q
 obtain⟨T,id,w,o,i⟩:=y B { n with heap:=n.heap.push { cls:=.type "slice",data:=.fields #[k,f,.none] } } G c x v k f l u n.heap.objs.size Q d D (Heap.IsSliceOf.new ..) F K C;show wpAny (model X.prog X.w) X.A (subscriptTail e (.Slice I J none p2) v (.ref n.heap.objs.size)) (EP X B G Q) X.xe { n with heap:=n.heap.push { cls:=.type "slice",data:=.fields #[k,f,.none] } };exact tail_any (ops:=[.ref n.heap.objs.size,v]) o w i (by with_unfolding_all rfl)
noncomputable def uF (xs:List V) (I J:Option Int):List V:=(xs.drop (HT.d9 xs.length 0 I)).take (HT.d9 xs.length xs.length J-HT.d9 xs.length 0 I)
theorem lz (xs:List V) (I J:Option Int):(uF xs I J).length≤xs.length:=by unfold uF;rw [jo,qg];lia
noncomputable def LG (K:FG):V->Option Int->Option Int->Hp->VK->Prop:=fun x I J H Q=>∃a xs,x=.ref a/\n6 K H a xs /\
 ¬(HT.d9 xs.length 0 I=0/\HT.d9 xs.length xs.length J=xs.length)/\∀p,H p=none->Q (.ref p) (cF H p (.tup (uF xs I J)))
theorem FC:EW X (LG X.K):=by
 intro B s G H x v d g I J m Q e f n p u h;obtain⟨a,xs,rfl,k,w,q⟩:=h;cases f;obtain⟨i,r,t,z⟩:=e.tuple k;have l:i.toArray.size=xs.length:=by rw [List.size_toArray];exact r.length.symm
 refine⟨"tuple",_,vf.lookup,t.typeIs,?_⟩;refine HT.ka t n p u (by rw [l];exact w) ?_ (by rw [l];exact z);rw [l];refine⟨.ref s.heap.objs.size,_,e.laid (t':=s.toks) (o:=.tup (uF xs I J)) (fun b c q=>Heap.get?_push_of_some _ q) (Nat.le_refl _) ?_,rfl,q _ (e.hok.fresh (Nat.le_refl _))⟩;exact⟨bL (lz xs I J) z,_,(r.drop (HT.d9 xs.length 0 I)).take (HT.d9 xs.length xs.length J-HT.d9 xs.length 0 I),IsTup.new _ _⟩
noncomputable def IL (K:FG):R2:=fun x y H Q=>∃a b xs ys,x=.ref a/\y=.ref b/\n6 K H a xs/\n6 K H b ys/\xs≠[]/\xs.length+ys.length≤sizeLine /\
 (ys=[]->Q (.ref a) H)/\(ys≠[]->∀p,H p=none->Q (.ref p) (cF H p (.tup (xs++ys))))
theorem aU.nil_iff (r:aU xs d):d=[]↔xs=[]:=by
 cases r with
 | nil=>simp
 | cons _ _=>simp
theorem Dl:fZ X (binaryOp .Add) (IL X.K):=by intro B s G H x y v u Q I g j h;obtain⟨a,b,xs,ys,rfl,rfl,k,f,c,n,m,d⟩:=h;cases g;cases j;obtain⟨t,e,p,_⟩:=I.tuple k;obtain⟨i,r,p2,_⟩:=I.tuple f;refine HT.D3 p p2 (fun z=>c (e.nil_iff.mp z)) (fun z=>⟨.ref a,H,I,rfl,m (r.nil_iff.mp z)⟩) (fun z=>?_) (by rw [<- e.length,<- r.length];exact n);refine⟨.ref s.heap.objs.size,_,I.laid (t':=s.toks) (o:=.tup (xs++ys)) (fun b l q=>Heap.get?_push_of_some _ q) (Nat.le_refl _) ?_,rfl,d (fun w=>z (r.nil_iff.mpr w)) _ (I.hok.fresh (Nat.le_refl _))⟩;exact⟨by rw [bN];exact n,_,e.append r,IsTup.new _ _⟩
end
noncomputable def wq (n:Nat) (i:Int):Option Nat:=if 0≤i then (if i < n then some i.toNat else none) else if -(n:Int)≤i then some (i+n).toNat else none
variable {α:Type}
noncomputable def atI (xs:List α) (i:Int):Option α:=(wq xs.length i).bind fun j=>xs[j]?
variable {n:Nat}
theorem xV {i:Int} (h:wq n i=some N):seqIndex? i n=some N/\N < n/\-(n:Int)≤i/\i < n:=by
 unfold wq at h;by_cases x:0≤i
 .rw [if_pos x] at h;by_cases Y:i < n
  .rw [if_pos Y] at h;have e:i.toNat=N:=Option.some.inj h;exact⟨by rw [seqIndex_of x Y,e],by lia,by lia,Y⟩
  .rw [if_neg Y] at h;cases h
 .rw [if_neg x] at h;by_cases Y:-(n:Int)≤i
  .rw [if_pos Y] at h;have e:(i+n).toNat=N:=Option.some.inj h;exact⟨by rw [seqIndex_neg (by lia) Y,e],by lia,Y,by lia⟩
  .rw [if_neg Y] at h;cases h
theorem atI_get {i:Int} (h:atI xs i=some v):∃j,seqIndex? i xs.length=some j/\xs[j]? = some v/\j < xs.length/\-(xs.length:Int)≤i/\i < xs.length:=by
 unfold atI at h;cases e:wq xs.length i with
 | none=>rw [e] at h;cases h
 | some j=>rw [e] at h;obtain⟨Y,q,x,a⟩:=xV e;exact⟨j,Y,h,q,x,a⟩
theorem atI_last (xs:List α) (v:α):atI (xs++[v]) (-1)=some v:=by
 have h:(xs++[v]).length=xs.length+1:=by simp
 have e:wq (xs++[v]).length (-1)=some xs.length:=by unfold wq;rw [h,if_neg (by decide),if_pos (by lia)];congr 1;lia
 unfold atI;rw [e];show (xs++[v])[xs.length]? = some v;simp
noncomputable def mm (b:Expr):Prop:=∀o i,subscripted b false o i=operate [o,i] (getItem o i)
noncomputable def Cm (X:Cx) (r:R2):Prop:=
 ∀(a l:Expr) (B:PN) (s:Shared) (G:St) (H:Hp) (x y:V) (v u:Value) (Q:VK),Inv X B G H s->RelV x v->RelV y u->r x y H Q ->
  subscripted l false v u=operate [v,u] (getItem v u)->wpAny (model X.prog X.w) X.A (subscriptTail a l v u) (EP X B G Q) X.xe s
noncomputable def MS (X:Cx) (id:String) (r:V->List V->Hp->VK->Prop):Prop:=
 ∀(B:PN) (s:Shared) (G:St) (H:Hp) (x:V) (xs:List V) (v:Value) (d:LV) (Q:VK),Inv X B G H s->RelV x v->aU xs d->r x xs H Q ->
  wpAny (model X.prog X.w) X.A (call (.builtin id) (v::d)) (EP X B G Q) X.xe s
section
variable {X:Cx}{a b:Expr}{ta tb:TE}{O:Pos}
theorem Cm.or (h:Cm X r) (h':Cm X i):Cm X (fun x y H Q=>r x y H Q\/i x y H Q):=by
 intro a l B s G H x y v u Q I n k q e;rcases q with q | q
 .exact h a l B s G H x y v u Q I n k q e
 .exact h' a l B s G H x y v u Q I n k q e
theorem Eu (f:Cm X r) (n:PE X a ta) (k:PE X b tb) (c:mm b):PE X (.Subscript a b O) (Eo r ta tb):=by intro B s G H Q I h;exact Subscript_ (G3 n k I h fun v u p x y H2 e m t q=>f a b B p G H2 x y v u Q e m t q (c _ _))
noncomputable def LM (K:FG):R2:=fun x y H Q=>∃p xs i v,x=.ref p/\y=.int i/\eN K H p xs/\atI xs i=some v/\Q v H
noncomputable def LK (K:FG):R2:=fun x y H Q=>∃p xs i v,x=.ref p/\y=.int i/\n6 K H p xs/\atI xs i=some v/\Q v H
noncomputable def LL:R2:=fun x y H Q=>∃z i c,x=.str z/\y=.int i/\z.length≤sizeLine/\atI z.cps.toList i=some c/\Q (.str ⟨#[c]⟩) H
theorem rz:Cm X (LM X.K):=by
 intro m c B s G H x y v u Q I C D h o;obtain⟨p,xs,i,a,rfl,rfl,A,K,e⟩:=h;cases C;obtain⟨t,rfl⟩:=D;obtain⟨k,r,l,L⟩:=I.list A;obtain⟨j,Y,q,E,S,F⟩:=atI_get K;obtain⟨w,d,b⟩:=r.get q;have P:=r.length;have J:=iq;have f:EP X B G Q w s:=⟨a,H,I,b,e⟩;by_cases g:0≤i
 .have n:i.toNat=j:=by
   rw [seqIndex_of g F] at Y;exact Option.some.inj Y
  exact item_listR l.isList g (by lia) (by rw [n];simpa using d) f o
 .have n:(i+(k.toArray.size:Int)).toNat=j:=by
   rw [seqIndex_neg (by lia) S] at Y;rw [List.size_toArray,<- P];exact Option.some.inj Y
  exact subscriptTail_builtinR (x:=w) l.isList.typeIs slot_list_getitem.lookup
   (wpAny_getItem_list_neg (Q:=fun r z=>r=w/\EP X B G Q r z) l.isList (by lia) (by rw [List.size_toArray] <;> lia) (by lia) (by rw [n];simpa using d) ⟨rfl,f⟩) o
theorem GB:Cm X (LK X.K):=by
 intro k l B s G H x y v u Q I F K h o;obtain⟨p,xs,i,a,rfl,rfl,g,m,e⟩:=h;cases F;obtain⟨t,rfl⟩:=K;obtain⟨S,r,b,E⟩:=I.tuple g;obtain⟨j,Y,q,P,A,C⟩:=atI_get m;obtain⟨w,c,n⟩:=r.get q;have d:=r.length;have D:=iq;have f:EP X B G Q w s:=⟨a,H,I,n,e⟩;exact subscriptTail_builtinR (x:=w) b.typeIs slot_tuple_getitem.lookup
  (getItem_tuple (j:=j) (Q:=fun r z=>r=w/\EP X B G Q r z) b (by lia) (by lia) (by rw [List.size_toArray,<- d];exact Y) (by simpa using c) ⟨rfl,f⟩) o
theorem GC:Cm X LL:=by
 intro e l B s G H x y v u Q I d w h p;obtain⟨z,i,c,rfl,rfl,S,m,a⟩:=h;obtain⟨t,rfl⟩:=d;obtain⟨F,rfl⟩:=w;obtain⟨j,Y,q,g,f,b⟩:=atI_get m;have r:z.cps.toList.length=z.length:=by simp [Str.length]
 rw [r] at Y f b;have o:=iq;exact tail_any (typeIs_str s z t) slot_str_getitem.lookup (getItem_str (c:=c) (by have n:decide (i < -(2 ^ 63:Int))=false:=decide_eq_false (by lia);have k:decide (i ≥ 2 ^ 63)=false:=decide_eq_false (by lia);rw [n,k,Bool.or_false]) (by rw [Y];simpa using q) ⟨.str ⟨#[c]⟩,H,I.tok _,⟨_,rfl⟩,a⟩) p
theorem wm (i:LV) (n j:Nat) (u:Value):Obj.mapSeq (·.setIfInBounds j u) { cls:=.type "list",data:=.seq i.toArray n }={ cls:=.type "list",data:=.seq (i.set j u).toArray n }:=by simp [Obj.mapSeq]
theorem Inv.lst (I:Inv X B G H s) (h:H p=some (.lst xs)) :
  ∃(i:LV) (n:Nat),aU xs i/\s.heap.get? p=some { cls:=.type "list",data:=.seq i.toArray n }/\xs.length≤sizeLine:=by
 obtain⟨z,i,n,r,e⟩:=I.hok p _ h;exact⟨i,n,r,e,z⟩
theorem Inv.lstUpd {a:LV} (I:Inv X B G H s) (h:H p=some (.lst xs))
  (o:s.heap.get? p=some { cls:=.type "list",data:=.seq a.toArray n }) (k:f { cls:=.type "list",data:=.seq a.toArray n }={ cls:=.type "list",data:=.seq i.toArray N }) (r:aU ys i) (z:ys.length≤sizeLine) (t:Nat) :
  Inv X B G (cF H p (.lst ys)) { s with heap:=s.heap.update p f,toks:=t }:=by
 have e:(s.heap.update p f).get? p=some { cls:=.type "list",data:=.seq i.toArray N }:=by rw [Heap.get?_update_self f o (by rw [k] <;> rfl),k]
 refine I.write (x:=p) (e:=p) (by rw [h];trivial) (.inl rfl) (fun b u c q=>(Heap.get?_update_other _ _ (bS c)).trans q) ⟨_,e⟩ ?_;exact⟨z,i,N,r,e⟩
noncomputable def IK:V->V->V->Hp->(Hp->Prop)->Prop:=fun o i v H Q=>∃p xs k j,o=.ref p/\i=.int k/\H p=some (.lst xs)/\wq xs.length k=some j/\Q (cF H p (.lst (xs.set j v)))
theorem AE:JW X IK:=by
 intro B s G H o i v A P u Q I S y F h;obtain⟨p,xs,k,j,rfl,rfl,w,g,x⟩:=h;cases S;obtain⟨t,rfl⟩:=y;obtain⟨a,n,r,f,z⟩:=I.lst w;obtain⟨Y,q,m,d⟩:=xV g;have l:=r.length;have K:=iq;have b:Inv X B G (cF H p (.lst (xs.set j v))) { s with heap:=s.heap.update p (Obj.mapSeq (·.setIfInBounds j u)) }:=
  I.lstUpd w f (wm a n j u) (r.set F j) (by rw [cv];exact z) s.toks
 by_cases c:0≤k
 .have e:k.toNat=j:=by
   rw [seqIndex_of c d] at Y;exact Option.some.inj Y
  exact PySem.W.ki_setAt f c (by lia) (by rw [List.size_toArray,<- l];exact d) (by rw [e];exact⟨_,b,x⟩)
 .have e:(k+(a.toArray.size:Int)).toNat=j:=by
   rw [seqIndex_neg (by lia) m] at Y;rw [List.size_toArray,<- l];exact Option.some.inj Y
  exact PySem.W.ki_setBack f (by lia) (by rw [List.size_toArray,<- l];exact m) (by lia) (by rw [e];exact⟨_,b,x⟩)
theorem qV (I J:Option Int) (n:Nat):(sliceBounds I J none n).1=((HT.d9 n 0 I:Nat):Int)/\(sliceBounds I J none n).2.1=((HT.d9 n n J:Nat):Int)/\(sliceBounds I J none n).2.2=1:=by
 refine⟨?_,?_,rfl⟩
 .cases I with
  | none=>simp [sliceBounds,HT.d9]
  | some i=>
   simp only [sliceBounds,HT.d9,Option.getD_none,show (1:Int) > 0 by decide,gK];by_cases h:i < 0
   .simp only [h,gK] <;> lia
   .simp only [h,iM] <;> lia
 .cases J with
  | none=>simp [sliceBounds,HT.d9]
  | some i=>
   simp only [sliceBounds,HT.d9,Option.getD_none,show (1:Int) > 0 by decide,gK];by_cases h:i < 0
   .simp only [h,gK] <;> lia
   .simp only [h,iM] <;> lia
theorem n_ (i:LV) (I J:Option Int):slicePick i.toArray I J none=((i.drop (HT.d9 i.length 0 I)).take (HT.d9 i.length i.length J-HT.d9 i.length 0 I)).toArray:=by obtain⟨Y,q,h⟩:=qV I J i.toArray.size;unfold slicePick;rw [Y,q,h];simp only [sliceRange_one,pick_run,List.size_toArray] <;> rfl
noncomputable def LH (K:FG):V->Option Int->Option Int->Hp->VK->Prop:=fun x I J H Q=>∃a xs,x=.ref a/\eN K H a xs/\∀p,H p=none->Q (.ref p) (cF H p (.lst (uF xs I J)))
theorem CY:EW X (LH X.K):=by intro B s G H x v d w I J m Q e f n p u h;obtain⟨a,xs,rfl,k,q⟩:=h;cases f;obtain⟨i,r,t,z⟩:=e.list k;have l:=r.length;refine⟨"list",_,slot_list_getitem.lookup,t.isList.typeIs,?_⟩;refine wpAny_getItem_list_slice t.isList n p u .none (by simp) ?_ (by rw [List.size_toArray] <;> lia);rw [n_,<- l];refine⟨.ref s.heap.objs.size,_,e.laid (t':=s.toks) (o:=.lst (uF xs I J)) (fun b c q=>Heap.get?_push_of_some _ q) (Nat.le_refl _) ?_,rfl,q _ (e.hok.fresh (Nat.le_refl _))⟩;exact⟨bL (lz xs I J) z,_,0,(r.drop (HT.d9 xs.length 0 I)).take (HT.d9 xs.length xs.length J-HT.d9 xs.length 0 I),Heap.get?_push_size _ rfl⟩
theorem sg:bZ X (.builtin "len") (fun xs H Q=>∃p ys,xs=[.ref p]/\(eN X.K H p ys\/n6 X.K H p ys)/\Q (.int ys.length) H):=by
 intro B s G H xs d Q I r h;obtain⟨p,ys,rfl,x,q⟩:=h;obtain⟨u,rfl,n⟩:=vals1 r;cases n;have k:=iq;rcases x with x | x
 .obtain⟨i,e,a,z⟩:=I.list x;have l:=e.length;exact Calls.call_len_list a.isList (by simp only [List.size_toArray] <;> lia) ⟨.int ys.length,H,I.tok _,⟨s.toks+1,by rw [List.size_toArray,l]⟩,q⟩
 .obtain⟨i,e,a,z⟩:=I.tuple x;have l:=e.length;exact len_tuple a (by simp only [List.size_toArray] <;> lia) ⟨.int ys.length,H,I.tok _,⟨s.toks+1,by rw [List.size_toArray,l]⟩,q⟩
theorem sf:bZ X (.builtin "len") (fun xs H Q=>∃z,xs=[.str z]/\z.length≤sizeLine/\Q (.int z.length) H):=by intro B s G H xs d Q I r h;obtain⟨z,rfl,x,q⟩:=h;obtain⟨u,rfl,t,rfl⟩:=vals1 r;have n:=iq;exact len_str (by lia) ⟨.int z.length,H,I.tok _,⟨_,rfl⟩,q⟩
theorem bZ.or (h:bZ X f r) (h':bZ X f i):bZ X f (fun xs H Q=>r xs H Q\/i xs H Q):=by
 intro B s G H xs d Q I x q;rcases q with q | q
 .exact h B s G H xs d Q I x q
 .exact h' B s G H xs d Q I x q
theorem hB:bZ X (.type "list") (fun xs H Q=>∃p ys,xs=[.ref p]/\(eN X.K H p ys\/n6 X.K H p ys)/\∀l,H l=none->Q (.ref l) (cF H l (.lst ys))):=by
 intro B s G H xs d Q I r h;obtain⟨p,ys,rfl,k,q⟩:=h;obtain⟨u,rfl,j⟩:=vals1 r;cases j;have f:∀(i:LV),aU ys i->ys.length≤sizeLine->∀(h':Heap) (c:Nat),(∀b o',s.heap.get? b=some o'->h'.get? b=some o') ->
   h'.get? s.heap.objs.size=some { cls:=.type "list",dict:=none,data:=.seq i.toArray c,slots:=#[] }->EP X B G Q (.ref s.heap.objs.size) { s with heap:=h' }:=fun i x z h' c m e=>
  ⟨.ref s.heap.objs.size,_,I.laid (t':=s.toks) m (Nat.le_refl _) (show cH X.prog X.w _ h' _ (.lst ys) from ⟨z,i,c,x,e⟩),rfl,q _ (I.hok.fresh (Nat.le_refl _))⟩
 rcases k with k | k
 .obtain⟨i,x,g,z⟩:=I.list k;have a:=x.length;obtain⟨o,w,t,n,v⟩:=g.isList;exact call_list_seq p (.inl rfl) w t v (fun h' c m e=>f i x z h' c m e) (by simp only [List.size_toArray] <;> lia)
 .obtain⟨i,x,g,z⟩:=I.tuple k;have a:=x.length;obtain⟨o,w,t,n,v⟩:=g;exact call_list_seq p (.inr rfl) w t v (fun h' c m e=>f i x z h' c m e) (by simp only [List.size_toArray] <;> lia)
theorem jd:bZ X (.type "tuple") (fun xs H Q=>∃p ys,xs=[.ref p]/\((eN X.K H p ys/\∀l,H l=none->Q (.ref l) (cF H l (.tup ys)))\/(n6 X.K H p ys/\Q (.ref p) H))):=by
 intro B s G H xs d Q I r h;obtain⟨p,ys,rfl,h⟩:=h;obtain⟨u,rfl,t⟩:=vals1 r;cases t;rcases h with ⟨x,q⟩ | ⟨x,q⟩
 .obtain⟨i,n,a,z⟩:=I.list x;have f:=n.length;refine call_tuple_list a.isList (fun h' m=>?_) (by simp only [List.size_toArray] <;> lia);have k:Inv X B G H { s with heap:=h' }:=I.kept (t':=s.toks) m;have c:Inv X B G (cF H h'.objs.size (.tup ys)) { s with heap:=h'.push { cls:=.type "tuple",data:=.seq i.toArray } }:=
   k.laid (t':=s.toks) (fun b o e=>Heap.get?_push_of_some _ e) (Nat.le_refl _) (show cH X.prog X.w _ _ _ (.tup ys) from ⟨z,i,n,IsTup.new _ _⟩)
  exact⟨.ref h'.objs.size,_,c,rfl,q _ (k.hok.fresh (Nat.le_refl _))⟩
 .obtain⟨i,n,a,z⟩:=I.tuple x;exact call_tuple_same a ⟨.ref p,H,I,rfl,q⟩
noncomputable def Lo (K:FG) (T:String) (x:V) (H:Hp):Prop:=match x with
 | .str _=>T="str"
 | .int _=>T="int"
 | .ref p=>(T="list"/\∃xs,eN K H p xs)\/(T="tuple"/\∃o,K.lookup p=some o/\o.cls=.type "tuple"/\o.dict=none) \/
   (T="dict"/\((∃j,H p=some (.dK j))\/∃j,H p=some (.dT j)))\/(T="set"/\∃S n,H p=some (.set S n))
 | _=>False
theorem z9 (I:Inv X B G H s) (r:RelV x v) (y:Lo X.K T x H) :
  s.TypeIs v T/\∀a,v=.ref a->∃b,s.heap.get? a=some b/\b.dict=none:=by
 cases x with
 | str z=>obtain⟨t,rfl⟩:=r;cases (show T="str" from y);exact⟨typeIs_str s z t,fun _ e=>nomatch e⟩
 | int i=>obtain⟨t,rfl⟩:=r;cases (show T="int" from y);exact⟨typeIs_int s i t,fun _ e=>nomatch e⟩
 | ref p=>
  cases r;rcases y with ⟨rfl,xs,q⟩ | ⟨rfl,o,h,f,d⟩ | ⟨rfl,h⟩ | ⟨rfl,S,n,h⟩
  .obtain⟨m,_,l,_⟩:=I.list q;refine⟨l.isList.typeIs,fun a e=>?_⟩;cases e;obtain⟨o,n,e,c,d,_⟩:=l;exact⟨o,e,d⟩
  .refine⟨⟨o,I.kIn p o h,f⟩,fun a e=>?_⟩;cases e;exact⟨o,I.kIn _ o h,d⟩
  .have z:∃o,s.heap.get? p=some o/\o.ExactDict:=by
    rcases h with ⟨j,h⟩ | ⟨j,h⟩
    .obtain⟨_,_,_,_,o,_,_,e,ex,_⟩:=I.hok p _ h;exact⟨o,e,ex⟩
    .obtain⟨_,_,_,_,o,_,_,e,ex,_⟩:=I.hok p _ h;exact⟨o,e,ex⟩
   obtain⟨o,e,ex⟩:=z;refine⟨⟨o,e,ex.1⟩,fun a k=>?_⟩;cases k;exact⟨o,e,ex.2.1⟩
  .obtain⟨o,_,_,_,e,ex,_⟩:=I.hok p _ h;refine⟨⟨o,e,ex.1⟩,fun a k=>?_⟩;cases k;exact⟨o,e,ex.2.1⟩
 | _=>exact False.elim y
noncomputable def LC (K:FG) (T:String) (r:V->List V->Hp->VK->Prop) (to:TE):TE:=fun G H Q=>to G H fun x U=>Lo K T x U/\r x [] U Q
noncomputable def Nq (K:FG) (T:String) (r:V->List V->Hp->VK->Prop) (to:TE) (t:TA):TE:=fun G H Q=>to G H fun x U=>Lo K T x U/\t G U fun xs H2=>r x xs H2 Q
variable {o e:Expr}{es:Ab}{to:TE}{t:TA}{name:Str}{apos cpos:Pos}{T id:String}{r:V->List V->Hp->VK->Prop}
theorem F0 (p:PlainAttrs T) (slot:Slot T name id) (t:typeOf (.builtin id)=pure (.type "method_descriptor")) (m:MS X id r) (n:PE X o to)
  (b:attributeBase o name X.env (eval o X.env)=eval o X.env:=by rfl) (l:(apos.endLine == cpos.line)=true:=by rfl):PE X (.Call (.Attribute o name apos) [] [] cpos) (LC X.K T r to):=by
 intro B s G H Q I h;refine wpAny_Call_method0_late b l (cZ (n B s G H _ I h) fun v f z=>?_);obtain⟨x,U,a,e,y,k⟩:=z;obtain⟨Y,q⟩:=z9 a e y;exact⟨T,id,p,slot,t,Y,q,Calls.callWith_builtin rfl (PySem.evalArgs_none (m B f G U x [] v [] Q a e .nil k))⟩
theorem Ew (g:PlainAttrs T) (slot:Slot T name id) (y:typeOf (.builtin id)=pure (.type "method_descriptor")) (m:MS X id r) (w:PE X o to) (c:PA X (e::es) t)
  (b:attributeBase o name X.env (eval o X.env)=eval o X.env:=by rfl)
  (f:((backTo cpos (starEach (e::es) X.env)).all (fun x=>!x.1) && (backToKw cpos (keywordEach [] X.env)).all (fun x=>x.1.isSome)
   && decide ((e::es).length+([]:List Keyword).length+(if ([]:List Keyword).isEmpty then 0 else 1) < 30))=true:=by rfl)
  (l:(apos.endLine == cpos.line)=true:=by rfl) (u:starEach (e::es) X.env=(false,eval e X.env)::starEach es X.env:=by rfl) (p:(backTo cpos (starEach es X.env)).any (·.1)=false:=by rfl) :
  PE X (.Call (.Attribute o name apos) (e::es) [] cpos) (Nq X.K T r to t):=by
 intro B s G H Q I h;refine wpAny_Call_method_late b f l rfl (cZ (w B s G H _ I h) fun v F z=>?_);obtain⟨x,U,a,n,P,i⟩:=z;obtain⟨Y,q⟩:=z9 a n P;refine⟨T,id,g,slot,y,Y,q,?_⟩;have A:=c cpos B F G U _ a i;rw [u] at A ⊢;refine Calls.callWith_builtin (by show (false || (backTo cpos (starEach es X.env)).any (·.1))=false;rw [p] <;> rfl) (Calls.evalArgs_plain ?_);exact cZ A fun d K z=>by obtain⟨C,H2,k,S,j⟩:=z;exact m B K G H2 x C v d Q k n S j
end
noncomputable def Ml (X:Cx) (id:String) (r:V->List V->Hp->VK->Prop):Prop:=
 ∀(B:PN) (s:Shared) (G:St) (H:Hp) (x:V) (xs:List V) (v:Value) (d:LV) (Q:VK),Inv X B G H s->RelV x v->aU xs d->r x xs H Q ->
  wpAny (model X.prog X.w) X.A (call (.builtin id) (v::d)) (EP X B G Q) X.xe s
theorem aU.one:∀{x:V}{d:LV},aU [x] d->∃u,d=[u]/\RelV x u
 | _,_,.cons r .nil=>⟨_,rfl,r⟩
theorem aU.zero:∀{d:LV},aU [] d->d=[]
 | _,.nil=>rfl
variable {d:LV}
theorem aU.dropLast (h:aU xs d):aU xs.dropLast d.dropLast:=by
 induction h with
 | nil=>exact .nil
 | cons r t i=>
  cases t with
  | nil=>exact .nil
  | cons q x=>exact .cons r i
theorem aU.rep (h:aU xs d):∀k:Nat,aU (List.replicate k xs).flatten (List.replicate k d).flatten
 | 0=>.nil
 | k+1=>by rw [gJ,gJ,kz,kz];exact aU.append h (aU.rep h k)
theorem wG (l:List α):l.eraseIdx (l.length-1)=l.dropLast:=by
 induction l with
 | nil=>rfl
 | cons a r i=>
  cases r with
  | nil=>rfl
  | cons b r=>
   have e:(a::b::r).length-1=((b::r).length-1)+1:=by have Y:(a::b::r).length=r.length+2:=rfl;have q:(b::r).length=r.length+1:=rfl;lia
   rw [e,List.eraseIdx_cons_succ,i];all_goals rfl
theorem foldl_rep (i:LV):∀(k:Nat) (a:LV),
  List.foldl (fun x s=>x++s) a.toArray (List.replicate k i.toArray)=(a++(List.replicate k i).flatten).toArray
 | 0,a=>by simp
 | k+1,a=>by
  have e:a.toArray++i.toArray=(a++i).toArray:=by simp
  have h:(a++i)++(List.replicate k i).flatten=a++(List.replicate (k+1) i).flatten:=by rw [gJ,kz,dQ]
  rw [<- h,<- foldl_rep i k (a++i),<- e,gJ,jl]
section
variable {X:Cx}{B:PN}{G:St}{H:Hp}{s:Shared}{l b:Addr}{xs ys zs:List V}
theorem Inv.lset {t:LV}{c:Nat} (I:Inv X B G H s) (h:H l=some (.lst xs))
  (e:s.heap.get? l=some { cls:=.type "list",data:=.seq t.toArray n }) (a:f t.toArray=i.toArray) (v:aU ys i) (z:ys.length≤sizeLine) :
  Inv X B G (cF H l (.lst ys)) { s with heap:=s.heap.update l (Obj.mapSeq f),toks:=c }:=by
 have q:=PySem.IsL.update e f;rw [a] at q;refine I.write (x:=l) (e:=l) (by rw [h];exact trivial) (.inl rfl) (fun m u b k=>(Heap.get?_update_other s.heap (Obj.mapSeq f) (bS b)).trans k) ⟨_,q⟩ ?_;exact⟨z,i,_,v,q⟩
theorem Inv.lnew {t:Nat} (I:Inv X B G H s) (h:aU ys i) (z:ys.length≤sizeLine) :
  Inv X B G (cF H s.heap.objs.size (.lst ys)) { s with heap:=s.heap.push { cls:=.type "list",data:=.seq i.toArray },toks:=t }:=
 I.laid (fun _ _ q=>Heap.get?_push_of_some _ q) (Nat.le_refl _) ⟨z,i,0,h,Heap.get?_push_size _ rfl⟩
theorem Inv.fresh (I:Inv X B G H s):H s.heap.objs.size=none:=I.hok.fresh (Nat.le_refl _)
theorem Inv.lstM (I:Inv X B G H s) (h:H l=some (.lst xs)):xs.length≤sizeLine/\∃(i:LV) (n:Nat),aU xs i/\xs.length=i.length/\s.heap.get? l=some { cls:=.type "list",data:=.seq i.toArray n }:=by obtain⟨z,i,n,r,e⟩:=I.hok l _ h;exact⟨z,i,n,r,r.length,e⟩
theorem tF (h:n≤sizeLine):Builtin.List.listTooLong n=false:=by unfold Builtin.List.listTooLong;exact decide_eq_false (by lia)
end
section
variable {X:Cx}
noncomputable def C7:V->List V->Hp->VK->Prop:=fun x v H Q=>∃l xs y,x=.ref l/\v=[y]/\H l=some (.lst xs)/\xs.length < sizeLine/\Q .non (cF H l (.lst (xs++[y])))
theorem kP:Ml X "list.append" C7:=by intro B s G H x t v d Q I b f h;obtain⟨l,xs,y,rfl,rfl,a,m,q⟩:=h;cases b;obtain⟨u,rfl,k⟩:=f.one;obtain⟨z,i,n,r,c,e⟩:=I.lstM a;refine call_meets F.slot_list_append ⟨_,e,rfl⟩ F.entry_list_append (F.args_list_append_2 _ _) (PySem.list_append l i.toArray n u (by rw [List.size_toArray];lia)) ⟨e,?_⟩;refine⟨.non,_,I.lset (i:=i++[u]) a e (by simp) (r.append (.cons k .nil)) ?_,rfl,q⟩;rw [bN,p0];lia
noncomputable def C6:V->List V->Hp->VK->Prop:=fun x v H Q=>∃l b xs zs,x=.ref l/\v=[.ref b]/\H l=some (.lst xs)/\H b=some (.lst zs)/\xs.length+zs.length≤sizeLine/\Q .non (cF H l (.lst (xs++zs)))
theorem y3:Ml X "list.extend" C6:=by
 intro B s G H x P v d Q I y j h;obtain⟨l,b,xs,zs,rfl,rfl,k,c,K,q⟩:=h;cases y;obtain⟨u,rfl,g⟩:=j.one;cases g;obtain⟨z,t,n,r,S,e⟩:=I.lstM k;obtain⟨A,i,p,w,m,f⟩:=I.lstM c;have a:t.toArray.size+i.toArray.size≤sizeLine:=by rw [List.size_toArray,List.size_toArray];lia
 have o:¬(!t.toArray.isEmpty && Builtin.List.listTooLong (t.toArray.size+i.toArray.size))=true:=by rw [tF a,Bool.and_false];exact ci
 refine call_meets F.slot_list_extend ⟨_,e,rfl⟩ F.entry_list_extend (F.args_list_extend_2 _ _)
  (AutoSeq1.list_extend_list_list_0 l t.toArray n b i.toArray p o (by rw [List.size_toArray];lia) (by lia)) ⟨e,f,?_⟩
 refine⟨.non,_,I.lset (i:=t++i) k e (by simp) (r.append w) ?_,rfl,q⟩;rw [bN];lia
noncomputable def LJ:V->List V->Hp->VK->Prop:=fun x v H Q=>∃l xs y,x=.ref l/\v=[]/\H l=some (.lst xs)/\xs[xs.length-1]? = some y/\Q y (cF H l (.lst xs.dropLast))
theorem Gn:Ml X "list.pop" LJ:=by
 intro B s G H x g v d Q I w p h;obtain⟨l,xs,y,rfl,rfl,f,m,q⟩:=h;cases w;have a:=p.zero;subst a;obtain⟨z,i,n,r,b,e⟩:=I.lstM f;obtain⟨u,c,t⟩:=r.get m;have k:i.toArray[i.toArray.size-1]? = some u:=by show i.toArray[i.length-1]? = some u;rw [<- jr,<- b];exact c
 refine call_meets F.slot_list_pop ⟨_,e,rfl⟩ F.entry_list_pop (F.args_list_pop_1 _) (MeetsSeq.list_pop_last l i.toArray n u k (by rw [List.size_toArray];lia)) ⟨e,?_⟩;refine⟨y,_,I.lset (i:=i.dropLast) f e ?_ r.dropLast ?_,t,q⟩
 .show i.toArray.eraseIdxIfInBounds (i.toArray.size-1)=i.dropLast.toArray;rw [List.size_toArray,List.eraseIdxIfInBounds_toArray,wG]
 .rw [List.length_dropLast];lia
noncomputable def LN:R2:=fun x y H Q=>∃l b xs zs,x=.ref l/\y=.ref b/\H l=some (.lst xs)/\H b=some (.lst zs)/\xs.length+zs.length≤sizeLine/\∀p,H p=none->Q (.ref p) (cF H p (.lst (xs++zs)))
theorem Gc:fZ X (binaryOp .Add) LN:=by
 intro B s G H x y v u Q I d w h;obtain⟨l,b,xs,zs,rfl,rfl,c,f,j,q⟩:=h;cases d;cases w;obtain⟨z,t,n,r,g,e⟩:=I.lstM c;obtain⟨S,i,o,p,m,a⟩:=I.lstM f;refine PySem.P.add_list e a ?_ (by rw [List.size_toArray,List.size_toArray];lia);have k:t.toArray++i.toArray=(t++i).toArray:=by simp
 rw [k];exact⟨.ref _,_,I.lnew (t:=s.toks) (r.append p) (by rw [bN];lia),rfl,q _ I.fresh⟩
noncomputable def LI:R2:=fun x y H Q=>∃l k xs,x=.ref l/\y=.int k/\H l=some (.lst xs)/\-(2 ^ 63)≤k/\k < 2 ^ 63/\xs.length * k.toNat≤sizeLine /\
 ∀p,H p=none->Q (.ref p) (cF H p (.lst (List.replicate k.toNat xs).flatten))
theorem Dy (xs:List α) (k:Nat):(List.replicate k xs).flatten.length=k * xs.length:=by
 induction k with
 | zero=>simp
 | succ k i=>rw [gJ,kz,bN,i,Nat.succ_mul,Nat.add_comm]
theorem F9:fZ X (binaryOp .Mult) LI:=by
 intro B s G H x y v u Q I C D h;obtain⟨l,k,xs,rfl,rfl,P,Y,q,S,f⟩:=h;cases C;obtain⟨t,rfl⟩:=D;obtain⟨b,i,n,r,A,e⟩:=I.lstM P;have d:i.toArray.size * k.toNat≤sizeLine:=by rw [List.size_toArray,<- A];exact S
 have c:¬i.toArray.size * k.toNat > (2 ^ 63-1) / 8:=by
  have:(sizeLine:Nat)≤(2 ^ 63-1) / 8:=by decide
  lia
 have p:¬(!Builtin.List.listFitsIndex k)=true:=by rw [fitsIndex_both Y q];exact ci
 have o:¬Builtin.List.listTooLong (i.toArray.size * k.toNat)=true:=by rw [tF d];exact ci
 have w:List.foldl (fun g j=>g++j) #[] (List.replicate (if i.toArray.isEmpty=true then 0 else k.toNat) i.toArray)=(List.replicate k.toNat i).flatten.toArray:=by
  have K:∀m:Nat,List.foldl (fun g j=>g++j) #[] (List.replicate m i.toArray)=(List.replicate m i).flatten.toArray:=fun m=>by have:=foldl_rep i m [];rw [pT] at this;exact this
  rw [K];cases i with
  | nil=>simp
  | cons a E=>rw [if_neg (by simp)]
 refine wpAny_binaryOp_repeat_ref (T:="list") (U:="int") (by decide) ⟨_,e,rfl⟩ (fun z=>typeIs_int z k t) noFill_list_mul F.fills_int_mul F.slot_int_rmul repeat_list F.slot_int_index.lookup
  (call_meets F.slot_int_rmul (typeIs_int s k t) F.entry_int_rmul (F.args_int_rmul_2 _ _) (int___rmul___int_list k t l i.toArray n)
   ⟨e,rfl,⟨_,e,rfl⟩,call_meets F.slot_list_mul ⟨_,e,rfl⟩ F.entry_list_mul (F.args_list_mul_2 _ _) (AutoListH.list___mul___list_int_3 l i.toArray n k t p c o) ⟨e,?_⟩⟩)
 rw [w];exact⟨.ref _,_,I.lnew (t:=s.toks) (r.rep k.toNat) (by rw [Dy,lW];exact S),rfl,f _ I.fresh⟩
end
section
variable {κ:Type} [DecidableEq κ]
noncomputable def jM (j:List (κ×V)) (k:κ):Option V:=(j.find? fun v=>decide (v.1=k)).map (·.2)
noncomputable def putK (j:List (κ×V)) (k:κ) (v:V):List (κ×V):=
 if (j.any fun h=>decide (h.1=k))=true then j.map (fun h=>if h.1=k then (h.1,v) else h) else j++[(k,v)]
noncomputable def MM (j:List (κ×V)) (k:κ):List (κ×V):=j.filter fun v=>decide (v.1≠k)
theorem gq {p:κ×V}{r:List (κ×V)}{k:κ} (e:p.1=k):jM (p::r) k=some p.2:=by simp [jM,hY,e]
theorem gu {p:κ×V}{r:List (κ×V)}{k:κ} (e:¬p.1=k):jM (p::r) k=jM r k:=by simp [jM,hY,e]
theorem sL (k:κ):∀j:List (κ×V),(j.any fun v=>decide (v.1=k))=(jM j k).isSome
 | []=>rfl
 | p::r=>by
  rw [f8];by_cases e:p.1=k
  .simp only [gq e,dH e,Bool.true_or,Option.isSome_some]
  .rw [gu e,decide_eq_false e,Bool.false_or];exact sL k r
theorem n0.isSome_eq (r:n0 o u):o.isSome=u.isSome:=by
 cases o with
 | none=>cases u with
  | none=>rfl
  | some _=>exact (show False from r).elim
 | some _=>cases u with
  | none=>exact (show False from r).elim
  | some _=>rfl
theorem KV.val {j:List (κ×V)}{v:List (κ×Value)} (r:KV j v) (k:κ):n0 (jM j k) (valueAt v k):=by
 unfold KV at r;induction r with
 | nil=>exact True.intro
 | @cons p x ps qs h t i=>
  obtain⟨Y,q⟩:=h;by_cases e:p.1=k
  .have a:x.1=k:=Y.symm.trans e;have b:valueAt (x::qs) k=some x.2:=by simp [valueAt,hY,a]
   rw [gq e,b];exact q
  .have a:¬x.1=k:=fun z=>e (Y.trans z);have b:valueAt (x::qs) k=valueAt qs k:=by simp [valueAt,hY,a]
   rw [gu e,b];exact i
theorem KV.any (r:KV j N) (k:κ):(j.any fun v=>decide (v.1=k))=N.any fun v=>decide (v.1=k):=by
 unfold KV at r;induction r with
 | nil=>rfl
 | cons h t i=>rw [f8,f8,i,h.1]
theorem KV.repl (r:KV j N) (k:κ) (a:RelV y u) :
  KV (j.map fun v=>if v.1=k then (v.1,y) else v) (N.map fun v=>if v.1=k then (v.1,u) else v):=by
 unfold KV at r ⊢;induction r with
 | nil=>exact .nil
 | @cons p x ps qs h t i=>
  rw [List.map_cons,List.map_cons];refine .cons ?_ i;obtain⟨Y,q⟩:=h;by_cases e:p.1=k
  .rw [if_pos e,if_pos (Y.symm.trans e)];exact⟨Y,a⟩
  .rw [if_neg e,if_neg (fun z=>e (Y.trans z))];exact⟨Y,q⟩
theorem KV.put (r:KV j i) (k:κ) (h:RelV y u):KV (putK j k y) (stored i k u):=by
 unfold putK stored;rw [r.any k];by_cases e:(i.any fun v=>decide (v.1=k))=true
 .rw [if_pos e,if_pos e];exact r.repl k h
 .rw [if_neg e,if_neg e];exact Paired.snoc r ⟨rfl,h⟩
theorem KV.length (r:KV j i):j.length=i.length:=Paired.length r
end
variable {u:Value}
theorem tZ (r:RelV (kV k) u):(bX P w).is k u=true:=by
 cases k with
 | inl i=>obtain⟨t,e⟩:=(show ∃t,u=Value.int i t from r);subst e;exact tL P w i t
 | inr x=>obtain⟨t,e⟩:=(show ∃t,u=Value.str x t from r);subst e;exact tK P w x t
theorem pc:∀{ks:List cS}{d:LV},aU (ks.map kV) d->ItemsAre (bX P w) ks d
 | [],_,r=>by rw [eO] at r;cases r;exact .nil
 | k::ks,_,r=>by
  rw [List.map_cons] at r;cases r with
  | cons h t=>exact .cons (tZ h) (pc t)
noncomputable abbrev KT (H:Hp):List (List cS×V)->List (List cS×Addr×Value)->Prop:=Paired fun p q=>p.1=q.1/\H q.2.1=some (.tup (p.1.map kV))/\RelV p.2 q.2.2
theorem KT.val {H:Hp}{j:List (List cS×V)}{xs:List (List cS×Addr×Value)} (r:KT H j xs) (k:List cS):n0 (jM j k) ((atKey xs k).map (·.2)):=by
 induction r with
 | nil=>exact True.intro
 | @cons p x ps qs h t i=>
  obtain⟨Y,_,q⟩:=h;by_cases e:p.1=k
  .have a:x.1=k:=Y.symm.trans e;have b:atKey (x::qs) k=some x.2:=by simp [atKey,hY,a]
   rw [gq e,b];exact q
  .have a:¬x.1=k:=fun z=>e (Y.trans z);have b:atKey (x::qs) k=atKey qs k:=by simp [atKey,hY,a]
   rw [gu e,b];exact i
variable {H:Hp}{j:List (List cS×V)}{xs:List (List cS×Addr×Value)}{y:V}
theorem KT.repl (r:KT H j xs) (k:List cS) (s:RelV y u) :
  KT H (j.map fun v=>if v.1=k then (v.1,y) else v) (xs.map (putAt k u)):=by
 induction r with
 | nil=>exact .nil
 | @cons p x ps qs h t i=>
  rw [List.map_cons,List.map_cons];refine .cons ?_ i;obtain⟨Y,q,a⟩:=h;unfold putAt;by_cases e:p.1=k
  .rw [if_pos e,if_pos (Y.symm.trans e)];exact⟨Y,q,s⟩
  .rw [if_neg e,if_neg (fun z=>e (Y.trans z))];exact⟨Y,q,a⟩
theorem KT.put (r:KT H j xs) (k:List cS) (x:H b=some (.tup (k.map kV))) (h:RelV y u) :
  KT H (putK j k y) (storedH xs k b u):=by
 have e:(j.any fun v=>decide (v.1=k))=(atKey xs k).isSome:=by rw [sL,(r.val k).isSome_eq,qo]
 unfold putK storedH;rw [e];by_cases q:(atKey xs k).isSome=true
 .rw [if_pos q,if_pos q];exact r.repl k h
 .rw [if_neg q,if_neg q];exact Paired.snoc r ⟨rfl,x,h⟩
theorem KT.keeps (r:KT H j xs) (h:∀b ys,H b=some (.tup ys)->H' b=some (.tup ys)):KT H' j xs:=
 Paired.mapP r fun _ _ z=>⟨z.1,h _ _ z.2.1,z.2.2⟩
section
variable {P:Program}{w:World}{H:Hp}{h:Heap}{a:Addr}
theorem Es {u:HO} (ok:hU P w H h) (e:Rd H a u):cH P w H h a u:=e.ok ok
theorem x6 {j:List (cS×V)} (ok:hU P w H h) (e:Rd H a (.dK j)):j.length≤sizeLine/\(a == sysModules)=false/\∃v,KV j v/\h.DictOf (bX P w) a v:=
 show cH P w H h a (.dK j) from Es ok e
theorem EL {j:List (cS×V)} (ok:hU P w H h) (e:H a=some (.dK j)):j.length≤sizeLine/\(a == sysModules)=false/\∃v,KV j v/\h.DictOf (bX P w) a v:=x6 ok (.inl e)
theorem rq (ok:hU P w H h) (e:H a=some (.tup (ks.map kV))):(tupleKind (bX P w)).is h ks a:=by obtain⟨_,i,r,o,Y,q,n,x⟩:=(show cH P w H h a (.tup (ks.map kV)) from ok a _ e);exact⟨o,i.toArray,n,Y,q,x,by simpa using pc r⟩
theorem BM (ok:hU P w H h) (e:Rd H a (.dT j)):j.length≤sizeLine/\(a == sysModules)=false /\
  ∃xs,KT H j xs/\h.DictOfH (tupleKind (bX P w)) a xs:=by
 obtain⟨z,y,xs,r,o,es,f,Y,q,b,c,v⟩:=(show cH P w H h a (.dT j) from Es ok e);refine⟨z,y,xs,r,o,es,f,Y,q,b,c,fun x n=>?_,v⟩;have all:∀{l:List (List cS×V)}{m:List (List cS×Addr×Value)},KT H l m->∀x ∈ m,(tupleKind (bX P w)).is h x.1 x.2.1:=by
  intro l m s;induction s with
  | nil=>intro x n;exact nomatch n
  | @cons p s ps qs k t i=>
   intro x n;rcases List.mem_cons.mp n with e | n
   .subst e;exact rq ok (by rw [<- k.1];exact k.2.1)
   .exact i x n
 exact all r x n
end
noncomputable def oO (H:Hp) (a:Addr) (y:V) (r:Option V):Prop:=
 (∃j k,Rd H a (.dK j)/\y=kV k/\r=jM j k)\/∃j k b,Rd H a (.dT j)/\y=.ref b/\H b=some (.tup (k.map kV))/\r=jM j k
noncomputable def J2 (H:Hp) (a:Addr) (y v:V) (H':Hp):Prop:=
 (∃j k,H a=some (.dK j)/\y=kV k/\j.length < sizeLine/\H'=cF H a (.dK (putK j k v))) \/
 ∃j k b,H a=some (.dT j)/\y=.ref b/\H b=some (.tup (k.map kV))/\j.length < sizeLine/\H'=cF H a (.dT (putK j k v))
theorem oO.k {H:Hp}{a:Addr}{j:List (cS×V)}{k:cS} (e:H a=some (.dK j)):oO H a (kV k) (jM j k):=.inl ⟨j,k,.inl e,rfl,rfl⟩
theorem J2.k {H:Hp}{a:Addr}{j:List (cS×V)}{k:cS}{v:V} (e:H a=some (.dK j)) (h:j.length < sizeLine):J2 H a (kV k) v (cF H a (.dK (putK j k v))):=.inl ⟨j,k,e,rfl,h,rfl⟩
section
variable {X:Cx}{B:PN}{G:St}{H:Hp}{s:Shared}{a:Addr}{y v:V}{u r:Value}{o:Option V}{A:Around}{E:VP}
theorem zt (F:A.units+1 < cLine) (I:Inv X B G H s) (g:oO H a y (some v)) (t:RelV y u) (h:∀n z,Inv X B G H z->RelV v n->Q n z) :
  wpAny (model X.prog X.w) A (getItem (.ref a) u) Q E s:=by
 rcases g with ⟨j,k,e,f,l⟩ | ⟨j,k,b,e,f,q,l⟩
 .subst f;obtain⟨x,i,K,r,d⟩:=x6 I.hok e;obtain⟨n,m,w⟩:=n0.some_of (v:=v) (o:=valueAt K k) (by rw [l];exact r.val k);exact wpAny_getItem_of (tZ t) d.mapOf m (h n _ (I.tok _) w)
 .subst f;cases (show u=Value.ref b from t);obtain⟨x,i,xs,r,d⟩:=BM I.hok e;obtain⟨n,m,w⟩:=n0.some_of (v:=v) (o:=(atKey xs k).map (·.2)) (by rw [l];exact r.val k);obtain⟨p,S,c⟩:=Option.map_eq_some_iff.mp m;refine wpAny_getItem_heap (tupleKind_room_in1 F) (rq I.hok q) d S ?_;rw [c];exact h n _ (I.tok _) w
theorem Mb (t:A.units+1 < cLine) (I:Inv X B G H s) (g:oO H a y o) (c:RelV y u) (h:∀z,Inv X B G H z->Q (.bool o.isSome) z) :
  wpAny (model X.prog X.w) A (compareOp .In u (.ref a)) Q E s:=by
 rcases g with ⟨j,k,e,n,l⟩ | ⟨j,k,b,e,n,m,l⟩
 .subst n;obtain⟨x,f,v,r,d⟩:=x6 I.hok e;refine wpAny_in_of (tZ c) f d.mapOf ?_;rw [<- (r.val k).isSome_eq,<- l];exact h _ (I.tok _)
 .subst n;cases (show u=Value.ref b from c);obtain⟨x,f,xs,r,d⟩:=BM I.hok e;refine wpAny_in_heap (tupleKind_room_in1 t) (rq I.hok m) f d ?_;have q:=(r.val k).isSome_eq;rw [qo] at q;rw [<- q,<- l];exact h _ (I.tok _)
theorem DW (t:A.units+1 < cLine) (I:Inv X B G H s) (g:oO H a y o) (c:RelV y u) (h:∀z,Inv X B G H z->Q (.bool (!o.isSome)) z) :
  wpAny (model X.prog X.w) A (compareOp .NotIn u (.ref a)) Q E s:=by
 rcases g with ⟨j,k,e,n,l⟩ | ⟨j,k,b,e,n,m,l⟩
 .subst n;obtain⟨x,f,v,r,d⟩:=x6 I.hok e;refine wpAny_notIn_of (tZ c) f d.mapOf ?_;rw [<- (r.val k).isSome_eq,<- l];exact h _ (I.tok _)
 .subst n;cases (show u=Value.ref b from c);obtain⟨x,f,xs,r,d⟩:=BM I.hok e;refine wpAny_notIn_heap (tupleKind_room_in1 t) (rq I.hok m) f d ?_;have q:=(r.val k).isSome_eq;rw [qo] at q;rw [<- q,<- l];exact h _ (I.tok _)
end
noncomputable abbrev VV:List (V×V)->List (Value×Value)->Prop:=Paired fun p q=>RelV p.1 q.1/\RelV p.2 q.2
structure M1 (X:Cx) (o:Expr) (m:Str) (apos:Pos) (e:Expr) (cpos:Pos):Prop where
 base:attributeBase o m X.env (eval o X.env)=eval o X.env
 ku:((backTo cpos (starEach [e] X.env)).all (fun x=>!x.1) && (backToKw cpos (keywordEach [] X.env)).all (fun x=>x.1.isSome)
  && decide (([e]:Ab).length+([]:List Keyword).length+(if ([]:List Keyword).isEmpty then 0 else 1) < 30))=true
 line:(apos.endLine == cpos.line)=true
 trees:backTo cpos (starEach [e] X.env)=[(false,eval e X.env)]
structure M2 (X:Cx) (o:Expr) (m:Str) (apos:Pos) (e f:Expr) (cpos:Pos):Prop where
 base:attributeBase o m X.env (eval o X.env)=eval o X.env
 ku:((backTo cpos (starEach [e,f] X.env)).all (fun x=>!x.1) && (backToKw cpos (keywordEach [] X.env)).all (fun x=>x.1.isSome)
  && decide (([e,f]:Ab).length+([]:List Keyword).length+(if ([]:List Keyword).isEmpty then 0 else 1) < 30))=true
 line:(apos.endLine == cpos.line)=true
 trees:backTo cpos (starEach [e,f] X.env)=[(false,eval e X.env),(false,eval f X.env)]
end L2
namespace Att
open PySem PySem.W PySem.Calls PyProof.Rows
theorem lJ:∀(s:List Int) (v:LV),WellAll P h v (s.map WData.int)->IntsAre v s:=by
 intro s;induction s with
 | nil=>intro v w;rw [eO] at w;cases w;exact .nil
 | cons n s i=>
  intro v w;rw [List.map_cons] at w;cases w with
  | cons a b=>cases a;exact .cons _ _ (i _ b)
theorem yQ {l:OpenLaw} (u:l.most=some n)
  (p:l.row.toRowW.claim.pre i=true) (w:WellAll P h N i) :
  ∃a v s,N=[Value.ref a]/\i=[WData.list (s.map WData.int)]/\h.get? a=some { cls:=.type "list",data:=.seq v.toArray }/\IntsAre v s/\s.length≤n:=by
 have c:WShape.hasAll [] i [.list .int]=true:=(pre_splitW p).1;have m:l.pre.holds [] { args:=i }=true:=(pre_splitW p).2;obtain⟨d,r,rfl,Y,q⟩:=hasAllW_cons c;obtain rfl:=hasAllW_nil q;obtain⟨xs,rfl,t⟩:=hasW_list Y;obtain⟨s,rfl⟩:=items_int t;have k:s.length≤n:=by
  unfold OpenLaw.pre at m;have f:(WTm.not (.lt (.lit (.int (n:Int))) (.len (.arg 0)))).holds [] { args:=[.list (s.map .int)] }=true:=by have f:=(holds_andW m).1;rw [u] at f;exact f
  have b:=condW_of f (w_not (w_lt w_lit (w_len_list (w_arg rfl))));rw [List.length_map] at b;refine Nat.le_of_not_lt fun x=>?_;have g:(n:Int) < ((s.length:Nat):Int):=by lia
  first
   | (rw [dH g] at b;exact absurd b (by decide))
   | (simp at b;lia)
 cases w with
 | cons j y=>
  cases y;cases j with
  | list o e=>exact⟨_,_,s,rfl,rfl,o,lJ s _ e,k⟩
theorem yV (l:OpenLaw) (a:List WData):l.row.toRowW.claim.post a (.bool true) a=true:=
 postW_of (r:=l.row.toRowW) (X:=(true == true))
  (show WShape.has [] (.bool true) .bool=true by first | rfl | decide | simp [WShape.has,WShape.arms,WShape.armsAll])
  (show (WTm.eq .res (.lit (.bool true))).value [] { args:=a,res:=some (.bool true),after:=a }=some (.bool (true == true)) from w_eq_bool (w_res rfl) w_lit) rfl
theorem attach_call {l:OpenLaw}
  (J:l.most=some n) (u:i.params.defaults=[])
  (call:∀(w:World) (h s:Shared) (mg y:SV) (x:Addr) (o:Obj) (H c d:Value) (a:Addr) (v:LV) (k:List Int),
   Ground N loose [] XP w h mg y s.heap->YP w s.heap ->
   s.heap.get? x=some o->o.data=.func (docDef i.name i.params i.body i.scope H c d)->s.heap.CodeRec c i.name->mg i.name=some (.ref x) ->
   s.heap.get? a=some { cls:=.type "list",data:=.seq v.toArray }->IntsAre v k->k.length≤n->s.gens=#[] ->
   codeAny (model l.prog w) callerA (.call (.ref x) ⟨[.ref a],[]⟩) (fun r z=>r=.ok (.ret (.bool true))/\OldK s.heap z.heap/\z.os=s.os/\AllBare z.gens) s) :
  WalkO N loose XP YP l.row.toRowW i [] (fun f v=>PySem.call f v):=by
 intro w h s mg y G Y x o H c d V kV L B m D g C S K Q p F O j E;obtain rfl:V=.none:=Dflts.none D u;obtain rfl:kV=.none:=Dflts.noKw D;obtain⟨a,v,k,rfl,rfl,b,t,e⟩:=yQ J p j;refine enter_call (jh (call w h s mg y x o H c d a v k G Y L (fd_plain B) m g b t e C) fun r z M=>?_);obtain⟨rfl,q,P,A⟩:=M;exact⟨.inl ⟨.bool true,.bool true,[],rfl,fun _=>rfl,.bool true,yV l _,fun _=>⟨List.Pairwise.nil,fun _ I=>(nomatch I)⟩⟩,q,P,A⟩
end Att
namespace L2
open PySem PySem.Spec PyProof.Rows
theorem oU:∀{v:LV}{s:List Int},IntsAre v s->aU (s.map V.int) v
 | _,_,.nil=>.nil
 | _,_,.cons n t h=>.cons ⟨t,rfl⟩ (oU h)
noncomputable def zJ (H:Hp):Prop:=∀b,H b=none\/∃o xs,H b=some (.frz o (.lst xs))
theorem Bp {P:Program}{w:World}{K:FG}{mg W:SV}{CX:zL}{k:Nat}{Q a:Addr}{fd:FuncData}{x:Str}{sp:Sp}{t:Shared}{y:LV}{L:List Int}
  (KX:K.In t.heap) (D:t.heap.Ns mainGlobals mg) (g:t.heap.Ns builtinsNs W) (R:∀x:Str,x≠"__name__"->W x=bootBuiltins x) (C:t.heap.NoLimit) (hg:t.gens=#[])
  (N:t.heap.get? a=some { cls:=.type "list",data:=.seq y.toArray }) (J:IntsAre y L) (hl:L.length≤sizeLine) (hr:Room k callerA)
  (F:∀base:Heap,K.In base->base.Ns mainGlobals mg->FnOk P w K mg base CX k Q fd [x] sp) (l:∀(s:Shared) (u:Value),BindsTo s fd ⟨[u],[]⟩ [(x,u)])
  (U:∀H:Hp,zJ H->eN K H a (L.map V.int)->sp [.ref a] H (fun v _=>v=.bl true) fun _ _ _=>False)
  (X:∀H e z,CX [] H t (fun _ _ _=>False) e z->False) :
  codeAny (model P w) callerA (.call (.ref Q) ⟨[.ref a],[]⟩) (fun r z=>r=.ok (.ret (.bool true))/\OldK t.heap z.heap/\z.os=t.os/\AllBare z.gens) t:=by
 have rv:=oU J;have I:=J.length;have j:∀H:Hp,zJ H->eN K H a (L.map V.int)->hU P w H t.heap->(∀b,H b≠none->b=a)->(H a≠none->K.lookup a=none) ->
   codeAny (model P w) callerA (.call (.ref Q) ⟨[.ref a],[]⟩) (fun r z=>r=.ok (.ret (.bool true))/\OldK t.heap z.heap/\z.os=t.os/\AllBare z.gens) t:=by
  intro H hO hS E hA hK;have p:∀{b:Addr}{o:Obj},t.heap.get? b=some o->H b=none->(rA t.heap H).get? b=some o:=fun e n=>BC e n
  have Z:∀{b:Addr}{o:Obj}{es:Array DictEntry}{A:Nat},t.heap.get? b=some o->o.data=.dict es A->H b=none:=fun {b o es A} e d=>by
   cases f:H b with
   | none=>rfl
   | some u=>have O:b=a:=hA b (by rw [f];simp);subst O;rw [N] at e;cases e;have d':Data.seq y.toArray _=Data.dict es A:=d;cases d'
  have i:∀{b:Addr}{m:SV},t.heap.Ns b m->(rA t.heap H).Ns b m:=fun {b m} ⟨o,es,A,e,d,r⟩=>⟨o,es,A,p e (Z e d),d,r⟩;have B:K.In (rA t.heap H):=fun b o e=>p (KX b o e) (by
   cases f:H b with
   | none=>rfl
   | some u=>have O:b=a:=hA b (by rw [f];simp);subst O;rw [hK (by rw [f];simp)] at e;cases e)
  have hM:Mod K mg (rA t.heap H):=⟨B,i D,⟨W,i g,R⟩,let ⟨mc,Y,q⟩:=C;⟨mc,i Y,q⟩⟩;have e0:Env0 P w K mg (rA t.heap H) callerA [] t H:=⟨rfl,hM,fun b o e=>Dp e,Nat.le_of_eq (ze _ _),trivial,fun b g=>absurd (show b ∈ ([]:List Addr) from g) (by simp),E,.of_eq hg⟩;refine jh ((F _ B (i D)).run callerA [] t H ⟨[.ref a],[]⟩ [.ref a] [.ref a] _ _ hr e0 (l t (.ref a)) (.cons rfl .nil) (U H hO hS)) fun r z h=>?_;cases r with
  | error e=>exact (X H e z h).elim
  | ok fl=>
   cases fl with
   | next=>exact False.elim h
   | brk=>exact False.elim h
   | cont=>exact False.elim h
   | ret u=>
    obtain⟨v,H',os,S,un,G,r',f⟩:=h;have q':v=.bl true:=f;subst q';obtain rfl:u=Value.bool true:=r';refine⟨rfl,OldK.of_keep fun b o e=>?_,os,S⟩;cases f:H b with
    | none=>exact un.keep b o e f (by intro c;exact absurd (show b ∈ ([]:List Addr) from c) (by simp)) (by simp)
    | some u=>
     rcases hO b with c | ⟨ob,xs,c⟩
     .rw [f] at c;cases c
     .have z2:=un.frzs b ob _ c;obtain⟨e1,_⟩:=E b _ c;obtain⟨e2,_⟩:=G b _ z2;rw [e] at e1;cases e1;exact e2
 cases T:K.lookup a with
 | some o=>have e:=KX a o T;rw [N] at e;cases e;refine j (fun _=>none) (fun _=>.inl rfl) (.inr ⟨_,y.toArray,_,T,rfl,rfl,rfl,by rw [List.size_toArray,I];exact hl,by simpa using rv⟩) (fun b u c=>by have M:(none:Option HO)=some u:=c;cases M) (fun b c=>absurd rfl c) fun c=>absurd rfl c
 | none=>
  refine j (fun b=>if b=a then some (.frz { cls:=.type "list",data:=.seq y.toArray } (.lst (L.map V.int))) else none) (fun b=>?_) (.inl (.inr ⟨{ cls:=.type "list",data:=.seq y.toArray },if_pos rfl⟩)) (fun b u c=>?_) (fun b c=>?_) fun _=>T
  .by_cases g:b=a
   .exact .inr ⟨_,_,if_pos g⟩
   .exact .inl (if_neg g)
  .by_cases g:b=a
   .have M:=(if_pos g).symm.trans c;cases M;subst g;exact⟨N,by rw [List.length_map];exact hl,y,_,rv,N⟩
   .have M:=(if_neg g).symm.trans c;cases M
  .by_cases g:b=a
   .exact g
   .exact absurd (if_neg g) c
noncomputable abbrev MT {K:FG} (_:K.In h):FG:=K
theorem CA {l:PySem.W.OpenLaw}{n k:Nat}{q:Program}{c:LS}{D:(SV)->Heap->Prop}{P:World->Heap->Prop}{d:DefRec}{K:Params->FG}{CX:World->zL}{sp:World->Sp}{x:Str}
  (R:l.most=some n) (y:n≤sizeLine) (p:d.params.defaults=[]) (T:Room k callerA)
  (L:∀(w:World) (h:Heap),P w h->(K w.params).In h)
  (F:∀(w:World) (mg:SV) (r:Addr) (h:Heap),(K w.params).In h->h.Ns mainGlobals mg->mg d.name=some (.ref r) ->
   ∃fd:FuncData,(∀(s:Shared) (u:Value),BindsTo s fd ⟨[u],[]⟩ [(x,u)]) /\
    ∀base:Heap,(K w.params).In base->base.Ns mainGlobals mg->FnOk l.prog w (K w.params) mg base (CX w) k r fd [x] (sp w))
  (S:∀(w:World) (H:Hp) (a:Addr) (t:List Int),t.length≤n->zJ H->eN (K w.params) H a (t.map V.int)->sp w [.ref a] H (fun v _=>v=.bl true) fun _ _ _=>False)
  (C:∀(w:World) (H:Hp) (s:Shared) (e:Value) (z:Shared),CX w [] H s (fun _ _ _=>False) e z->False) :
  PySem.W.WalkO q c D P l.row.toRowW d [] (fun f B=>PySem.call f B):=by
 refine Att.attach_call R p fun w A m mg mb r o pm U E a B t G Y Z W N g j i b Q=>?_;have X:=L w _ Y;obtain⟨fd,M,I⟩:=F w mg r _ X G.T.g g;exact Bp X G.T.g G.T.b G.T.builtins G.T.nolimit Q j i (bL b y) T I M (fun H O J=>S w H a t b O J) fun H e z=>C w H m e z
theorem z5 {l:PySem.W.OpenLaw}{n k:Nat}{b:Program}{o:LS}{X:(SV)->Heap->Prop}{P:World->Heap->Prop}{d:DefRec}{K:Params->FG}{CX:zL}{sp:FG->Sp}{x:Str}
  (j:l.most=some n) (r:n≤sizeLine) (m:d.params.defaults=[]) (y:Room k callerA)
  (i:∀(w:World) (h:Heap),P w h->(K w.params).In h)
  (F:∀(w:World) (mg:SV) (t:Addr) (h:Heap),(K w.params).In h->h.Ns mainGlobals mg->mg d.name=some (.ref t) ->
   ∃fd:FuncData,(∀(s:Shared) (u:Value),BindsTo s fd ⟨[u],[]⟩ [(x,u)]) /\
    ∀base:Heap,(K w.params).In base->base.Ns mainGlobals mg->FnOk l.prog w (K w.params) mg base CX k t fd [x] (sp (K w.params)))
  (p:∀(K:FG) (H:Hp) (a:Addr) (c:List Int),c.length≤n->zJ H->eN K H a (c.map V.int)->sp K [.ref a] H (fun v _=>v=.bl true) fun _ _ _=>False)
  (C:∀(H:Hp) (s:Shared) (e:Value) (z:Shared),CX [] H s (fun _ _ _=>False) e z->False) :
  PySem.W.WalkO b o X P l.row.toRowW d [] (fun f S=>PySem.call f S):=
 CA (K:=K) (CX:=fun _=>CX) (sp:=fun w=>sp (K w.params)) j r m y i F (fun w H a c Y q g=>p (K w.params) H a c Y q g) fun _ H s e z=>C H s e z
noncomputable def iY (s:Stmt):Arguments:=match s with
 | .FunctionDef _ a _ _ _ _ _ _ _ _=>a
 | _=>{ posonlyargs:=[],args:=[],vararg:=none,kwonlyargs:=[],kw_defaults:=[],kwarg:=none,defaults:=[] }
noncomputable def dc (s:Stmt):List Stmt:=match s with
 | .FunctionDef _ _ b _ _ _ _ _ _ _=>b
 | _=>[]
noncomputable def aP (s:Stmt):Scope:=match s with
 | .FunctionDef _ _ _ _ _ _ sc _ _ _=>sc
 | _=>{ kind:=.function,names:=[],isGenerator:=false,isCoroutine:=false }
noncomputable abbrev sG:zL:=fun _ _ _ _ _ _=>False
noncomputable abbrev E0:XK:=fun _ _ _=>False
theorem A5:wV sG X E0:=fun _ _ _ _ _ _ _ h=>h.elim
structure Fun (K:FG) (x qual:Str) (st:Stmt) (f:Addr) (fd:FuncData):Prop where
 ex:∃(oc:Value) (od:Option Addr) (kV doc pm:Value) (an:Option Addr) (cdv ct:Value) (osl:Array (OV)),
  fd=PySem.W.fnOf x qual (iY st) (dc st) (aP st) .none kV doc pm an cdv ct/\K.lookup f=some ⟨oc,od,.func fd,osl⟩/\PySem.W.codeIn K cdv qual=true
 kp:PySem.W.keepIn K (.ref f)=true
section
variable {P:Program}{w:World}{K:FG}{mg:SV}{base:Heap}
theorem Fun.ok {x u:Str}{st:Stmt}{f:Addr}{fd:FuncData}{N ps:LS}{k:Nat}{sp:Sp} (F:Fun K x u st f fd) (S:FnScope N ps (aP st)) (len:∀v H Q E,sp v H Q E->v.length=ps.length)
  (b:∀(c:Value) (A:Around) (o:List Env) (s:Shared) (H:Hp) (v:List V) (Q:VK) (E:XK),Room k (A.deeper (envOfC u (aP st) s.heap.objs.size f c))->sp v H Q E ->
   ∃t,fN (lQ sG P w K mg base N u (aP st) f c A o s H E).nox (dc st) t/\t { nx:=fun _ H'=>Q .non H',rt:=Q } (start N v) H):FnOk P w K mg base sG (k+1) f fd ps sp:=by
 obtain⟨m,g,kV,a,i,n,c,e,l,rfl,lk,d⟩:=F.ex;refine EH lk d S len fun A o s H v Q E r p=>?_;obtain⟨t,h,q⟩:=b c A o s H v Q E r p;exact⟨t,h.nox,q⟩
theorem Fun.binds {x q:Str}{st:Stmt}{f:Addr}{fd:FuncData}{ps:LS} (F:Fun K x q st f fd)
  (h:∀(kV o p:Value) (a:Option Addr) (c t:Value) (d:LV),d.length=ps.length->bindArgs (PySem.W.fnOf x q (iY st) (dc st) (aP st) .none kV o p a c t) ⟨d,[]⟩=pure (ps.zip d)):Binds K fd ps []:=by
 obtain⟨n,k,kV,o,p,a,c,t,s,rfl,lk,e⟩:=F.ex;exact .all (h kV o p a c t)
theorem BF {x q:Str}{st:Stmt}{f:Addr}{h:Value}{e a:Option Addr}{s:Array (OV)}{kV o p d t:Value} (l:K.lookup f=some ⟨h,e,.func (PySem.W.fnOf x q (iY st) (dc st) (aP st) .none kV o p a d t),s⟩)
  (c:PySem.W.codeIn K d q=true) (k:PySem.W.keepIn K (.ref f)=true):Fun K x q st f (PySem.W.fnOf x q (iY st) (dc st) (aP st) .none kV o p a d t):=⟨⟨h,e,kV,o,p,a,d,t,s,rfl,l,c⟩,k⟩
end
section
variable {X:Cx}
theorem pv (i:Nat) (N:X.N[i]? = some x:=by rfl) (v:EU X.env.scope x:=by first | exact Or.inl rfl | exact Or.inr (Or.inl rfl) | exact Or.inr (Or.inr rfl)) (d:(x == ("__debug__":Str))=false:=by decide)
  (h:(x == ("__classdict__":Str))=false:=by decide):PE X (.Name x O) (Iw i):=A0 N v d h
end
noncomputable def NZ (H H':Hp):Prop:=∀b o,H b=some o->H' b=some o
end L2
namespace PySem
open PySem PyProof.Rows
namespace F
end F
section
variable {prog:Program}{w:World}{A:Around}{E:VP}{s:Shared}
inductive PairsAt {K:Type} [DecidableEq K] (knd:KeyKind prog w K) (h:Heap):LV->List (K×Value)->Prop
 | nil:PairsAt knd h [] []
 | cons {t:Addr}{key v:Value}{k:K}{us:LV}{kvs:List (K×Value)}:IsTup h t #[key,v]->knd.is k key=true->PairsAt knd h us kvs->PairsAt knd h (.ref t::us) ((k,v)::kvs)
end
end PySem
namespace Ev
open PySem L2
noncomputable def lu (a C:Addr):Heap->Prop:=fun h=>∃o,h.get? a=some o/\o.cls=.ref C
inductive P where
 | non | bl (b:Bool) | int (i:Int) | str (x:Str) | tup (xs:List P) | lst (xs:List P) | ro (xs:List P) | dct (ks:List cS) (vs:List P)
inductive D where
 | p (v:P) | ref (i:Nat)
inductive SO where
 | lst (xs:List D) | dct (ks:List cS) (vs:List D) | fz (v:P) | ins (c:Str) (ks:LS) (vs:List D) | exc (c:Str) | dtt (ks:List (List cS)) (vs:List D)
noncomputable abbrev aR:=List SO
noncomputable abbrev Lc:=List (Option D)
noncomputable def Mm (K:FG) (a:Addr) (xs:List V):Prop:=n6 K (fun _=>none) a xs
noncomputable def Mn (K:FG) (a:Addr) (xs:List V):Prop:=eN K (fun _=>none) a xs
noncomputable def TupAt (K:FG) (H:Hp) (a:Addr) (xs:List V):Prop:=H a=some (.tup xs)\/Mm K a xs
noncomputable def LstAt (F:Aa) (H:Hp) (a:Addr) (xs:List V):Prop:=F a/\H a=some (.lst xs)
noncomputable def zI (K:FG) (F:Aa) (H:Hp) (a:Addr) (xs:List V):Prop:=(F a/\∃o,H a=some (.frz o (.lst xs)))\/Mn K a xs
variable {K:FG}{H:Hp}{a:Addr}{xs:List V}
theorem TupAt.sq (h:TupAt K H a xs):n6 K H a xs:=by
 rcases h with h | (h | h)
 .exact .inl (.inl h)
 .rcases h with h | ⟨o,h⟩ <;> cases h
 .exact .inr h
variable {F:Aa}
theorem LstAt.sq (h:LstAt F H a xs):eN K H a xs:=.inl (.inl h.2)
theorem zI.sq (h:zI K F H a xs):eN K H a xs:=by
 rcases h with ⟨_,o,h⟩ | (h | h)
 .exact .inl (.inr ⟨o,h⟩)
 .rcases h with h | ⟨o,h⟩ <;> cases h
 .exact .inr h
section
variable (K:FG) (F:Aa) (H:Hp)
mutual
noncomputable def RP:P->V->Prop
 | .non,v=>v=.non
 | .bl b,v=>v=.bl b
 | .int i,v=>v=.int i
 | .str x,v=>v=.str x
 | .tup ds,v=>∃a xs,v=.ref a/\TupAt K H a xs/\bR ds xs
 | .lst ds,v=>∃a xs,v=.ref a/\LstAt F H a xs/\bR ds xs
 | .ro ds,v=>∃a xs,v=.ref a/\zI K F H a xs/\bR ds xs
 | .dct ks ds,v=>∃a kvs,v=.ref a/\F a/\H a=some (.dK kvs)/\kvs.map (·.1)=ks/\bR ds (kvs.map (·.2))
noncomputable def bR:List P->List V->Prop
 | [],xs=>xs=[]
 | d::ds,xs=>∃x r,xs=x::r/\RP d x/\bR ds r
end
noncomputable def RD (m:List Addr):D->V->Prop
 | .p d,v=>RP K F H d v
 | .ref i,v=>∃a,v=.ref a/\m[i]? = some a
noncomputable def du (m:List Addr):List D->List V->Prop
 | [],xs=>xs=[]
 | d::s,xs=>∃x r,xs=x::r/\RD K F H m d x/\du m s r
noncomputable def RO (m:List Addr) (a:Addr):SO->Prop
 | .lst d=>∃xs,H a=some (.lst xs)/\du K F H m d xs
 | .dct s d=>∃k,H a=some (.dK k)/\k.map (·.1)=s/\du K F H m d (k.map (·.2))
 | .fz v=>RP K F H v (.ref a)
 | .ins c s d=>∃C x k,PySem.W.nsIn K mainGlobals c=some (some (.ref C))/\H a=some (.ins C x k)/\k.map (·.1)=s/\du K F H m d (k.map (·.2))
 | .dtt s d=>∃k,H a=some (.dT k)/\k.map (·.1)=s/\du K F H m d (k.map (·.2))
 | .exc c=>∃C,PySem.W.nsIn K mainGlobals c=some (some (.ref C))/\H a=some (.ext (lu a C))
noncomputable def SO.own:SO->Prop
 | .fz _=>False
 | _=>True
structure Rel (m:List Addr) (S:aR):Prop where
 len:m.length=S.length
 nd:m.Nodup
 obj:∀(i:Nat) a o,m[i]? = some a->S[i]? = some o->RO K F H m a o
 sep:∀(i:Nat) a o,m[i]? = some a->S[i]? = some o->o.own->¬F a
 trk:∀a ∈ m,H a≠none
 ft:∀a,F a->H a≠none
end
structure Kp (F:Aa) (m:List Addr) (H:Hp) (F':Aa) (m':List Addr) (H':Hp):Prop where
 pre:∃n,m'=m++n
 frz:∀b,F b->F' b
 frk:∀b o,F b->H b=some o->H' b=some o
 tup:∀b xs,H b=some (.tup xs)->H' b=some (.tup xs)
structure Stp (F:Aa) (m:List Addr) (H:Hp) (F':Aa) (m':List Addr) (H':Hp):Prop where
 pre:∃n,m'=m++n
 oth:∀b o,H b=some o->b ∉ m->H' b=some o
 frz:∀b,F b->F' b
 frk:∀b o,F b->H b=some o->H' b=some o
 tup:∀b xs,H b=some (.tup xs)->H' b=some (.tup xs)
 trk:∀b,H b≠none->H' b≠none
 nf:∀b,F' b->F b\/H b=none\/b ∈ m
 nm:∀b,b ∈ m'->b ∈ m\/H b=none
variable {F':Aa}{m:List Addr}{m':List Addr}{H':Hp}
theorem Stp.kp (s:Stp F m H F' m' H'):Kp F m H F' m' H':=⟨s.pre,s.frz,s.frk,s.tup⟩
theorem Stp.refl:Stp F m H F m H:=
 ⟨⟨[],by simp⟩,fun _ _ h _=>h,fun _ h=>h,fun _ _ _ h=>h,fun _ _ h=>h,fun _ h=>h,fun _ h=>.inl h,fun _ h=>.inl h⟩
theorem Stp.trans (a:Stp F m H C k I) (b:Stp C k I B r Y):Stp F m H B r Y where
 pre:=by obtain⟨f,s⟩:=a.pre;obtain⟨t,n⟩:=b.pre;exact⟨f++t,by rw [n,s,dQ]⟩
 oth:=fun c o h x=>b.oth c o (a.oth c o h x) fun z=>by
  rcases a.nm c z with z | z
  .exact x z
  .rw [h] at z;cases z
 frz:=fun c h=>b.frz c (a.frz c h)
 frk:=fun c o h e=>b.frk c o (a.frz c h) (a.frk c o h e)
 tup:=fun c xs h=>b.tup c xs (a.tup c xs h)
 trk:=fun c h=>b.trk c (a.trk c h)
 nf:=fun c h=>by
  rcases b.nf c h with h | h | h
  .exact a.nf c h
  .by_cases e:H c=none
   .exact .inr (.inl e)
   .exact absurd h (a.trk c e)
  .rcases a.nm c h with h | h
   .exact .inr (.inr h)
   .exact .inr (.inl h)
 nm:=fun c h=>by
  rcases b.nm c h with h | h
  .exact a.nm c h
  .by_cases e:H c=none
   .exact .inr e
   .exact absurd h (a.trk c e)
section
variable {K:FG}{F F':Aa}{H H':Hp}{m m':List Addr}{S O:aR}
theorem TupAt.kp (s:Kp F m H F' m' H') (h:TupAt K H a xs):TupAt K H' a xs:=by
 rcases h with h | h
 .exact .inl (s.tup _ _ h)
 .exact .inr h
theorem LstAt.kp (s:Kp F m H F' m' H') (h:LstAt F H a xs):LstAt F' H' a xs:=⟨s.frz _ h.1,s.frk _ _ h.1 h.2⟩
theorem zI.kp (s:Kp F m H F' m' H') (h:zI K F H a xs):zI K F' H' a xs:=by
 rcases h with ⟨f,o,h⟩ | h
 .exact .inl ⟨s.frz _ f,o,s.frk _ _ f h⟩
 .exact .inr h
mutual
theorem RP.kp (s:Kp F m H F' m' H'):∀{d:P}{v:V},RP K F H d v->RP K F' H' d v
 | .non,_,h=>h
 | .bl _,_,h=>h
 | .int _,_,h=>h
 | .str _,_,h=>h
 | .tup _,_,h=>by obtain⟨a,xs,e,t,r⟩:=h;exact⟨a,xs,e,t.kp s,bR.kp s r⟩
 | .lst _,_,h=>by obtain⟨a,xs,e,t,r⟩:=h;exact⟨a,xs,e,t.kp s,bR.kp s r⟩
 | .ro _,_,h=>by obtain⟨a,xs,e,t,r⟩:=h;exact⟨a,xs,e,t.kp s,bR.kp s r⟩
 | .dct _ _,_,h=>by obtain⟨a,kvs,e,f,t,k,r⟩:=h;exact⟨a,kvs,e,s.frz _ f,s.frk _ _ f t,k,bR.kp s r⟩
theorem bR.kp (s:Kp F m H F' m' H'):∀{ds:List P}{xs:List V},bR K F H ds xs->bR K F' H' ds xs
 | [],_,h=>h
 | _::_,_,h=>by obtain⟨x,r,e,h1,h2⟩:=h;exact⟨x,r,e,RP.kp s h1,bR.kp s h2⟩
end
theorem RD.kp (s:Kp F m H F' m' H'):∀{d:D}{v:V},RD K F H m d v->RD K F' H' m' d v
 | .p _,_,h=>RP.kp s h
 | .ref i,_,h=>by obtain⟨a,e,h⟩:=h;obtain⟨n,x⟩:=s.pre;refine⟨a,e,?_⟩;rw [x];have k:i < m.length:=(bw.mp h).1;rw [List.getElem?_append_left k];exact h
theorem du.kp (s:Kp F m H F' m' H'):∀{d:List D}{xs:List V},du K F H m d xs->du K F' H' m' d xs
 | [],_,h=>h
 | _::_,_,h=>by obtain⟨x,r,e,a,n⟩:=h;exact⟨x,r,e,RD.kp s a,du.kp s n⟩
variable {d:P}{v:V}
theorem RP.mono (s:Stp F m H F' m' H') (h:RP K F H d v):RP K F' H' d v:=RP.kp s.kp h
theorem bR.mono (s:Stp F m H F' m' H') {d:List P}{v:List V} (h:bR K F H d v):bR K F' H' d v:=bR.kp s.kp h
theorem RD.mono (s:Stp F m H F' m' H') {d:D}{v:V} (h:RD K F H m d v):RD K F' H' m' d v:=RD.kp s.kp h
theorem du.mono (s:Stp F m H F' m' H') {d:List D}{v:List V} (h:du K F H m d v):du K F' H' m' d v:=du.kp s.kp h
theorem bR.length:∀{d:List P}{xs:List V},bR K F H d xs->d.length=xs.length
 | [],_,h=>by rw [show _=([]:List V) from h] <;> rfl
 | _::_,_,h=>by obtain⟨x,r,e,_,a⟩:=h;rw [e,bo,bo,bR.length a]
theorem du.length:∀{d:List D}{xs:List V},du K F H m d xs->d.length=xs.length
 | [],_,h=>by rw [show _=([]:List V) from h] <;> rfl
 | _::_,_,h=>by obtain⟨x,r,e,_,a⟩:=h;rw [e,bo,bo,du.length a]
theorem bR.get:∀{s:List P}{xs:List V}{i:Nat}{d:P},bR K F H s xs->s[i]? = some d->∃x,xs[i]? = some x/\RP K F H d x
 | [],_,_,_,_,e=>by simp at e
 | _::_,_,0,_,h,e=>by obtain⟨x,r,rfl,n,_⟩:=h;simp at e;subst e;exact⟨x,rfl,n⟩
 | _::_,_,i+1,d,h,e=>by obtain⟨x,r,rfl,_,k⟩:=h;obtain⟨y,a,f⟩:=bR.get (i:=i) k (by simpa using e);exact⟨y,by simpa using a,f⟩
theorem bR.append:∀{d T:List P}{xs y:List V},bR K F H d xs->bR K F H T y->bR K F H (d++T) (xs++y)
 | [],_,_,_,h,g=>by rw [show _=([]:List V) from h];exact g
 | _::_,_,_,_,h,g=>by obtain⟨x,r,rfl,a,e⟩:=h;exact⟨x,r++_,rfl,a,bR.append e g⟩
theorem du.append:∀{d T:List D}{xs y:List V},du K F H m d xs->du K F H m T y->du K F H m (d++T) (xs++y)
 | [],_,_,_,h,g=>by rw [show _=([]:List V) from h];exact g
 | _::_,_,_,_,h,g=>by obtain⟨x,r,rfl,a,e⟩:=h;exact⟨x,r++_,rfl,a,du.append e g⟩
theorem bR.take:∀(n:Nat) {d:List P}{xs:List V},bR K F H d xs->bR K F H (d.take n) (xs.take n)
 | 0,_,_,_=>rfl
 | _+1,[],_,h=>by rw [show _=([]:List V) from h];rfl
 | n+1,_::_,_,h=>by obtain⟨x,r,rfl,a,e⟩:=h;exact⟨x,r.take n,rfl,a,bR.take n e⟩
theorem bR.drop:∀(n:Nat) {d:List P}{xs:List V},bR K F H d xs->bR K F H (d.drop n) (xs.drop n)
 | 0,_,_,h=>h
 | _+1,[],_,h=>by rw [show _=([]:List V) from h];rfl
 | n+1,_::_,_,h=>by obtain⟨x,r,rfl,_,a⟩:=h;exact bR.drop n a
theorem du.take:∀(n:Nat) {d:List D}{xs:List V},du K F H m d xs->du K F H m (d.take n) (xs.take n)
 | 0,_,_,_=>rfl
 | _+1,[],_,h=>by rw [show _=([]:List V) from h];rfl
 | n+1,_::_,_,h=>by obtain⟨x,r,rfl,a,e⟩:=h;exact⟨x,r.take n,rfl,a,du.take n e⟩
theorem du.get:∀{s:List D}{xs:List V}{i:Nat}{d:D},du K F H m s xs->s[i]? = some d->∃x,xs[i]? = some x/\RD K F H m d x
 | [],_,_,_,_,e=>by simp at e
 | _::_,_,0,_,h,e=>by obtain⟨x,r,rfl,n,_⟩:=h;simp at e;subst e;exact⟨x,rfl,n⟩
 | _::_,_,i+1,d,h,e=>by obtain⟨x,r,rfl,_,k⟩:=h;obtain⟨y,a,f⟩:=du.get (i:=i) k (by simpa using e);exact⟨y,by simpa using a,f⟩
theorem du.ofP:∀{d:List P}{xs:List V},bR K F H d xs->du K F H m (d.map .p) xs
 | [],_,h=>h
 | _::_,_,h=>by obtain⟨x,r,e,a,s⟩:=h;exact⟨x,r,e,a,du.ofP s⟩
variable {p:Addr}
theorem Rel.fresh_m (r:Rel K F H m S) (h:H p=none):p ∉ m:=fun z=>r.trk p z h
theorem Rel.fresh_F (r:Rel K F H m S) (h:H p=none):¬F p:=fun z=>r.ft p z h
variable {o:HO}
theorem fQ (x:H p=none):Stp F m H F m (cF H p o) where
 pre:=⟨[],by simp⟩
 oth:=fun b u h _=>by rw [aF (by rintro rfl;rw [x] at h;cases h)];exact h
 frz:=fun _ h=>h
 frk:=fun b u _ h=>by rw [aF (by rintro rfl;rw [x] at h;cases h)];exact h
 tup:=fun b u h=>by rw [aF (by rintro rfl;rw [x] at h;cases h)];exact h
 trk:=fun b h=>by
  by_cases e:b=p
  .subst e;rw [a1];exact fun z=>nomatch z
  .rw [aF e];exact h
 nf:=fun _ h=>.inl h
 nm:=fun _ h=>.inl h
theorem RO.kp (s:Kp F m H F' m' H') {a:Addr}{o:SO} (k:∀u,H a=some u->H' a=some u) (h:RO K F H m a o):RO K F' H' m' a o:=by
 cases o with
 | lst d=>obtain⟨xs,e,r⟩:=h;exact⟨xs,k _ e,du.kp s r⟩
 | dct b d=>obtain⟨x,e,f,r⟩:=h;exact⟨x,k _ e,f,du.kp s r⟩
 | fz v=>exact RP.kp s (show RP K F H v (.ref a) from h)
 | ins c b d=>obtain⟨C,t,x,n,e,f,r⟩:=h;exact⟨C,t,x,n,k _ e,f,du.kp s r⟩
 | dtt b d=>obtain⟨x,e,f,r⟩:=h;exact⟨x,k _ e,f,du.kp s r⟩
 | exc c=>obtain⟨C,n,e⟩:=h;exact⟨C,n,k _ e⟩
theorem RO.mono (s:Stp F m H F' m' H') {a:Addr}{o:SO} (k:∀u,H a=some u->H' a=some u) (h:RO K F H m a o):RO K F' H' m' a o:=RO.kp s.kp k h
theorem Rel.stayK (r:Rel K F H m S) (s:Kp F m H F' m H') (k:∀a u,a ∈ m->H a=some u->H' a=some u) (n:∀a,F' a->F a\/H a=none) (t:∀a,F' a->H' a≠none):Rel K F' H' m S where
 len:=r.len
 nd:=r.nd
 obj:=fun i a o e x=>(r.obj i a o e x).kp s fun u h=>k a u (cV e) h
 sep:=fun i a o e x w f=>by
  rcases n a f with f | f
  .exact r.sep i a o e x w f
  .exact r.trk a (cV e) f
 trk:=fun a h=>by
  cases q:H a with
  | none=>exact absurd q (r.trk a h)
  | some u=>rw [k a u h q];exact fun z=>nomatch z
 ft:=t
theorem Rel.stay (r:Rel K F H m S) (s:Stp F m H F' m H') (k:∀a u,a ∈ m->H a=some u->H' a=some u) (n:∀a,F' a->F a\/H a=none) (t:∀a,F' a->H' a≠none):Rel K F' H' m S where
 len:=r.len
 nd:=r.nd
 obj:=fun i a o e x=>(r.obj i a o e x).mono s fun u h=>k a u (cV e) h
 sep:=fun i a o e x w f=>by
  rcases n a f with f | f
  .exact r.sep i a o e x w f
  .exact r.trk a (cV e) f
 trk:=fun a h=>s.trk a (r.trk a h)
 ft:=t
theorem Rel.new (r:Rel K F H m S) (x:H p=none):Rel K F (cF H p o) m S:=
 r.stay (fQ x) (fun a u e h=>by rw [aF (by rintro rfl;exact r.fresh_m x e)];exact h) (fun _ f=>.inl f) fun a f=>(fQ (F:=F) (m:=m) x).trk a (r.ft a f)
theorem gP {p:Addr}{o:HO} (x:H p=none):Stp F m H F (m++[p]) (cF H p o) where
 pre:=⟨[p],rfl⟩
 oth:=(fQ (F:=F) (m:=m) (o:=o) x).oth
 frz:=fun _ h=>h
 frk:=(fQ (F:=F) (m:=m) (o:=o) x).frk
 tup:=(fQ (F:=F) (m:=m) (o:=o) x).tup
 trk:=(fQ (F:=F) (m:=m) (o:=o) x).trk
 nf:=fun _ h=>.inl h
 nm:=fun b h=>by
  rcases bi.mp h with h | h
  .exact .inl h
  .have:b=p:=by simpa using h
   subst this;exact .inr x
theorem Rel.own (r:Rel K F H m S) {p:Addr}{o:HO}{so:SO} (n:H p=none) (q:RO K F (cF H p o) (m++[p]) p so):Rel K F (cF H p o) (m++[p]) (S++[so]) where
 len:=by rw [bN,bN,r.len];rfl
 nd:=by
  rw [jq];refine⟨r.nd,by simp,fun a c b t e=>?_⟩;have:b=p:=by simpa using t
  subst this;subst e;exact r.fresh_m n c
 obj:=fun i a u x s=>by
  by_cases k:i < m.length
  .rw [List.getElem?_append_left k] at x;rw [List.getElem?_append_left (by rw [<- r.len];exact k)] at s;exact (r.obj i a u x s).mono (gP n) fun w h=>by rw [aF (by rintro rfl;rw [n] at h;cases h)];exact h
  .have l:i=m.length:=by
    have:=(bw.mp x).1;rw [bN] at this;simp at this;lia
   subst l;rw [c7 (Nat.le_refl _)] at x;rw [r.len,c7 (Nat.le_refl _)] at s;simp at x s;subst x;subst s;exact q
 sep:=fun i a u x s w f=>by
  by_cases k:i < m.length
  .rw [List.getElem?_append_left k] at x;rw [List.getElem?_append_left (by rw [<- r.len];exact k)] at s;exact r.sep i a u x s w f
  .have l:i=m.length:=by
    have:=(bw.mp x).1;rw [bN] at this;simp at this;lia
   subst l;rw [c7 (Nat.le_refl _)] at x;simp at x;subst x;exact r.fresh_F n f
 trk:=fun a h=>by
  rcases bi.mp h with h | h
  .exact (gP (F:=F) (m:=m) n).trk a (r.trk a h)
  .have:a=p:=by simpa using h
   subst this;rw [a1];exact fun z=>nomatch z
 ft:=fun a f=>(gP (F:=F) (m:=m) n).trk a (r.ft a f)
variable {i:Nat}
theorem gO (r:Rel K F H m S) (x:m[i]? = some p) (s:S[i]? = some k) (w:k.own) (t:∀xs,H p≠some (.tup xs)):Stp F m H F m (cF H p o) where
 pre:=⟨[],by simp⟩
 oth:=fun b u h a=>by rw [aF (by rintro rfl;exact a (cV x))];exact h
 frz:=fun _ h=>h
 frk:=fun b u f h=>by rw [aF (by rintro rfl;exact r.sep i _ k x s w f)];exact h
 tup:=fun b xs h=>by rw [aF (by rintro rfl;exact t xs h)];exact h
 trk:=fun b h=>by
  by_cases e:b=p
  .subst e;rw [a1];exact fun z=>nomatch z
  .rw [aF e];exact h
 nf:=fun _ h=>.inl h
 nm:=fun _ h=>.inl h
theorem tG (h:m.Nodup) (e:m[i]? = some a) (x:m[k]? = some a):i=k:=by exact (List.getElem?_inj (bw.mp e).1 h).mp (e.trans x.symm)
theorem Rel.set (r:Rel K F H m S) {i:Nat}{p:Addr}{q b:SO}{o:HO} (s:m[i]? = some p) (k:S[i]? = some q) (c:q.own) (t:∀xs,H p≠some (.tup xs)) (v:RO K F (cF H p o) m p b) :
  Rel K F (cF H p o) m (S.set i b) where
 len:=by rw [cv];exact r.len
 nd:=r.nd
 obj:=fun j a u e x=>by
  by_cases n:i=j
  .subst n;rw [s] at e;cases e;rw [et (by exact (bw.mp k).1)] at x;cases x;exact v
  .rw [cU n] at x;exact (r.obj j a u e x).mono (gO r s k c t) fun w h=>by rw [aF (by rintro rfl;exact n (tG r.nd s e))];exact h
 sep:=fun j a u e x w f=>by
  by_cases n:i=j
  .subst n;rw [s] at e;cases e;exact r.sep i p q s k c f
  .rw [cU n] at x;exact r.sep j a u e x w f
 trk:=fun a h=>(gO (o:=o) r s k c t).trk a (r.trk a h)
 ft:=fun a f=>(gO (o:=o) r s k c t).trk a (r.ft a f)
theorem qS (x:p ∈ m):Stp F m H (fun b=>F b\/b=p) m H:=
 ⟨⟨[],by simp⟩,fun _ _ h _=>h,fun _ h=>.inl h,fun _ _ _ h=>h,fun _ _ h=>h,fun _ h=>h,fun b h=>by
  rcases h with h | h
  .exact .inl h
  .subst h;exact .inr (.inr x),fun _ h=>.inl h⟩
theorem Rel.frz (r:Rel K F H m S) {i:Nat}{p:Addr}{c:SO}{v:P} (n:m[i]? = some p) (k:S[i]? = some c) (o:RP K (fun b=>F b\/b=p) H v (.ref p)):Rel K (fun b=>F b\/b=p) H m (S.set i (.fz v)) where
 len:=by rw [cv];exact r.len
 nd:=r.nd
 obj:=fun j a u x e=>by
  by_cases s:i=j
  .subst s;rw [n] at x;cases x;rw [et (by exact (bw.mp k).1)] at e;cases e;exact o
  .rw [cU s] at e;exact (r.obj j a u x e).mono (qS (cV n)) fun w h=>h
 sep:=fun j a u x e w f=>by
  by_cases s:i=j
  .subst s;rw [et (by exact (bw.mp k).1)] at e;cases e;exact w
  .rw [cU s] at e;rcases f with f | f
   .exact r.sep j a u x e w f
   .subst f;exact s (tG r.nd n x)
 trk:=r.trk
 ft:=fun a f=>by
  rcases f with f | f
  .exact r.ft a f
  .subst f;exact r.trk _ (cV n)
end
noncomputable abbrev EE:=Lc->aR->Option (D×aR)
noncomputable abbrev EV:=Lc->aR->Option (P×aR)
noncomputable abbrev EB:=Lc->aR->Option (Bool×aR)
noncomputable abbrev f6:=Lc->aR->Option (List P×aR)
inductive Fl where
 | nx | rt (d:D) | bk | ct
noncomputable abbrev ES:=Lc->aR->Option (Fl×Lc×aR)
variable {Q:Type}{β:Type}
noncomputable def ba (x:Option (Q×aR)) (f:Q->aR->Option β):Option β:=match x with
 | some (a,S)=>f a S
 | none=>none
@[simp] theorem iC (a:Q) (S:aR) (f:Q->aR->Option β):ba (some (a,S)) f=f a S:=rfl
@[simp] theorem JL (f:Q->aR->Option β):ba none f=none:=rfl
theorem ao {Q β:Type}{x:Option (Q×aR)}{f:Q->aR->Option β}{r:β} (h:ba x f=some r):∃a S,x=some (a,S)/\f a S=some r:=by
 cases x with
 | none=>cases h
 | some p=>exact⟨p.1,p.2,rfl,h⟩
noncomputable def wo (f:D->aR->Option (P×aR)):List D->aR->Option (List P×aR)
 | [],S=>some ([],S)
 | d::r,S=>ba (f d S) fun v h=>ba (wo f r h) fun U x=>some (v::U,x)
noncomputable def jx:Nat->D->aR->Option (P×aR)
 | _,.p v,S=>some (v,S)
 | 0,.ref _,_=>none
 | n+1,.ref i,S=>match S[i]? with
  | some (.lst d)=>ba (wo (jx n) d S) fun U h=>some (.lst U,h.set i (.fz (.lst U)))
  | some (.dct k d)=>ba (wo (jx n) d S) fun U h=>some (.dct k U,h.set i (.fz (.dct k U)))
  | some (.fz v)=>some (v,S)
  | some (.ins _ _ _)=>none
  | some (.exc _)=>none
  | some (.dtt _ _)=>none
  | none=>none
@[simp] theorem Ak (n:Nat) (v:P) (S:aR):jx n (.p v) S=some (v,S):=by cases n <;> rfl
theorem xP (n:Nat):∀(U:List P) (S:aR),wo (jx n) (U.map .p) S=some (U,S)
 | [],_=>rfl
 | v::r,S=>by simp [wo,xP n r S]
variable {n:Nat}{S:aR}{U:List P}
theorem eA (h:S[i]? = some (.lst (U.map .p))):jx (n+1) (.ref i) S=some (.lst U,S.set i (.fz (.lst U))):=by simp [jx,h,xP]
section
variable {K:FG}{F:Aa}{H:Hp}{m:List Addr}{S O:aR}
theorem rk 
  (n:∀{d:D}{x:V}{v:P}{F:Aa}{S O:aR},f d S=some (v,O)->Rel K F H m S->RD K F H m d x->∃F',Stp F m H F' m H/\Rel K F' H m O/\O.length=S.length/\RP K F' H v x) :
  ∀{s:List D}{xs:List V}{U:List P}{F:Aa}{S O:aR},wo f s S=some (U,O)->Rel K F H m S->du K F H m s xs->∃F',Stp F m H F' m H/\Rel K F' H m O/\O.length=S.length/\bR K F' H U xs
 | [],xs,U,F,S,O,h,r,a=>by cases h;exact⟨F,.refl,r,rfl,a⟩
 | d::s,xs,U,F,S,O,h,r,a=>by obtain⟨x,y,e,p,q⟩:=a;obtain⟨v,z,c,h⟩:=ao h;obtain⟨A,o,t,h⟩:=ao h;cases h;obtain⟨C,k,i,l,u⟩:=n c r p;obtain⟨B,b,j,w,g⟩:=rk n t i (du.mono k q);exact⟨B,k.trans b,j,w.trans l,x,y,e,RP.mono b u,g⟩
theorem mL:∀(n:Nat) {d:D}{x:V}{v:P}{F:Aa}{S O:aR},jx n d S=some (v,O)->Rel K F H m S->RD K F H m d x->∃F',Stp F m H F' m H/\Rel K F' H m O/\O.length=S.length/\RP K F' H v x
 | n,.p w,x,v,F,S,O,h,r,u=>by rw [Ak] at h;cases h;exact⟨F,.refl,r,rfl,u⟩
 | 0,.ref i,x,v,F,S,O,h,r,u=>by cases h
 | n+1,.ref i,x,v,F,S,O,h,r,u=>by
  obtain⟨a,e,f⟩:=u;subst e;have p:i < S.length:=by rw [<- r.len];exact (bw.mp f).1
  obtain⟨o,J⟩:∃o,S[i]? = some o:=⟨S[i],by simp [p]⟩;have z:=r.obj i a o f J;simp only [jx,J] at h;cases o with
  | fz w=>cases h;exact⟨F,.refl,r,rfl,z⟩
  | ins c L I=>cases h
  | exc c=>cases h
  | dtt _ _=>cases h
  | lst I=>obtain⟨U,t,g,h⟩:=ao h;cases h;obtain⟨xs,j,E⟩:=z;obtain⟨C,G,B,k,A⟩:=rk (fun h=>mL n h) g r E;obtain⟨N,s⟩:∃o,t[i]? = some o:=⟨t[i]'(by rw [k];exact p),by simp [k,p]⟩;have l:Stp C m H (fun b=>C b\/b=a) m H:=qS (cV f);have q:RP K (fun b=>C b\/b=a) H (.lst U) (.ref a):=⟨a,xs,rfl,⟨.inr rfl,j⟩,bR.mono l A⟩;exact⟨_,G.trans l,B.frz f s q,by rw [cv];exact k,q⟩
  | dct L I=>obtain⟨U,t,g,h⟩:=ao h;cases h;obtain⟨y,j,M,E⟩:=z;obtain⟨C,G,B,k,A⟩:=rk (fun h=>mL n h) g r E;obtain⟨N,s⟩:∃o,t[i]? = some o:=⟨t[i]'(by rw [k];exact p),by simp [k,p]⟩;have l:Stp C m H (fun b=>C b\/b=a) m H:=qS (cV f);have q:RP K (fun b=>C b\/b=a) H (.dct L U) (.ref a):=⟨a,y,rfl,.inr rfl,j,M,bR.mono l A⟩;exact⟨_,G.trans l,B.frz f s q,by rw [cv];exact k,q⟩
end
structure Grow (F:Aa) (H:Hp) (F':Aa) (H':Hp):Prop where
 keep:∀b o,H b=some o->H' b=some o
 frz:∀b,F b->F' b
 nf:∀b,F' b->F b\/(H b=none/\H' b≠none)
section
variable {K:FG}{F F' C B:Aa}{H H' I Y:Hp}{m:List Addr}{S O:aR}
theorem Grow.refl:Grow F H F H:=⟨fun _ _ h=>h,fun _ h=>h,fun _ h=>.inl h⟩
theorem Grow.stp (g:Grow F H F' H'):Stp F m H F' m H' where
 pre:=⟨[],by simp⟩
 oth:=fun b o h _=>g.keep b o h
 frz:=g.frz
 frk:=fun b o _ h=>g.keep b o h
 tup:=fun b xs h=>g.keep b _ h
 trk:=fun b h=>by
  cases q:H b with
  | none=>exact absurd q h
  | some o=>rw [g.keep b o q];exact fun z=>nomatch z
 nf:=fun b h=>by
  rcases g.nf b h with h | ⟨h,_⟩
  .exact .inl h
  .exact .inr (.inl h)
 nm:=fun _ h=>.inl h
theorem Rel.grow (r:Rel K F H m S) (g:Grow F H F' H'):Rel K F' H' m S:=
 r.stay g.stp (fun a u _ h=>g.keep a u h) (fun a f=>by
  rcases g.nf a f with f | ⟨f,_⟩
  .exact .inl f
  .exact .inr f) fun a f=>by
  rcases g.nf a f with f | ⟨_,f⟩
  .exact (g.stp (m:=m)).trk a (r.ft a f)
  .exact f
theorem bU {p:Addr}{o:HO} (x:H p=none):Grow F H F (cF H p o):=
 ⟨fun b u h=>by rw [aF (by rintro rfl;rw [x] at h;cases h)];exact h,fun _ h=>h,fun _ h=>.inl h⟩
theorem cz {p:Addr}{o:HO} (x:H p=none):Grow F H (fun b=>F b\/b=p) (cF H p o):=
 ⟨fun b u h=>by rw [aF (by rintro rfl;rw [x] at h;cases h)];exact h,fun _ h=>.inl h,fun b h=>by
  rcases h with h | h
  .exact .inl h
  .subst h;exact .inr ⟨x,by rw [a1];exact fun z=>nomatch z⟩⟩
theorem RP.grow (g:Grow F H F' H') (h:RP K F H d v):RP K F' H' d v:=RP.mono (m:=[]) g.stp h
theorem bR.grow (g:Grow F H F' H') (h:bR K F H d v):bR K F' H' d v:=bR.mono (m:=[]) g.stp h
theorem RP.newTup (x:H p=none) (r:bR K F H h xs):RP K F (cF H p (.tup xs)) (.tup h) (.ref p):=⟨p,xs,rfl,.inl a1,r.grow (bU x)⟩
theorem RP.newLst (x:H p=none) (r:bR K F H h xs):RP K (fun b=>F b\/b=p) (cF H p (.lst xs)) (.lst h) (.ref p):=⟨p,xs,rfl,⟨.inr rfl,a1⟩,r.grow (cz x)⟩
end
noncomputable def vC (v:P):EV:=fun _ S=>some (v,S)
noncomputable def ac (i:Nat):EE:=fun L S=>match L[i]? with
 | some (some d)=>some (d,S)
 | _=>none
noncomputable def vE (f:EE):EV:=fun L S=>ba (f L S) (jx 9)
noncomputable def eV (f:EV):EE:=fun L S=>ba (f L S) fun v h=>some (.p v,h)
noncomputable def Ll (i:Nat):EV:=vE (ac i)
noncomputable def ag (g:P->P->Option P) (a b:EV):EV:=fun L S=>ba (a L S) fun x h=>ba (b L h) fun y e=>(g x y).map fun v=>(v,e)
noncomputable def CB (g:P->Option P) (a:EV):EV:=fun L S=>ba (a L S) fun x h=>(g x).map fun v=>(v,h)
noncomputable def bV (a:EV):EB:=fun L S=>ba (a L S) fun x h=>match x with
 | .bl b=>some (b,h)
 | _=>none
noncomputable def c9 (a b:EB):EB:=fun L S=>ba (a L S) fun c h=>if c=true then b L h else some (false,h)
noncomputable def nW (a b:EB):EB:=fun L S=>ba (a L S) fun c h=>if c=true then some (true,h) else b L h
noncomputable def ec (a:EB):EB:=fun L S=>ba (a L S) fun c h=>some (!c,h)
noncomputable def vB (a:EB):EV:=fun L S=>ba (a L S) fun c h=>some (.bl c,h)
noncomputable def Io (c:EB) (a b:EV):EV:=fun L S=>ba (c L S) fun k h=>if k=true then a L h else b L h
noncomputable def aO:f6:=fun _ S=>some ([],S)
noncomputable def aM (a:EV) (r:f6):f6:=fun L S=>ba (a L S) fun x h=>ba (r L h) fun xs e=>some (x::xs,e)
noncomputable def al (g:List P->Option P) (a:f6):EV:=fun L S=>ba (a L S) fun xs h=>(g xs).map fun v=>(v,h)
noncomputable def d_:ES:=fun L S=>some (.nx,L,S)
noncomputable def ak (f g:ES):ES:=fun L S=>match f L S with
 | some (.nx,h,x)=>g h x
 | r=>r
noncomputable def ay (i:Nat) (f:EE):ES:=fun L S=>ba (f L S) fun d h=>some (.nx,L.set i (some d),h)
noncomputable def aQ (f:EE):ES:=fun L S=>ba (f L S) fun d h=>some (.rt d,L,h)
noncomputable def cM (f:EE):ES:=fun L S=>ba (f L S) fun _ h=>some (.nx,L,h)
noncomputable def dt (c:EB) (a b:ES):ES:=fun L S=>ba (c L S) fun k h=>if k=true then a L h else b L h
noncomputable def mY:ES:=fun _ _=>none
noncomputable abbrev i0:=P->Lc->Option Lc
noncomputable def ah (i:Nat):i0:=fun v L=>some (L.set i (some (.p v)))
noncomputable def cA (g:i0) (b:ES):List P->Lc->aR->Option (Fl×Lc×aR)
 | [],L,S=>some (.nx,L,S)
 | v::r,L,S=>match g v L with
  | none=>none
  | some a=>match b a S with
   | some (.nx,L2,h)=>cA g b r L2 h
   | some (.ct,L2,h)=>cA g b r L2 h
   | some (.bk,L2,h)=>some (.nx,L2,h)
   | x=>x
noncomputable def jX (i:f6) (g:i0) (b:ES):ES:=fun L S=>ba (i L S) fun xs h=>cA g b xs L h
noncomputable def dR (c:EB) (b:ES):Nat->Lc->aR->Option (Fl×Lc×aR)
 | 0,_,_=>none
 | n+1,L,S=>ba (c L S) fun k a=>if k=true then match b L a with
   | some (.nx,L2,h)=>dR c b n L2 h
   | some (.ct,L2,h)=>dR c b n L2 h
   | some (.bk,L2,h)=>some (.nx,L2,h)
   | x=>x
  else some (.nx,L,a)
noncomputable def qY (n:Nat) (c:EB) (b:ES):ES:=dR c b n
open PySem PySem.Spec PyProof.Rows L2
section
variable (K:FG)
structure RL (F:Aa) (H:Hp) (m:List Addr) (σ:L2.St) (L:Lc):Prop where
 len:σ.length=L.length
 at':∀(i:Nat) d,L[i]? = some (some d)->∃v,σ[i]? = some (some v)/\RD K F H m d v
inductive tEI (f:EE) (σ:L2.St) (H:Hp) (Q:VK):Prop
 | mk (F:Aa) (m:List Addr) (L:Lc) (S:aR) (d:D) (S':aR) (h0_:Rel K F H m S) (h1_:RL K F H m σ L) (h2_:f L S=some (d,S')) (h3_:∀v F' m' H',Stp F m H F' m' H'->Rel K F' H' m' S'->RD K F' H' m' d v->Q v H'):tEI f σ H Q
noncomputable def tE (f:EE):TE:=fun M H Q=>tEI K f M H Q
inductive tVI (f:EV) (σ:L2.St) (H:Hp) (Q:VK):Prop
 | mk (F:Aa) (m:List Addr) (L:Lc) (S:aR) (d:P) (S':aR) (h0_:Rel K F H m S) (h1_:RL K F H m σ L) (h2_:f L S=some (d,S')) (h3_:∀v F' m' H',Stp F m H F' m' H'->Rel K F' H' m' S'->RP K F' H' d v->Q v H'):tVI f σ H Q
noncomputable def tV (f:EV):TE:=fun M H Q=>tVI K f M H Q
inductive tQI (f:EB) (σ:L2.St) (H:Hp) (Q:Bool->Hp->Prop):Prop
 | mk (F:Aa) (m:List Addr) (L:Lc) (S:aR) (b:Bool) (S':aR) (h0_:Rel K F H m S) (h1_:RL K F H m σ L) (h2_:f L S=some (b,S')) (h3_:∀F' m' H',Stp F m H F' m' H'->Rel K F' H' m' S'->Q b H'):tQI f σ H Q
noncomputable def tQ (f:EB):TT:=fun M H Q=>tQI K f M H Q
inductive tVsI (f:f6) (σ:L2.St) (H:Hp) (Q:List V->Hp->Prop):Prop
 | mk (F:Aa) (m:List Addr) (L:Lc) (S:aR) (ds:List P) (S':aR) (h0_:Rel K F H m S) (h1_:RL K F H m σ L) (h2_:f L S=some (ds,S')) (h3_:∀xs F' m' H',Stp F m H F' m' H'->Rel K F' H' m' S'->bR K F' H' ds xs->Q xs H'):tVsI f σ H Q
noncomputable def n9 (f:f6):TA:=fun M H Q=>tVsI K f M H Q
noncomputable def LB (D:Ends) (F:Aa) (m:List Addr) (M:L2.St) (H:Hp):Fl->Prop
 | .nx=>D.nx M H
 | .bk=>D.bk M H
 | .ct=>D.ct M H
 | .rt d=>∀v,RD K F H m d v->D.rt v H
inductive tStI (f:ES) (D:Ends) (σ:L2.St) (H:Hp):Prop
 | mk (F:Aa) (m:List Addr) (L:Lc) (S:aR) (fl:Fl) (L':Lc) (S':aR) (h0_:Rel K F H m S) (h1_:RL K F H m σ L) (h2_:f L S=some (fl,L',S')) (h3_:∀σ' F' m' H',Stp F m H F' m' H'->Rel K F' H' m' S'->RL K F' H' m' σ' L'->LB K D F' m' σ' H' fl):tStI f D σ H
noncomputable def fP (f:ES):TS:=fun D M H=>tStI K f D M H
end
section
variable {K:FG}{F F':Aa}{H H':Hp}{m m':List Addr}{M:L2.St}{L:Lc}{S:aR}
theorem RL.mono (s:Stp F m H F' m' H') (h:RL K F H m M L):RL K F' H' m' M L:=⟨h.len,fun i d e=>by obtain⟨v,x,r⟩:=h.at' i d e;exact⟨v,x,RD.mono s r⟩⟩
theorem RL.set (h:RL K F H m M L) (r:RD K F H m d v) (i:Nat):RL K F H m (M.set i (some v)) (L.set i (some d)):=⟨by rw [cv,cv];exact h.len,fun j e q=>by
 by_cases x:i=j
 .subst x;by_cases a:i < L.length
  .rw [et a] at q;cases q;exact⟨v,et (by rw [h.len];exact a),r⟩
  .rw [List.getElem?_eq_none (by rw [cv];lia)] at q;cases q
 .rw [cU x] at q;rw [cU x];exact h.at' j e q⟩
end
section
variable {X:Cx}{e:Expr}{T:Ab}{l:Stmt}{aq:List Stmt}
theorem _root_.L2.PE.imp' (h:PE X e t) (i:∀M H Q,k M H Q->t M H Q):PE X e k:=fun p s M H Q I q=>h p s M H Q I (i M H Q q)
theorem _root_.L2.PT.imp' (h:PT X e t) (i:∀M H Q,k M H Q->t M H Q):PT X e k:=fun p s M H Q I q=>h p s M H Q I (i M H Q q)
theorem _root_.L2.PW.imp' (h:PW X e t) (i:∀M H Q,k M H Q->t M H Q):PW X e k:=fun w p s M H Q I q=>h w p s M H Q I (i M H Q q)
theorem _root_.L2.PA.imp' (h:PA X T t) (i:∀M H Q,k M H Q->t M H Q):PA X T k:=fun N p s M H Q I q=>h N p s M H Q I (i M H Q q)
theorem _root_.L2.PS.imp' (h:PS X l t) (i:∀D M H,k D M H->t D M H):PS X l k:=fun p s M H D I q=>h p s M H D I (i D M H q)
theorem _root_.L2.fN.imp' (h:fN X aq t) (i:∀D M H,k D M H->t D M H):fN X aq k:=fun p s M H D I q=>h p s M H D I (i D M H q)
end
section
variable {X:Cx}{a b c e:Expr}{T:Ab}{y z:EV}{fe:EE}{N:Pos}
theorem K1 (h:PE X e (tE X.K fe)):PE X e (tV X.K (vE fe)):=h.imp' fun M H Q z=>by obtain⟨F,m,L,S,d,O,r,l,q,k⟩:=z;obtain⟨a,x,n,f⟩:=ao q;refine⟨F,m,L,S,a,x,r,l,n,fun v F' m' H' s b t=>?_⟩;obtain⟨B,w,c,_,p⟩:=mL 9 f b t;exact k v B m' H' (s.trans w) c p
theorem Hh (h:PE X e (tV X.K y)):PE X e (tE X.K (eV y)):=h.imp' fun M H Q z=>by obtain⟨F,m,L,S,d,O,r,l,q,k⟩:=z;obtain⟨x,c,a,n⟩:=ao q;cases n;exact⟨F,m,L,S,x,O,r,l,a,fun v F' m' H' s f b=>k v F' m' H' s f b⟩
theorem H_ (i:Nat) (s:X.N[i]? = some x:=by rfl) (f:EU X.env.scope x:=by first | exact Or.inl rfl | exact Or.inr (Or.inl rfl) | exact Or.inr (Or.inr rfl)) (n:(x == ("__debug__":Str))=false:=by decide)
  (h:(x == ("__classdict__":Str))=false:=by decide):PE X (.Name x N) (tE X.K (ac i)):=(A0 s f n h).imp' fun M H Q z=>by
 obtain⟨F,m,L,S,d,O,r,l,q,k⟩:=z;unfold ac at q;split at q
 .rename_i c e;cases q;obtain⟨v,a,b⟩:=l.at' i _ e;exact⟨v,a,k v F m H .refl r b⟩
 .cases q
theorem xC (h:PE X e (tC v)) (r:∀F H,RP X.K F H d v):PE X e (tV X.K (vC d)):=h.imp' fun M H Q z=>by obtain⟨F,m,L,S,a,O,x,l,q,k⟩:=z;cases q;exact k v F m H .refl x (r F H)
theorem Ld {i h N}:PE X (.Constant (.int i) h N) (tV X.K (vC (.int i))):=xC FZ fun _ _=>rfl
theorem M5 {i h N}:PE X (.Constant (.bool i) h N) (tV X.K (vC (.bl i))):=xC IT fun _ _=>rfl
theorem K8 {h N}:PE X (.Constant .none h N) (tV X.K (vC .non)):=xC FY fun _ _=>rfl
theorem K3 {i h N}:PE X (.Constant (.str i) h N) (tV X.K (vC (.str i))):=xC FV fun _ _=>rfl
inductive rPI (K:FG) (g:P->P->Option P) (x:V) (y:V) (H:Hp) (Q:VK):Prop
 | mk (F:Aa) (dx:P) (dy:P) (d:P) (h0_:(∀a,F a->H a≠none)) (h1_:RP K F H dx x) (h2_:RP K F H dy y) (h3_:g dx dy=some d) (h4_:∀v F' H',Grow F H F' H'->RP K F' H' d v->Q v H'):rPI K g x y H Q
noncomputable def rP (K:FG) (g:P->P->Option P):R2:=fun x y H Q=>rPI K g x y H Q
noncomputable def lE (X:Cx) (f:Value->Value->Sem Value) (g:P->P->Option P):Prop:=fZ X f (rP X.K g)
theorem qP (h:tV X.K (ag g y z) M H t):Eo (rP X.K g) (tV X.K y) (tV X.K z) M H t:=by
 obtain⟨F,m,L,S,d,O,r,l,q,k⟩:=h;obtain⟨x,n,K,q⟩:=ao q;obtain⟨a,o,P,q⟩:=ao q;refine⟨F,m,L,S,x,n,r,l,K,fun v C A I c N E=>?_⟩;refine⟨C,A,L,n,a,o,N,l.mono c,P,fun u B D Y p b G=>?_⟩;cases s:g x a with
 | none=>rw [s] at q;cases q
 | some e=>rw [s] at q;cases q;refine⟨B,x,a,_,b.ft,RP.mono p E,G,s,fun w i j f J=>?_⟩;exact k w i D j (c.trans (p.trans f.stp)) (b.grow f) J
theorem M0 (o:lE X (binaryOp k) g) (x:PE X a (tV X.K y)) (e:PE X b (tV X.K z)):PE X (.BinOp a k b N) (tV X.K (ag g y z)):=
 (IS o x e).imp' fun _ _ _ h=>qP h
theorem Le (o:lE X (compareOp k) g) (x:PE X a (tV X.K y)) (e:PE X b (tV X.K z)) (m:behindInMarks k b=false):PE X (.Compare a [k] [b] N) (tV X.K (ag g y z)):=
 (rc o x e m).imp' fun _ _ _ h=>qP h
theorem Am (h:tQ X.K (bV (ag g y z)) M H t):An (Eo (rP X.K g) (tV X.K y) (tV X.K z)) M H t:=by
 refine qP ?_;obtain⟨F,m,L,S,d,O,r,l,q,k⟩:=h;obtain⟨x,n,e,q⟩:=ao q;cases x with
 | bl b=>cases q;exact⟨F,m,L,S,_,_,r,l,e,fun v F' m' H' s a p=>⟨_,p,k F' m' H' s a⟩⟩
 | _=>cases q
theorem KY (o:lE X (compareOp k) g) (x:PE X a (tV X.K y)) (e:PE X b (tV X.K z)) (m:behindInMarks k b=false):PT X (.Compare a [k] [b] N) (tQ X.K (bV (ag g y z))):=
 (qZ o x e m).imp' fun _ _ _ h=>Am h
variable {u qb:EB}{bx:Ab}
theorem HS (h:PT X a (tQ X.K u)):PW X (.BoolOp .And [a] N) (tQ X.K u):=C_ h
theorem KS (h:PT X a (tQ X.K u)):PW X (.BoolOp .Or [a] N) (tQ X.K u):=FM h
theorem KZ (n:PT X a (tQ X.K u)) (f:PW X (.BoolOp .And (b::bx) N) (tQ X.K qb)):PW X (.BoolOp .And (a::b::bx) N) (tQ X.K (c9 u qb)):=
 (FN n f).imp' fun M H Q z=>by
  obtain⟨F,m,L,S,d,O,r,l,q,k⟩:=z;obtain⟨c,h,e,q⟩:=ao q;refine⟨F,m,L,S,c,h,r,l,e,fun F' m' H' s x=>?_⟩;cases c with
  | true=>rw [if_pos rfl] at q ⊢;exact⟨F',m',L,h,d,O,x,l.mono s,q,fun B t Y v p=>k B t Y (s.trans v) p⟩
  | false=>rw [if_neg ci] at q ⊢;cases q;exact k F' m' H' s x
theorem MY (n:PT X a (tQ X.K u)) (f:PW X (.BoolOp .Or (b::bx) N) (tQ X.K qb)):PW X (.BoolOp .Or (a::b::bx) N) (tQ X.K (nW u qb)):=
 (IN n f).imp' fun M H Q z=>by
  obtain⟨F,m,L,S,d,O,r,l,q,k⟩:=z;obtain⟨c,h,e,q⟩:=ao q;refine⟨F,m,L,S,c,h,r,l,e,fun F' m' H' s x=>?_⟩;cases c with
  | false=>rw [if_neg ci] at q ⊢;exact⟨F',m',L,h,d,O,x,l.mono s,q,fun B t Y v p=>k B t Y (s.trans v) p⟩
  | true=>rw [if_pos rfl] at q ⊢;cases q;exact k F' m' H' s x
theorem KU (h:PT X a (tQ X.K u)):PT X (.UnaryOp .Not a N) (tQ X.K (ec u)):=
 (FO h).imp' fun M H Q z=>by obtain⟨F,m,L,S,d,O,r,l,q,k⟩:=z;obtain⟨c,n,e,q⟩:=ao q;cases q;exact⟨F,m,L,S,c,O,r,l,e,fun F' m' H' s x=>k F' m' H' s x⟩
theorem Ii {k} (h:PE X a (tV X.K (vB u))):PE X (.BoolOp k [a] N) (tV X.K (vB u)):=FW h
theorem sM (h:tQ X.K u M H k) (x:∀b H',k b H'->t (.bl b) H'):tV X.K (vB u) M H t:=by obtain⟨F,m,L,S,d,O,r,l,q,a⟩:=h;exact⟨F,m,L,S,.bl d,O,r,l,by unfold vB;rw [q];rfl,fun v F' m' H' s e p=>by rw [show v=.bl d from p];exact x _ _ (a F' m' H' s e)⟩
theorem xJ (h:tV X.K (vB u) M H k):tQ X.K u M H fun b H'=>k (.bl b) H':=by obtain⟨F,m,L,S,d,O,r,l,q,x⟩:=h;obtain⟨c,n,e,q⟩:=ao q;cases q;exact⟨F,m,L,S,c,O,r,l,e,fun F' m' H' s a=>x _ F' m' H' s a rfl⟩
theorem Lf (f:PE X a (tV X.K (vB u))) (t:PE X (.BoolOp .And (b::bx) N) (tV X.K (vB qb))):PE X (.BoolOp .And (a::b::bx) N) (tV X.K (vB (c9 u qb))):=
 (F5 f t).imp' fun M H Q h=>by
  obtain⟨F,m,L,S,d,O,r,l,q,k⟩:=xJ h;obtain⟨c,x,n,q⟩:=ao q;refine sM (k:=fun c I=>if c=true then tV X.K (vB qb) M I Q else Q (.bl false) I) ⟨F,m,L,S,c,x,r,l,n,fun F' m' H' s e=>?_⟩ fun b H' q=>⟨b,rfl,q⟩;cases c with
  | true=>rw [if_pos rfl] at q ⊢;exact sM (k:=fun b Y=>Q (.bl b) Y) ⟨F',m',L,x,d,O,e,l.mono s,q,fun B p Y w v=>k B p Y (s.trans w) v⟩ fun _ _ q=>q
  | false=>rw [if_neg ci] at q ⊢;cases q;exact k F' m' H' s e
theorem MZ (f:PE X a (tV X.K (vB u))) (t:PE X (.BoolOp .Or (b::bx) N) (tV X.K (vB qb))):PE X (.BoolOp .Or (a::b::bx) N) (tV X.K (vB (nW u qb))):=
 (pe_or f t).imp' fun M H Q h=>by
  obtain⟨F,m,L,S,d,O,r,l,q,k⟩:=xJ h;obtain⟨c,x,n,q⟩:=ao q;refine sM (k:=fun c I=>if c=true then Q (.bl true) I else tV X.K (vB qb) M I Q) ⟨F,m,L,S,c,x,r,l,n,fun F' m' H' s e=>?_⟩ fun b H' q=>⟨b,rfl,q⟩;cases c with
  | false=>rw [if_neg ci] at q ⊢;exact sM (k:=fun b Y=>Q (.bl b) Y) ⟨F',m',L,x,d,O,e,l.mono s,q,fun B p Y w v=>k B p Y (s.trans w) v⟩ fun _ _ q=>q
  | true=>rw [if_pos rfl] at q ⊢;cases q;exact k F' m' H' s e
theorem K7 (x:PE X a (tV X.K (vB u))):PE X (.UnaryOp .Not a N) (tV X.K (vB (ec u))):=
 (FX x).imp' fun M H Q h=>by obtain⟨F,m,L,S,d,O,r,l,q,k⟩:=xJ h;obtain⟨c,f,e,q⟩:=ao q;cases q;exact sM (k:=fun b H'=>Q (.bl (!b)) H') ⟨F,m,L,S,c,O,r,l,e,fun F' m' H' s n=>k F' m' H' s n⟩ fun b H' q=>⟨b,rfl,q⟩
theorem wZ (h:PE X e (tV X.K y)):PE X e (tV X.K (vB (bV y))):=h.imp' fun M H Q h=>by
 obtain⟨F,m,L,S,d,O,r,l,q,k⟩:=xJ h;obtain⟨x,f,a,q⟩:=ao q;cases x with
 | bl b=>cases q;exact⟨F,m,L,S,_,_,r,l,a,fun v F' m' H' s n p=>by cases (show v=.bl d from p);exact k F' m' H' s n⟩
 | _=>cases q
theorem M4 (g:PT X c (tQ X.K u)) (p:PE X a (tV X.K y)) (w:PE X b (tV X.K z)):PE X (.IfExp c a b N) (tV X.K (Io u y z)):=
 (A3 g p w).imp' fun M H Q i=>by
  obtain⟨F,m,L,S,d,O,r,l,q,k⟩:=i;obtain⟨c,h,t,q⟩:=ao q;refine⟨F,m,L,S,c,h,r,l,t,fun F' m' H' s f=>?_⟩;cases c with
  | true=>rw [if_pos rfl] at q ⊢;exact⟨F',m',L,h,d,O,f,l.mono s,q,fun v B x Y n e=>k v B x Y (s.trans n) e⟩
  | false=>rw [if_neg ci] at q ⊢;exact⟨F',m',L,h,d,O,f,l.mono s,q,fun v B x Y n e=>k v B x Y (s.trans n) e⟩
variable {fs:f6}
theorem JT:PA X [] (n9 X.K aO):=eu.imp' fun M H Q h=>by obtain⟨F,m,L,S,d,O,r,l,q,k⟩:=h;cases q;exact k [] F m H .refl r rfl
theorem ET (b:PE X e (tV X.K y)) (c:PA X T (n9 X.K fs)) (t:starEach (e::T) X.env=(false,eval e X.env)::starEach T X.env:=by rfl):PA X (e::T) (n9 X.K (aM y fs)):=
 (cm b c t).imp' fun M H Q z=>by obtain⟨F,m,L,S,d,O,r,l,q,k⟩:=z;obtain⟨x,h,n,q⟩:=ao q;obtain⟨xs,o,f,q⟩:=ao q;cases q;refine⟨F,m,L,S,x,h,r,l,n,fun v C p I s i u=>?_⟩;refine⟨C,p,L,h,xs,O,i,l.mono s,f,fun U B w Y a j g=>?_⟩;exact k (v::U) B w Y (s.trans a) j ⟨v,U,rfl,RP.mono a u,g⟩
noncomputable def ku (xs:List Q):Bool:=decide (xs.length≤1000000)
theorem nL {Q:Type}{xs:List Q} (h:ku xs=true):xs.length≤sizeLine:=bL (bq h) (by decide)
noncomputable def aj (a:f6):EV:=fun L S=>ba (a L S) fun xs h=>if ku xs=true then some (.tup xs,h) else none
noncomputable def ar (a:f6):EV:=fun L S=>ba (a L S) fun xs h=>if ku xs=true then some (.lst xs,h) else none
noncomputable def gA (a:f6):EE:=fun L S=>ba (a L S) fun xs h=>if ku xs=true then some (.ref h.length,h++[.lst (xs.map .p)]) else none
theorem K2 {t} (h:PA X T (n9 X.K fs)):PE X (.Tuple T t N) (tV X.K (aj fs)):=(A1 h).imp' fun M H Q z=>by
 obtain⟨F,m,L,S,d,O,r,l,q,k⟩:=z;obtain⟨xs,c,e,q⟩:=ao q;split at q
 .rename_i f;cases q;refine⟨F,m,L,S,xs,O,r,l,e,fun U C s I b n a=>⟨by rw [<- a.length];exact nL f,fun p x=>?_⟩⟩;exact k (.ref p) C s _ (b.trans (bU x).stp) (n.grow (bU x)) (.newTup x a)
 .cases q
theorem K' (h:PA X T (n9 X.K fs)):PE X (.List T N) (tV X.K (ar fs)):=(v9 h).imp' fun M H Q z=>by
 obtain⟨F,m,L,S,d,O,r,l,q,k⟩:=z;obtain⟨xs,c,e,q⟩:=ao q;split at q
 .rename_i f;cases q;refine⟨F,m,L,S,xs,O,r,l,e,fun U C s I b n a=>⟨by rw [<- a.length];exact nL f,fun p x=>?_⟩⟩;exact k (.ref p) _ s _ (b.trans (cz x).stp) (n.grow (cz x)) (.newLst x a)
 .cases q
theorem Ia (h:PA X T (n9 X.K fs)):PE X (.List T N) (tE X.K (gA fs)):=(v9 h).imp' fun M H Q z=>by
 obtain⟨F,m,L,S,d,O,r,l,q,k⟩:=z;obtain⟨xs,f,b,q⟩:=ao q;split at q
 .rename_i c;cases q;refine⟨F,m,L,S,xs,f,r,l,b,fun U C x I t s e=>⟨by rw [<- e.length];exact nL c,fun p a=>?_⟩⟩;have n:Stp C x I C (x++[p]) (cF I p (.lst U)):=gP a;refine k (.ref p) C (x++[p]) _ (t.trans n) (s.own a ⟨U,a1,du.ofP (bR.mono n e)⟩) ⟨p,rfl,?_⟩;rw [<- s.len,c7 (Nat.le_refl _)];simp
 .cases q
noncomputable def rC (K:FG) (g:List P->Option P):List V->Hp->VK->Prop:=fun xs H Q=>∃F s d,(∀a,F a->H a≠none)/\bR K F H s xs/\g s=some d/\∀v F' H',Grow F H F' H'->RP K F' H' d v->Q v H'
theorem vF (h:tV X.K (al g fs) M H t):n9 X.K fs M H fun U I=>rC X.K g U I t:=by
 obtain⟨F,m,L,S,d,O,r,l,q,k⟩:=h;obtain⟨xs,c,s,q⟩:=ao q;cases e:g xs with
 | none=>rw [e] at q;cases q
 | some z=>rw [e] at q;cases q;exact⟨F,m,L,S,xs,_,r,l,s,fun U C n I b a f=>⟨C,xs,_,a.ft,f,e,fun v B Y x p=>k v B n Y (b.trans x.stp) (a.grow x) p⟩⟩
theorem mF {x:Str}{p:Pos}{id:String}{g:List P->Option P} (c:bZ X (.builtin id) (rC X.K g)) (n:Gl X x) (m:X.mg x=none) (v:bootBuiltins x=some (.builtin id)) (a:PA X (e::T) (n9 X.K fs)) (k:x≠"__name__":=by decide) (d:(x == ("__debug__":Str))=false:=by decide)
  (s:starEach (e::T) X.env=(false,eval e X.env)::starEach T X.env:=by rfl) (l:(backTo N (starEach T X.env)).any (·.1)=false:=by rfl):PE X (.Call (.Name x p) (e::T) [] N) (tV X.K (al g fs)):=
 (gv c n m v a k d s l).imp' fun _ _ _ h=>vF h
theorem zX (c:bZ X (.type k) (rC X.K g)) (n:Gl X x) (m:X.mg x=none) (v:bootBuiltins x=some (.type k)) (a:PA X (e::T) (n9 X.K fs)) (f:x≠"__name__":=by decide) (d:(x == ("__debug__":Str))=false:=by decide)
  (s:starEach (e::T) X.env=(false,eval e X.env)::starEach T X.env:=by rfl) (l:(backTo N (starEach T X.env)).any (·.1)=false:=by rfl):PE X (.Call (.Name x p) (e::T) [] N) (tV X.K (al g fs)):=
 (kO c n m v a f d s l).imp' fun _ _ _ h=>vF h
noncomputable def Kg (K:FG) (g:List P->Option P):Sp:=fun U H Q _=>rC K g U H Q
theorem Ih (G:FnOk X.prog X.w X.K X.mg X.base sG k f t J (Kg X.K g)) (j:Room k X.A) (w:Gl X x) (i:X.mg x=some (.ref f)) (u:PySem.W.keepIn X.K (.ref f)=true) (c:Binds X.K t J [])
  (b:PA X (e::T) (n9 X.K fs)) (d:(x == ("__debug__":Str))=false:=by decide) (v:starEach (e::T) X.env=(false,eval e X.env)::starEach T X.env:=by rfl) (a:(backTo N (starEach T X.env)).any (·.1)=false:=by rfl) :
  PE X (.Call (.Name x p) (e::T) [] N) (tV X.K (al g fs)):=
 (re G j w i u c .nil A5 b d v a).imp' fun M H Q h=>by obtain⟨F,m,L,S,n,O,r,l,q,k⟩:=vF h;exact⟨F,m,L,S,n,O,r,l,q,fun xs F' m' H' s y p=>by show Kg X.K g (xs++[]) H' Q E0;rw [gE];exact k xs F' m' H' s y p⟩
end
section
variable {X:Cx}{a b e:Expr}{l:Stmt}{bx bs cs:List Stmt}{f g:ES}{fe:EE}{u:EB}{N:Pos}
theorem KP:fN X [] (fP X.K d_):=C'.imp' fun D M H h=>by obtain⟨F,m,L,S,f,x,O,r,l,q,k⟩:=h;cases q;exact k M F m H .refl r l
theorem HN (y:PS X l (fP X.K f)) (z:fN X bx (fP X.K g)):fN X (l::bx) (fP X.K (ak f g)):=(j0 y z).imp' fun D M H o=>by
 obtain⟨F,m,L,S,u,w,O,r,h,q,k⟩:=o;cases e:f L S with
 | none=>rw [show ak f g L S=none by unfold ak;rw [e]] at q;cases q
 | some x=>
  obtain⟨i,p,v⟩:=x;cases i with
  | nx=>
   have b:g p v=some (u,w,O):=by have:=q;unfold ak at this;rw [e] at this;exact this
   exact⟨F,m,L,S,.nx,p,v,r,h,e,fun a C n I t c s=>⟨C,n,p,v,u,w,O,c,s,b,fun j B P Y E A K=>k j B P Y (t.trans E) A K⟩⟩
  | rt d=>
   have b:some (Fl.rt d,p,v)=some (u,w,O):=by have:=q;unfold ak at this;rw [e] at this;exact this
   cases b;exact⟨F,m,L,S,_,_,_,r,h,e,fun a C n I t c s=>k a C n I t c s⟩
  | bk=>
   have b:some (Fl.bk,p,v)=some (u,w,O):=by have:=q;unfold ak at this;rw [e] at this;exact this
   cases b;exact⟨F,m,L,S,_,_,_,r,h,e,fun a C n I t c s=>k a C n I t c s⟩
  | ct=>
   have b:some (Fl.ct,p,v)=some (u,w,O):=by have:=q;unfold ak at this;rw [e] at this;exact this
   cases b;exact⟨F,m,L,S,_,_,_,r,h,e,fun a C n I t c s=>k a C n I t c s⟩
theorem E4 (h:PS X l (fP X.K f)):fN X [l] (fP X.K f):=q_ h
theorem KO (h:PE X e (tE X.K fe)):PS X (.Return (some e) N) (fP X.K (aQ fe)):=(FR h).imp' fun D M H z=>by obtain⟨F,m,L,S,b,n,O,r,l,q,k⟩:=z;obtain⟨d,f,x,q⟩:=ao q;cases q;exact⟨F,m,L,S,d,O,r,l,x,fun v F' m' H' s a p=>k M F' m' H' s a (l.mono s) v p⟩
theorem wY (h:PE X e (tE X.K fe)) (a:swapsWith e none N.line X.env=pure false:=by rfl):PS X (.Expr e N) (fP X.K (cM fe)):=(xA h a).imp' fun D M H z=>by obtain⟨F,m,L,S,c,f,O,r,l,q,k⟩:=z;obtain⟨d,b,x,q⟩:=ao q;cases q;exact⟨F,m,L,S,d,O,r,l,x,fun v F' m' H' s n p=>k M F' m' H' s n (l.mono s)⟩
theorem yv (i:Nat) (n:X.N.Nodup) (h:PE X e (tE X.K fe)) (b:X.N[i]? = some x:=by rfl) (w:Loc X.env.scope x:=by first | exact Or.inl rfl | exact Or.inr rfl) (c:swapsWith e (some (.Name x t)) N.line X.env=pure false:=by rfl)
  (f:X.fn x=true\/X.env.scope.names.lookup x=some .local:=by first | exact .inl rfl | exact .inr rfl | assumption):PS X (.Assign [.Name x t] e N) (fP X.K (ay i fe)):=
 (FQ n b w h c f).imp' fun D M H z=>by obtain⟨F,m,L,S,y,g,O,r,l,q,k⟩:=z;obtain⟨d,j,a,q⟩:=ao q;cases q;exact⟨F,m,L,S,d,O,r,l,a,fun v F' m' H' s u p=>k (M.set i (some v)) F' m' H' s u ((l.mono s).set p i)⟩
theorem MX (j:PT X c (tQ X.K u)) (w:fN X bs (fP X.K f)) (i:fN X cs (fP X.K g)):PS X (.If c bs cs N) (fP X.K (dt u f g)):=(Et j w i).imp' fun D M H z=>by
 obtain⟨F,m,L,S,p,t,O,r,l,q,k⟩:=z;obtain⟨c,x,d,q⟩:=ao q;refine⟨F,m,L,S,c,x,r,l,d,fun F' m' H' s v=>?_⟩;cases c with
 | true=>rw [if_pos rfl] at q ⊢;exact⟨F',m',L,x,p,t,O,v,l.mono s,q,fun h B e Y b n a=>k h B e Y (s.trans b) n a⟩
 | false=>rw [if_neg ci] at q ⊢;exact⟨F',m',L,x,p,t,O,v,l.mono s,q,fun h B e Y b n a=>k h B e Y (s.trans b) n a⟩
theorem E5:PS X l (fP X.K mY):=AO.imp' fun D M H z=>by obtain⟨F,m,L,S,f,x,O,r,h,q,k⟩:=z;cases q
inductive gTI (K:FG) (g:i0) (x:V) (σ:L2.St) (H:Hp) (Q:L2.St->Hp->Prop):Prop
 | mk (F:Aa) (m:List Addr) (L:Lc) (v:P) (L':Lc) (h0_:RL K F H m σ L) (h1_:RP K F H v x) (h2_:g v L=some L') (h3_:∀σ',RL K F H m σ' L'->Q σ' H):gTI K g x σ H Q
noncomputable def gT (K:FG) (g:i0):TG:=fun x M H Q=>gTI K g x M H Q
theorem _root_.L2.PG.imp' (h:PG X J t) (i:∀v M H Q,k v M H Q->t v M H Q):PG X J k:=fun p s M H v u Q I r q=>h p s M H v u Q I r (i v M H Q q)
theorem GP (i:Nat) (h:X.N.Nodup) (a:X.N[i]? = some x:=by rfl) (e:Loc X.env.scope x:=by first | exact Or.inl rfl | exact Or.inr rfl) (f:X.fn x=true\/X.env.scope.names.lookup x=some .local:=by first | exact .inl rfl | exact .inr rfl | assumption) :
  PG X (.Name x N) (gT X.K (ah i)):=(xE h a e f).imp' fun v M H Q z=>by
 obtain⟨F,m,L,d,s,l,p,q,k⟩:=z;cases q;exact k _ (l.set (d:=.p d) p i)
noncomputable def EY (K:FG) (J:It) (U:List P) (F:Aa) (m:List Addr) (H:Hp):Prop:=∀B e Y,Stp F m H B e Y ->
 (∀(i:Nat) v,U[i]? = some v->J.go i Y/\∀x h,J.yld i Y x h->∃a,Grow B Y a h/\RP K a h v x)/\J.stop U.length Y
inductive tII (K:FG) (f:f6) (σ:L2.St) (H:Hp) (R:It->Hp->Prop):Prop
 | mk (F:Aa) (m:List Addr) (L:Lc) (S:aR) (vs:List P) (S':aR) (h0_:Rel K F H m S) (h1_:RL K F H m σ L) (h2_:f L S=some (vs,S')) (h3_:∀J F' m' H',Stp F m H F' m' H'->Rel K F' H' m' S'->EY K J vs F' m' H'->R J H'):tII K f σ H R
noncomputable def tI (K:FG) (f:f6):TI:=fun M H R=>tII K f M H R
theorem KQ {tg iter:Expr}{fi:f6}{g:i0}{b:List Stmt}{z:ES} (hp:PassesOwn (model X.prog X.w) X.A X.env X.xe) (hc:X.calm=true) (hi:PI X tg iter (tI X.K fi)) (hg:PG X tg (gT X.K g)) (hb:fN X b (fP X.K z))
  (hs:∀x,foldedSetIterable iter X.env x=pure x:=by intro _;rfl):PS X (.For tg iter b [] N) (fP X.K (jX fi g z)):=
 (vY hp hc hi hg hb hs).imp' fun D M H hz=>by
  obtain⟨F,m,L,S,fl,L',O,r,l,q,k⟩:=hz;obtain⟨U,S1,e1,q⟩:=ao q;refine⟨F,m,L,S,U,S1,r,l,e1,fun J C P I G r1 it=>?_⟩;refine⟨fun i n c Y=>n=U.length-i/\i≤U.length/\∃B s L2 f,Stp C P I B s Y/\Rel X.K B Y s f/\RL X.K B Y s c L2/\cA g z (U.drop i) L2 f=some (fl,L',O),
   ⟨U.length,rfl,Nat.zero_le _,C,P,L,S1,.refl,r1,l.mono G,by rw [kw];exact q⟩,?_⟩
  rintro i n c Y ⟨rfl,hi,B,s,L2,f,s2,r2,l2,a⟩;obtain⟨go,o⟩:=it B s Y s2;by_cases t:i < U.length
  .right;have hv:U[i]? = some U[i]:=by simp [t]
   rw [List.drop_eq_getElem_cons t] at a;obtain⟨hgo,hy⟩:=go i _ hv;refine⟨hgo,fun w p=>∃n',n' < U.length-i/\(n'=U.length-(i+1)/\i+1≤U.length/\∃B s L2 f,Stp C P I B s p/\Rel X.K B p s f/\RL X.K B p s w L2/\cA g z (U.drop (i+1)) L2 f=some (fl,L',O)),fun _ _ h=>h,fun x p y=>?_⟩;obtain⟨T,gr,p3⟩:=hy x p y;unfold cA at a;cases eg:g U[i] L2 with
   | none=>rw [eg] at a;cases a
   | some V=>
    rw [eg] at a;dsimp only at a;refine⟨T,s,L2,U[i],V,l2.mono gr.stp,p3,eg,fun w l3=>?_⟩;have Q:Stp C P I T s p:=s2.trans gr.stp;have r3:=r2.grow gr;cases eb:z V f with
    | none=>rw [eb] at a;cases a
    | some h=>
     obtain⟨v,W,Z⟩:=h;rw [eb] at a;refine⟨T,s,V,f,v,W,Z,r3,l3,eb,fun u j A H4 R E K=>?_⟩;cases v with
     | nx=>exact⟨U.length-(i+1),by lia,rfl,t,j,A,W,Z,Q.trans R,E,K,a⟩
     | ct=>exact⟨U.length-(i+1),by lia,rfl,t,j,A,W,Z,Q.trans R,E,K,a⟩
     | bk=>cases a;exact k u j A H4 (G.trans (Q.trans R)) E K
     | rt d=>cases a;exact k u j A H4 (G.trans (Q.trans R)) E K
  .left;have e:i=U.length:=by lia
   subst e;rw [pW] at a;cases a;exact⟨o,k c B s Y (G.trans s2) r2 l2⟩
theorem E3 (hp:PassesOwn (model X.prog X.w) X.A X.env X.xe) (Z:PT X c (tQ X.K u)) (W:fN X J (fP X.K z)):PS X (.While c J [] N) (fP X.K (qY n u z)):=
 (AN hp Z W).imp' fun D M H hz=>by
  obtain⟨F,m,L,S,I,G,O,r,l,q,k⟩:=hz;refine⟨fun n b Y=>∃B a L2 s,Stp F m H B a Y/\Rel X.K B Y a s/\RL X.K B Y a b L2/\dR u z n L2 s=some (I,G,O),⟨n,F,m,L,S,.refl,r,l,q⟩,?_⟩;rintro n b Y ⟨B,a,L2,s,v,r2,C,R⟩;cases n with
  | zero=>cases R
  | succ n=>
   obtain⟨c,K,V,x⟩:=ao (show ba (u L2 s) _=_ from R);refine⟨B,a,L2,s,c,K,r2,C,V,fun E Q U f T=>?_⟩;cases c with
   | false=>rw [if_neg ci] at x ⊢;cases x;exact k b E Q U (v.trans f) T (C.mono f)
   | true=>
    rw [if_pos rfl] at x ⊢;cases A:z L2 K with
    | none=>rw [A] at x;cases x
    | some h=>
     obtain⟨p,o,P⟩:=h;rw [A] at x;refine⟨fun e t=>∃m',m' < n+1/\∃B a L2 s,Stp F m H B a t/\Rel X.K B t a s/\RL X.K B t a e L2/\dR u z m' L2 s=some (I,G,O),fun _ _ h=>h,E,Q,L2,K,p,o,P,T,C.mono f,A,fun e w i t y j g=>?_⟩;cases p with
     | nx=>exact⟨n,ky _,w,i,o,P,v.trans (f.trans y),j,g,x⟩
     | ct=>exact⟨n,ky _,w,i,o,P,v.trans (f.trans y),j,g,x⟩
     | bk=>cases x;exact k e w i t (v.trans (f.trans y)) j g
     | rt d=>cases x;exact k e w i t (v.trans (f.trans y)) j g
end
theorem Stp.toGrow (s:Stp F [] H F' m' H') (f:∀a,F' a->H' a≠none):Grow F H F' H':=
 ⟨fun b o h=>s.oth b o h (by simp),s.frz,fun b h=>by
  rcases s.nf b h with q | q | q
  .exact .inl q
  .exact .inr ⟨q,f b h⟩
  .simp at q⟩
theorem i_ {Q:Prop}{β:Type}{d:β} (h:(none:Option β)=some d):Q:=nomatch h
noncomputable def fM (n:Nat):Bool:=decide (n≤1000000)
theorem eW (h:fM n=true):n≤sizeLine:=bL (bq h) (by decide)
section
variable {X:Cx}
noncomputable def lP:P->P->Option P
 | .int i,.int j=>some (.int (i+j))
 | .str x,.str y=>if fM (x.length+y.length)=true then some (.str (x++y)) else none
 | .tup xs,.tup s=>if (!xs.isEmpty && fM (xs.length+s.length))=true then some (.tup (xs++s)) else none
 | .lst xs,.lst s=>if fM (xs.length+s.length)=true then some (.lst (xs++s)) else none
 | _,_=>none
theorem Jk:lE X (binaryOp .Add) lP:=by
 intro n s M H x y v u Q I l o h;obtain⟨F,D,t,d,G,w,g,q,k⟩:=h;cases D with
 | int i=>
  cases t with
  | int j=>cases q;cases (show x=.int i from w);cases (show y=.int j from g);exact Gd n s M H _ _ v u Q I l o ⟨i,j,rfl,rfl,k _ F H .refl rfl⟩
  | _=>exact i_ q
 | str i=>
  cases t with
  | str j=>
   simp only [lP] at q;split at q
   .rename_i c;cases q;cases (show x=.str i from w);cases (show y=.str j from g);exact wb n s M H _ _ v u Q I l o ⟨i,j,rfl,rfl,eW c,k _ F H .refl rfl⟩
   .cases q
  | _=>exact i_ q
 | tup A=>
  cases t with
  | tup T=>
   simp only [lP] at q;split at q
   .rename_i c;rw [Bool.and_eq_true] at c;cases q;obtain⟨a,xs,rfl,S,r⟩:=w;obtain⟨b,P,rfl,K,m⟩:=g;have B:=r.length;have C:=m.length;have E:xs≠[]:=fun z=>by
     subst z;have:A=[]:=kC B;subst this;simp at c
    refine Dl n s M H _ _ v u Q I l o ⟨a,b,xs,P,rfl,rfl,S.sq,K.sq,E,by rw [<- B,<- C];exact eW c.2,fun z=>?_,fun _ p f=>?_⟩
    .subst z;have e:T=[]:=kC C;subst e;refine k _ F H .refl ?_;rw [gE];exact⟨a,xs,rfl,S,r⟩
    .exact k _ F _ (bU f) (.newTup f (r.append m))
   .cases q
  | _=>exact i_ q
 | lst A=>
  cases t with
  | lst T=>
   simp only [lP] at q;split at q
   .rename_i c;cases q;obtain⟨a,xs,rfl,S,r⟩:=w;obtain⟨b,P,rfl,K,m⟩:=g;exact Gc n s M H _ _ v u Q I l o ⟨a,b,xs,P,rfl,rfl,S.2,K.2,by rw [<- r.length,<- m.length];exact eW c,fun p f=>k _ _ _ (cz f) (.newLst f (r.append m))⟩
   .cases q
  | _=>exact i_ q
 | _=>exact i_ q
noncomputable def BR (c:Int->Int->Bool) (g:Int->Int->P):P->P->Option P
 | .int i,.int j=>if c i j=true then some (g i j) else none
 | _,_=>none
@[simp] theorem DX (c:Int->Int->Bool) (g:Int->Int->P) (i j:Int):BR c g (.int i) (.int j)=if c i j=true then some (g i j) else none:=rfl
theorem rh {f:Value->Value->Sem Value}{C:Int->Int->Prop}{a:Int->Int->V}{c:Int->Int->Bool}{g:Int->Int->P} (o:fZ X f (rI C a)) (b:∀i j,c i j=true->C i j) (m:∀K F H i j,RP K F H (g i j) (a i j)):lE X f (BR c g):=by
 intro p s M H x y v u Q I l z h;obtain⟨F,e,n,d,S,t,w,q,k⟩:=h;cases e with
 | int i=>
  cases n with
  | int j=>
   rw [DX] at q;split at q
   .rename_i r;cases q;cases (show x=.int i from t);cases (show y=.int j from w);exact o p s M H _ _ v u Q I l z ⟨i,j,rfl,rfl,b i j r,k _ F H .refl (m _ _ _ _ _)⟩
   .cases q
  | _=>exact i_ q
 | _=>exact i_ q
theorem m5 (h:fZ X f (C5 k)):fZ X f (rI (fun _ _=>True) k):=fun p s M H x y v u Q I r n ⟨i,j,e,a,_,q⟩=>h p s M H x y v u Q I r n ⟨i,j,e,a,q⟩
noncomputable abbrev zT:Int->Int->Bool:=fun _ _=>true
noncomputable abbrev lO:=BR zT fun i j=>.int (i-j)
theorem I_:lE X (binaryOp .Sub) lO:=rh (m5 F6) (fun _ _ _=>trivial) fun _ _ _ _ _=>rfl
noncomputable abbrev FS:Int->Int->Bool:=fun _ j=>decide (0 < j) && decide (j < 1152921504606846976)
theorem A7:fZ X (binaryOp .FloorDiv) (rI (fun _ j=>0 < j/\j < 1152921504606846976) fun i j=>.int (i / j)):=Ji fun i j _ _ _ _ _ h q=>by have a:(0:Int) < j:=h.1;have e:j < 1152921504606846976:=h.2;have x:j.natAbs.log2 < 9000:=cu ((Nat.log2_lt (by lia)).mpr (show j.natAbs < 2 ^ 60 by lia)) (by decide);exact floordiv_int (by lia) (by rw [Int.fdiv_eq_ediv_of_nonneg i (by lia)];exact q) (.inl (PyProof.noPylong_of_log2 x))
noncomputable abbrev ax:=BR FS fun i j=>.int (i / j)
theorem Dm:lE X (binaryOp .FloorDiv) ax:=rh A7 (fun i j h=>by rw [Bool.and_eq_true] at h;exact⟨bq h.1,bq h.2⟩) fun _ _ _ _ _=>rfl
noncomputable abbrev aK:=BR (fun _ j=>decide (0 < j)) fun i j=>.int (i % j)
theorem Je:lE X (binaryOp .Mod) aK:=rh Ga (fun i j h=>bq h) fun _ _ _ _ _=>rfl
noncomputable abbrev zu:=BR (fun i j=>decide (0≤j) && decide (j≤1000000) && decide (i.natAbs < 2 ^ 64)) fun i j=>.int (i ^ j.toNat)
theorem Jb:lE X (binaryOp .Pow) zu:=rh F_ (fun i j h=>by simp only [Bool.and_eq_true] at h;exact⟨bq h.1.1,bq h.1.2,bq h.2⟩) fun _ _ _ _ _=>rfl
noncomputable abbrev Ky:=BR zT fun i j=>.bl (decide (i < j))
theorem LP:lE X (compareOp .Lt) Ky:=rh (m5 IW) (fun _ _ _=>trivial) fun _ _ _ _ _=>rfl
noncomputable abbrev u1:=BR zT fun i j=>.bl (decide (i≤j))
theorem LQ:lE X (compareOp .LtE) u1:=rh (m5 IY) (fun _ _ _=>trivial) fun _ _ _ _ _=>rfl
noncomputable abbrev u2:=BR zT fun i j=>.bl (decide (j < i))
theorem LR:lE X (compareOp .Gt) u2:=rh (m5 IZ) (fun _ _ _=>trivial) fun _ _ _ _ _=>rfl
noncomputable abbrev Me:=BR zT fun i j=>.bl (decide (j≤i))
theorem LU:lE X (compareOp .GtE) Me:=rh (m5 I0) (fun _ _ _=>trivial) fun _ _ _ _ _=>rfl
noncomputable def hL (i j:Int):Bool:=decide (i.natAbs.log2+j.natAbs.log2 < 100000000)
theorem Bh {i j:Int} (h:hL i j=true):IntMulOk i j:=by
 have a:i.natAbs.log2+j.natAbs.log2 < 100000000:=bq h;have b:∀x:Int,Builtin.Int.intBits x≤x.natAbs.log2+1:=fun x=>by
  unfold Builtin.Int.intBits;split
  .exact Nat.zero_le _
  .exact Nat.le_refl _
 exact IntMulOk.of_le (b i) (b j) (by lia)
theorem Dk:fZ X (binaryOp .Mult) (rI (fun i j=>IntMulOk i j) fun i j=>.int (i * j)):=Ji fun _ _ _ _ _ _ _ h q=>mul_int q h
noncomputable def b7 (x:Str) (n:Nat):Str:=⟨(List.replicate n x.cps).foldl (·++·) #[]⟩
theorem vI (x:Str):b7 x 1=x:=by unfold b7;cases x;simp
theorem zj (n:Nat):(List.replicate n (#[]:Array Nat)).foldl (·++·) #[]=#[]:=by
 induction n with
 | zero=>rfl
 | succ n i=>rw [gJ,jl];simpa using i
theorem qR (x:Str) (n:Nat) (h:x.length=0):b7 x n=x:=by have e:x.cps=#[]:=ve (by simpa [Str.length] using h);unfold b7;cases x;simp only at e;subst e;rw [zj]
theorem wB (a:Array Nat) (n:Nat):∀b:Array Nat,((List.replicate n a).foldl (·++·) b).size=b.size+n * a.size:=by
 induction n with
 | zero=>intro b;simp
 | succ n i=>intro b;rw [gJ,jl,i,Array.size_append,Nat.succ_mul];lia
theorem dw (x:Str) (n:Nat):(b7 x n).length=n * x.length:=by unfold b7 Str.length;simp only;rw [wB];simp
noncomputable def rY:P->P->Option P
 | .int i,.int j=>if hL i j=true then some (.int (i * j)) else none
 | .str x,.int n=>if (fM (n.toNat * x.length) && decide (n.natAbs < 1000000))=true then some (.str (b7 x n.toNat)) else none
 | .lst xs,.int n=>if (fM (xs.length * n.toNat) && decide (n.natAbs < 1000000))=true then some (.lst (List.replicate n.toNat xs).flatten) else none
 | _,_=>none
theorem bR.rep (h:bR K F H r xs):∀k:Nat,bR K F H (List.replicate k r).flatten (List.replicate k xs).flatten
 | 0=>rfl
 | k+1=>by rw [gJ,gJ,kz,kz];exact h.append (bR.rep h k)
theorem Jd:lE X (binaryOp .Mult) rY:=by
 intro r s M H x y v u Q I o S h;obtain⟨F,B,w,d,L,g,l,q,k⟩:=h;cases B with
 | int i=>
  cases w with
  | int j=>
   simp only [rY] at q;split at q
   .rename_i c;cases q;cases (show x=.int i from g);cases (show y=.int j from l);exact Dk r s M H _ _ v u Q I o S ⟨i,j,rfl,rfl,Bh c,k _ F H .refl rfl⟩
   .cases q
  | _=>exact i_ q
 | str i=>
  cases w with
  | int n=>
   simp only [rY] at q;split at q
   .rename_i c;rw [Bool.and_eq_true] at c;have E:=bq c.2;have N:n.toNat * i.length≤1000000:=bq c.1;have R:=iq;have T:(1000000:Nat)≤sizeLine:=by decide
    cases q;cases (show x=.str i from g);cases (show y=.int n from l);obtain⟨t,rfl⟩:=o;obtain⟨U,rfl⟩:=S;refine PySem.P.mul_str (by have C:decide (n < -(2 ^ 63:Int))=false:=decide_eq_false (by lia);have D:decide (n ≥ 2 ^ 63)=false:=decide_eq_false (by lia);rw [C,D];rfl) (fun a b=>?_) (fun a b=>?_) ?_
    .intro z;have O:((i.length:Nat):Int)≤(2 ^ 63-1) / n:=by
      refine (Int.le_ediv_iff_mul_le (by lia)).mpr ?_;have e:((i.length:Nat):Int) * n=((n.toNat * i.length:Nat):Int):=by rw [Int.natCast_mul,Int.toNat_of_nonneg (by lia),Int.mul_comm]
      rw [e];lia
     lia
    .unfold Builtin.Str.tooLong;first
      | exact decide_eq_false (by rw [lW];lia)
      | (rw [lW];exact decide_eq_false (by lia))
    .have f:Q (.str (b7 i n.toNat)) H:=k _ F H .refl rfl;by_cases K:n < 1
     .rw [if_pos K];have e:n.toNat=0:=by lia
      rw [e] at f;exact⟨by decide,⟨.str Str.empty,H,I.tok _,⟨_,rfl⟩,f⟩⟩
     .rw [if_neg K];by_cases m:(n == 1 || i.length == 0)=true
      .rw [if_pos m];rw [pR] at m;have e:b7 i n.toNat=i:=by
        rcases m with m | m
        .have:n=1:=by simpa using m
         subst this;exact vI i
        .exact qR i _ (by simpa using m)
       rw [e] at f;exact⟨.str i,H,I,⟨_,rfl⟩,f⟩
      .rw [if_neg m];refine⟨?_,⟨.str (b7 i n.toNat),H,I.tok _,⟨_,rfl⟩,f⟩⟩;have:=dw i n.toNat
       unfold b7 at this;rw [this];lia
   .cases q
  | _=>exact i_ q
 | lst J=>
  cases w with
  | int n=>
   simp only [rY] at q;split at q
   .rename_i c;rw [Bool.and_eq_true] at c;have E:=bq c.2;cases q;obtain⟨a,xs,rfl,G,A⟩:=g;cases (show y=.int n from l);exact F9 r s M H _ _ v u Q I o S ⟨a,n,xs,rfl,rfl,G.2,by lia,by lia,by rw [<- A.length];exact eW c.1,fun p P=>k _ _ _ (cz P) (.newLst P (A.rep _))⟩
   .cases q
  | _=>exact i_ q
 | _=>exact i_ q
noncomputable def Mf:P->P->Option P
 | .int i,.int j=>some (.bl (decide (i=j)))
 | .str x,.str y=>some (.bl (decide (x=y)))
 | .bl a,.bl b=>some (.bl (decide (a=b)))
 | _,_=>none
noncomputable def HA:P->P->Option P
 | .int i,.int j=>some (.bl (!decide (i=j)))
 | .str x,.str y=>some (.bl (!decide (x=y)))
 | .bl a,.bl b=>some (.bl (!decide (a=b)))
 | _,_=>none
theorem ly {i j:Int}:decide (V.int i=V.int j)=decide (i=j):=by
 by_cases h:i=j
 .subst h;simp
 .rw [decide_eq_false h,decide_eq_false fun z=>h (V.int.inj z)]
theorem lx:decide (V.str i=V.str k)=decide (i=k):=by
 by_cases h:i=k
 .subst h;simp
 .rw [decide_eq_false h,decide_eq_false fun z=>h (V.str.inj z)]
theorem nQ:decide (V.bl i=V.bl k)=decide (i=k):=by
 by_cases h:i=k
 .subst h;simp
 .rw [decide_eq_false h,decide_eq_false fun z=>h (V.bl.inj z)]
theorem LW:lE X (compareOp .Eq) Mf:=by
 intro p s M H x y v u Q I r f h;obtain⟨F,b,a,d,t,e,n,q,k⟩:=h;cases b with
 | int i=>
  cases a with
  | int j=>cases q;cases (show x=.int i from e);cases (show y=.int j from n);exact A8 p s M H _ _ v u Q I r f ⟨rfl,by rw [ly];exact k _ F H .refl rfl⟩
  | _=>exact i_ q
 | str i=>
  cases a with
  | str j=>cases q;cases (show x=.str i from e);cases (show y=.str j from n);exact A8 p s M H _ _ v u Q I r f ⟨rfl,by rw [lx];exact k _ F H .refl rfl⟩
  | _=>exact i_ q
 | bl i=>
  cases a with
  | bl j=>cases q;cases (show x=.bl i from e);cases (show y=.bl j from n);exact A8 p s M H _ _ v u Q I r f ⟨rfl,by rw [nQ];exact k _ F H .refl rfl⟩
  | _=>exact i_ q
 | _=>exact i_ q
theorem LO:lE X (compareOp .NotEq) HA:=by
 intro p s M H x y v u Q I r f h;obtain⟨F,b,a,d,t,e,n,q,k⟩:=h;cases b with
 | int i=>
  cases a with
  | int j=>cases q;cases (show x=.int i from e);cases (show y=.int j from n);exact A6 p s M H _ _ v u Q I r f ⟨rfl,by rw [ly];exact k _ F H .refl rfl⟩
  | _=>exact i_ q
 | str i=>
  cases a with
  | str j=>cases q;cases (show x=.str i from e);cases (show y=.str j from n);exact A6 p s M H _ _ v u Q I r f ⟨rfl,by rw [lx];exact k _ F H .refl rfl⟩
  | _=>exact i_ q
 | bl i=>
  cases a with
  | bl j=>cases q;cases (show x=.bl i from e);cases (show y=.bl j from n);exact A6 p s M H _ _ v u Q I r f ⟨rfl,by rw [nQ];exact k _ F H .refl rfl⟩
  | _=>exact i_ q
 | _=>exact i_ q
theorem yk {Q β:Type}{xs:List Q}{s:List β}{i:Int}{d:Q} (l:xs.length=s.length) (h:L2.atI xs i=some d):∃j:Nat,xs[j]? = some d/\∀y,s[j]? = some y->L2.atI s i=some y:=by
 unfold L2.atI at h ⊢;rw [l] at h;cases e:wq s.length i with
 | none=>rw [e] at h;cases h
 | some j=>rw [e] at h;exact⟨j,h,fun y x=>x⟩
theorem bR.atI {K:FG}{F:Aa}{H:Hp}{s:List P}{xs:List V}{i:Int}{d:P} (r:bR K F H s xs) (h:L2.atI s i=some d):∃x,L2.atI xs i=some x/\RP K F H d x:=by obtain⟨j,a,n⟩:=yk r.length h;obtain⟨x,e,p⟩:=r.get a;exact⟨x,n x e,p⟩
theorem du.atI {K:FG}{F:Aa}{H:Hp}{m:List Addr}{s:List D}{xs:List V}{i:Int}{d:D} (r:du K F H m s xs) (h:L2.atI s i=some d):∃x,L2.atI xs i=some x/\RD K F H m d x:=by obtain⟨j,a,n⟩:=yk r.length h;obtain⟨x,e,p⟩:=r.get a;exact⟨x,n x e,p⟩
noncomputable def jc (k:cS):List cS->List Q->Option Q
 | h::s,v::U=>if h=k then some v else jc k s U
 | _,_=>none
noncomputable def fU:P->Option cS
 | .int i=>some (.inl i)
 | .str x=>some (.inr x)
 | _=>none
noncomputable def aA:P->P->Option P
 | .tup xs,.int i=>L2.atI xs i
 | .lst xs,.int i=>L2.atI xs i
 | .ro xs,.int i=>L2.atI xs i
 | .str x,.int i=>if fM x.length=true then (L2.atI x.cps.toList i).map fun c=>.str ⟨#[c]⟩ else none
 | .dct s U,y=>match fU y with
  | some k=>jc k s U
  | none=>none
 | _,_=>none
theorem oW:∀{s:List (cS×V)}{a:List P}{d:P},bR K F H a (s.map (·.2))->jc k (s.map (·.1)) a=some d->∃v,jM s k=some v/\RP K F H d v
 | [],a,d,r,h=>by cases a <;> exact i_ h
 | (f,v)::s,[],d,r,h=>i_ h
 | (f,v)::s,u::a,d,r,h=>by
  obtain⟨x,g,e,p,b⟩:=r;rw [List.map_cons] at e;injection e with c m;simp only [List.map_cons,jc] at h;by_cases n:f=k
  .rw [if_pos n] at h;cases h;exact⟨v,gq (p:=(f,v)) n,by rw [show v=x from c];exact p⟩
  .rw [if_neg n] at h;rw [<- m] at b;obtain⟨w,t,q⟩:=oW b h;exact⟨w,by rw [gu (p:=(f,v)) n];exact t,q⟩
theorem ir (h:fU t=some k) (r:RP K F H t v):v=kV k:=by
 cases t with
 | int i=>cases h;exact r
 | str x=>cases h;exact r
 | _=>exact i_ h
theorem Bs (r:X.A.units+1 < cLine):Cm X (fun x y H Q=>∃a v,x=.ref a/\oO H a y (some v)/\(∃k,H a=some (.dK k))/\Q v H):=by
 intro f l p s M H x y v u Q I d i h m;obtain⟨a,w,rfl,g,⟨k,c⟩,q⟩:=h;cases d;have n:∃o,s.heap.get? a=some o/\o.ExactDict:=by obtain⟨_,_,_,_,o,_,_,e,n,_⟩:=I.hok a _ c;exact⟨o,e,n⟩
 obtain⟨o,e,n⟩:=n;exact tail_any ⟨o,e,n.1⟩ slot_dict_getitem.lookup (zt r I g i fun z j b t=>⟨w,H,b,t,q⟩) m
theorem Mz (N:X.A.units+1 < cLine):Cm X (rP X.K aA):=by
 intro f l b s M H x n v u Q I S K h g;obtain⟨F,E,t,d,R,j,o,q,k⟩:=h;cases E with
 | tup m=>
  cases t with
  | int i=>obtain⟨a,xs,rfl,P,r⟩:=j;cases (show n=.int i from o);obtain⟨z,e,p⟩:=r.atI (show L2.atI m i=some d from q);exact GB f l b s M H _ _ v u Q I S K ⟨a,xs,i,z,rfl,rfl,P.sq,e,k z F H .refl p⟩ g
  | _=>exact i_ q
 | lst m=>
  cases t with
  | int i=>obtain⟨a,xs,rfl,P,r⟩:=j;cases (show n=.int i from o);obtain⟨z,e,p⟩:=r.atI (show L2.atI m i=some d from q);exact rz f l b s M H _ _ v u Q I S K ⟨a,xs,i,z,rfl,rfl,P.sq,e,k z F H .refl p⟩ g
  | _=>exact i_ q
 | ro m=>
  cases t with
  | int i=>obtain⟨a,xs,rfl,P,r⟩:=j;cases (show n=.int i from o);obtain⟨z,e,p⟩:=r.atI (show L2.atI m i=some d from q);exact rz f l b s M H _ _ v u Q I S K ⟨a,xs,i,z,rfl,rfl,P.sq,e,k z F H .refl p⟩ g
  | _=>exact i_ q
 | str z=>
  cases t with
  | int i=>
   cases (show x=.str z from j);cases (show n=.int i from o);simp only [aA] at q;split at q
   .rename_i L;cases e:L2.atI z.cps.toList i with
    | none=>rw [e] at q;exact i_ q
    | some c=>rw [e] at q;cases q;exact GC f l b s M H _ _ v u Q I S K ⟨z,i,c,rfl,rfl,eW L,e,k _ F H .refl rfl⟩ g
   .cases q
  | _=>exact i_ q
 | dct T m=>
  obtain⟨a,C,rfl,y,D,J,r⟩:=j;simp only [aA] at q;cases A:fU t with
  | none=>rw [A] at q;exact i_ q
  | some O=>rw [A] at q;dsimp only at q;subst J;obtain⟨w,G,p⟩:=oW r q;have B:=ir A o;subst B;exact Bs N f l b s M H _ _ v u Q I S K ⟨a,w,rfl,by rw [<- G];exact oO.k D,⟨C,D⟩,k w F H .refl p⟩ g
 | _=>exact i_ q
theorem M3 {a b:Expr}{y z:EV}{N:Pos} (u:X.A.units+1 < cLine) (x:PE X a (tV X.K y)) (e:PE X b (tV X.K z)) (s:mm b):PE X (.Subscript a b N) (tV X.K (ag aA y z)):=
 (Eu (Mz u) x e s).imp' fun _ _ _ h=>qP h
end
section
variable {X:Cx}
theorem mH:∀{s:List (cS×V)}{a:List D}{d:D},du K F H m a (s.map (·.2))->jc k (s.map (·.1)) a=some d->∃v,jM s k=some v/\RD K F H m d v
 | [],a,d,r,h=>by cases a <;> exact i_ h
 | (f,v)::s,[],d,r,h=>i_ h
 | (f,v)::s,g::a,d,r,h=>by
  obtain⟨x,i,e,p,b⟩:=r;rw [List.map_cons] at e;injection e with c t;simp only [List.map_cons,jc] at h;by_cases n:f=k
  .rw [if_pos n] at h;cases h;exact⟨v,gq (p:=(f,v)) n,by rw [show v=x from c];exact p⟩
  .rw [if_neg n] at h;rw [<- t] at b;obtain⟨w,q,u⟩:=mH b h;exact⟨w,by rw [gu (p:=(f,v)) n];exact q,u⟩
noncomputable def fI (r:EE) (k:EV):EE:=fun L S=>ba (r L S) fun d x=>ba (k L x) fun y h=>match d with
 | .p v=>(aA v y).map fun z=>(.p z,h)
 | .ref i=>match h[i]? with
  | some (.lst s)=>(match y with
   | .int j=>(L2.atI s j).map fun z=>(z,h)
   | _=>none)
  | some (.fz v)=>(aA v y).map fun z=>(.p z,h)
  | some (.dct a U)=>(match fU y with
   | some k=>(jc k a U).map fun z=>(z,h)
   | none=>none)
  | _=>none
theorem Lb {a b:Expr}{y:EE}{z:EV}{N:Pos} (hu:X.A.units+1 < cLine) (ha:PE X a (tE X.K y)) (hb:PE X b (tV X.K z)) (hs:mm b):PE X (.Subscript a b N) (tE X.K (fI y z)):=
 (Eu (((Mz hu).or rz).or (Bs hu)) ha hb hs).imp' fun M H Q hz=>by
  obtain⟨F,m,L,S,d,O,r,l,q,k⟩:=hz;obtain⟨x,S1,A,q⟩:=ao q;obtain⟨h,K,e2,q⟩:=ao q;refine⟨F,m,L,S,x,S1,r,l,A,fun v C m1 I c r1 p1=>?_⟩;refine⟨C,m1,L,S1,h,K,r1,l.mono c,e2,fun u B R Y o f W=>?_⟩;have px:=RD.mono o p1;have s:∀w:P,RP X.K B Y w v->(aA w h).map (fun e=>(D.p e,K))=some (d,O)->rP X.K aA v u Y Q:=fun w pw q=>by
   cases g:aA w h with
   | none=>rw [g] at q;cases q
   | some e=>rw [g] at q;cases q;exact⟨B,w,h,e,f.ft,pw,W,g,fun t F3 H3 gr Z=>k t F3 R H3 (c.trans (o.trans gr.stp)) (f.grow gr) Z⟩
  cases x with
  | p w=>exact .inl (.inl (s w px q))
  | ref i=>
   obtain⟨a,rfl,hm⟩:=px;dsimp only at q;cases T:K[i]? with
   | none=>rw [T] at q;cases q
   | some so=>
    rw [T] at q;have V:=f.obj i a so hm T;cases so with
    | fz w=>exact .inl (.inl (s w V q))
    | dct ks U=>
     dsimp only at q;obtain⟨n,hk,ek,ra⟩:=V;cases E:fU h with
     | none=>rw [E] at q;cases q
     | some J=>
      rw [E] at q;dsimp only at q;subst ek;cases g:jc J (n.map (·.1)) U with
      | none=>rw [g] at q;cases q
      | some e=>rw [g] at q;cases q;obtain⟨w,A,p⟩:=mH ra g;have G:=ir E W;subst G;exact .inr ⟨a,w,rfl,by rw [<- A];exact oO.k hk,⟨n,hk⟩,k w B R Y (c.trans o) f p⟩
    | ins _ _ _=>cases q
    | exc _=>cases q
    | dtt _ _=>cases q
    | lst ds=>
     dsimp only at q;cases h with
     | int j=>
      dsimp only at q;obtain⟨xs,hH,rs⟩:=V;cases g:L2.atI ds j with
      | none=>rw [g] at q;cases q
      | some e=>rw [g] at q;cases q;obtain⟨t,e3,Z⟩:=rs.atI g;cases (show u=.int j from W);exact .inl (.inr ⟨a,xs,j,t,rfl,rfl,eN.of hH,e3,k t B R Y (c.trans o) f Z⟩)
     | _=>cases q
noncomputable def bF:P->Option Nat
 | .tup xs=>some xs.length
 | .lst xs=>some xs.length
 | .ro xs=>some xs.length
 | .str x=>if fM x.length=true then some x.length else none
 | _=>none
noncomputable def bC:D->aR->Option Nat
 | .p v,_=>bF v
 | .ref i,S=>match S[i]? with
  | some (.lst d)=>some d.length
  | some (.fz v)=>bF v
  | _=>none
noncomputable def ck (r:EE):EV:=fun L S=>ba (r L S) fun d h=>(bC d h).map fun n=>(.int n,h)
theorem xT {F:Aa}{H:Hp}{w:P}{v:V}{n:Nat}{Q:VK} (p:RP X.K F H w v) (h:bF w=some n) (q:Q (.int n) H) :
  (∃p y,[v]=[V.ref p]/\(eN X.K H p y\/n6 X.K H p y)/\Q (.int y.length) H)\/(∃z,[v]=[V.str z]/\z.length≤sizeLine/\Q (.int z.length) H):=by
 cases w with
 | tup d=>obtain⟨a,xs,rfl,t,r⟩:=p;cases h;exact .inl ⟨a,xs,rfl,.inr t.sq,by rw [<- r.length];exact q⟩
 | lst d=>obtain⟨a,xs,rfl,t,r⟩:=p;cases h;exact .inl ⟨a,xs,rfl,.inl t.sq,by rw [<- r.length];exact q⟩
 | ro d=>obtain⟨a,xs,rfl,t,r⟩:=p;cases h;exact .inl ⟨a,xs,rfl,.inl t.sq,by rw [<- r.length];exact q⟩
 | str x=>
  cases (show v=.str x from p);simp only [bF] at h;split at h
  .rename_i c;cases h;exact .inr ⟨x,rfl,eW c,q⟩
  .cases h
 | _=>exact i_ h
theorem La (K:Gl X "len") (s:X.mg "len"=none) (z:PE X e (tE X.K fe)) (b:starEach [e] X.env=[(false,eval e X.env)]:=by rfl):PE X (.Call (.Name "len" p) [e] [] N) (tV X.K (ck fe)):=
 (gv (sg.or sf) K s PySem.boot_len (cm z eu (by rw [b];rfl)) (by decide) (by decide) (by rw [b];rfl) rfl).imp' fun M H Q P=>by
  obtain⟨F,m,L,S,d,O,r,l,q,k⟩:=P;obtain⟨x,f,g,q⟩:=ao q;refine⟨F,m,L,S,x,f,r,l,g,fun v C A I D t c=>?_⟩;cases h:bC x f with
  | none=>rw [h] at q;cases q
  | some n=>
   rw [h] at q;cases q;have y:Q (.int n) I:=k _ C A I D t rfl;cases x with
   | p w=>exact xT c h y
   | ref i=>
    obtain⟨a,rfl,s⟩:=c;simp only [bC] at h;cases T:O[i]? with
    | none=>rw [T] at h;cases h
    | some u=>
     rw [T] at h;have o:=t.obj i a u s T;cases u with
     | fz w=>exact xT o h y
     | dct G U=>cases h
     | ins _ _ _=>cases h
     | exc _=>cases h
     | dtt _ _=>cases h
     | lst E=>cases h;obtain⟨xs,j,B⟩:=o;exact .inl ⟨a,xs,rfl,.inl (eN.of j),by rw [<- B.length];exact y⟩
noncomputable def cO (d:D) (S:aR):Option (Nat×List D):=match d with
 | .ref i=>match S[i]? with
  | some (.lst s)=>some (i,s)
  | _=>none
 | _=>none
theorem iT (h:cO d S=some (i,k)):d=.ref i/\S[i]? = some (.lst k):=by
 unfold cO at h;split at h
 .split at h
  .rename_i e;cases h;exact⟨rfl,e⟩
  .cases h
 .cases h
noncomputable def da (r:EE) (a:EE):EE:=fun L S=>ba (r L S) fun d h=>match cO d h with
 | none=>none
 | some _=>ba (a L h) fun x e=>match cO d e with
  | some (i,s)=>if ku s=true then some (.p .non,e.set i (.lst (s++[x]))) else none
  | none=>none
theorem w8 {o e:Expr}{R fe:EE}{p c:Pos} (ho:PE X o (tE X.K R)) (he:PE X e (tE X.K fe)) (E:starEach [e] X.env=[(false,eval e X.env)]:=by rfl)
  (b:attributeBase o "append" X.env (eval o X.env)=eval o X.env:=by rfl) (f:(p.endLine == c.line)=true:=by rfl):PE X (.Call (.Attribute o "append" p) [e] [] c) (tE X.K (da R fe)):=
 (Ew u6 PySem.F.slot_list_append PySem.F.type_list_append kP ho (cm he eu (by rw [E];rfl)) b (by rw [E];rfl) f (by rw [E];rfl) rfl).imp' fun M H Q hz=>by
  obtain⟨F,m,L,S,d,O,r,h,q,k⟩:=hz;obtain⟨x,K,e1,q⟩:=ao q;refine⟨F,m,L,S,x,K,r,h,e1,fun v C m1 I s1 Z W=>?_⟩;cases A:cO x K with
  | none=>rw [A] at q;cases q
  | some z=>
   obtain⟨i,ds⟩:=z;rw [A] at q;dsimp only at q;obtain⟨rfl,T⟩:=iT A;obtain⟨a,rfl,hm⟩:=id W;obtain⟨xs,hH,rs⟩:=Z.obj i a _ hm T;refine⟨.inl ⟨rfl,xs,eN.of hH⟩,?_⟩;obtain⟨y,N,e2,q⟩:=ao q;refine⟨C,m1,L,K,y,N,Z,h.mono s1,e2,fun u B G Y s2 J p2=>?_⟩;cases s:cO (.ref i) N with
   | none=>rw [s] at q;cases q
   | some z=>
    obtain⟨i2,P⟩:=z;rw [s] at q;dsimp only at q;obtain⟨e3,n⟩:=iT s;cases e3;split at q
    .rename_i U;cases q;obtain⟨a2,e4,t⟩:=RD.mono s2 W;cases e4;obtain⟨w,g,j⟩:=J.obj i a _ t n;have hl:=nL U;have D:w.length < sizeLine:=by
      have:P.length≤1000000:=bq U;rw [<- j.length];exact qz this (by decide)
     have V:∀zs,Y a≠some (.tup zs):=fun zs z=>by rw [g] at z;cases z
     have l:Stp B G Y B G (cF Y a (.lst (w++[u]))):=gO J t n trivial V;refine⟨a,w,u,rfl,rfl,g,D,?_⟩;exact k .non B G _ (s1.trans (s2.trans l)) (J.set t n trivial V ⟨_,a1,du.mono l (j.append ⟨u,[],rfl,p2,rfl⟩)⟩) rfl
    .cases q
noncomputable def BL (r:EE):EE:=fun L S=>ba (r L S) fun d h=>match cO d h with
 | some (i,s)=>match s[s.length-1]? with
  | some x=>some (x,h.set i (.lst s.dropLast))
  | none=>none
 | none=>none
theorem du.dropLast (r:du K F H m h xs):du K F H m h.dropLast xs.dropLast:=by rw [List.dropLast_eq_take,List.dropLast_eq_take,r.length];exact r.take _
theorem K6 (E:PE X o (tE X.K fo))
  (b:attributeBase o "pop" X.env (eval o X.env)=eval o X.env:=by rfl) (n:(t.endLine == J.line)=true:=by rfl):PE X (.Call (.Attribute o "pop" t) [] [] J) (tE X.K (BL fo)):=
 (F0 u6 PySem.F.slot_list_pop PySem.F.type_list_pop Gn E b n).imp' fun M H Q G=>by
  obtain⟨F,m,L,S,d,O,r,h,q,k⟩:=G;obtain⟨x,j,B,q⟩:=ao q;refine⟨F,m,L,S,x,j,r,h,B,fun v C p I U w N=>?_⟩;cases e:cO x j with
  | none=>rw [e] at q;cases q
  | some z=>
   obtain⟨i,K⟩:=z;rw [e] at q;dsimp only at q;obtain⟨rfl,T⟩:=iT e;obtain⟨a,rfl,c⟩:=id N;obtain⟨xs,f,g⟩:=w.obj i a _ c T;refine⟨.inl ⟨rfl,xs,eN.of f⟩,?_⟩;cases s:K[K.length-1]? with
   | none=>rw [s] at q;cases q
   | some y=>
    rw [s] at q;cases q;obtain⟨u,D,R⟩:=g.get s;have P:∀A,I a≠some (.tup A):=fun A z=>by rw [f] at z;cases z
    have l:Stp C p I C p (cF I a (.lst xs.dropLast)):=gO w c T trivial P;refine⟨a,xs,u,rfl,rfl,f,by rw [<- g.length];exact D,?_⟩;exact k u C p _ (U.trans l) (w.set c T trivial P ⟨_,a1,du.mono l g.dropLast⟩) (RD.mono l R)
noncomputable abbrev EO:=Lc->aR->Option (Option Int×aR)
noncomputable def aE:EO:=fun _ S=>some (none,S)
noncomputable def aD (a:EV):EO:=fun L S=>ba (a L S) fun v h=>match v with
 | .int i=>some (some i,h)
 | _=>none
inductive tOI (K:FG) (f:EO) (σ:L2.St) (H:Hp) (Q:Option Int->Hp->Prop):Prop
 | mk (F:Aa) (m:List Addr) (L:Lc) (S:aR) (b:Option Int) (S':aR) (h0_:Rel K F H m S) (h1_:RL K F H m σ L) (h2_:f L S=some (b,S')) (h3_:∀F' m' H',Stp F m H F' m' H'->Rel K F' H' m' S'->Q b H'):tOI K f σ H Q
noncomputable def tO (K:FG) (f:EO):TO:=fun M H Q=>tOI K f M H Q
theorem _root_.L2.PO.imp' (h:PO X e t) (i:∀M H Q,k M H Q->t M H Q):PO X e k:=fun p s M H Q I q=>h p s M H Q I (i M H Q q)
theorem Gj:PO X none (tO X.K aE):=Dd.imp' fun M H Q h=>by obtain⟨F,m,L,S,d,O,r,l,q,k⟩:=h;cases q;exact k F m H .refl r
theorem Bd (h:PE X e (tV X.K y)):PO X (some e) (tO X.K (aD y)):=(Dc h).imp' fun M H Q z=>by
 obtain⟨F,m,L,S,d,O,r,l,q,k⟩:=z;obtain⟨x,b,a,q⟩:=ao q;cases x with
 | int i=>cases q;exact⟨F,m,L,S,_,_,r,l,a,fun v C s I f n p=>⟨i,p,k C s I f n⟩⟩
 | _=>cases q
noncomputable def cut (xs:List Q) (lo h:Option Int):List Q:=(xs.drop (HT.d9 xs.length 0 lo)).take (HT.d9 xs.length xs.length h-HT.d9 xs.length 0 lo)
theorem bR.cut (r:bR K F H k xs) (lo h:Option Int):bR K F H (Ev.cut k lo h) (uF xs lo h):=by unfold Ev.cut uF;rw [r.length];exact (r.drop _).take _
noncomputable def MN:P->Option Int->Option Int->Option P
 | .lst xs,lo,h=>some (.lst (cut xs lo h))
 | .ro xs,lo,h=>some (.lst (cut xs lo h))
 | .tup xs,lo,h=>if HT.d9 xs.length 0 lo=0/\HT.d9 xs.length xs.length h=xs.length then none else some (.tup (cut xs lo h))
 | _,_,_=>none
theorem _root_.L2.PI.imp' (h:PI X r iter t) (i:∀M H R,k M H R->t M H R):PI X r iter k:=fun p s M H R I q=>h p s M H R I (i M H R q)
theorem Bt (f:∀B h Y,Stp F m H B h Y->eN K Y a xs) (r:bR K F H U xs):EY K (JY K a) U F m H:=by
 intro B h Y s;have q:=f B h Y s;have k:=bR.mono s r;refine⟨fun i v e=>?_,⟨xs,q,by rw [k.length];exact Nat.le_refl _⟩⟩;obtain⟨x,n,p⟩:=k.get e;refine⟨⟨xs,x,q,n⟩,fun y b z=>?_⟩;obtain⟨rfl,z⟩:=z;have:=z xs q
 rw [n] at this;cases this;exact⟨B,.refl,p⟩
theorem GG (k:TupAt K H a xs) (r:bR K F H U xs):EY K (MV K a) U F m H:=by
 intro B b Y s;have q:=(k.kp s.kp).sq;have n:=bR.mono s r;refine⟨fun i v e=>?_,⟨xs,q,by rw [n.length];exact Nat.le_refl _⟩⟩;obtain⟨x,h,p⟩:=n.get e;refine⟨⟨xs,x,q,h⟩,fun y f z=>?_⟩;obtain⟨rfl,z⟩:=z;have:=z xs q
 rw [h] at this;cases this;exact⟨B,.refl,p⟩
noncomputable def intsFrom (lo:Int) (n:Nat):List P:=(List.range n).map fun (i:Nat)=>.int (lo+(i:Int))
noncomputable def jA (a:EV):f6:=fun L S=>ba (a L S) fun v h=>match v with
 | .int j=>if decide (j.natAbs < 1000000)=true then some (intsFrom 0 j.toNat,h) else none
 | _=>none
theorem GH {lo:Int}:EY K (KL lo n) (intsFrom lo n) F m H:=by
 intro B k Y s;have l:(intsFrom lo n).length=n:=by unfold intsFrom;simp
 refine⟨fun i v e=>?_,by show n≤(intsFrom lo n).length;rw [l];exact Nat.le_refl _⟩;have h:i < n:=by rw [<- l];exact (bw.mp e).1
 refine⟨h,fun x a z=>?_⟩;obtain⟨rfl,rfl⟩:=z;refine⟨B,.refl,?_⟩;unfold intsFrom at e;simp [h] at e;subst e;exact rfl
theorem NC {w a:Expr}{y:EV}{p N:Pos} (g:Gl X "range") (n:X.mg "range"=none) (s:PE X a (tV X.K y)) (h:starEach [a] X.env=[(false,eval a X.env)]:=by rfl):PI X w (.Call (.Name "range" p) [a] [] N) (tI X.K (jA y)):=
 (yW g n (cm s eu (by rw [h];rfl)) h).imp' fun M H R z=>by
  obtain⟨F,m,L,S,U,O,r,l,q,k⟩:=z;obtain⟨v,u,e,q⟩:=ao q;cases v with
  | int j=>
   dsimp only at q;split at q
   .rename_i c;have i:j.natAbs < 1000000:=bq c;cases q;refine⟨F,m,L,S,_,_,r,l,e,fun x C f I d t b=>?_⟩;cases (show x=.int j from b);exact⟨j,rfl,by lia,by lia,k _ C f I d t GH⟩
   .cases q
  | _=>cases q
end
noncomputable def aJ (g:i0) (c:EB) (e:EV):List P->Lc->aR->Option (List P×aR)
 | [],_,S=>some ([],S)
 | v::r,L,S=>match g v L with
  | none=>none
  | some h=>ba (c h S) fun k x=>if k=true then ba (e h x) fun y a=>ba (aJ g c e r h a) fun n s=>some (y::n,s) else aJ g c e r h x
noncomputable def c_ (j:List Nat) (n:Nat) (L:List (Option Q)):List (Option Q):=(j.foldl (fun L i=>L.set i none) L)++List.replicate n none
noncomputable def au (i:f6) (j:List Nat) (n:Nat) (g:i0) (c:EB) (e:EV):EV:=fun L S=>ba (i L S) fun xs h=>if ku xs=true then ba (aJ g c e xs (c_ j n L) h) fun y x=>some (.lst y,x) else none
noncomputable def aZ:EB:=fun _ S=>some (true,S)
theorem eD (j:List Nat):∀L:List (Option Q),(j.foldl (fun L i=>L.set i none) L).length=L.length:=by
 induction j with
 | nil=>intro L;rfl
 | cons t j h=>intro L;rw [jl,h,cv]
theorem oj (j:List Nat):∀(L:List (Option Q)) (i:Nat) (d:Q),(j.foldl (fun L i=>L.set i none) L)[i]? = some (some d)->L[i]? = some (some d)/\i ∉ j:=by
 induction j with
 | nil=>intro L i d h;exact⟨h,by simp⟩
 | cons t j s=>
  intro L i d h;rw [jl] at h;obtain⟨x,a⟩:=s _ _ _ h;by_cases e:t=i
  .subst e;by_cases l:t < L.length
   .rw [et l] at x;cases x
   .rw [List.getElem?_eq_none (by rw [cv];lia)] at x;cases x
  .rw [cU e] at x;exact⟨x,by simp [a];exact fun z=>e z.symm⟩
theorem qH (j:List Nat) (n:Nat) (L:List (Option Q)):(c_ j n L).length=L.length+n:=by unfold c_;rw [bN,eD,List.length_replicate]
theorem xb (h:(c_ j n L)[i]? = some (some d)):L[i]? = some (some d)/\i ∉ j/\i < L.length:=by
 unfold c_ at h;by_cases x:i < L.length
 .rw [List.getElem?_append_left (by rw [eD];exact x)] at h;obtain⟨a,e⟩:=oj j L i d h;exact⟨a,e,x⟩
 .rw [c7 (by rw [eD];lia),u4] at h;split at h <;> cases h
variable {M:L2.St}
theorem RL.up (l:RL K F H m M L) (j:List Nat) (n:Nat):RL K F H m (c_ j n M) (c_ j n L):=by
 refine⟨by rw [qH,qH,l.len],fun i d h=>?_⟩;obtain⟨a,s,f⟩:=xb h;obtain⟨v,e,r⟩:=l.at' i d a;refine⟨v,?_,r⟩;unfold c_;rw [List.getElem?_append_left (by rw [eD,l.len];exact f)];have k:∀(j:List Nat) (M:L2.St),i ∉ j->M[i]? = some (some v)->(j.foldl (fun L i=>L.set i none) M)[i]? = some (some v):=by
  intro j;induction j with
  | nil=>intro M _ e;exact e
  | cons t j b=>intro M x e;rw [jl];refine b _ (fun z=>x (bE _ z)) ?_;rw [cU (fun z=>x (by rw [z];exact List.mem_cons_self))];exact e
 exact k j M s e
noncomputable def g_ (G:Scope) (e:Env):List (Str×Addr):=((G.names.filter fun x=>x.2 == .free).map fun x=>(x.1,(e.cells.lookup x.1).getD 0)).reverse
noncomputable def inn (X:Cx) (G:Scope) (q:LS) (s:Shared) (H:Hp) (C:Addr) (f:List Addr):Cx:=
 { X with N:=q,s₀:=s,H₀:=H,env:=compEnvC G (g_ G X.env) C X.env,outer:=X.stack,ex:=f,fn:=fun _=>false,pn:=[],xe:=fun _ _=>False }
structure BlockOk (X:Cx) (scope:Scope) (N':LS) (ts:List Nat) (n:Nat):Prop where
 kind:scope.kind=.function
 cell:∀x ∈ scope.names,x.2≠.cell
 loc:∀x ∈ scope.names,x.2=.local->scope.names.lookup x.1=some .local
 fr:∀x ∈ scope.names,x.2=.free->scope.names.lookup x.1=some .free/\(X.env.kindOf x.1=some .cell\/X.env.kindOf x.1=some .free)
 names:X.N=N'.take X.N.length
 more:N'.length=X.N.length+n
 ts:∀x ∈ scope.names,x.2=.local->∀i:Nat,X.N[i]? = some x.1->i ∈ ts
theorem fG:∀{l:List (Str×Q)}{x:Str}{v:Q},l.lookup x=some v->(x,v) ∈ l
 | [],_,_,h=>by simp at h
 | (y,w)::r,x,v,h=>by
  rw [List.lookup_cons] at h;cases e:x == y with
  | true=>rw [e] at h;cases h;rw [show x=y from by simpa using e];exact List.mem_cons_self
  | false=>rw [e] at h;exact bE _ (fG h)
theorem ja:∀{l:List (Str×Q)}{x:Str}{v:Q},(x,v) ∈ l->∃w,l.lookup x=some w
 | [],_,_,h=>by simp at h
 | (y,w)::r,x,v,h=>by
  rw [List.lookup_cons];cases e:x == y with
  | true=>exact⟨w,rfl⟩
  | false=>
   rcases List.mem_cons.mp h with h | h
   .injection h with a _;subst a;simp at e
   .exact ja h
variable {x:Str}
theorem dX (h:(relabel G r).names.lookup x=some k):∃a,(x,a) ∈ G.names/\(k=a\/(k=.cell/\a=.free)):=by
 have m:=fG h;unfold relabel at m;obtain⟨⟨n,a⟩,t,e⟩:=bb.mp m;by_cases c:(a == NameKind.free && r.scope.kind == .function && r.kindOf n == some .cell)=true
 .have s:(n,NameKind.cell)=(x,k):=by simpa [c] using e
  injection s with f b;subst f;rw [Bool.and_eq_true,Bool.and_eq_true] at c;exact⟨a,t,.inr ⟨b.symm,by simpa using c.1.1⟩⟩
 .have s:(n,a)=(x,k):=by simpa [c] using e
  injection s with f b;subst f;exact⟨a,t,.inl b.symm⟩
section
variable {X:Cx}{G:Scope}{q:LS}{j:List Nat}{n:Nat}
theorem BlockOk.cl (B:BlockOk X G q j n) (I:Inv X J M H s) (h:(g_ G X.env).lookup x=some c):X.env.cells.lookup x=some c/\(x,NameKind.free) ∈ G.names:=by
 have t:=fG h;unfold g_ at t;obtain⟨⟨y,k⟩,m,e⟩:=bb.mp (ms.mp t);obtain⟨m,w⟩:=fk.mp m;have r:k=.free:=by simpa using w
 subst r;injection e with v f;subst v;obtain⟨_,d⟩:=B.fr _ m rfl;obtain⟨p,a⟩:=I.ok.has y d;dsimp only at f;rw [a] at f;have b:p=c:=f;subst b;exact⟨a,m⟩
theorem BlockOk.has (B:BlockOk X G q j n) (h:(x,NameKind.free) ∈ G.names):∃c,(g_ G X.env).lookup x=some c:=by unfold g_;exact ja (v:=(X.env.cells.lookup x).getD 0) (ms.mpr (bb.mpr ⟨(x,.free),fk.mpr ⟨h,by simp⟩,rfl⟩))
theorem wv (B:BlockOk X G q j n) (I:Inv X r M H s) (C:s.heap.objs.size≤k) (f:∀b ∈ t,oN X r H b) (w:∀b ∈ t,b < s.heap.objs.size) :
  (inn X G q s H k t).Ok where
 mod:=I.ok.mod
 kind:=B.kind
 glob:=I.ok.glob
 blt:=I.ok.blt
 above:=C
 inj:=fun x y c v d=>I.ok.inj x y c (B.cl I v).1 (B.cl I d).1
 has:=fun x h=>by
  have p:(relabel G X.env).names.lookup x=some .cell\/(relabel G X.env).names.lookup x=some .free:=h;rcases p with h | h
  .obtain⟨u,m,e | ⟨_,e⟩⟩:=dX h
   .subst e;exact absurd rfl (B.cell _ m)
   .subst e;exact B.has m
  .obtain⟨u,m,e | ⟨e,_⟩⟩:=dX h
   .subst e;exact B.has m
   .cases e
 cab:=fun x c h=>nomatch h
 hd:=I.ok.hd
 frames:=I.ok.frames
 stk:=.inl rfl
 exf:=fun b a=>⟨bM (cu (w b a) C),fun x c h=>(f b a).2.2.2.2.1 x c (B.cl I h).1⟩
 bs:=I.bs
 bsz:=bL I.ok.bsz I.sz
 noex:=fun b o e a=>by
  rcases (f b a).2.2.2.1 with z | z
  .exact I.ok.noex b o e z
  .exact absurd (cu (aV (I.ok.bs b o e).1) z) (hX _)
 exfs:=fun b a z=>by
  rcases List.mem_cons.mp (I.stkSub b z) with z | z
  .exact (f b a).2.1 z
  .exact (f b a).2.2.1 z
 funs:=I.stack
 frf:=I.stkFree
theorem _root_.L2.Un.sameBut (u:Un fs r H H' h t) (s:Heap.SameBut k t J) (C:∀b o,h.get? b=some o->b≠k):Un fs r H H' h J where
 keep:=fun b o e n a x=>s.extBut b o (C b o e) (u.keep b o e n a x)
 slot:=fun b o e n a x=>by obtain⟨l,q⟩:=u.slot b o e n a x;exact⟨l,s.extBut b _ (C b o e) q⟩
 free:=u.free
 there:=fun b o e x=>by obtain⟨f,q⟩:=u.there b o e x;exact⟨f,s.extBut b _ (C b o e) q⟩
 tups:=u.tups
 frzs:=u.frzs
 tbls:=u.tbls
theorem _root_.L2.hU.sameBut {P:Program}{w:World}{H:Hp}{h x:Heap}{C:Addr} (ok:hU P w H h) (n:Heap.SameBut C h x) (a:H C=none):hU P w H x:=fun b u e=>
 (ok b u e).stay (fun c v s q=>n.extBut c v (by
  rintro rfl;rcases s with z | z
  .subst z;rw [a] at e;cases e
  .rw [a] at z;cases z) q) (fun _ q=>q) fun _ _ q=>q
inductive PIfs (X:Cx):Ab->EB->Prop where
 | none:PIfs X [] aZ
 | one {c:Expr}{q:EB}:PT X c (tQ X.K q)->PIfs X [c] q
theorem Kp.bump (x:¬F p) (t:∀xs,H p≠some (.tup xs)):Kp F m H F m (cF H p o):=
 ⟨⟨[],by simp⟩,fun _ h=>h,fun b u f h=>by rw [aF (by rintro rfl;exact x f)];exact h,fun b xs h=>by rw [aF (by rintro rfl;exact t xs h)];exact h⟩
theorem Stp.bump (s:Stp F m H F' m' H') (x:H p=none):Stp F m H F' m' (cF H' p o) where
 pre:=s.pre
 oth:=fun b u h a=>by rw [aF (by rintro rfl;rw [x] at h;cases h)];exact s.oth b u h a
 frz:=s.frz
 frk:=fun b u f h=>by rw [aF (by rintro rfl;rw [x] at h;cases h)];exact s.frk b u f h
 tup:=fun b xs h=>by rw [aF (by rintro rfl;rw [x] at h;cases h)];exact s.tup b xs h
 trk:=fun b h=>by
  by_cases e:b=p
  .subst e;rw [a1];exact fun z=>nomatch z
  .rw [aF e];exact s.trk b h
 nf:=s.nf
 nm:=s.nm
theorem Rel.bump (r:Rel K F H m S) (x:¬F p) (s:p ∉ m) (t:∀xs,H p≠some (.tup xs)):Rel K F (cF H p o) m S:=
 r.stayK (Kp.bump x t) (fun a u e h=>by rw [aF (by rintro rfl;exact s e)];exact h) (fun _ f=>.inl f) fun a f=>by rw [aF (by rintro rfl;exact x f)];exact r.ft a f
theorem LZ:Kp F m H (fun b=>F b\/b=p) m H:=⟨⟨[],by simp⟩,fun _ h=>.inl h,fun _ _ _ h=>h,fun _ _ h=>h⟩
theorem Stp.addF (s:Stp F m H F' m' H') (x:H p=none):Stp F m H (fun b=>F' b\/b=p) m' H':=
 ⟨s.pre,s.oth,fun b h=>.inl (s.frz b h),s.frk,s.tup,s.trk,fun b h=>by
  rcases h with h | h
  .exact s.nf b h
  .subst h;exact .inr (.inl x),s.nm⟩
theorem Rel.addF (r:Rel K F H m S) (s:p ∉ m) (n:H p≠none):Rel K (fun b=>F b\/b=p) H m S where
 len:=r.len
 nd:=r.nd
 obj:=fun i a o e x=>(r.obj i a o e x).kp LZ fun u h=>h
 sep:=fun i a o e x w f=>by
  rcases f with f | f
  .exact r.sep i a o e x w f
  .subst f;exact s (cV e)
 trk:=r.trk
 ft:=fun a f=>by
  rcases f with f | f
  .exact r.ft a f
  .subst f;exact n
theorem _root_.L2.Inv.letGo (I:Inv X k M H s) (f:Heap.SameBut h s.heap t) (C:H h=none) (v:X.s₀.heap.objs.size≤h) (d:h≠X.env.locals)
  (w:∀x c,X.env.cells.lookup x=some c->c≠h) (u:∀p ∈ X.pn++k,p.1≠h):Inv X k M H { s with heap:=t }:=by
 have r:∀b:Addr,b ∉ [h]->b≠h:=fun b m z=>m (by simp [z]);refine I.call' (z:={ s with heap:=t }) (i:=[h]) rfl ⟨fun b o e _ _ a=>f.extBut b o (r b a) e,fun b o e _ _ a=>⟨o.slots,f.extBut b o (r b a) e⟩,fun _ _ _ n _=>n,fun b o e a=>⟨o,f.extBut b o (r b a) e⟩,fun _ _ q=>q,fun _ _ _ q=>q,fun b g q=>⟨#[],by rw [q];simp⟩⟩ (I.hok.sameBut f C) I.bare fun b m=>?_;have e:b=h:=by simpa using m
 subst e;exact⟨.inr v,d,w,u⟩
theorem pD (I:Nat->Shared->Prop)
  (u:∀n s,I n s->wpAny (model t w) A (pyNext it) (fun r f=>match r with
   | none=>R (.ok .next) f
   | some v=>wpAny (model t w) A (letOwnedTupleGo tg it v) (fun _ d=>wpAny (model t w) A (assign tg k v) (fun _ g=>
     wpAny (model t w) A (forIn eh true fun c r=>if r=true then do let ok <- isTrue c k (eval c k);pure (ForInStep.yield ok) else pure (ForInStep.yield r)) (fun ok b=>
      if ok=true then wpAny (model t w) A (eval elt k) (fun x i=>
       wpAny (model t w) A (call (.builtin "list.append") [J,x]) (fun _ j=>∃m,m < n/\I m j) (notedBy (model t w) A k fun e a=>R (.error e) a) i) (notedBy (model t w) A k fun e a=>R (.error e) a) b
      else ∃m,m < n/\I m b) (notedBy (model t w) A k fun e a=>R (.error e) a) g) (notedBy (model t w) A k fun e a=>R (.error e) a) d) (notedBy (model t w) A k fun e a=>R (.error e) a) f) (notedBy (model t w) A k fun e a=>R (.error e) a) s)
  (n:Nat) (h:I n s):codeAny (model t w) A (.compLoop (.ListComp elt [⟨tg,iter,eh,0⟩] G N) 0 it J k) R s:=by
 refine codeAny_loop rfl I (fun n s S=>?_) n h;show wpAny _ A ((compTurn (.ListComp elt [⟨tg,iter,eh,0⟩] G N) 0 it J k).onRaise (fun x=>do noteFrame x k;theTreesLotGoes x)) _ _ s;refine wpAny_noted ?_;rw [compTurn_list];refine wpAny_bind (lT (wpAny_bind (wpAny_mono (u n s S) (fun r f p=>?_) fun _ _ z=>z)));cases r with
 | none=>exact wpAny_pure p
 | some v=>
  refine wpAny_bind (wpAny_mono p (fun _ d l=>wpAny_bind (wpAny_mono l (fun _ g y=>wpAny_bind (wpAny_mono y (fun ok b q=>?_) fun _ _ z=>z)) fun _ _ z=>z)) fun _ _ z=>z);cases ok with
  | false=>exact wpAny_pure ⟨rfl,q⟩
  | true=>exact wpAny_bind (wpAny_bind (wpAny_mono q (fun x i o=>wpAny_bind (wpAny_mono o (fun _ j H=>wpAny_pure (wpAny_pure ⟨rfl,H⟩)) fun _ _ z=>z)) fun _ _ z=>z))
theorem ye {g:Heap}{tk:Nat} (B:BlockOk X G q j n) (I:Inv X J M Y k) (C:k.heap.objs.size≤h) (W:∀b ∈ fp,oN X J Y b) (A:∀b ∈ fp,b < k.heap.objs.size) (l:∀b o,k.heap.get? b=some o->g.get? b=some o)
  (Z:Y k.heap.objs.size=none) (D:k.heap.objs.size≠h) (P:Y h=none) (t:g.Ns h mC) (a:g.get? k.heap.objs.size=some { cls:=.type "list",dict:=none,data:=.seq ([]:LV).toArray }) :
  Inv (inn X G q k Y h fp) [] (c_ j n M) (cF Y k.heap.objs.size (.lst [])) { k with heap:=g,toks:=tk }:=by
 refine⟨wv B I C W A,rfl,I.bare,Un.laid l (Nat.le_refl _) Z,?_,fun x c e=>?_,?_,fun x c e=>?_,fun p hp=>absurd (show p ∈ ([]:PN) from hp) (by simp),?_,?_⟩
 .obtain⟨m0,hn0,E⟩:=I.loc;refine⟨_,t,fun i x v T U hv=>?_⟩;obtain⟨S,F,K⟩:=xb U;have r:M.length=X.N.length:=I.len;have O:X.N[i]? = some x:=by
   rw [B.names,kB (by rw [<- r];exact K)];exact T
  have w:(relabel G X.env).names.lookup x=some .local\/(relabel G X.env).names.lookup x=some .cell\/(relabel G X.env).names.lookup x=some .free:=hv;have R:¬(relabel G X.env).names.lookup x=some .local:=fun z=>by
   obtain⟨Q,m,e | ⟨e,_⟩⟩:=dX z
   .subst e;exact absurd (B.ts _ m rfl i O) F
   .cases e
  have N:(x,NameKind.free) ∈ G.names:=by
   rcases w with z | z | z
   .exact absurd z R
   .obtain⟨Q,m,e | ⟨_,e⟩⟩:=dX z
    .subst e;exact absurd rfl (B.cell _ m)
    .subst e;exact m
   .obtain⟨Q,m,e | ⟨e,_⟩⟩:=dX z
    .subst e;exact m
    .cases e
  obtain⟨_,f⟩:=B.fr _ N rfl;have L:EU X.env.scope x:=by
   rcases f with z | z
   .exact .inr (.inl z)
   .exact .inr (.inr z)
  obtain⟨u,ru,lk⟩:=E i x v O S L;refine⟨u,ru,.inr ⟨?_,?_⟩⟩
  .rcases w with z | z | z
   .exact absurd z R
   .exact .inl z
   .exact .inr z
  .rcases lk with ⟨z,_⟩ | ⟨_,c,V,ic⟩
   .rcases f with y | y
    .rw [z] at y;cases y
    .rw [z] at y;cases y
   .obtain⟨c',s⟩:=B.has N;have:=(B.cl I s).1
    rw [V] at this;cases this;obtain⟨o,d,H⟩:=ic;exact⟨c,s,o,l c o d,H⟩
 .obtain⟨v,o,d,H⟩:=I.cell x c (B.cl I e).1;exact⟨v,o,l c o d,H⟩
 .show cF Y k.heap.objs.size (.lst []) h=none;rw [aF (bS D)];exact P
 .obtain⟨v,o,d,H⟩:=I.cell x c (B.cl I e).1;rw [aF (bM (aV d))];exact I.freeC x c (B.cl I e).1
 .exact I.hok.laid l (Nat.le_refl _) ⟨Nat.zero_le _,[],0,.nil,a⟩
 .show (c_ j n M).length=q.length;rw [qH,I.len,B.more]
inductive cIv (K:FG) (Y:Cx) (F1:Aa) (m1:List Addr) (H2:Hp) (A:Addr) (tn:Nat->Heap->Prop) (fp:List Addr) (R:Nat->Nat->Lc->aR->List P->Prop) (ys:List P) (nn:Nat) (sx:Shared):Prop
 | mk (i:Nat) (σ':L2.St) (F':Aa) (m':List Addr) (H':Hp) (L':Lc) (S':aR) (acc bx:List P) (xs:List V) (h0_:Inv Y [] σ' H' sx) (h1_:tn i sx.heap) (h2_:∀b ∈ fp,H' b=none) (h3_:Stp F1 m1 H2 F' m' H') (h4_:Rel K F' H' m' S') (h5_:RL K F' H' m' σ' L') (h6_:H' A=some (.lst xs)) (h7_:bR K F' H' acc xs) (h8_:acc.length≤i) (h9_:¬F' A) (ha_:A ∉ m') (hb_:R nn i L' S' bx) (hc_:acc++bx=ys):cIv K Y F1 m1 H2 A tn fp R ys nn sx
theorem pC 
  (B:BlockOk X G q j n) (hcalm:X.calm=true)
  (hi:PI X tg iter (tI X.K fi)) (hg:∀s H h D,PG (inn X G q s H h D) tg (gT X.K g)) (hc:∀s H h D,PIfs (inn X G q s H h D) eh fc) (he:∀s H h D,PE (inn X G q s H h D) elt (tV X.K fe))
  (hclos:closureFor G X.env=pure (g_ G X.env)) (hs:∀x,foldedSetIterable iter X.env x=pure x)
  (a:Inv X pins M H s) (r:Rel X.K F H m S) (l:RL X.K F H m M L) (k:au fi j n g fc fe L S=some (d,S2))
  (fin:∀p F' m' H' sx h,Inv X pins M H' sx->Stp F m H F' m' H'->Rel X.K F' H' m' S2->RP X.K F' H' d (.ref p)->H' h=none->X.s₀.heap.objs.size≤h->h≠X.env.locals->(∀x c,X.env.cells.lookup x=some c->c≠h)->(∀p ∈ X.pn++pins,p.1≠h) ->
   (∃mC,sx.heap.Ns h mC)->compPost (model X.prog X.w) X.A X.xe use t (.ref p) h (.ok .next) sx) :
  wpAny (model X.prog X.w) X.A (comprehension (.ListComp elt [⟨tg,iter,eh,0⟩] G N) G X.env p2 (newList []) false (eval iter X.env) use) t X.xe s:=by
 obtain⟨U,S1,e1,k⟩:=ao k;split at k;case isFalse=>cases k
 rename_i hfew;obtain⟨ys,S2',e2,k⟩:=ao k;cases k;refine wpAny_comprehension_free (use:=use) rfl hs hclos B.kind B.loc (cZ (hi pins s M H _ a ⟨F,m,L,S,U,S1,r,l,e1,fun J C m1 I s1 r1 it=>(show (fun J I=>∃C m1,Stp F m H C m1 I/\Rel X.K C I m1 S1/\EY X.K J U C m1 I) J I from ⟨C,m1,s1,r1,it⟩)⟩) fun xv sA hA=>cZ hA fun itv P h2=>?_);obtain⟨it,D,tn,J,Y,rfl,I2,T,st2,f2,C,m1,s1,r1,itp⟩:=h2;have hfp:∀b ∈ D,b < P.heap.objs.size:=fun b E=>by obtain⟨o,e,_⟩:=T.obj _ _ st2 b E;exact aV e
 refine wpAny_newObj_type ?_ (by show 0≤sizeLine;exact Nat.zero_le _);refine wpAny_newFunctionEnv B.cell (by intro y hy;simp at hy) (fun h1 hns1 hsb1=>?_) B.kind;dsimp only at hns1 hsb1 ⊢;have hD:Y P.heap.objs.size=none:=I2.hok.fresh (Nat.le_refl _);generalize hH2:P.heap.push { cls:=.type "list",dict:=none,data:=.seq ([]:LV).toArray }=K at hns1 hsb1 ⊢;have hC:K.objs.size=P.heap.objs.size+1:=by rw [<- hH2,Heap.size_push]
 have A:P.heap.objs.size≤K.objs.size:=by rw [hC];exact lR _
 have old:∀b o,P.heap.get? b=some o->h1.get? b=some o:=fun b o e=>hsb1.extBut b o (bM (cu (aV e) A)) (Heap.get?_push_of_some _ (hH2 ▸ Heap.get?_push_of_some _ e));have hDC:P.heap.objs.size≠K.objs.size:=by rw [hC];exact bM (ky _)
 have accO:h1.get? P.heap.objs.size=some { cls:=.type "list",dict:=none,data:=.seq ([]:LV).toArray }:=hsb1.extBut _ _ hDC (Heap.get?_push_of_some _ (hH2 ▸ Heap.get?_push_size _ rfl));have hCn:Y K.objs.size=none:=I2.hok.fresh A;have hCcell:∀x c,X.env.cells.lookup x=some c->c≠K.objs.size:=fun x c e z=>by obtain⟨v,o,ho,_⟩:=I2.cell x c e;exact absurd (aV ho) (kv.mpr (by rw [z];exact A))
 have hCloc:K.objs.size≠X.env.locals:=mo (cu I2.lt A);have hCpin:∀p ∈ X.pn++pins,p.1≠K.objs.size:=fun p hp z=>absurd (aV (I2.pin p hp).1) (kv.mpr (by rw [z];exact A));have I3:=ye (tk:=P.toks+([]:List (Str×Value)).length) B I2 A f2 hfp old hD hDC hCn hns1 accO;have okX:=wv (k:=K.objs.size) B I2 A f2 hfp;have fpH:∀{H':Hp},(∀b ∈ D,H' b=none)->∀b ∈ D,oN (inn X G q P Y K.objs.size D) [] H' b:=fun hn b E=>
  ⟨hn b E,bM (cu (hfp b E) A),okX.exfs b E,.inl E,(okX.exf b E).2,fun p hp=>absurd (show p ∈ ([]:PN) from hp) (by simp)⟩
 have tn1:tn 0 h1:=T.keep _ _ _ st2 fun b E o e=>old b o e;have loop:∀s3:Shared,s3={ P with heap:=h1,toks:=P.toks+([]:List (Str×Value)).length } ->
   codeAny (model X.prog X.w) X.A (.compLoop (.ListComp elt [⟨tg,iter,eh,0⟩] G N) 0 (.ref it) (.ref P.heap.objs.size) (compEnvC G (g_ G X.env) K.objs.size X.env))
    (compPost (model X.prog X.w) X.A X.xe use t (.ref P.heap.objs.size) K.objs.size) s3:=by
  rintro s3 rfl;refine pD (cIv X.K (inn X G q P Y K.objs.size D) C m1 Y P.heap.objs.size tn D (fun nn i L' O bx=>nn=U.length-i/\i≤U.length/\aJ g fc fe (U.drop i) L' O=some (bx,S2)) ys) ?_ U.length ?_
  .rintro nn sx ⟨i,σ',F',m',H',L',O,acc,bx,xs,I',tn',fr',st',r',l',hacc,ra,hal,nF,nm,⟨rfl,hi',V⟩,rfl⟩;obtain⟨hgo,hstop⟩:=itp F' m' H' st';by_cases hlt:i < U.length
   .have hv:U[i]? = some U[i]:=by simp [hlt]
    rw [List.drop_eq_getElem_cons hlt] at V;obtain⟨hgo1,hy⟩:=hgo i _ hv;refine wpAny_mono (T.item (inn X G q P Y K.objs.size D) rfl rfl rfl hcalm i [] sx σ' H' (fun _ _=>False) I' (fpH fr') tn' hgo1) (fun rr sy hr=>?_) (fun _ _ f=>f.elim);obtain⟨u,rfl,hr⟩:=hr;refine wpAny_mono hr (fun _ sz hz=>?_) (fun _ _ f=>f.elim);obtain⟨x,H3,I4,rx,yl,tn4,fr4⟩:=hz;obtain⟨F3,gr,p3⟩:=hy x H3 yl;have st4:Stp C m1 Y F3 m' H3:=st'.trans gr.stp;have r4:=r'.grow gr;have l4:=l'.mono (gr.stp (m:=m'));have acc4:=gr.keep _ _ hacc;have nF4:¬F3 P.heap.objs.size:=fun z=>by
     rcases gr.nf _ z with z | ⟨z,_⟩
     .exact nF z
     .rw [hacc] at z;cases z
    have I4':=I4.pinned (fpH fr4) (T.obj _ _ tn4);have back:∀{σ7:L2.St}{H7:Hp}{s7:Shared},Inv (inn X G q P Y K.objs.size D) ([]++im D sz.heap) σ7 H7 s7->tn (i+1) s7.heap/\∀b ∈ D,H7 b=none:=fun {σ7 H7 s7} I7=>
     ⟨T.keep _ _ _ tn4 fun b E o e=>(I7.pin (b,o) (List.mem_append_right _ (List.mem_append_right _ (ez E e)))).1,fun b E=>by obtain⟨o,e,dd⟩:=T.obj _ _ tn4 b E;exact (I7.pin (b,o) (List.mem_append_right _ (List.mem_append_right _ (ez E e)))).2.1⟩
    unfold aJ at V;cases eg:g U[i] L' with
    | none=>rw [eg] at V;cases V
    | some L1=>
     rw [eg] at V;dsimp only at V;obtain⟨kk,S5,e5,V⟩:=ao V;refine wpAny_mono (hg P Y K.objs.size D _ sz σ' H3 x u (fun Q H5=>H5=H3/\RL X.K F3 H3 m' Q L1) I4' rx ⟨F3,m',L',U[i],L1,l4,p3,eg,fun Q l5=>⟨rfl,l5⟩⟩) (fun _ s5 h5=>?_) (fun _ _ f=>f.elim);obtain⟨Q,H5,I5,rfl,l5⟩:=h5;have test:wpAny (model X.prog X.w) X.A (forIn eh true fun c r=>if r=true then do let ok <- isTrue c (compEnvC G (g_ G X.env) K.objs.size X.env) (eval c (compEnvC G (g_ G X.env) K.objs.size X.env));pure (ForInStep.yield ok) else pure (ForInStep.yield r))
       (fun ok s6=>ok=kk/\∃W m6 H6,Inv (inn X G q P Y K.objs.size D) ([]++im D sz.heap) Q H6 s6/\Stp F3 m' H5 W m6 H6/\Rel X.K W H6 m6 S5) (fun _ _=>False) s5:=by
      have hcc:=hc P Y K.objs.size D;cases hcc with
      | none=>cases e5;exact wpAny_tests_nil ⟨rfl,F3,m',H5,I5,.refl,r4⟩
      | one hq=>refine wpAny_tests_one (wpAny_mono (hq _ s5 Q H5 (fun b H6=>b=kk/\∃W m6,Stp F3 m' H5 W m6 H6/\Rel X.K W H6 m6 S5) I5 ⟨F3,m',L1,O,kk,S5,r4,l5,e5,fun W m6 H6 s6 r6=>⟨rfl,W,m6,s6,r6⟩⟩) (fun b s6 h6=>?_) fun _ _ f=>f);obtain⟨H6,I6,rfl,W,m6,R,r6⟩:=h6;exact⟨rfl,W,m6,H6,I6,R,r6⟩
     refine wpAny_mono test (fun ok s6 h6=>?_) (fun _ _ f=>f.elim);obtain⟨rfl,W,m6,H6,I6,R,r6⟩:=h6;have Z:=R.oth _ _ acc4 nm;have nm6:P.heap.objs.size ∉ m6:=fun z=>by
      rcases R.nm _ z with z | z
      .exact nm z
      .rw [acc4] at z;cases z
     have nF6:¬W P.heap.objs.size:=fun z=>by
      rcases R.nf _ z with z | z | z
      .exact nF4 z
      .rw [acc4] at z;cases z
      .exact nm z
     have ra6:=bR.mono R (ra.grow gr);have l6:=l5.mono R;cases ok with
     | false=>rw [if_neg ci] at V ⊢;obtain⟨t7,f7⟩:=back I6;exact⟨U.length-(i+1),by lia,i+1,Q,W,m6,H6,L1,S5,acc,bx,xs,I6.pins_of fun p hp=>absurd hp (by simp),t7,f7,st4.trans R,r6,l6,Z,ra6,Nat.le_succ_of_le hal,nF6,nm6,⟨rfl,hlt,V⟩,rfl⟩
     | true=>
      rw [if_pos rfl] at V ⊢;obtain⟨y,S8,e8,V⟩:=ao V;obtain⟨zs,S9,e9,V⟩:=ao V;cases V;refine wpAny_mono (he P Y K.objs.size D _ s6 Q H6 (fun v8 H8=>∃F8 m8,Stp W m6 H6 F8 m8 H8/\Rel X.K F8 H8 m8 S8/\RP X.K F8 H8 y v8) I6 ⟨W,m6,L1,S5,y,S8,r6,l6,e8,fun v8 F8 m8 H8 s8 r8 p8=>⟨F8,m8,s8,r8,p8⟩⟩) (fun u8 s8 h8=>?_) (fun _ _ f=>f.elim);obtain⟨v8,H8,I8,rv8,F8,m8,st8,r8,p8⟩:=h8;have acc8:=st8.oth _ _ Z nm6;have nm8:P.heap.objs.size ∉ m8:=fun z=>by
       rcases st8.nm _ z with z | z
       .exact nm6 z
       .rw [Z] at z;cases z
      have nF8:¬F8 P.heap.objs.size:=fun z=>by
       rcases st8.nf _ z with z | z | z
       .exact nF6 z
       .rw [Z] at z;cases z
       .exact nm6 z
      have ra8:=bR.mono st8 ra6;have nt8:∀zs,H8 P.heap.objs.size≠some (.tup zs):=fun zs z=>by rw [acc8] at z;cases z
      have hl8:xs.length < sizeLine:=by have h9:U.length≤1000000:=bq hfew;rw [<- ra8.length];exact cu (qz hal hlt) (bL h9 (by decide))
      refine wpAny_mono (kP (X:=inn X G q P Y K.objs.size D) _ s8 Q H8 (.ref P.heap.objs.size) [v8] (.ref P.heap.objs.size) [u8] (fun _ H9=>H9=cF H8 P.heap.objs.size (.lst (xs++[v8]))) I8 rfl (.cons rv8 .nil) ⟨_,xs,v8,rfl,rfl,acc8,hl8,rfl⟩) (fun _ s9 h9=>?_) (fun _ _ f=>f.elim);obtain⟨_,H9,I9,_,rfl⟩:=h9;obtain⟨t9,f9⟩:=back I9;have kb:Kp F8 m8 H8 F8 m8 (cF H8 P.heap.objs.size (.lst (xs++[v8]))):=Kp.bump nF8 nt8;have st9:Stp C m1 Y F8 m8 (cF H8 P.heap.objs.size (.lst (xs++[v8]))):=(st4.trans (R.trans st8)).bump hD;have l9:RL X.K F8 (cF H8 P.heap.objs.size (.lst (xs++[v8]))) m8 Q L1:=⟨l6.len,fun w dd e=>by obtain⟨v,e1,rr⟩:=(l6.mono st8).at' w dd e;exact⟨v,e1,RD.kp kb rr⟩⟩
      exact⟨U.length-(i+1),by lia,i+1,Q,F8,m8,_,L1,S8,acc++[y],zs,xs++[v8],I9.pins_of fun p hp=>absurd hp (by simp),t9,f9,st9,r8.bump nF8 nm8 nt8,l9,a1,
       bR.kp kb (ra8.append ⟨v8,[],rfl,p8,rfl⟩),by rw [bN];exact Nat.succ_le_succ hal,nF8,nm8,⟨rfl,hlt,e9⟩,by simp⟩
   .have e:i=U.length:=by lia
    subst e;rw [pW] at V;cases V;refine wpAny_mono (T.done (inn X G q P Y K.objs.size D) rfl rfl rfl hcalm U.length [] sx σ' H' (fun _ _=>False) I' (fpH fr') tn' hstop) (fun rr sy hr=>?_) (fun _ _ f=>f.elim);obtain⟨rfl,I5⟩:=hr;rw [gE] at *
    have Iout:Inv X pins M H' sy:=I2.call' (i:=D) I5.os I5.base I5.hok I5.bare fun b E=>⟨(f2 b E).2.2.2.1,(f2 b E).2.1,(f2 b E).2.2.2.2.1,(f2 b E).2.2.2.2.2⟩;have hD0:H P.heap.objs.size=none:=by
     cases k:H P.heap.objs.size with
     | none=>rfl
     | some o=>exact absurd hD (s1.trk _ (by rw [k];exact fun z=>nomatch z))
    have hCH:H' K.objs.size=none:=I5.free;obtain⟨mC,hmC,_⟩:=I5.loc;exact fin P.heap.objs.size (fun b=>F' b\/b=P.heap.objs.size) m' H' sy K.objs.size Iout ((s1.trans st').addF hD0) (r'.addF nm (by rw [hacc];exact fun z=>nomatch z))
     ⟨_,xs,rfl,⟨.inr rfl,hacc⟩,bR.kp (m:=m') LZ ra⟩ hCH (bL I2.sz A) hCloc hCcell hCpin ⟨mC,hmC⟩
  .exact⟨0,_,C,m1,_,c_ j n L,S1,[],ys,[],I3,tn1,fun b E=>by rw [aF (bM (hfp b E))];exact (f2 b E).1,(bU hD).stp,r1.grow (bU hD),((l.mono s1).mono (bU hD).stp).up j n,a1,rfl,Nat.zero_le _,r1.fresh_F hD,r1.fresh_m hD,⟨rfl,Nat.zero_le _,by rw [kw];exact e2⟩,rfl⟩
 exact codeAny_compStart_list (loop _ rfl) (T.self X.A 0 _ _ _ tn1 (loop _ rfl))
theorem Ie (B:BlockOk X G q j n) (c:X.calm=true)
  (D:PI X J iter (tI X.K fi)) (A:∀s H C f,PG (inn X G q s H C f) J (gT X.K g)) (K:∀s H C f,PIfs (inn X G q s H C f) eh fc) (P:∀s H C f,PE (inn X G q s H C f) t (tV X.K fe))
  (o:closureFor G X.env=pure (g_ G X.env)) (E:∀x,foldedSetIterable iter X.env x=pure x:=by intro _;rfl) :
  PE X (.ListComp t [⟨J,iter,eh,0⟩] G N) (tV X.K (au fi j n g fc fe)):=by
 intro i s M H Q I ⟨F,m,L,S,d,O,r,h,a,k⟩;rw [eval_ListComp];refine pC B c D A K P o E I r h a fun p F' m' H' Z C b l U V z v w u y R=>?_
 obtain⟨T,e⟩:=R;exact⟨T,e,fun Y W=>⟨.ref p,H',b.letGo W z v w u y,rfl,k _ F' m' H' l U V⟩⟩
theorem HP (i:Nat) (hN:X.N.Nodup) (B:BlockOk X G q j n) (c:X.calm=true)
  (hi:PI X tg iter (tI X.K fi)) (hg:∀s H C b,PG (inn X G q s H C b) tg (gT X.K g)) (hc:∀s H C b,PIfs (inn X G q s H C b) eh fc) (he:∀s H C b,PE (inn X G q s H C b) t (tV X.K fe))
  (o:closureFor G X.env=pure (g_ G X.env)) (A:swapsWith (.ListComp t [⟨tg,iter,eh,0⟩] G N) (some (.Name x px)) J.line X.env=pure true:=by rfl)
  (hs:∀x,foldedSetIterable iter X.env x=pure x:=by intro _;rfl) (K:X.N[i]? = some x:=by rfl) (hx:Loc X.env.scope x:=by first | exact Or.inl rfl | exact Or.inr rfl)
  (hf:X.fn x=true\/X.env.scope.names.lookup x=some .local:=by first | exact .inl rfl | exact .inr rfl | assumption) :
  PS X (.Assign [.Name x px] (.ListComp t [⟨tg,iter,eh,0⟩] G N) J) (fP X.K (ay i (eV (au fi j n g fc fe)))):=by
 intro y s M H D I ⟨F,m,L,S,fl,L',O,r,h,f,k⟩;obtain⟨d,S1,W,f⟩:=ao f;cases f;obtain⟨v,S2,Y,Z⟩:=ao W;cases Z;rw [exec_Assign_Name_used _ _ _ _ A];refine wpAny_bind (lT (wpAny_bind ?_));show wpAny _ _ (do let _ <- comprehension (.ListComp t [⟨tg,iter,eh,0⟩] G N) G X.env _ (newList []) false (eval iter X.env) (some (assign (.Name x px) X.env))) _ _ s;refine wpAny_bind (wpAny_mono (pC (use:=some (assign (.Name x px) X.env)) (t:=fun _ E=>SP X y D .next E) B c hi hg hc he o hs I r h Y fun p F' m' H' sx C V l r' rp hC h0 T U h3 hz=>?_) (fun _ E hq=>wpAny_pure (wpAny_pure hq)) fun _ _ e=>e);obtain⟨mC,P⟩:=hz;refine wpAny_assign_Name (iQ V hN K hx (v:=.ref p) rfl (fun E z u=>?_) hf);refine⟨mC,?_,fun h' sb=>⟨_,H',z.letGo sb hC h0 T U h3,k _ F' m' H' l r' ((h.mono l).set (d:=.p v) rp i)⟩⟩;obtain⟨a,R,w⟩:=u;refine P.sameBut R ?_;rcases w with w | w
 .rw [w];exact T
 .exact bS (U x a w)
end
end Ev
namespace Ev
open PySem PySem.Spec PyProof.Rows L2
section
variable {X:Cx}{a b e:Expr}{es:Ab}{E j:EV}{fs:f6}{C p:Pos}
noncomputable def rX:P->Option P
 | .int i=>some (.int (-i))
 | _=>none
theorem K_ (f:PE X a (tV X.K E)):PE X (.UnaryOp .USub a C) (tV X.K (CB rX E)):=(IR Fs f).imp' fun N H Q z=>by
 obtain⟨F,m,L,S,d,t,r,l,q,k⟩:=z;obtain⟨x,w,n,q⟩:=ao q;cases x with
 | int i=>cases q;exact⟨F,m,L,S,_,_,r,l,n,fun v h b e s c p=>⟨i,p,k _ h b e s c rfl⟩⟩
 | _=>cases q
noncomputable def CH:P->String
 | .non=>"NoneType"
 | .bl _=>"bool"
 | .int _=>"int"
 | .str _=>"str"
 | .tup _=>"tuple"
 | .lst _=>"list"
 | .ro _=>"list"
 | .dct _ _=>"dict"
noncomputable def gU (T:String) (v:P):Bool:=CH v == T || (T == "int" && CH v == "bool")
theorem BZ (S:∀K:FG,∀v:P,PySem.W.kitOne K (.type (CH v)) (.type T)=some (gU T v)) :
  bZ X (.builtin "isinstance") (fun m H Q=>∃F d x,m=[x,.ty T]/\RP X.K F H d x/\Q (.bl (gU T d)) H):=by
 intro B s N H m G Q I r h;obtain⟨F,d,x,rfl,pd,q⟩:=h;obtain⟨u,D,rfl,k,w⟩:=vals2 r;cases (show D=Value.type T from w);have e:=S X.K d;have f:∀l,EP X B N Q (.bool (gU T d)) { s with toks:=l }:=fun l=>⟨.bl (gU T d),H,I.tok _,rfl,q⟩
 cases d with
 | non=>cases (show x=.non from pd);exact fg I k (.non) e f
 | bl y=>cases (show x=.bl y from pd);exact fg I k (.bl y) e f
 | int y=>cases (show x=.int y from pd);exact fg I k (.int y) e f
 | str y=>cases (show x=.str y from pd);exact fg I k (.str y) e f
 | tup g=>obtain⟨a,m,rfl,t,j⟩:=pd;cases k;obtain⟨i,_,⟨o,b,c,_⟩,_⟩:=I.tuple t.sq;exact c6 PySem.W.kitx_tuple I.kIn ⟨o,b,c⟩ e (fun z=>nomatch z) f
 | lst g=>obtain⟨a,m,rfl,t,j⟩:=pd;cases k;obtain⟨i,_,p,_⟩:=I.list t.sq;obtain⟨o,n,b,c,_⟩:=p;exact c6 mv I.kIn ⟨o,b,c⟩ e (fun z=>nomatch z) f
 | ro g=>obtain⟨a,m,rfl,t,j⟩:=pd;cases k;obtain⟨i,_,p,_⟩:=I.list t.sq;obtain⟨o,n,b,c,_⟩:=p;exact c6 mv I.kIn ⟨o,b,c⟩ e (fun z=>nomatch z) f
 | dct E J=>obtain⟨a,C,rfl,_,A,_⟩:=pd;exact fg I k (.dK A) e f
theorem kit_tuple (K:FG) (v:P):PySem.W.kitOne K (.type (CH v)) (.type "tuple")=some (gU "tuple" v):=by cases v <;> rfl
noncomputable def lB:List P->Option P
 | [.int i,.int j]=>some (.int (if j > i then j else i))
 | _=>none
noncomputable def lA:List P->Option P
 | [.int i,.int j]=>some (.int (if j < i then j else i))
 | _=>none
theorem IJ {K:FG}{F:Aa}{H:Hp}{d h:P}{s:List V} (r:bR K F H [d,h] s):∃x y,s=[x,y]/\RP K F H d x/\RP K F H h y:=by obtain⟨x,f,rfl,p,e⟩:=r;obtain⟨y,n,rfl,a,k⟩:=e;cases (show n=[] from k);exact⟨x,y,rfl,p,a⟩
theorem vT {K:FG}{F:Aa}{H:Hp}{d:P}{s:List V} (r:bR K F H [d] s):∃x,s=[x]/\RP K F H d x:=by obtain⟨x,h,rfl,p,a⟩:=r;cases (show h=[] from a);exact⟨x,rfl,p⟩
theorem D8 (c:X.calm=true):bZ X (.builtin "max") (rC X.K lB):=by
 intro B s N H b u Q I r h;obtain⟨F,n,d,f,e,q,k⟩:=h;unfold lB at q;split at q
 .cases q;obtain⟨x,y,rfl,p,a⟩:=IJ e;exact zC c B s N H _ u Q I r ⟨_,_,by rw [show x=_ from p,show y=_ from a],k _ F H .refl rfl⟩
 .cases q
theorem D7 (c:X.calm=true):bZ X (.builtin "min") (rC X.K lA):=by
 intro B s N H b u Q I r h;obtain⟨F,n,d,f,e,q,k⟩:=h;unfold lA at q;split at q
 .cases q;obtain⟨x,y,rfl,p,a⟩:=IJ e;exact zB c B s N H _ u Q I r ⟨_,_,by rw [show x=_ from p,show y=_ from a],k _ F H .refl rfl⟩
 .cases q
theorem HX (g:Gl X "max") (m:X.mg "max"=none) (a:PA X (e::es) (n9 X.K fs)) (c:X.calm=true:=by rfl)
  (x:starEach (e::es) X.env=(false,eval e X.env)::starEach es X.env:=by rfl) (h:(backTo C (starEach es X.env)).any (·.1)=false:=by rfl):PE X (.Call (.Name "max" p) (e::es) [] C) (tV X.K (al lB fs)):=mF (D8 c) g m PyProof.Rows.boot_max a (by decide) (by decide) x h
theorem HW (g:Gl X "min") (m:X.mg "min"=none) (a:PA X (e::es) (n9 X.K fs)) (c:X.calm=true:=by rfl)
  (x:starEach (e::es) X.env=(false,eval e X.env)::starEach es X.env:=by rfl) (h:(backTo C (starEach es X.env)).any (·.1)=false:=by rfl):PE X (.Call (.Name "min" p) (e::es) [] C) (tV X.K (al lA fs)):=mF (D7 c) g m PyProof.Rows.boot_min a (by decide) (by decide) x h
noncomputable def IU (d:D) (S:aR):Option (Nat×List cS×List D):=match d with
 | .ref i=>match S[i]? with
  | some (.dct k v)=>some (i,k,v)
  | _=>none
 | _=>none
end
section
variable {X:Cx}{a b c e:Expr}{es:Ab}{E j G:EV}{fs:f6}{C p:Pos}
noncomputable def fH:List P->Option (List Int)
 | []=>some []
 | .int i::r=>(fH r).map (i::·)
 | _::_=>none
noncomputable def rZ:P->P->Option P
 | .dct s h,.dct k v=>if s=k/\s.Nodup/\(fH h).isSome=true/\fH h=fH v then some (.bl true) else none
 | x,y=>Mf x y
theorem lG {k x:cS}{v:Value}{r:List (cS×Value)} (h:¬x=k):valueAt ((x,v)::r) k=valueAt r k:=by simp [valueAt,hY,h]
theorem lH {k:cS}{v:Value}{r:List (cS×Value)}:valueAt ((k,v)::r) k=some v:=by simp [valueAt,hY]
theorem tY {K:FG}{F:Aa}{H:Hp}{A:Around}{s:Shared}:∀{n h:List (cS×V)}{C w:List (cS×Value)}{g a:List P}{B:List Int},(n.map (·.1)).Nodup->n.map (·.1)=h.map (·.1)->KV n C->KV h w ->
  bR K F H g (n.map (·.2))->bR K F H a (h.map (·.2))->fH g=some B->fH a=some B->∀{p:List (cS×Value)},(∀k v,valueAt w k=some v->k ∈ h.map (·.1)->valueAt p k=some v)->PySem.W.KeqHits A s p C true
 | [],[],C,w,g,a,B,R,e,Q,o,Y,Z,m,r,p,L=>by cases Q;exact .nil
 | [],_::_,_,_,_,_,_,_,e,_,_,_,_,_,_,_,_=>by simp at e
 | _::_,[],_,_,_,_,_,_,e,_,_,_,_,_,_,_,_=>by simp at e
 | (k,v)::n,(k',v')::h,C,w,g,a,B,R,e,Q,o,Y,Z,m,r,p,L=>by
  cases Q with
  | @cons _ q _ qs h1 t1=>
   cases o with
   | @cons _ q' _ qs' h2 t2=>
    obtain⟨kq,u⟩:=q;obtain⟨kq',u'⟩:=q';obtain⟨e1,rv⟩:=h1;obtain⟨e2,S⟩:=h2;dsimp only at e1 e2 rv S;subst e1;subst e2;rw [List.map_cons,List.map_cons] at e;injection e with ek er;dsimp only at ek;subst ek;rw [List.map_cons] at R;obtain⟨T,U⟩:=List.nodup_cons.mp R;cases g with
    | nil=>have:=bR.length Y;simp at this
    | cons d dr=>
     cases a with
     | nil=>have:=bR.length Z;simp at this
     | cons d' D=>
      obtain⟨x,xr,ex,p1,q1⟩:=Y;obtain⟨x',xr',j,W,X⟩:=Z;rw [List.map_cons] at ex j;injection ex with I J;injection j with l y;subst I J l y;cases d with
      | int i=>
       cases d' with
       | int f=>
        simp only [fH] at m r;cases E:fH dr with
        | none=>rw [E] at m;cases m
        | some js=>
         cases c:fH D with
         | none=>rw [c] at r;cases r
         | some O=>
          rw [E] at m;rw [c] at r;cases m;have N:f::O=i::js:=Option.some.inj r;injection N with z1 z2;subst z1;subst z2;cases (show v=.int f from p1);cases (show v'=.int f from W);obtain⟨t,rfl⟩:=rv;obtain⟨t',rfl⟩:=S;have hy:valueAt p k=some (.int f t'):=L k _ lH (by simp);have G:SeqAt.EqAt A s (.int f t) (.int f t') true:=by have:=SeqAt.EqAt.int_int (A:=A) (s:=s) f t f t';simpa using this
          have bx:=tY (A:=A) (s:=s) U er t1 t2 q1 X E c (p:=p) fun o v2 hv M=>by
           refine L o v2 ?_ (bE _ M);have:¬k=o:=fun z=>by subst z;rw [<- er] at M;exact T M
           rw [lG this];exact hv
          have:=PySem.W.KeqHits.hit (e:=true) (b:=true) hy G bx;exact this
       | _=>simp [fH] at r
      | _=>simp [fH] at m
theorem A' (hu:X.A.units+1 < cLine):lE X (compareOp .Eq) rZ:=by
 intro B s N H x y v u Q I K P h;obtain⟨F,n,f,d,J,z,S,q,k⟩:=h;have o:Mf n f=some d->wpAny (model X.prog X.w) X.A (compareOp .Eq v u) (EP X B N Q) X.xe s:=fun q=>LW B s N H x y v u Q I K P ⟨F,n,f,d,J,z,S,q,k⟩
 cases n with
 | dct ks vs=>
  cases f with
  | dct V vs'=>
   simp only [rZ] at q;split at q
   .rename_i O;cases q;obtain⟨g,Z,U,R⟩:=O;obtain⟨a,W,rfl,E,c,G,ra⟩:=z;obtain⟨b,l,rfl,j,m,p,rb⟩:=S;cases K;cases P;obtain⟨za,L,ws,r,C⟩:=EL I.hok c;obtain⟨zb,M,w,e,D⟩:=EL I.hok m;obtain⟨is,i⟩:=qd.mp U;subst G;have t:=tY (A:=X.A.in1) (s:=s) Z (by rw [p];exact g) r e ra rb i (by rw [<- R];exact i) (p:=w) fun _ _ h _=>h
    refine PySem.W.keq_eq L M C D (by lia) (fun _=>t) ?_;have T:ws.length=w.length:=by have l1:=r.length;have l2:=e.length;have Y:=congrArg List.length g;rw [<- p,List.length_map,List.length_map] at Y;lia
    rw [T];simp only [beq_self_eq_true,Bool.and_self];exact⟨.bl true,H,I,rfl,k _ F H .refl rfl⟩
   .cases q
  | _=>exact o q
 | _=>exact o q
noncomputable def signs (x:Str):List P:=x.cps.toList.map fun c=>.str ⟨#[c]⟩
noncomputable def MU (x:Str):It:=⟨fun i _=>i < x.cps.size,fun i H v h=>h=H/\∃c,x.cps[i]? = some c/\v=.str ⟨#[c]⟩,fun i _=>x.cps.size≤i⟩
theorem yD {P:Program}{w:World}{K:FG}{O:Expr} (n:Addr) (x:Str) (t:Tok):Turn P w K O (MU x) [n] n (fun i h=>h.IsStrIter n "str_ascii_iterator" x t i) where
 mem:=by simp
 obj:=fun i h st b a=>by
  have e:b=n:=by simpa using a
  subst e;obtain⟨o,e,c,d⟩:=st;exact⟨o,e,fun v z=>by rw [d] at z;cases z⟩
 keep:=fun i h m st k=>let ⟨o,e,r⟩:=st;⟨o,k n (by simp) o e,r⟩
 item:=by
  intro X F A S C i B s N H E I p st g;subst F A S;obtain⟨q,u,L,j,l,y⟩:=p n (by simp);have D:x.cps[i]? = some (x.cps[i]'g):=u9 g;refine wpAny_pyNext_ascii_item st D fun m f M=>?_
  have G:L2.Inv X B N H { s with heap:=m,toks:=s.toks+1 }:=I.turned (fun b o a e=>(M.2 b a).trans e) q u j l y;obtain⟨o,e,c,d⟩:=id f;exact⟨_,rfl,xX (s:={ s with heap:=m,toks:=s.toks+1 }) e c d (by decide) ⟨.str ⟨#[x.cps[i]'g]⟩,H,G,⟨_,rfl⟩,⟨rfl,_,D,rfl⟩,f,fun b a=>(p b a).1⟩⟩
 done:=by intro X F A S C i B s N H E I p st g;subst F A S;obtain⟨q,u,L,j,l,y⟩:=p n (by simp);exact wpAny_pyNext_ascii_end (I.ok.hd C) st (by rw [Array.getElem?_eq_none_iff];exact g) fun m J=>⟨rfl,I.turned (t':=s.toks) (fun b o a e=>J b o a e) q u j l y⟩
 self:=fun _ _ _ _ _ st h=>wpAny_pyIter_striter_ascii st h
theorem GD {K:FG}{F:Aa}{m:List Addr}{H:Hp}{x:Str}:EY K (MU x) (signs x) F m H:=by
 intro a r f s;have h:(signs x).length=x.cps.size:=by unfold signs;simp
 refine⟨fun i v e=>?_,by show x.cps.size≤(signs x).length;rw [h];exact Nat.le_refl _⟩;have k:i < x.cps.size:=by rw [<- h];exact (bw.mp e).1
 refine⟨k,fun y b z=>?_⟩;obtain⟨rfl,c,n,rfl⟩:=z;refine⟨a,.refl,?_⟩;unfold signs at e;rw [List.getElem?_map,jr,n] at e;cases e;exact rfl
noncomputable def eM (a:EV):f6:=fun L S=>ba (a L S) fun v h=>match v with
 | .lst s=>some (s,h)
 | .ro s=>some (s,h)
 | .tup s=>some (s,h)
 | .str x=>if (x.cps.all (· < 128))=true then some (signs x,h) else none
 | _=>none
theorem iS {Q iter:Expr} (h:PE X iter (tV X.K E)):PI X Q iter (tI X.K (eM E)):=by
 intro B s N H R I ⟨F,m,L,S,vs,W,r,l,q,k⟩;obtain⟨v,C,Y,q⟩:=ao q;refine cZ (h B s N H (fun x f=>∃d g,Stp F m H d g f/\Rel X.K d f g C/\RP X.K d f v x) I ⟨F,m,L,S,v,C,r,l,Y,fun x d g f n G j=>⟨d,g,n,G,j⟩⟩) fun u n D=>?_
 obtain⟨x,f,c,M,d,g,st,G,j⟩:=D;have mk:∀{J:It},EY X.K J vs d g f->C=W->R J f:=fun it e=>by subst e;exact k _ d g f st G it
 have i:∀{a:Addr}{A:List V},x=.ref a->eN X.K f a A->R (JY X.K a) f->wpAny (model X.prog X.w) X.A (pyIter u) (KI X B N Q R) X.xe n:=fun {a A} e hq q=>by
  subst e;cases M;obtain⟨K,rv,p,D⟩:=c.list hq;refine wpAny_pyIter_list p.isList ?_;refine⟨n.heap.objs.size,[n.heap.objs.size],_,_,f,rfl,c.kept (t':=n.toks) fun b o e=>Heap.get?_push_of_some _ e,oX a _,⟨_,Heap.get?_push_size _ rfl,rfl,rfl⟩,fun b y=>?_,q⟩;have e:b=n.heap.objs.size:=by simpa using y
  subst e;exact c.fpOk (Nat.le_refl _) (c.hok.fresh (Nat.le_refl _))
 cases v with
 | lst O=>cases q;obtain⟨a,A,rfl,w,P⟩:=j;exact i rfl w.sq (mk (Bt (fun T m2 U s=>(w.kp s.kp).sq) P) rfl)
 | ro O=>cases q;obtain⟨a,A,rfl,w,P⟩:=j;exact i rfl w.sq (mk (Bt (fun T m2 U s=>(w.kp s.kp).sq) P) rfl)
 | tup O=>
  cases q;obtain⟨a,A,rfl,w,P⟩:=j;cases M;obtain⟨K,rv,pp,D⟩:=c.tuple w.sq;refine wpAny_pyIter_tuple (show n.heap.IsTuple a K.toArray from pp) ?_;refine⟨n.heap.objs.size,[n.heap.objs.size],_,_,f,rfl,c.kept (t':=n.toks) fun b o e=>Heap.get?_push_of_some _ e,vr a _,⟨_,Heap.get?_push_size _ rfl,rfl,rfl⟩,fun b y=>?_,mk (GG w P) rfl⟩;have e:b=n.heap.objs.size:=by simpa using y
  subst e;exact c.fpOk (Nat.le_refl _) (c.hok.fresh (Nat.le_refl _))
 | str z=>
  dsimp only at q;split at q
  .rename_i Z;cases q;cases (show x=.str z from j);obtain⟨t,rfl⟩:=(show ∃t,u=Value.str z t from M);refine wpAny_pyIter_ascii Z ?_;refine⟨n.heap.objs.size,[n.heap.objs.size],_,_,f,rfl,c.kept (t':=n.toks) fun b o e=>Heap.get?_push_of_some _ e,yD _ z t,⟨_,Heap.get?_push_size _ rfl,rfl,rfl⟩,fun b y=>?_,mk GD rfl⟩;have e:b=n.heap.objs.size:=by simpa using y
   subst e;exact c.fpOk (Nat.le_refl _) (c.hok.fresh (Nat.le_refl _))
  .cases q
 | _=>cases q
end
section
variable {X:Cx}{C p:Pos}
noncomputable abbrev DE:=List (Str×EV)
end
mutual
noncomputable def pd:P->PyData
 | .non=>.none
 | .bl b=>.bool b
 | .int i=>.int i
 | .str x=>.str x
 | .tup xs=>.tuple (u0 xs)
 | .lst xs=>.list (u0 xs)
 | .ro xs=>.list (u0 xs)
 | .dct _ _=>.none
noncomputable def u0:List P->List PyData
 | []=>[]
 | x::r=>pd x::u0 r
end
noncomputable def b8:Nat->P->Bool
 | _,.non=>true
 | _,.bl _=>true
 | _,.int _=>true
 | _,.str x=>PyData.strOk x
 | n+1,.tup s=>s.all (b8 n)
 | n+1,.lst s=>s.all (b8 n)
 | n+1,.ro s=>s.all (b8 n)
 | _,_=>false
variable {n:Nat}
theorem mi:∀{s:List P},(∀d ∈ s,(pd d).canLay0=true/\(pd d).depth≤n)->PyData.canLayAll0 (u0 s)=true/\PyData.depthAll (u0 s)≤n
 | [],_=>⟨rfl,Nat.zero_le _⟩
 | d::r,h=>by obtain⟨⟨p,a⟩,q⟩:=List.forall_mem_cons.mp h;obtain⟨x,e⟩:=mi q;exact⟨by simp only [u0,PyData.canLayAll0,p,x,Bool.and_self],by simp only [u0,PyData.depthAll];lia⟩
theorem fS:∀(n:Nat) (p:P),b8 n p=true->(pd p).canLay0=true/\(pd p).depth≤n
 | _,.non,_=>⟨rfl,Nat.zero_le _⟩
 | _,.bl _,_=>⟨rfl,Nat.zero_le _⟩
 | _,.int _,_=>⟨rfl,Nat.zero_le _⟩
 | n,.str x,h=>⟨by cases n <;> exact h,Nat.zero_le _⟩
 | n,.dct _ _,h=>by cases n <;> cases h
 | 0,.tup _,h=>by cases h
 | 0,.lst _,h=>by cases h
 | 0,.ro _,h=>by cases h
 | n+1,.tup s,h=>by obtain⟨a,b⟩:=mi fun d e=>fS n d (aW.mp h d e);exact⟨a,by simp only [pd,PyData.depth];lia⟩
 | n+1,.lst s,h=>by obtain⟨a,b⟩:=mi fun d e=>fS n d (aW.mp h d e);exact⟨a,by simp only [pd,PyData.depth];lia⟩
 | n+1,.ro s,h=>by obtain⟨a,b⟩:=mi fun d e=>fS n d (aW.mp h d e);exact⟨a,by simp only [pd,PyData.depth];lia⟩
theorem gS (h:b8 20 p=true):SeqAt.shaped (pd p)=true:=by obtain⟨x,a⟩:=fS 20 p h;unfold SeqAt.shaped;rw [x,Bool.true_and];exact dH (by lia)
section
variable {X:Cx}{B:PN}{N:L2.St}{H:Hp}{s:Shared}{F:Aa}
theorem fR (o:∀{p:P}{v:V}{u:Value},RP X.K F H p v->RelV v u->b8 n p=true->∃k,Reads s.heap u (pd p) k) :
  ∀{f:List P}{a:List V}{b:LV},bR X.K F H f a->aU a b->(∀d ∈ f,b8 n d=true)->∃k,ReadsAll s.heap b (u0 f) k
 | [],a,b,r,v,_=>by cases (show a=[] from r);cases v;exact⟨_,.nil⟩
 | d::f,a,b,r,v,h=>by
  obtain⟨x,i,rfl,p,r⟩:=r;cases v with
  | cons w t=>obtain⟨k,q⟩:=o p w (h d (.head _));obtain⟨g,m⟩:=fR o r t fun e c=>h e (.tail _ c);exact⟨_,.cons q m⟩
theorem m3 (I:Inv X B N H s):∀(n:Nat) {p:P}{v:V}{u:Value},RP X.K F H p v->RelV v u->b8 n p=true->∃w,Reads s.heap u (pd p) w:=by
 intro n;induction n with
 | zero=>
  intro p v u r k h;cases p with
  | non=>cases (show v=.non from r);cases k;exact⟨_,.none⟩
  | bl b=>cases (show v=.bl b from r);cases k;exact⟨_,.bool b⟩
  | int i=>cases (show v=.int i from r);obtain⟨t,rfl⟩:=k;exact⟨_,.int i t⟩
  | str x=>cases (show v=.str x from r);obtain⟨t,rfl⟩:=k;exact⟨_,.str x t⟩
  | _=>simp [b8] at h
 | succ n y=>
  intro p v u r k h;cases p with
  | non=>cases (show v=.non from r);cases k;exact⟨_,.none⟩
  | bl b=>cases (show v=.bl b from r);cases k;exact⟨_,.bool b⟩
  | int i=>cases (show v=.int i from r);obtain⟨t,rfl⟩:=k;exact⟨_,.int i t⟩
  | str x=>cases (show v=.str x from r);obtain⟨t,rfl⟩:=k;exact⟨_,.str x t⟩
  | dct A C=>simp [b8] at h
  | tup z=>obtain⟨a,K,rfl,l,j⟩:=r;cases k;obtain⟨g,f,⟨o,e,c,m,d⟩,S⟩:=I.tuple l.sq;obtain⟨w,q⟩:=fR y j f (by simpa [b8] using h);rw [pd];exact⟨w,reads_tuple_at e c d (by simpa using q)⟩
  | lst z=>obtain⟨a,K,rfl,l,j⟩:=r;cases k;obtain⟨g,f,⟨o,m,e,c,_,d⟩,S⟩:=I.list l.sq;obtain⟨w,q⟩:=fR y j f (by simpa [b8] using h);rw [pd];exact⟨_,reads_list_at e c d (by simpa using q)⟩
  | ro z=>obtain⟨a,K,rfl,l,j⟩:=r;cases k;obtain⟨g,f,⟨o,m,e,c,_,d⟩,S⟩:=I.list l.sq;obtain⟨w,q⟩:=fR y j f (by simpa [b8] using h);rw [pd];exact⟨_,reads_list_at e c d (by simpa using q)⟩
end
noncomputable def kQ (f:D->Option P):List D->Option (List P)
 | []=>some []
 | d::r=>(f d).bind fun v=>(kQ f r).map fun s=>v::s
noncomputable def cY (S:aR):Nat->D->Option P
 | _,.p v=>some v
 | 0,.ref _=>none
 | n+1,.ref i=>match S[i]? with
  | some (.lst d)=>(kQ (cY S n) d).map .lst
  | some (.fz v)=>some v
  | _=>none
@[simp] theorem qU (S:aR) (n:Nat) (v:P):cY S n (.p v)=some v:=by cases n <;> rfl
theorem xQ (S:aR) (n:Nat):∀s:List P,kQ (cY S n) (s.map .p)=some s
 | []=>rfl
 | v::r=>by simp [kQ,xQ S n r]
section
variable {X:Cx}{B:PN}{N:L2.St}{H:Hp}{s:Shared}{F:Aa}{m:List Addr}{S:aR}
theorem nt (o:∀{d:D}{v:V}{u:Value}{p:P},RD X.K F H m d v->RelV v u->cY S n d=some p->b8 k p=true->∃t,Reads s.heap u (pd p) t) :
  ∀{b:List D}{c:List V}{w:LV}{f:List P},du X.K F H m b c->aU c w->kQ (cY S n) b=some f->(∀d ∈ f,b8 k d=true)->∃t,ReadsAll s.heap w (u0 f) t
 | [],c,w,f,r,v,q,_=>by cases (show c=[] from r);cases v;cases q;exact⟨_,.nil⟩
 | d::b,c,w,f,r,v,q,h=>by
  obtain⟨x,E,rfl,p,r⟩:=r;obtain⟨y,l,q⟩:∃a,cY S n d=some a/\(kQ (cY S n) b).map (fun B=>a::B)=some f:=by
   cases e:cY S n d with
   | none=>simp [kQ,e] at q
   | some a=>exact⟨a,rfl,by simpa [kQ,e] using q⟩
  obtain⟨G,z,rfl⟩:∃a,kQ (cY S n) b=some a/\f=y::a:=by
   cases e:kQ (cY S n) b with
   | none=>rw [e] at q;cases q
   | some a=>rw [e] at q;cases q;exact⟨a,rfl,rfl⟩
  cases v with
  | cons A K=>obtain⟨t,g⟩:=o p A l (h y (.head _));obtain⟨C,i⟩:=nt o r K z fun e j=>h e (.tail _ j);exact⟨_,.cons g i⟩
theorem c8 (I:Inv X B N H s) (y:Rel X.K F H m S):∀(n k:Nat) {d:D}{v:V}{u:Value}{p:P},RD X.K F H m d v->RelV v u->cY S n d=some p->b8 k p=true->∃b,Reads s.heap u (pd p) b:=by
 intro n;induction n with
 | zero=>
  intro k d v u p r x q h;cases d with
  | p w=>rw [qU] at q;cases q;exact m3 I k r x h
  | ref i=>cases q
 | succ n C=>
  intro k d v u p r x q h;cases d with
  | p w=>rw [qU] at q;cases q;exact m3 I k r x h
  | ref i=>
   obtain⟨a,rfl,g⟩:=r;have A:i < S.length:=by rw [<- y.len];exact (bw.mp g).1
   obtain⟨o,j⟩:∃o,S[i]? = some o:=⟨S[i],by simp [A]⟩;have l:=y.obj i a o g j;simp only [cY,j] at q;cases o with
   | fz w=>cases q;exact m3 I k l x h
   | dct L t=>cases q
   | ins _ _ _=>cases q
   | exc _=>cases q
   | dtt _ _=>cases q
   | lst t=>
    dsimp only at q;cases e:kQ (cY S n) t with
    | none=>rw [e] at q;cases q
    | some O=>
     rw [e] at q;cases q;cases k with
     | zero=>simp [b8] at h
     | succ k=>obtain⟨Q,K,G⟩:=l;cases x;obtain⟨E,f,⟨o,M,z,c,_,d⟩,J⟩:=I.list (eN.of K);obtain⟨b,q⟩:=nt (k:=k) (fun r x q h=>C k r x q h) G f e (by simpa [b8] using h);rw [pd];exact⟨_,reads_list_at z c d (by simpa using q)⟩
theorem eB (l:Rel X.K F H m S) (r:RD X.K F H m d v) (q:cY S n d=some p) (f:∀t,p≠.lst t):RP X.K F H p v:=by
 cases d with
 | p w=>rw [qU] at q;cases q;exact r
 | ref i=>
  cases n with
  | zero=>cases q
  | succ n=>
   obtain⟨a,rfl,h⟩:=r;have k:i < S.length:=by rw [<- l.len];exact (bw.mp h).1
   obtain⟨o,x⟩:∃o,S[i]? = some o:=⟨S[i],by simp [k]⟩;have b:=l.obj i a o h x;simp only [cY,x] at q;cases o with
   | fz w=>cases q;exact b
   | dct u s=>cases q
   | ins _ _ _=>cases q
   | exc _=>cases q
   | dtt _ _=>cases q
   | lst s=>
    dsimp only at q;cases e:kQ (cY S n) s with
    | none=>rw [e] at q;cases q
    | some c=>rw [e] at q;cases q;exact absurd rfl (f c)
end
inductive rEI (K:FG) (g:D->D->aR->Option P) (x:V) (y:V) (H:Hp) (Q:VK):Prop
 | mk (F:Aa) (m:List Addr) (S:aR) (d:D) (e:D) (v:P) (h0_:Rel K F H m S) (h1_:RD K F H m d x) (h2_:RD K F H m e y) (h3_:g d e S=some v) (h4_:∀u F' H',Grow F H F' H'->RP K F' H' v u->Q u H'):rEI K g x y H Q
noncomputable def rE (K:FG) (g:D->D->aR->Option P):R2:=fun x y H Q=>rEI K g x y H Q
noncomputable def aG (g:D->D->aR->Option P) (a b:EE):EV:=fun L S=>ba (a L S) fun x e=>ba (b L e) fun y h=>(g x y h).map fun v=>(v,h)
section
variable {X:Cx}{a b:Expr}{E j:EE}{C:Pos}
theorem xl (h:tV X.K (aG T E j) N H Q):Eo (rE X.K T) (tE X.K E) (tE X.K j) N H Q:=by
 obtain⟨F,m,L,S,d,K,r,l,q,k⟩:=h;obtain⟨x,a,P,q⟩:=ao q;obtain⟨y,s,A,q⟩:=ao q;refine⟨F,m,L,S,x,a,r,l,P,fun v t B J b I C=>?_⟩;refine⟨t,B,L,a,y,s,I,l.mono b,A,fun u p n M c f D=>?_⟩;cases e:T x y s with
 | none=>rw [e] at q;cases q
 | some z=>rw [e] at q;cases q;exact⟨p,n,K,x,y,_,f,RD.mono c C,D,e,fun w i o g G=>k w i n o (b.trans (c.trans g.stp)) (f.grow g) G⟩
theorem Ig (o:fZ X (compareOp r) (rE X.K k)) (x:PE X a (tE X.K E)) (e:PE X b (tE X.K j)) (m:behindInMarks r b=false):PE X (.Compare a [r] [b] C) (tV X.K (aG k E j)):=
 (rc o x e m).imp' fun _ _ _ h=>xl h
theorem HR (o:fZ X (compareOp z) (rE X.K u)) (c:PE X a (tE X.K E)) (t:PE X b (tE X.K j)) (w:behindInMarks z b=false):PT X (.Compare a [z] [b] C) (tQ X.K (bV (aG u E j))):=
 (qZ o c t w).imp' fun N H Q h=>by
  refine xl ?_;obtain⟨F,m,L,S,d,y,r,l,q,k⟩:=h;obtain⟨x,K,f,q⟩:=ao q;cases x with
  | bl b=>cases q;exact⟨F,m,L,S,_,_,r,l,f,fun v e g n s i p=>⟨_,p,k e g n s i⟩⟩
  | _=>cases q
end
noncomputable def zn (x y:P):Option Bool:=match rZ x y with
 | some (.bl b)=>some b
 | _=>if (b8 20 x && b8 20 y)=true then some (PyData.eqv (pd x) (pd y)) else none
noncomputable def el (d e:D) (S:aR):Option P:=(cY S 9 d).bind fun x=>(cY S 9 e).bind fun y=>(zn x y).map .bl
noncomputable def yZ (x y:P):Option Bool:=match HA x y with
 | some (.bl b)=>some b
 | _=>if (b8 20 x && b8 20 y)=true then some (!PyData.eqv (pd x) (pd y)) else none
noncomputable def n5 (d e:D) (S:aR):Option P:=(cY S 9 d).bind fun x=>(cY S 9 e).bind fun y=>(yZ x y).map .bl
noncomputable def gB (c:D) (S:aR):Option (List cS):=match c with
 | .p (.dct k _)=>some k
 | .ref i=>match S[i]? with
  | some (.dct k _)=>some k
  | some (.fz (.dct k _))=>some k
  | _=>none
 | _=>none
noncomputable def DH (x c:P):Option Bool:=match x,c with
 | .str i,.str j=>some (!(Builtin.Str.occurrences j i 0 j.length 1).isEmpty)
 | x,.lst s=>if (s.all (b8 19) && b8 19 x)=true then some (s.any fun y=>PyData.eqv (pd y) (pd x)) else none
 | x,.ro s=>if (s.all (b8 19) && b8 19 x)=true then some (s.any fun y=>PyData.eqv (pd y) (pd x)) else none
 | x,.tup s=>if (s.all (b8 19) && b8 19 x)=true then some (s.any fun y=>PyData.eqv (pd y) (pd x)) else none
 | _,_=>none
noncomputable def GN (k:cS) (s:List cS):Bool:=s.any fun h=>decide (h=k)
noncomputable def zO (d c:D) (S:aR):Option Bool:=match gB c S with
 | some s=>(cY S 9 d).bind fun x=>(fU x).map fun k=>GN k s
 | none=>(cY S 9 d).bind fun x=>(cY S 9 c).bind fun y=>DH x y
noncomputable def kX (d c:D) (S:aR):Option P:=(zO d c S).map .bl
noncomputable def bv (d c:D) (S:aR):Option P:=(zO d c S).map fun b=>.bl (!b)
noncomputable def xW:D->Bool
 | .p .non=>true
 | _=>false
noncomputable def Hx (d e:D) (_:aR):Option P:=match e with
 | .p .non=>some (.bl (xW d))
 | _=>none
noncomputable def gX (d e:D) (_:aR):Option P:=match e with
 | .p .non=>some (.bl (!xW d))
 | _=>none
theorem wI (h:rZ x k=some b):(∀s,x≠.lst s)/\∀s,k≠.lst s:=by
 refine⟨fun s e=>?_,fun s e=>?_⟩
 .subst e;cases k <;> cases h
 .subst e;cases x <;> cases h
section
variable {X:Cx}
theorem Jj (o:X.A.units+64 < cLine):fZ X (compareOp .Eq) (rE X.K el):=by
 intro B s N H x y v u Q I j z h;obtain⟨F,m,S,d,e,r,l,g,i,q,k⟩:=h;unfold el at q;cases t:cY S 9 d with
 | none=>rw [t] at q;cases q
 | some a=>
  rw [t] at q;cases p:cY S 9 e with
  | none=>rw [p] at q;cases q
  | some b=>
   rw [p] at q;simp only [hZ] at q;cases n:zn a b with
   | none=>rw [n] at q;cases q
   | some c=>
    rw [n] at q;cases q;unfold zn at n;split at n
    .rename_i G w;cases n;obtain⟨K,P⟩:=wI w;exact A' (by lia) B s N H x y v u Q I j z ⟨F,a,b,.bl c,l.ft,eB l g t K,eB l i p P,w,k⟩
    .split at n
     .rename_i f;rw [Bool.and_eq_true] at f;cases n;obtain⟨D,A⟩:=c8 I l 9 20 g j t f.1;obtain⟨E,C⟩:=c8 I l 9 20 i z p f.2;exact eq_dataH A C (gS f.1) (gS f.2) o ⟨.bl _,H,I,rfl,k _ F H .refl rfl⟩
     .cases n
theorem zv (h:HA x k=some b):(∀s,x≠.lst s)/\∀s,k≠.lst s:=by
 refine⟨fun s e=>?_,fun s e=>?_⟩
 .subst e;cases k <;> cases h
 .subst e;cases x <;> cases h
theorem Jc (o:X.A.units+64 < cLine):fZ X (compareOp .NotEq) (rE X.K n5):=by
 intro B s N H x y v u Q I j z h;obtain⟨F,m,S,d,e,r,l,g,i,q,k⟩:=h;unfold n5 at q;cases t:cY S 9 d with
 | none=>rw [t] at q;cases q
 | some a=>
  rw [t] at q;cases p:cY S 9 e with
  | none=>rw [p] at q;cases q
  | some b=>
   rw [p] at q;simp only [hZ] at q;cases n:yZ a b with
   | none=>rw [n] at q;cases q
   | some c=>
    rw [n] at q;cases q;unfold yZ at n;split at n
    .rename_i G w;cases n;obtain⟨K,P⟩:=zv w;exact LO B s N H x y v u Q I j z ⟨F,a,b,.bl c,l.ft,eB l g t K,eB l i p P,w,k⟩
    .split at n
     .rename_i f;rw [Bool.and_eq_true] at f;cases n;obtain⟨D,A⟩:=c8 I l 9 20 g j t f.1;obtain⟨E,C⟩:=c8 I l 9 20 i z p f.2;exact ne_dataH A C (gS f.1) (gS f.2) o ⟨.bl _,H,I,rfl,k _ F H .refl rfl⟩
     .cases n
theorem j2 (x:P):∀s:List P,(u0 s).any (fun y=>PyData.eqv y (pd x))=s.any fun y=>PyData.eqv (pd y) (pd x)
 | []=>rfl
 | y::r=>by rw [u0,f8,f8,j2 x r]
theorem Ey (h:k.all (b8 19)=true):PyData.canLayAll0 (u0 k)=true/\PyData.depthAll (u0 k)≤20:=by have l:=fS 20 (.lst k) h;simp only [pd,PyData.canLay0,PyData.depth] at l;have x:=l.2;exact⟨l.1,by lia⟩
theorem oV:(jM v k).isSome=GN k (v.map (·.1)):=by
 induction v with
 | nil=>rfl
 | cons p r i=>
  unfold GN at i ⊢;by_cases h:p.1=k
  .rw [gq h,List.map_cons,f8,dH h];rfl
  .rw [gu h,i,List.map_cons,f8,decide_eq_false h];rfl
theorem uD {K:FG}{F:Aa}{H:Hp}{m:List Addr}{S:aR}{c:D}{y:V}{n:List cS} (r:Rel K F H m S) (p:RD K F H m c y) (q:gB c S=some n):∃a k,y=.ref a/\H a=some (.dK k)/\k.map (·.1)=n:=by
 unfold gB at q;split at q
 .cases q;obtain⟨a,k,e,_,x,h,_⟩:=p;exact⟨a,k,e,x,h⟩
 .rename_i i;obtain⟨a,rfl,s⟩:=p;split at q
  .rename_i o;cases q;obtain⟨k,x,h,_⟩:=r.obj i a _ s o;exact⟨a,k,rfl,x,h⟩
  .rename_i o;cases q;obtain⟨b,k,e,_,x,h,_⟩:=r.obj i a _ s o;cases e;exact⟨a,k,rfl,x,h⟩
  .cases q
 .cases q
theorem Jg (T:X.A.units+64 < cLine):fZ X (compareOp .In) (rE X.K kX):=by
  intro B s N H x y v u Q I o K h;obtain⟨F,m,S,d,e,r,l,g,i,q,k⟩:=h;unfold kX zO at q;cases w:gB e S with
  | some U=>
    rw [w] at q;dsimp only at q;cases t:cY S 9 d with
    | none=>rw [t] at q;cases q
    | some a=>
      rw [t] at q;simp only [hZ] at q;cases f:fU a with
      | none=>rw [f] at q;cases q
      | some J=>
        rw [f] at q;cases q;obtain⟨b,L,rfl,G,n⟩:=uD l i w;have M:RP X.K F H a x:=eB l g t fun D z=>by subst z;cases f
        cases K;cases ir f M;exact Mb (by lia) I (oO.k G) o fun V E=>⟨.bl _,H,E,rfl,by rw [oV,n];exact k _ F H .refl rfl⟩
  | none=>
    rw [w] at q;dsimp only at q;cases t:cY S 9 d with
    | none=>rw [t] at q;cases q
    | some a=>
      rw [t] at q;cases f:cY S 9 e with
      | none=>rw [f] at q;cases q
      | some b=>
        rw [f] at q;simp only [hZ] at q;cases n:DH a b with
        | none=>rw [n] at q;cases q
        | some c=>
          rw [n] at q;cases q;unfold DH at n;split at n
          · cases n
            cases (show x=.str _ from eB l g t fun D z=>by cases z);cases (show y=.str _ from eB l i f fun D z=>by cases z);exact yX B s N H _ _ v u Q I o K ⟨_,_,rfl,rfl,k _ F H .refl rfl⟩
          all_goals first
            | (cases n;done)
            | (split at n
               · rename_i p
                 rw [Bool.and_eq_true] at p;cases n;obtain⟨O,j⟩:=c8 I l 9 20 i K f (by simpa [b8] using p.1);obtain⟨R,C⟩:=c8 I l 9 19 g o t p.2;have P:=Ey p.1;have A:=fS 19 _ p.2;rw [pd] at j;first
                   | exact SeqAt.in_list_reads j C P.1 A.1 (by lia) ⟨.bl _,H,I,rfl,by rw [j2];exact k _ F H .refl rfl⟩
                   | exact SeqAt.in_tuple_reads j C P.1 A.1 (by lia) ⟨.bl _,H,I,rfl,by rw [j2];exact k _ F H .refl rfl⟩
               · cases n)
theorem A9 (T:X.A.units+64 < cLine):fZ X (compareOp .NotIn) (rE X.K bv):=by
  intro B s N H x y v u Q I o K h;obtain⟨F,m,S,d,e,r,l,g,i,q,k⟩:=h;unfold bv zO at q;cases w:gB e S with
  | some U=>
    rw [w] at q;dsimp only at q;cases t:cY S 9 d with
    | none=>rw [t] at q;cases q
    | some a=>
      rw [t] at q;simp only [hZ] at q;cases f:fU a with
      | none=>rw [f] at q;cases q
      | some J=>
        rw [f] at q;cases q;obtain⟨b,L,rfl,G,n⟩:=uD l i w;have M:RP X.K F H a x:=eB l g t fun D z=>by subst z;cases f
        cases K;cases ir f M;exact DW (by lia) I (oO.k G) o fun V E=>⟨.bl _,H,E,rfl,by rw [oV,n];exact k _ F H .refl rfl⟩
  | none=>
    rw [w] at q;dsimp only at q;cases t:cY S 9 d with
    | none=>rw [t] at q;cases q
    | some a=>
      rw [t] at q;cases f:cY S 9 e with
      | none=>rw [f] at q;cases q
      | some b=>
        rw [f] at q;simp only [hZ] at q;cases n:DH a b with
        | none=>rw [n] at q;cases q
        | some c=>
          rw [n] at q;cases q;unfold DH at n;split at n
          · cases n
            cases (show x=.str _ from eB l g t fun D z=>by cases z);cases (show y=.str _ from eB l i f fun D z=>by cases z);exact rg B s N H _ _ v u Q I o K ⟨_,_,rfl,rfl,k _ F H .refl rfl⟩
          all_goals first
            | (cases n;done)
            | (split at n
               · rename_i p
                 rw [Bool.and_eq_true] at p;cases n;obtain⟨O,j⟩:=c8 I l 9 20 i K f (by simpa [b8] using p.1);obtain⟨R,C⟩:=c8 I l 9 19 g o t p.2;have P:=Ey p.1;have A:=fS 19 _ p.2;rw [pd] at j;first
                   | exact SeqAt.notIn_list_reads j C P.1 A.1 (by lia) ⟨.bl _,H,I,rfl,by rw [j2];exact k _ F H .refl rfl⟩
                   | exact SeqAt.notIn_tuple_reads j C P.1 A.1 (by lia) ⟨.bl _,H,I,rfl,by rw [j2];exact k _ F H .refl rfl⟩
               · cases n)
theorem Jf:fZ X (compareOp .Is) (rE X.K Hx):=by
 intro B s N H x y v u Q I c t h;obtain⟨F,m,S,d,e,r,l,n,f,q,k⟩:=h;unfold Hx at q;split at q
 .cases q;cases (show y=.non from f);refine Gb B s N H x _ v u Q I c t ⟨rfl,?_⟩;have:decide (x=.non)=xW d:=by
   cases d with
   | ref i=>obtain⟨a,rfl,_⟩:=n;rfl
   | p w=>
    cases w with
    | non=>cases (show x=.non from n);rfl
    | bl b=>cases (show x=.bl b from n);rfl
    | int b=>cases (show x=.int b from n);rfl
    | str b=>cases (show x=.str b from n);rfl
    | _=>(obtain⟨a,g,rfl,_⟩:=n;rfl)
  rw [this];exact k _ F H .refl rfl
 .cases q
theorem A_:fZ X (compareOp .IsNot) (rE X.K gX):=by
 intro B s N H x y v u Q I c t h;obtain⟨F,m,S,d,e,r,l,n,f,q,k⟩:=h;unfold gX at q;split at q
 .cases q;cases (show y=.non from f);refine Dj B s N H x _ v u Q I c t ⟨rfl,?_⟩;have:decide (x=.non)=xW d:=by
   cases d with
   | ref i=>obtain⟨a,rfl,_⟩:=n;rfl
   | p w=>
    cases w with
    | non=>cases (show x=.non from n);rfl
    | bl b=>cases (show x=.bl b from n);rfl
    | int b=>cases (show x=.int b from n);rfl
    | str b=>cases (show x=.str b from n);rfl
    | _=>(obtain⟨a,g,rfl,_⟩:=n;rfl)
  rw [this];exact k _ F H .refl rfl
 .cases q
end
noncomputable def nI:List i0->List P->Lc->Option Lc
 | [],[],L=>some L
 | g::s,v::x,L=>match g v L with
  | some h=>nI s x h
  | none=>none
 | _,_,_=>none
noncomputable def cP (g:List i0):i0:=fun v L=>match v with
 | .tup s=>nI g s L
 | _=>none
theorem uc:∀{s:List i0}{x:List P}{L a:Lc},nI s x L=some a->x.length=s.length
 | [],[],_,_,_=>rfl
 | [],_::_,_,_,h=>by cases h
 | _::_,[],_,_,h=>by cases h
 | g::s,v::x,L,a,h=>by
  unfold nI at h;split at h
  .rw [bo,bo,uc h]
  .cases h
inductive gTsI (K:FG) (gs:List i0) (xs:List V) (σ:L2.St) (H:Hp) (Q:L2.St->Hp->Prop):Prop
 | mk (F:Aa) (m:List Addr) (L:Lc) (vs:List P) (L':Lc) (h0_:RL K F H m σ L) (h1_:bR K F H vs xs) (h2_:nI gs vs L=some L') (h3_:∀σ',RL K F H m σ' L'->Q σ' H):gTsI K gs xs σ H Q
noncomputable def ND (K:FG) (g:List i0):Ha:=fun x N H Q=>gTsI K g x N H Q
noncomputable def GK:Expr->Bool
 | .Name _ _=>true
 | _=>false
inductive GsOk (X:Cx):Ab->List i0->Prop where
 | nil:GsOk X [] []
 | cons {e:Expr}{es:Ab}{g:i0}{gs:List i0}:GK e=true->PG X e (gT X.K g)->GsOk X es gs->GsOk X (e::es) (g::gs)
section
variable {X:Cx}{C:Pos}
theorem jg (h:GK e=true):assignEach (e::es) v=(false,assign e v)::assignEach es v:=by cases e <;> first | rfl | cases h
theorem GsOk.len (h:GsOk X es k) (e:Env):(assignEach es e).length=k.length/\(assignEach es e).findIdx? (·.1)=none:=by
 induction h with
 | nil=>exact⟨rfl,rfl⟩
 | cons n _ _ i=>rw [jg n];refine⟨by rw [bo,bo,i.1],?_⟩;simp only [List.findIdx?_cons,i.2];rfl
theorem GsOk.pgs (h:GsOk X es d):JX X es (ND X.K d):=by
 induction h with
 | nil=>
  intro B s N H b u Q I e ⟨F,m,L,a,n,l,r,q,k⟩;cases a with
  | nil=>cases q;cases (show b=[] from r);exact Di B s N H [] u Q I e ⟨rfl,k N l⟩
  | cons _ _=>cases q
 | cons t g _ i=>
  intro B s N H b u Q I e ⟨F,m,L,a,n,l,r,q,k⟩;cases a with
  | nil=>cases q
  | cons v a=>
   unfold nI at q;split at q
   .rename_i f c;obtain⟨x,j,rfl,p,r⟩:=r;refine AZ g i (by rw [jg t];rfl) B s N H _ u Q I e ⟨x,j,rfl,F,m,L,v,f,l,p,c,fun y w=>?_⟩;exact⟨F,m,f,a,n,w,r,q,k⟩
   .cases q
theorem GO (c:X.calm=true) (h:GsOk X es r):PG X (.Tuple es n C) (gT X.K (cP r)):=
 PG.imp' (FT c h.pgs (h.len _).1 (h.len _).2) fun v N H Q z=>by
  obtain⟨F,m,L,d,x,l,p,q,k⟩:=z;cases d with
  | tup s=>obtain⟨a,b,rfl,t,e⟩:=p;have f:=uc (show nI r s L=some x from q);exact⟨a,b,rfl,t.sq,by rw [<- e.length];exact f,F,m,L,s,x,l,e,q,k⟩
  | _=>cases q
noncomputable def Ej (K:FG) (a:Addr):It:=
 ⟨fun i H=>∃s x,eN K H a s/\s[i]? = some x,fun i H x h=>∃p y,x=.ref p/\H p=none/\h=cF H p (.tup [.int i,y])/\∀s,eN K H a s->s[i]? = some y,fun i H=>∃s,eN K H a s/\s.length≤i⟩
theorem yE {P:Program}{w:World}{K:FG}{es:Ab}{n:Nat} (a e t:Addr) (D:e≠t):Turn P w K (.Tuple es n C) (Ej K a) [e,t] e (fun i h=>(∃l,IsEnum h e t i l)/\h.IsListIter t a i) where
 mem:=by simp
 obj:=fun i h st b p=>by
  obtain⟨⟨l,A⟩,⟨o,ho,c,d⟩⟩:=st;have:b=e\/b=t:=by simpa using p
  rcases this with rfl | rfl
  .exact⟨_,A,fun v z=>by have z':Data.fields _=Data.cell v:=z;cases z'⟩
  .exact⟨o,ho,fun v z=>by rw [d] at z;cases z⟩
 keep:=fun i h h' st k=>by obtain⟨⟨l,A⟩,y⟩:=st;exact⟨⟨l,k e (by simp) _ A⟩,y.at fun o q=>k t (by simp) o q⟩
 item:=by
  intro X hP hw Z f i B s N H E I R st hg;subst hP hw Z;obtain⟨xs,x,T,hx⟩:=hg;obtain⟨its,rv,pl,hz⟩:=I.list T;obtain⟨u,hu,ru⟩:=rv.get hx;obtain⟨⟨l,A⟩,y⟩:=st;obtain⟨f0,f1,f2,f3,f4,f5⟩:=R e (by simp);obtain⟨M,O,g2,V,W,Y⟩:=R t (by simp);refine wpAny_pyNext_enum_item A y pl.isList (x:=u) (by simpa using hu) D fun h1 ho1 J ht1 hz1 hk1=>?_
  refine⟨_,rfl,wpAny_letOwnedTupleGo_enum (s:={ s with heap:=h1,toks:=s.toks+1 }) ho1 fun Q he2 F=>?_⟩;replace F:Heap.SameBut e h1 Q:=F;have G:e < s.heap.objs.size:=aV A;have S:∀b o,b≠e->b≠t->s.heap.get? b=some o->Q.get? b=some o:=fun b o b1 b2 q=>(F.2 b b1).trans (hk1 b o b1 b2 q);have L:Q.get? s.heap.objs.size=some { cls:=.type "tuple",data:=.seq #[.int i s.toks,u] }:=(F.2 _ (mo G)).trans ht1;have j:H s.heap.objs.size=none:=I.hok.fresh (Nat.le_refl _);have U:∀{b:Addr}{o:HO},H b=some o->b≠e/\b≠t:=fun {b o} q=>⟨fun z=>(by rw [z,f0] at q;cases q),fun z=>(by rw [z,M] at q;cases q)⟩;have g:∀b,b ∉ [e,t]->b≠e/\b≠t:=fun b p=>⟨fun z=>p (by simp [z]),fun z=>p (by simp [z])⟩;have I':Inv X B N (cF H s.heap.objs.size (.tup [.int i,x])) { s with heap:=Q,gens:=s.gens,drawn:=s.drawn,toks:=s.toks+1 }:=by
   refine I.step (ch:=[e,t]) (fun b p=>?_) (fun b o _ _ f q _=>S b o (g b f).1 (g b f).2 q) (fun b o _ _ f q _=>⟨o.slots,S b o (g b f).1 (g b f).2 q⟩) (fun b o _ q n=>?_) (fun b o f q=>⟨o,S b o (g b f).1 (g b f).2 q⟩)
    (fun b ys q=>?_) (fun b o ys q=>?_) (fun b ps q=>⟨#[],?_⟩) (fun m hm=>?_) (fun b u' q=>?_) I.bare
   .have:b=e\/b=t:=by simpa using p
    rcases this with rfl | rfl
    .exact⟨f3,f1,f4,f5⟩
    .exact⟨V,O,W,Y⟩
   .rw [aF (bM (aV q))];exact n
   .rw [aF (cf q j)];exact q
   .rw [aF (cf q j)];exact q
   .rw [aF (cf q j),q];simp
   .obtain⟨o,es,ep,ho,r⟩:=hm;exact⟨o,es,ep,S _ o (bS f1) (bS O) ho,r⟩
   .by_cases p:b=s.heap.objs.size
    .subst p;rw [a1] at q;cases q;exact⟨by show 2≤sizeLine;decide,[.int i s.toks,u],.cons ⟨_,rfl⟩ (.cons ru .nil),⟨_,L,rfl,_,rfl⟩⟩
    .rw [aF p] at q;refine (I.hok b u' q).stay (fun c v f z=>S c v ?_ ?_ z) (fun c z=>by rw [aF (cf z j)];exact z) fun c ys z=>by rw [aF (cf z j)];exact z
     .rcases f with rfl | f
      .exact (U q).1
      .exact (U f).1
     .rcases f with rfl | f
      .exact (U q).2
      .exact (U f).2
  refine⟨.ref s.heap.objs.size,_,I',rfl,⟨s.heap.objs.size,x,rfl,j,rfl,fun ys hy=>by rw [I.list_inj hy T];exact hx⟩,⟨⟨u,by simpa using he2⟩,J.at fun o q=>(F.2 t (bS D)).trans q⟩,fun b p=>?_⟩;have hb':b=e\/b=t:=by simpa using p
  obtain⟨oi,hoi,_⟩:=id y;rcases hb' with rfl | rfl
  .rw [aF (bM G)];exact f0
  .rw [aF (bM (aV hoi))];exact M
 done:=by intro X hP hw Z f i B s N H E I R st hg;subst hP hw Z;obtain⟨xs,T,hx⟩:=hg;obtain⟨its,rv,pl,hz⟩:=I.list T;obtain⟨⟨l,A⟩,y⟩:=st;obtain⟨M,O,g2,V,W,Y⟩:=R t (by simp);have hl:=rv.length;exact wpAny_pyNext_enum_end (I.ok.hd f) A y pl.isList (by simp;lia) fun h' eb=>⟨rfl,I.turned (t':=s.toks) (fun b o p e=>eb b o p e) M O V W Y⟩
 self:=fun _ _ _ _ _ st h=>by obtain⟨⟨l,A⟩,_⟩:=st;exact wpAny_pyIter_enum A h
noncomputable def em (k:Int):List P->List P
 | []=>[]
 | x::r=>.tup [.int k,x]::em (k+1) r
theorem py:∀{s:List P}{k:Int}{i:Nat}{v:P},(em k s)[i]? = some v->∃x,s[i]? = some x/\v=.tup [.int (k+i),x]
 | [],_,_,_,h=>by simp [em] at h
 | x::r,k,0,v,h=>⟨x,rfl,by simpa [em] using h.symm⟩
 | x::r,k,i+1,v,h=>by obtain⟨y,a,e⟩:=py (s:=r) (k:=k+1) (i:=i) (by simpa [em] using h);refine⟨y,by simpa using a,?_⟩;rw [e];congr 3;lia
theorem pr:∀(v:List P) (k:Int),(em k v).length=v.length
 | [],_=>rfl
 | _::r,k=>by rw [em,bo,bo,pr r]
noncomputable def Jp (a:EV):f6:=fun L S=>ba (a L S) fun v h=>match v with
 | .lst x=>some (em 0 x,h)
 | .ro x=>some (em 0 x,h)
 | _=>none
theorem Bu {K:FG}{F:Aa}{m:List Addr}{H:Hp}{a:Addr}{c:List P}{s:List V} (w:∀h k n,Stp F m H h k n->eN K n a s) (r:bR K F H c s):EY K (Ej K a) (em 0 c) F m H:=by
 intro h k n st;have q:=w h k n st;have l:=r.length;refine⟨fun i v e=>?_,⟨s,q,by rw [pr,l];exact Nat.le_refl _⟩⟩;obtain⟨d,t,rfl⟩:=py e;obtain⟨x,f,p⟩:=r.get t;refine⟨⟨s,x,q,f⟩,fun z g y=>?_⟩;obtain⟨j,y,rfl,b,rfl,u⟩:=y;have:y=x:=by have:=u s q;rw [f] at this;cases this;rfl
 subst this;refine⟨h,bU b,RP.newTup b ⟨_,_,rfl,?_,_,_,rfl,RP.mono st p,rfl⟩⟩;show V.int (i:Int)=V.int (0+(i:Int));rw [Int.zero_add]
theorem iE {es:Ab}{n:Nat}{a:Expr}{E:EV}{p t:Pos} (hg:Gl X "enumerate") (hm:X.mg "enumerate"=none) (Z:PE X a (tV X.K E)) (J:starEach [a] X.env=[(false,eval a X.env)]):PI X (.Tuple es n C) (.Call (.Name "enumerate" p) [a] [] t) (tI X.K (Jp E)):=by
 intro B s N H R I ⟨F,m,L,S,vs,S',r,l,q,k⟩;obtain⟨v,A,W,q⟩:=ao q;have Y:PA X [a] (n9 X.K (aM E aO)):=ET Z JT (by rw [J];rfl);refine Call_ (nu I hg hm boot_enumerate (vc (cZ (Y t B s N H (fun c x=>∃f d,Stp F m H f d x/\Rel X.K f x d A/\bR X.K f x [v] c) I ⟨F,m,L,S,[v],A,r,l,?_,fun c f d x h j K=>⟨f,d,h,j,K⟩⟩) fun us h ⟨c,x,w,O,f,d,st,j,K⟩=>?_) (by rw [J];rfl) rfl))
 .simp only [aM,aO,W,iC]
 obtain⟨x1,rfl,M⟩:=vT K;obtain⟨u,rfl,ru⟩:=vals1 O;have D:∀{a:Addr}{c:List V},x1=.ref a->eN X.K x a c->R (Ej X.K a) x->wpAny (model X.prog X.w) X.A (call (.type "enumerate") [u]) (fun v h=>wpAny (model X.prog X.w) X.A (pyIter v) (KI X B N (.Tuple es n C) R) X.xe h) X.xe h:=fun {a c} e hq q=>by
  subst e;cases ru;obtain⟨its,O,pl,hz⟩:=w.list hq;refine call_enumerate_list pl.isList fun h' G o hsz hk=>?_
  refine wpAny_pyIter_enum G ?_;have g:∀b,h.heap.objs.size≤b->x b=none:=fun b y=>w.hok.fresh y;refine⟨h.heap.objs.size+1,[h.heap.objs.size+1,h.heap.objs.size],_,_,x,rfl,w.kept (t':=h.toks) hk,yE a _ _ (mo (ky _)),⟨⟨_,G⟩,o⟩,fun b y=>?_,q⟩;have z:b=h.heap.objs.size+1\/b=h.heap.objs.size:=by simpa using y
  rcases z with rfl | rfl
  .exact w.fpOk (lR _) (g _ (lR _))
  .exact w.fpOk (Nat.le_refl _) (g _ (Nat.le_refl _))
 cases v with
 | lst U=>cases q;obtain⟨a,c,rfl,i,P⟩:=M;exact D rfl i.sq (k _ f d x st j (Bu (fun Q m2 T s=>(i.kp s.kp).sq) P))
 | ro U=>cases q;obtain⟨a,c,rfl,i,P⟩:=M;exact D rfl i.sq (k _ f d x st j (Bu (fun Q m2 T s=>(i.kp s.kp).sq) P))
 | _=>cases q
end
open PySem.AutoSeq1 (wpAny_loadPart')
section
variable {X:Cx}
noncomputable def cB:P->P->Option P:=rY
theorem Ge:lE X (binaryOp .Mult) cB:=Jd
noncomputable def bW:List P->Option P
 | [.lst x]=>some (.lst x)
 | [.ro x]=>some (.lst x)
 | [.tup x]=>some (.lst x)
 | _=>none
noncomputable def hG:List P->Option P
 | [.lst x]=>some (.tup x)
 | [.ro x]=>some (.tup x)
 | [.tup x]=>some (.tup x)
 | _=>none
theorem B2:bZ X (.type "list") (rC X.K bW):=by
  intro B s N H m u Q I r h;obtain⟨F,b,d,c,f,q,k⟩:=h;unfold bW at q;split at q;all_goals first
    | (cases q;done)
    | (cases q
       obtain⟨x,rfl,p⟩:=vT f;obtain⟨a,y,rfl,t,n⟩:=p;first
         | exact hB B s N H _ u Q I r ⟨a,y,rfl,.inl t.sq,fun l e=>k _ _ _ (cz e) (.newLst e n)⟩
         | exact hB B s N H _ u Q I r ⟨a,y,rfl,.inr t.sq,fun l e=>k _ _ _ (cz e) (.newLst e n)⟩)
theorem zF:bZ X (.type "tuple") (rC X.K hG):=by
  intro B s N H m u Q I r h;obtain⟨F,b,d,c,f,q,k⟩:=h;unfold hG at q;split at q;all_goals first
    | (cases q;done)
    | (cases q
       obtain⟨x,rfl,p⟩:=vT f;obtain⟨a,y,rfl,t,n⟩:=p;first
         | exact jd B s N H _ u Q I r ⟨a,y,rfl,.inl ⟨t.sq,fun l e=>k _ F _ (bU e) (.newTup e n)⟩⟩
         | exact jd B s N H _ u Q I r ⟨a,y,rfl,.inr ⟨t.sq,k _ F H .refl ⟨a,y,rfl,t,n⟩⟩⟩)
variable {e:Expr}{es:Ab}{fs:f6}{p C:Pos}
theorem Fb (g:Gl X "list") (m:X.mg "list"=none) (a:PA X (e::es) (n9 X.K fs)) (x:starEach (e::es) X.env=(false,eval e X.env)::starEach es X.env) (h:(backTo C (starEach es X.env)).any (·.1)=false) :
  PE X (.Call (.Name "list" p) (e::es) [] C) (tV X.K (al bW fs)):=zX B2 g m PyProof.Rows.boot_list a (by decide) (by decide) x h
theorem Cq (g:Gl X "tuple") (m:X.mg "tuple"=none) (a:PA X (e::es) (n9 X.K fs)) (x:starEach (e::es) X.env=(false,eval e X.env)::starEach es X.env) (h:(backTo C (starEach es X.env)).any (·.1)=false) :
  PE X (.Call (.Name "tuple" p) (e::es) [] C) (tV X.K (al hG fs)):=zX zF g m PyProof.Rows.boot_tuple a (by decide) (by decide) x h
noncomputable def eE (r:EE) (a:EV):EE:=fun L S=>ba (r L S) fun d h=>match cO d h with
 | none=>none
 | some _=>ba (a L h) fun x e=>match cO d e,x with
  | some (i,s),.lst y=>if fM (s.length+y.length)=true then some (.p .non,e.set i (.lst (s++y.map .p))) else none
  | _,_=>none
end
section
variable {X:Cx}{o e:Expr}{I y:EE}{E:EV}{w t C:Pos}
theorem Cu (ho:PE X o (tE X.K I)) (he:PE X e (tV X.K E)) (D:starEach [e] X.env=[(false,eval e X.env)])
  (n:attributeBase o "extend" X.env (eval o X.env)=eval o X.env) (f:(w.endLine == t.line)=true):PE X (.Call (.Attribute o "extend" w) [e] [] t) (tE X.K (eE I E)):=
 (Ew u6 PySem.F.slot_list_extend PySem.F.type_list_extend y3 ho (cm he eu (by rw [D];rfl)) n (by rw [D];rfl) f (by rw [D];rfl) rfl).imp' fun N H Q hz=>by
  obtain⟨F,m,L,S,d,S',r,l,q,k⟩:=hz;obtain⟨x,B,e1,q⟩:=ao q;refine⟨F,m,L,S,x,B,r,l,e1,fun v Y m1 H1 V T R=>?_⟩;cases C:cO x B with
  | none=>rw [C] at q;cases q
  | some z=>
   obtain⟨i,ds⟩:=z;rw [C] at q;dsimp only at q;obtain⟨rfl,es⟩:=iT C;obtain⟨a,rfl,hm⟩:=id R;obtain⟨xs,hH,rs⟩:=T.obj i a _ hm es;refine⟨.inl ⟨rfl,xs,eN.of hH⟩,?_⟩;obtain⟨y,M,e2,q⟩:=ao q;refine⟨Y,m1,L,B,y,M,T,l.mono V,e2,fun u P G A W J p2=>?_⟩;cases h:cO (.ref i) M with
   | none=>rw [h] at q;cases q
   | some z=>
    obtain⟨i2,Z⟩:=z;rw [h] at q;obtain⟨e3,s⟩:=iT h;cases e3;cases y with
    | lst ys=>
     dsimp only at q;split at q
     .rename_i hf;cases q;obtain⟨a2,e4,c⟩:=RD.mono W R;cases e4;obtain⟨j,p,g⟩:=J.obj i a _ c s;obtain⟨b,K,rfl,tb,U⟩:=p2;have O:∀K,A a≠some (.tup K):=fun K z=>by rw [p] at z;cases z
      have st:Stp P G A P G (cF A a (.lst (j++K))):=gO J c s trivial O;refine⟨a,b,j,K,rfl,rfl,p,tb.2,by rw [<- g.length,<- U.length];exact eW hf,?_⟩;exact k .non P G _ (V.trans (W.trans st)) (J.set c s trivial O ⟨_,a1,du.mono st (g.append (du.ofP U))⟩) rfl
     .cases q
    | _=>cases q
noncomputable abbrev pP:=Lc->aR->Option (List D×aR)
inductive tDsI (K:FG) (f:pP) (σ:L2.St) (H:Hp) (Q:List V->Hp->Prop):Prop
 | mk (F:Aa) (m:List Addr) (L:Lc) (S:aR) (ds:List D) (S':aR) (h0_:Rel K F H m S) (h1_:RL K F H m σ L) (h2_:f L S=some (ds,S')) (h3_:∀xs F' m' H',Stp F m H F' m' H'->Rel K F' H' m' S'->du K F' H' m' ds xs->Q xs H'):tDsI K f σ H Q
noncomputable def Ap (K:FG) (f:pP):TA:=fun N H Q=>tDsI K f N H Q
noncomputable def bG:pP:=fun _ S=>some ([],S)
noncomputable def aw (a:EE) (r:pP):pP:=fun L S=>ba (a L S) fun x h=>ba (r L h) fun s e=>some (x::s,e)
variable {es:Ab}{fs:pP}
theorem EM:PA X [] (Ap X.K bG):=eu.imp' fun N H Q h=>by obtain⟨F,m,L,S,d,x,r,l,q,k⟩:=h;cases q;exact k [] F m H .refl r rfl
theorem BQ (u:PE X e (tE X.K y)) (g:PA X es (Ap X.K fs)) (i:starEach (e::es) X.env=(false,eval e X.env)::starEach es X.env):PA X (e::es) (Ap X.K (aw y fs)):=
 (cm u g i).imp' fun N H Q z=>by obtain⟨F,m,L,S,d,t,r,l,q,k⟩:=z;obtain⟨x,h,p,q⟩:=ao q;obtain⟨C,E,w,q⟩:=ao q;cases q;refine⟨F,m,L,S,x,h,r,l,p,fun v f j D s A K=>?_⟩;refine⟨f,j,L,h,C,t,A,l.mono s,w,fun n b o c a B P=>?_⟩;exact k (v::n) b o c (s.trans a) B ⟨v,n,rfl,RD.mono a K,P⟩
noncomputable def pz (a:pP):EE:=fun L S=>ba (a L S) fun x h=>if ku x=true then some (.ref h.length,h++[.lst x]) else none
theorem Ib (h:PA X es (Ap X.K fs)):PE X (.List es C) (tE X.K (pz fs)):=(v9 h).imp' fun N H Q z=>by
 obtain⟨F,m,L,S,d,i,r,l,q,k⟩:=z;obtain⟨g,c,t,q⟩:=ao q;split at q
 .rename_i w;cases q;refine⟨F,m,L,S,g,c,r,l,t,fun v x a e u f n=>⟨by rw [<- n.length];exact nL w,fun p s=>?_⟩⟩;have b:Stp x a e x (a++[p]) (cF e p (.lst v)):=gP s;refine k (.ref p) x (a++[p]) _ (u.trans b) (f.own s ⟨v,a1,du.mono b n⟩) ⟨p,rfl,?_⟩;rw [<- f.len,c7 (Nat.le_refl _)];simp
 .cases q
noncomputable abbrev GF:=List D->aR->Option (D×aR)
inductive spRI (K:FG) (g:GF) (vs:List V) (H:Hp) (Q:VK):Prop
 | mk (F:Aa) (m:List Addr) (ds:List D) (S:aR) (d:D) (S':aR) (h0_:Rel K F H m S) (h1_:du K F H m ds vs) (h2_:g ds S=some (d,S')) (h3_:∀v F' m' H',Stp F m H F' m' H'->Rel K F' H' m' S'->RD K F' H' m' d v->Q v H'):spRI K g vs H Q
noncomputable def sZ (K:FG) (g:GF):Sp:=fun v H Q _=>spRI K g v H Q
noncomputable def k8 (g:GF) (a:pP):EE:=fun L S=>ba (a L S) fun d h=>g d h
theorem Fg (G:FnOk X.prog X.w X.K X.mg X.base sG k f z T (sZ X.K u)) (D:Room k X.A) (P:Gl X x) (B:X.mg x=some (.ref f)) (A:PySem.W.keepIn X.K (.ref f)=true) (o:Binds X.K z T [])
  (y:PA X (e::es) (Ap X.K fs)) (h:(x == ("__debug__":Str))=false) (K:starEach (e::es) X.env=(false,eval e X.env)::starEach es X.env) (a:(backTo C (starEach es X.env)).any (·.1)=false) :
  PE X (.Call (.Name x p) (e::es) [] C) (tE X.K (k8 u fs)):=
 (re G D P B A o .nil A5 y h K a).imp' fun N H Q E=>by obtain⟨F,m,L,S,d,i,r,l,q,k⟩:=E;obtain⟨b,n,j,q⟩:=ao q;refine⟨F,m,L,S,b,n,r,l,j,fun V c I w s O p=>?_⟩;show sZ X.K u (V++[]) w Q E0;rw [gE];exact⟨c,I,b,n,d,i,O,p,q,fun v t J g U R M=>k v t J g (s.trans U) R M⟩
noncomputable def lI (n:Nat):D->Bool
 | .p _=>true
 | .ref i=>decide (i < n)
noncomputable def Bk (n:Nat):SO->Bool
 | .lst d=>d.all (lI n)
 | .dct _ d=>d.all (lI n)
 | .fz _=>true
 | .ins _ _ d=>d.all (lI n)
 | .exc _=>true
 | .dtt _ d=>d.all (lI n)
noncomputable def trunc (n:Nat) (S:aR):aR:=if (S.take n).all (Bk n)=true then S.take n else S
noncomputable def bu (g:GF) (a:pP):EV:=fun L S=>ba (a L S) fun s h=>ba (g s h) fun d x=>ba (jx 9 d x) fun v e=>some (v,trunc h.length e)
end
section
variable {K:FG}{F:Aa}{H:Hp}{m:List Addr}{S:aR}
theorem RD.low (h:RD K F H m d v) (l:lI n d=true):RD K F H (m.take n) d v:=by
 cases d with
 | p w=>exact h
 | ref i=>obtain⟨a,e,x⟩:=h;exact⟨a,e,by rw [kB (bq l)];exact x⟩
theorem du.low:∀{s:List D}{a:List V},du K F H m s a->s.all (lI n)=true->du K F H (m.take n) s a
 | [],_,h,_=>h
 | d::s,_,h,l=>by obtain⟨x,r,e,k,f⟩:=h;rw [mq,Bool.and_eq_true] at l;exact⟨x,r,e,k.low l.1,du.low f l.2⟩
theorem Rel.trunc (r:Rel K F H m S) (y:n≤m.length) (h:(S.take n).all (Bk n)=true):Rel K F H (m.take n) (S.take n) where
 len:=by rw [jo,jo,r.len]
 nd:=r.nd.sublist (List.take_sublist _ _)
 obj:=fun i a o x t=>by
  have q:i < n:=by have:=(bw.mp x).1;rw [jo] at this;lia
  rw [kB q] at x;have lo:=aW.mp h o (cV t);rw [kB q] at t;have p:=r.obj i a o x t;cases o with
  | lst d=>obtain⟨l,s,b⟩:=p;exact⟨l,s,b.low lo⟩
  | dct u d=>obtain⟨k,s,e,b⟩:=p;exact⟨k,s,e,b.low lo⟩
  | fz v=>exact p
  | ins c u d=>obtain⟨C,g,k,j,s,e,b⟩:=p;exact⟨C,g,k,j,s,e,b.low lo⟩
  | exc c=>exact p
  | dtt u d=>obtain⟨k,s,e,b⟩:=p;exact⟨k,s,e,b.low lo⟩
 sep:=fun i a o x t w f=>by
  have q:i < n:=by have:=(bw.mp x).1;rw [jo] at this;lia
  rw [kB q] at x t;exact r.sep i a o x t w f
 trk:=fun a h=>r.trk a (fw h)
 ft:=r.ft
theorem Stp.trunc (s:Stp F m H r k v):Stp F m H r (k.take m.length) v:=by
 obtain⟨n,e⟩:=s.pre;have x:k.take m.length=m:=by rw [e];simp
 rw [x];exact⟨⟨[],by simp⟩,s.oth,s.frz,s.frk,s.tup,s.trk,s.nf,fun _ h=>.inl h⟩
end
section
variable {X:Cx}{e:Expr}{es:Ab}{fs:pP}{C:Pos}
theorem Cs (G:FnOk X.prog X.w X.K X.mg X.base sG k f T ps (sZ X.K u)) (hr:Room k X.A) (Y:Gl X x) (hm:X.mg x=some (.ref f)) (Z:PySem.W.keepIn X.K (.ref f)=true) (V:Binds X.K T ps [])
  (U:PA X (e::es) (Ap X.K fs)) (b:(x == ("__debug__":Str))=false) (W:starEach (e::es) X.env=(false,eval e X.env)::starEach es X.env) (g:(backTo C (starEach es X.env)).any (·.1)=false) :
  PE X (.Call (.Name x p) (e::es) [] C) (tV X.K (bu u fs)):=
 (re G hr Y hm Z V .nil A5 U b W g).imp' fun N H Q hz=>by
  obtain⟨F,m,L,S,d,S',r,l,q,k⟩:=hz;obtain⟨o,h,M,q⟩:=ao q;obtain⟨J,I,O,q⟩:=ao q;obtain⟨v1,a,R,q⟩:=ao q;cases q;refine⟨F,m,L,S,o,h,r,l,M,fun xs D i E B P p1=>?_⟩;show sZ X.K u (xs++[]) E Q E0;rw [gE];refine⟨D,i,o,h,J,I,P,p1,O,fun v F2 j z s2 r2 p2=>?_⟩;obtain⟨y,s3,A,l3,K⟩:=mL 9 R r2 p2;have st:=s2.trans s3;have s:=P.len;by_cases c:(a.take h.length).all (Bk h.length)=true
  .have t:Ev.trunc h.length a=a.take h.length:=if_pos c;rw [t] at k;have w:i.length≤j.length:=by
    obtain⟨nn,e⟩:=st.pre;rw [e,bN];lia
   have rt:=A.trunc (n:=h.length) (by rw [<- s];exact w) c;refine k v y (j.take i.length) z (B.trans st.trunc) ?_ K;rw [s];exact rt
  .have t:Ev.trunc h.length a=a:=if_neg c;rw [t] at k;exact k v y j z (B.trans st) A K
end
section
variable {X:Cx}{a b c e o i h:Expr}{E j G O J:EV}{I y:EE}{C g:Pos}
noncomputable def uX (i:Expr):Prop:=∀(o:Expr) (C:Pos) (e:Env) (v:Value),assign (.Subscript o i C) e v=(do
 let h <- holding [v] (eval o e)
 let x <- holding [v,h] (eval i e)
 standAt C
 holding [v,h,x] (setItem h x v)
 release [v,h,x] [])
noncomputable def mX (o:EE) (k v:EV):ES:=fun L S=>ba (v L S) fun y x=>ba (o L x) fun d a=>ba (k L a) fun z h=>match cO d h,z with
 | some (i,s),.int n=>match wq s.length n with
  | some j=>some (.nx,L,h.set i (.lst (s.set j (.p y))))
  | none=>none
 | _,_=>none
theorem du.setAt {K:FG}{F:Aa}{H:Hp}{m:List Addr}{d:D}{v:V} (h:RD K F H m d v):∀{s:List D}{e:List V} (j:Nat),du K F H m s e->du K F H m (s.set j d) (e.set j v)
 | [],_,_,r=>by cases (show _=([]:List V) from r);exact rfl
 | _::_,_,0,r=>by obtain⟨x,a,rfl,p,r⟩:=r;exact⟨v,a,rfl,h,r⟩
 | _::_,_,j+1,r=>by obtain⟨x,a,rfl,p,r⟩:=r;exact⟨x,_,rfl,p,du.setAt h j r⟩
theorem HL (ho:PE X o (tE X.K I)) (hi:PE X i (tV X.K O)) (hv:PE X h (tV X.K J)) (hs:swapsWith h (some (.Subscript o i g)) C.line X.env=pure false) (hw:swappedStores [.Subscript o i g] h X.env=pure none) (P:uX i) :
  PS X (.Assign [.Subscript o i g] h C) (fP X.K (mX I O J)):=(AQ hv (FU ho hi AE (P o g X.env)) hs hw).imp' fun D N H hz=>by
 obtain⟨F,m,L,S,fl,L',S',r,l,q,k⟩:=hz;obtain⟨y,M,e1,q⟩:=ao q;obtain⟨d,Q,e2,q⟩:=ao q;obtain⟨z,R,e3,q⟩:=ao q;refine⟨F,m,L,S,y,M,r,l,e1,fun v G U H1 b r1 p1=>?_⟩;refine⟨G,U,L,M,d,Q,r1,l.mono b,e2,fun x F2 m2 H2 c r2 p2=>?_⟩;refine⟨F2,m2,L,Q,z,R,r2,(l.mono b).mono c,e3,fun w e f s p E p3=>?_⟩;cases K:cO d R with
 | none=>rw [K] at q;cases q
 | some t=>
  obtain⟨j,ds⟩:=t;rw [K] at q;cases z with
  | int n=>
   dsimp only at q;cases u:wq ds.length n with
   | none=>rw [u] at q;cases q
   | some B=>
    rw [u] at q;cases q;obtain⟨rfl,es⟩:=iT K;obtain⟨a,rfl,A⟩:=RD.mono p p2;obtain⟨Y,T,W⟩:=E.obj j a _ A es;have pv:RD X.K e s f (.p y) v:=RD.mono p (RD.mono c (show RD X.K G H1 U (.p y) v from p1));cases (show w=.int n from p3);have V:∀Z,s a≠some (.tup Z):=fun Z z=>by rw [T] at z;cases z
    have st:Stp e f s e f (cF s a (.lst (Y.set B v))):=gO E A es trivial V;refine⟨a,Y,n,B,rfl,rfl,T,by rw [<- W.length];exact u,?_⟩;exact k N e f _ (b.trans (c.trans (p.trans st))) (E.set A es trivial V ⟨_,a1,du.mono st (du.setAt pv B W)⟩) (((l.mono b).mono c).mono (p.trans st))
  | _=>cases q
noncomputable def fA (g n:P->P->Option P) (a b c:EV):EV:=fun L S=>ba (a L S) fun x e=>ba (b L e) fun y h=>match g x y with
 | some (.bl true)=>ba (c L h) fun z s=>(n y z).map fun v=>(v,s)
 | some (.bl false)=>some (.bl false,h)
 | _=>none
theorem uN (h:tV X.K (fA T U E j G) N H Q):vD (rP X.K T) (rP X.K U) (tV X.K E) (tV X.K j) (tV X.K G) N H Q:=by
 obtain⟨F,m,L,S,d,S',r,l,q,k⟩:=h;obtain⟨x,p,W,q⟩:=ao q;obtain⟨y,i,Y,q⟩:=ao q;refine⟨F,m,L,S,x,p,r,l,W,fun v I m1 H1 B r1 p1=>?_⟩;refine⟨I,m1,L,p,y,i,r1,l.mono B,Y,fun u J b H2 C K o=>?_⟩;cases n:T x y with
 | none=>rw [n] at q;cases q
 | some z=>
  rw [n] at q;cases z with
  | bl t=>
   refine⟨J,x,y,_,K.ft,RP.mono C p1,o,n,fun w a c f p3=>⟨t,p3,?_⟩⟩;have s:Stp F m H a b c:=B.trans (C.trans f.stp);have P:=K.grow f;cases t with
   | false=>rw [if_neg ci];cases q;exact k _ a b c s P rfl
   | true=>
    rw [if_pos rfl];dsimp only at q;obtain⟨z,V,Z,q⟩:=ao q;refine⟨a,b,L,i,z,V,P,l.mono s,Z,fun w' M m4 H4 D A p4=>?_⟩;cases e:U y z with
    | none=>rw [e] at q;cases q
    | some z2=>rw [e] at q;cases q;exact⟨M,y,z,_,A.ft,RP.mono D (RP.grow f o),p4,e,fun w2 O R g p5=>k w2 O m4 R (s.trans (D.trans g.stp)) (A.grow g) p5⟩
  | _=>cases q
theorem Ff (n:lE X (compareOp v) k) (o:lE X (compareOp r) d) (x:PE X a (tV X.K E)) (e:PE X b (tV X.K j)) (s:PE X c (tV X.K G)) (m:lastMarks [v,r] [b,c]=false) :
  PE X (.Compare a [v,r] [b,c] C) (tV X.K (fA k d E j G)):=(A4 n o x e s m).imp' fun _ _ _ h=>uN h
theorem E8 (y:lE X (compareOp T) u) (o:lE X (compareOp z) U) (t:PE X a (tV X.K E)) (w:PE X b (tV X.K j)) (g:PE X c (tV X.K G)) (i:lastMarks [T,z] [b,c]=false) :
  PT X (.Compare a [T,z] [b,c] C) (tQ X.K (bV (fA u U E j G))):=(AM y o t w g i).imp' fun N H Q h=>by
 refine uN ?_;obtain⟨F,m,L,S,d,A,r,l,q,k⟩:=h;obtain⟨x,B,f,q⟩:=ao q;cases x with
 | bl b=>cases q;exact⟨F,m,L,S,_,_,r,l,f,fun v e K n s P p=>⟨_,p,k e K n s P⟩⟩
 | _=>cases q
noncomputable def vx:P->Option Bool
 | .non=>some false
 | .bl b=>some b
 | .int i=>some (i != 0)
 | .str x=>if fM x.length=true then some ((x.length:Int) != 0) else none
 | .tup s=>some (!s.isEmpty)
 | .lst s=>some (!s.isEmpty)
 | .ro s=>some (!s.isEmpty)
 | .dct k _=>some (!k.isEmpty)
noncomputable def sP:D->aR->Option Bool
 | .p v,_=>vx v
 | .ref i,S=>match S[i]? with
  | some (.lst d)=>some (!d.isEmpty)
  | some (.dct k _)=>some (!k.isEmpty)
  | some (.fz v)=>vx v
  | _=>none
noncomputable def bT (f:EE):EB:=fun L S=>ba (f L S) fun d h=>(sP d h).map fun b=>(b,h)
theorem fW {x:List k}{y:List r} (h:x.length=y.length):x.isEmpty=y.isEmpty:=by cases x <;> cases y <;> first | rfl | simp at h
theorem xf (p:RP X.K F H k v) (h:vx k=some r):G_ X.K v H r:=by
 cases k with
 | non=>cases (show v=.non from p);cases h;rfl
 | bl b=>cases (show v=.bl b from p);cases h;rfl
 | int b=>cases (show v=.int b from p);cases h;rfl
 | str x=>
  cases (show v=.str x from p);simp only [vx] at h;split at h
  .rename_i c;cases h;exact⟨eW c,rfl⟩
  .cases h
 | tup d=>obtain⟨a,n,rfl,t,e⟩:=p;cases h;exact .inr (.inl ⟨n,t.sq,by rw [fW e.length]⟩)
 | lst d=>obtain⟨a,n,rfl,t,e⟩:=p;cases h;exact .inl ⟨n,t.sq,by rw [fW e.length]⟩
 | ro d=>obtain⟨a,n,rfl,t,e⟩:=p;cases h;exact .inl ⟨n,t.sq,by rw [fW e.length]⟩
 | dct q d=>obtain⟨a,s,rfl,_,m,f,e⟩:=p;cases h;exact .inr (.inr ⟨s,m,by rw [<- f];cases s <;> rfl⟩)
theorem yT (h:PE X e (tE X.K y)) (D:∀o,isTrue e X.env o=(do let v <- o;standAt e.pos;holding [v] (truthy v))):PT X e (tQ X.K (bT y)):=
 (AL h D).imp' fun N H Q E=>by
  obtain⟨F,m,L,S,d,M,r,l,q,k⟩:=E;obtain⟨x,P,B,q⟩:=ao q;cases s:sP x P with
  | none=>rw [s] at q;cases q
  | some t=>
   rw [s] at q;cases q;refine⟨F,m,L,S,x,_,r,l,B,fun v z G K I b g=>⟨_,?_,k z G K I b⟩⟩;cases x with
   | p w=>exact xf g s
   | ref j=>
    obtain⟨a,rfl,u⟩:=g;simp only [sP] at s;split at s
    .rename_i A n;cases s;obtain⟨J,c,i⟩:=b.obj j a _ u n;exact .inl ⟨J,eN.of c,by rw [fW i.length]⟩
    .rename_i O A n;cases s;obtain⟨f,c,C,i⟩:=b.obj j a _ u n;exact .inr (.inr ⟨f,c,by rw [<- C];cases f <;> rfl⟩)
    .rename_i w n;exact xf (b.obj j a _ u n) s
    .cases s
noncomputable def i3 (g:i0) (f:EV):ES:=fun L S=>ba (f L S) fun v x=>match g v L with
 | some h=>some (.nx,h,x)
 | none=>none
theorem KN (p:PE X e (tV X.K E)) (w:PG X u (gT X.K d)) (i:swapsWithSole [u] e C.line X.env=pure false) (j:swappedStores [u] e X.env=pure none) (t:(assignEach [u] X.env).map (·.2)=[assign u X.env]) :
  PS X (.Assign [u] e C) (fP X.K (i3 d E)):=(AQ p w i j t).imp' fun D N H z=>by
 obtain⟨F,m,L,S,B,P,A,r,l,q,k⟩:=z;obtain⟨v,b,c,q⟩:=ao q;refine⟨F,m,L,S,v,b,r,l,c,fun x a s f n K o=>?_⟩;cases g:d v L with
 | none=>rw [g] at q;cases q
 | some L2=>rw [g] at q;cases q;exact⟨a,s,L,v,_,l.mono n,o,g,fun h y=>k h a s f n K y⟩
noncomputable def aB:P->P->Option P
 | .tup [],.tup s=>some (.tup s)
 | x,y=>lP x y
theorem G1 {M:Program}{w:World}{A:Around}{E:VP}{s:Shared}{t b:Addr}{a:LV}{Q:VP} (n:IsTup s.heap t #[]) (e:IsTup s.heap b a.toArray) (h:Q (.ref b) s):wpAny (model M w) A (binaryOp .Add (.ref t) (.ref b)) Q E s:=by obtain⟨o,g,k,m,l⟩:=id n;obtain⟨p,x,f,r,c⟩:=id e;cases o;cases p;cases k;cases l;cases f;cases c;exact concat_meets ⟨_,g,rfl⟩ ⟨_,x,rfl⟩ noFill_tuple_add seq_tuple_add u3 u5 (u7 _ _) (tuple_addW0 t b #[] a.toArray m r _ _ _ _ rfl) ⟨g,x,h⟩
theorem Gf:lE X (binaryOp .Add) aB:=by
 intro B s N H x y v u Q I r m h;obtain⟨F,e,n,d,t,c,p,q,k⟩:=h;have o:lP e n=some d->wpAny (model X.prog X.w) X.A (binaryOp .Add v u) (EP X B N Q) X.xe s:=fun q=>Jk B s N H x y v u Q I r m ⟨F,e,n,d,t,c,p,q,k⟩
 cases e with
 | tup f=>
  cases n with
  | tup es=>
   cases f with
   | nil=>cases q;obtain⟨a,P,rfl,S,z⟩:=c;obtain⟨b,D,rfl,K,C⟩:=id p;cases (show P=[] from z);cases r;cases m;obtain⟨w,l,g,_⟩:=I.tuple S.sq;obtain⟨i,A,j,_⟩:=I.tuple K.sq;cases l;exact G1 g j ⟨.ref b,H,I,rfl,k _ F H .refl p⟩
   | cons _ _=>exact o q
  | _=>cases f <;> exact o q
 | _=>exact o q
noncomputable def sC (K:FG) (m:SV) (x:Str) (v:P):Prop:=∃u w,m x=some u/\RelV w u/\∀F H,RP K F H v w
theorem Ic (g:Gl X x) (h:sC X.K X.mg x v) (d:(x == ("__debug__":Str))=false):PE X (.Name x C) (tV X.K (vC v)):=by obtain⟨u,w,m,r,p⟩:=h;exact xC (xF g m r d) p
end
section
variable {X:Cx}{a:Expr}{E:EE}{p C:Pos}
noncomputable def y' (T:String):D->aR->Option Bool
 | .p v,_=>some (gU T v)
 | .ref i,S=>match S[i]? with
  | some (.lst _)=>some (gU T (.lst []))
  | some (.dct _ _)=>some (gU T (.dct [] []))
  | some (.fz v)=>some (gU T v)
  | _=>none
noncomputable def vm (T:String) (f:EE):EV:=fun L S=>ba (f L S) fun d h=>(y' T d h).map fun b=>(.bl b,h)
theorem zE (t:∀K:FG,∀v:P,PySem.W.kitOne K (.type (CH v)) (.type T)=some (gU T v)) :
  bZ X (.builtin "isinstance") (fun A H Q=>∃F m S d b x,A=[x,.ty T]/\Rel X.K F H m S/\RD X.K F H m d x/\y' T d S=some b/\Q (.bl b) H):=by
 intro B s N H A V Q I r h;obtain⟨F,m,S,d,b,x,rfl,l,pd,i,q⟩:=h;have plain:∀w:P,RP X.K F H w x->gU T w=b->wpAny (model X.prog X.w) X.A _ _ _ _:=fun w L e=>BZ t B s N H [x,.ty T] V Q I r ⟨F,w,x,rfl,L,by rw [e];exact q⟩
 cases d with
 | p w=>cases i;exact plain w pd rfl
 | ref j=>
  obtain⟨a,rfl,g⟩:=pd;simp only [y'] at i;obtain⟨u,W,rfl,C,y⟩:=vals2 r;cases (show W=Value.type T from y);have f:∀D,EP X B N Q (.bool b) { s with toks:=D }:=fun D=>⟨.bl b,H,I.tok _,rfl,q⟩;split at i
  .rename_i E k;obtain⟨A,c,U⟩:=l.obj j a _ g k;have e:=t X.K (.lst []);rw [show gU T (.lst [])=b by cases i;rfl] at e;cases C;obtain⟨M,_,R,_⟩:=I.list (eN.of c);obtain⟨o,n,G,J,_⟩:=R;exact c6 mv I.kIn ⟨o,G,J⟩ e (fun z=>nomatch z) f
  .rename_i Z E k;obtain⟨O,c,Y,U⟩:=l.obj j a _ g k;have e:=t X.K (.dct [] []);rw [show gU T (.dct [] [])=b by cases i;rfl] at e;exact fg I C (.dK c) e f
  .rename_i w k;exact plain w (l.obj j a _ g k) (by cases i;rfl)
  .cases i
theorem KW (y:∀K:FG,∀v:P,PySem.W.kitOne K (.type (CH v)) (.type T)=some (gU T v)) (D:Gl X "isinstance") (G:X.mg "isinstance"=none) (h:Gl X u) (n:X.mg u=none) (A:bootBuiltins u=some (.type T)) (o:PE X a (tE X.K E))
  (I:u≠"__name__") (B:(u == ("__debug__":Str))=false) (c:starEach [a,.Name u z] X.env=[(false,eval a X.env),(false,eval (.Name u z) X.env)]):PE X (.Call (.Name "isinstance" p) [a,.Name u z] [] C) (tV X.K (vm T E)):=
 (gv (zE y) D G vd (cm o (cm (xG (v:=.ty T) h n A rfl I B) eu rfl) (by rw [c];rfl)) (by decide) (by decide) (by rw [c];rfl) rfl).imp' fun N H Q J=>by
  obtain⟨F,m,L,S,d,O,r,l,q,k⟩:=J;obtain⟨x,i,j,q⟩:=ao q;cases e:y' T x i with
  | none=>rw [e] at q;cases q
  | some b=>rw [e] at q;cases q;exact⟨F,m,L,S,_,_,r,l,j,fun v f t g s w M=>⟨f,t,_,x,b,v,rfl,w,M,e,k _ f t g s w rfl⟩⟩
end
noncomputable def putK (f:Str):LS->LS
 | []=>[f]
 | k::s=>if k=f then k::s else k::putK f s
noncomputable def uZ (K:FG) (c:Str) (C:Addr):Prop:=PySem.W.nsIn K mainGlobals c=some (some (.ref C))
noncomputable def MW (K:FG) (A:Str->Str->Bool):Prop:=∀c f,A c f=true->∃C,uZ K c C/\Cls K C/\Hd K C f
section
variable {X:Cx}{o e h:Expr}{f:Str}{C g w:Pos}{I J:EE}{A:Str->Str->Bool}{es:Ab}{fs:pP}
noncomputable def N0 (X:Cx) (M:Str->Str->Option GF):Prop:=∀c q g,M c q=some g->∃C k f d p,uZ X.K c C/\Cls X.K C/\Meth X.K C q f/\FnOk X.prog X.w X.K X.mg X.base sG k f d p (sZ X.K g)/\Room k X.A/\Binds X.K d p []
variable {M:Str->Str->Option GF}{q:Str}
end
variable {K:FG}{F:Aa}{H:Hp}
theorem sS:∀h:LS,bR K F H (h.map .str) (h.map V.str)
 | []=>rfl
 | s::r=>⟨_,_,rfl,rfl,sS r⟩
variable {x:Str}{a:Addr}
theorem iX (s:LS) (m:r x=some (.ref a)) (h:K.lookup a=some ⟨.type "tuple",d,.seq k n,l⟩) (z:k.size≤sizeLine) (v:aU (s.map V.str) k.toList):sC K r x (.tup (s.map .str)):=
 ⟨.ref a,.ref a,m,rfl,fun F H=>⟨a,s.map V.str,rfl,.inr (.inr ⟨_,k,n,h,rfl,rfl,z,v⟩),sS s⟩⟩
open PySem.W (KasT kas_sort kas_ask kas_item kat_run kat_snds kat_lt kat_kind KatTups KatLex kat_nil kat_cons kat_yes kat_no kat_one)
noncomputable def isInt:P->Bool
 | .int _=>true
 | _=>false
noncomputable def IV (e:P) (u:Value):Prop:=∃i t,e=P.int i/\u=Value.int i t
noncomputable def KV (h:Heap) (d:P) (v:Value):Prop:=IV d v\/∃es a o n i,d=.tup es/\v=.ref a/\h.get? a=some o/\o.cls=.type "tuple"/\o.data=.seq (List.toArray i) n/\Paired IV es i
section
variable {X:Cx}
theorem kU {r:Heap}{C:Nat} (I:Inv X B N H s) (S:s.heap.Ns X.env.locals m) (a:r.Ns X.env.locals m) (k:∀b o,b≠X.env.locals->s.heap.get? b=some o->r.get? b=some o):Inv X B N H { s with heap:=r,toks:=C }:=by
 have L:∀b u,H b=some u->b≠X.env.locals:=fun b u e z=>by rw [z,I.free] at e;cases e
 refine I.step (g':=s.gens) (d':=s.drawn) (ch:=[]) (fun _ z=>nomatch z) (fun b o h _ _ e _=>k b o h e) (fun b o h _ _ e _=>⟨o.slots,k b o h e⟩) (fun _ _ _ _ n=>n) (fun b o _ e=>?_) (fun _ _ e=>e) (fun _ _ _ e=>e) (fun b J e=>⟨#[],by rw [e];simp⟩) (fun P y=>?_) (fun b u e=>?_) I.bare
 .by_cases h:b=X.env.locals
  .subst h;obtain⟨A,_,_,w,_⟩:=a;exact⟨A,w⟩
  .exact⟨o,k b o h e⟩
 .obtain⟨o,es,D,F,l,E,t⟩:=S;obtain⟨G,i,g,f,d,K,p⟩:=y;rw [F] at f;cases f;rw [l] at d;cases d;have:m=P:=funext fun x=>(t x).symm.trans (p x);rw [<- this];exact a
 .refine (I.hok b u e).stay (fun c v j q=>k c v ?_ q) (fun _ q=>q) fun _ _ q=>q;rcases j with z | z
  .rw [z];exact L b u e
  .exact L c _ z
theorem ny (k:∀b o,r.get? b=some o->v.get? b=some o) (F:Fr r L d m) (N:News r L d (kt r v L)):∀b o,b≠L->v.get? b=some o->d.get? b=some o:=fun b o h e=>by
 cases q:r.get? b with
 | some u=>have:=k b u q;rw [e] at this;cases this;exact F.keep b _ q
 | none=>exact (N (b,o) (tM h q e)).1
theorem we (x:cH d k H r a o):∃u,r.get? a=some u:=by
 cases o with
 | lst s=>obtain⟨_,_,_,_,e⟩:=x;exact⟨_,e⟩
 | tup s=>obtain⟨_,_,_,_,e,_⟩:=x;exact⟨_,e⟩
 | dK v=>obtain⟨_,_,_,_,_,_,_,e,_⟩:=x;exact⟨_,e⟩
 | dT v=>obtain⟨_,_,_,_,_,_,_,e,_⟩:=x;exact⟨_,e⟩
 | set S n=>obtain⟨_,_,_,_,e,_⟩:=x;exact⟨_,e⟩
 | ins C h fs=>obtain⟨_,_,_,e,_⟩:=x;exact⟨_,e⟩
 | own y=>exact x
 | xd fs=>obtain⟨_,⟨_,_,_,e,_⟩,_⟩:=x;exact⟨_,e⟩
 | rng lo i=>obtain⟨_,_,_,e⟩:=x;exact⟨_,e⟩
 | frz b u=>exact⟨_,x.1⟩
 | tbl p=>exact⟨_,(show r.get? a=some _ from x)⟩
 | met f y=>exact⟨_,(show r.get? a=some _ from x)⟩
 | ext c=>exact x.2.1
theorem GL {B:PN}{N:L2.St}{H:Hp}{s:Shared}{D:Addr} (I:Inv X B N H s) (h:s.heap.get? D=none):H D=none:=by
 cases q:H D with
 | none=>rfl
 | some v=>obtain⟨u,e⟩:=we (I.hok D v q);rw [h] at e;cases e
end
noncomputable def Jo (K:FG) (e:Bool) (a:Addr):It:=if e=true then Ej K a else JY K a
inductive tIOI (K:FG) (en:Bool) (fe:EE) (σ:L2.St) (H:Hp) (R:It->Hp->Prop):Prop
 | mk (F:Aa) (m:List Addr) (L:Lc) (S:aR) (j:Nat) (S':aR) (ds:List D) (h0_:Rel K F H m S) (h1_:RL K F H m σ L) (h2_:fe L S=some (.ref j,S')) (h3_:S'[j]? = some (.lst ds)) (h4_:∀a F' m' H',Stp F m H F' m' H'->Rel K F' H' m' S'->m'[j]? = some a->R (Jo K en a) H'):tIOI K en fe σ H R
noncomputable def Ho (K:FG) (e:Bool) (y:EE):TI:=fun N H R=>tIOI K e y N H R
theorem t6 (q:eN K H a k) (h:k.length≤i):(Jo K r a).stop i H:=by
 cases r with
 | true=>exact⟨k,q,h⟩
 | false=>exact⟨k,q,h⟩
section
variable {X:Cx}{C:Pos}
theorem iO (h:PE X iter (tE X.K y)):PI X Q iter (Ho X.K false y):=(Dh h).imp' fun N H R z=>by obtain⟨F,m,L,S,j,d,w,r,l,b,es,k⟩:=z;refine⟨F,m,L,S,_,_,r,l,b,fun x n t f q s p=>?_⟩;obtain⟨a,rfl,e⟩:=p;obtain⟨v,c,u⟩:=s.obj j a _ e es;exact⟨a,rfl,⟨v,eN.of c⟩,k a n t f q s e⟩
end
section
variable {X:Cx}{C:Pos}
theorem FD:EW X (fun x lo e H Q=>∃z,x=.str z/\z.length≤sizeLine/\Q (.str (Txt.slice z lo e)) H):=by
 intro B s N H x v F K lo e S Q I y w g p h;obtain⟨z,rfl,m,q⟩:=h;obtain⟨t,rfl⟩:=y;refine⟨"str",_,PySem.F.slot_str_getitem.lookup,typeIs_str _ _ _,?_⟩;have f:∀lo e:Option Int,Q (.str (Txt.slice z lo e)) H->∀a k,EP X B N Q (.str (Txt.slice z lo e) a) { s with toks:=k }:=fun lo e q a k=>⟨.str _,H,I.tok _,⟨a,rfl⟩,q⟩
 obtain⟨o,n,b,c⟩:=w;cases g with
 | none=>
  cases p with
  | none=>exact p_ (l:=none) (u:=none) (st:=none) ⟨o,n,b,c⟩ rfl (l0 ⟨bL (Txt.slice_le z _ _) m,fun a k=>f _ _ q a k⟩)
  | int j r=>exact p_ (l:=none) (u:=some (j,r)) (st:=none) ⟨o,n,b,c⟩ rfl (l0 ⟨bL (Txt.slice_le z _ _) m,fun a k=>f _ _ q a k⟩)
 | int i d=>
  cases p with
  | none=>exact p_ (l:=some (i,d)) (u:=none) (st:=none) ⟨o,n,b,c⟩ rfl (l0 ⟨bL (Txt.slice_le z _ _) m,fun a k=>f _ _ q a k⟩)
  | int j r=>exact p_ (l:=some (i,d)) (u:=some (j,r)) (st:=none) ⟨o,n,b,c⟩ rfl (l0 ⟨bL (Txt.slice_le z _ _) m,fun a k=>f _ _ q a k⟩)
noncomputable def cT:P->Option Int->Option Int->Option P
 | .str x,lo,h=>if fM x.length=true then some (.str (Txt.slice x lo h)) else none
 | x,lo,h=>MN x lo h
noncomputable def bK (a:EV) (lo n:EO):EV:=fun L S=>ba (a L S) fun x h=>ba (lo L h) fun i e=>ba (n L e) fun j s=>(cT x i j).map fun v=>(v,s)
theorem K5 {e:Expr}{lo B:Option Expr}{E:EV}{A P:EO}{C p2:Pos} (Y:PE X e (tV X.K E)) (hl:PO X lo (tO X.K A)) (Z:PO X B (tO X.K P)):PE X (.Subscript e (.Slice lo B none p2) C) (tV X.K (bK E A P)):=
 (A2 ((CY.or FC).or FD) Y hl Z).imp' fun N H Q hz=>by
  obtain⟨F,m,L,S,d,S',r,l,q,k⟩:=hz;obtain⟨x,y,T,q⟩:=ao q;obtain⟨i,o,U,q⟩:=ao q;obtain⟨j,R,V,q⟩:=ao q;refine⟨F,m,L,S,x,y,r,l,T,fun v I m1 H1 u r1 p1=>?_⟩;refine⟨I,m1,L,y,i,o,r1,l.mono u,U,fun J m2 H2 g r2=>?_⟩;refine⟨J,m2,L,o,j,R,r2,(l.mono u).mono g,V,fun M f O G c=>?_⟩;have b:=RP.mono G (RP.mono g p1);have w:=u.trans (g.trans G);cases x with
  | lst K=>cases q;obtain⟨a,n,rfl,t,s⟩:=b;exact .inl (.inl ⟨a,n,rfl,t.sq,fun p h=>k _ _ f _ (w.trans (cz h).stp) (c.grow (cz h)) (.newLst h (s.cut i j))⟩)
  | ro K=>cases q;obtain⟨a,n,rfl,t,s⟩:=b;exact .inl (.inl ⟨a,n,rfl,t.sq,fun p h=>k _ _ f _ (w.trans (cz h).stp) (c.grow (cz h)) (.newLst h (s.cut i j))⟩)
  | tup K=>
   obtain⟨a,n,rfl,t,s⟩:=b;simp only [cT,MN] at q;split at q
   .cases q
   .rename_i D;cases q;rw [s.length] at D;exact .inl (.inr ⟨a,n,rfl,t.sq,D,fun p h=>k _ _ f _ (w.trans (bU h).stp) (c.grow (bU h)) (.newTup h (s.cut i j))⟩)
  | str z=>
   cases (show v=.str z from b);simp only [cT] at q;split at q
   .rename_i W;cases q;exact .inr ⟨z,rfl,eW W,k _ M f O w c rfl⟩
   .cases q
  | _=>cases q
variable {e:Expr}{es:Ab}{fs:f6}{p:Pos}
inductive PEs (X:Cx):Ab->List EV->Prop
 | nil:PEs X [] []
 | cons {e es f fs}:PE X e (tV X.K f)->PEs X es fs->PEs X (e::es) (f::fs)
noncomputable def J0 (w:World):List DictEntry->List (Str×P)->Prop
 | [],[]=>True
 | e::es,(k,p)::r=>(∃t,e.key=.str k t)/\e.hash=hashStr w k/\(∃v,RelV v e.val/\∀K F H,RP K F H p v)/\J0 w es r
 | _,_=>False
noncomputable def Mo (w:World) (K:FG) (m:SV) (x:Str) (k:List (Str×P)):Prop:=
 ∃a o es e,m x=some (.ref a)/\K.lookup a=some o/\o.ExactDict/\o.data=.dict es e/\J0 w es.toList k/\(k.map (·.1)).Nodup
theorem nodup_inr:∀{s:LS},s.Nodup->(s.map (Sum.inr:Str->cS)).Nodup
 | [],_=>by simp
 | x::s,h=>by rw [List.nodup_cons] at h;rw [List.map_cons,List.nodup_cons];refine⟨fun z=>?_,nodup_inr h.2⟩;obtain⟨y,a,e⟩:=bb.mp z;cases e;exact h.1 a
end
noncomputable def Iv:List cS->List P->Option (List (Str×P))
 | [],[]=>some []
 | .inr k::s,v::h=>(Iv s h).map fun r=>(k,v)::r
 | _,_=>none
noncomputable def BA:P->Bool
 | .dct _ _=>true
 | _=>false
noncomputable def i1 (w:World) (K:FG) (m:SV) (x:Str) (v:P):Prop:=(BA v=false->sC K m x v)/\∀s h,v=.dct s h->∃k,Iv s h=some k/\Mo w K m x k
theorem i1.plain (h:sC K r x v) (a:BA v=false):i1 k K r x v:=⟨fun _=>h,fun s n e=>by subst e;cases a⟩
section
variable {X:Cx}
theorem lj:∀{s:List Bool}{u:LV},aU (s.map V.bl) u->LSm.BoolsAre u s
 | [],u,r=>by obtain rfl:u=[]:=kC (by simpa using r.length.symm);exact .nil
 | b::s,u,r=>by
  cases r with
  | cons q t=>cases (show _=Value.bool b from q);exact .cons b (lj t)
theorem ua:∀{n:List Int}{u:LV},aU (n.map V.int) u->IntsAre u n
 | [],u,r=>by obtain rfl:u=[]:=kC (by simpa using r.length.symm);exact .nil
 | b::s,u,r=>by
  cases r with
  | cons q t=>obtain⟨k,rfl⟩:=(show ∃k,_=Value.int b k from q);exact .cons _ _ (ua t)
theorem B1 (c:X.calm=true):bZ X (.builtin "all") (fun a H Q=>∃(p:Addr) (b:List Bool),a=[.ref p]/\eN X.K H p (b.map V.bl)/\Q (.bl (b.all id)) H):=by intro B s N H a d Q I r h;obtain⟨p,b,rfl,n,q⟩:=h;obtain⟨u,rfl,f⟩:=vals1 r;cases f;obtain⟨i,k,l,z⟩:=I.list n;obtain⟨m,F⟩:=I.fr;exact LSm.all_bools F (nq (g:=X.base)) (I.ok.hd c) l.isList (lj k) fun t v x e=>⟨.bl (b.all id),H,kU I F.ns x.ns (ny I.bk x e),rfl,q⟩
theorem B0 (c:X.calm=true):bZ X (.builtin "any") (fun a H Q=>∃(p:Addr) (b:List Bool),a=[.ref p]/\eN X.K H p (b.map V.bl)/\Q (.bl (b.any id)) H):=by intro B s N H a d Q I r h;obtain⟨p,b,rfl,n,q⟩:=h;obtain⟨u,rfl,f⟩:=vals1 r;cases f;obtain⟨i,k,l,z⟩:=I.list n;obtain⟨m,F⟩:=I.fr;exact LSm.any_bools F (nq (g:=X.base)) (I.ok.hd c) l.isList (lj k) fun t v x e=>⟨.bl (b.any id),H,kU I F.ns x.ns (ny I.bk x e),rfl,q⟩
theorem BY (c:X.calm=true):bZ X (.builtin "sum") (fun a H Q=>∃(p:Addr) (n:List Int),a=[.ref p]/\eN X.K H p (n.map V.int)/\Q (.int n.sum) H):=by intro B s N H a w Q I r h;obtain⟨p,n,rfl,k,q⟩:=h;obtain⟨u,rfl,b⟩:=vals1 r;cases b;obtain⟨i,f,l,z⟩:=I.list k;obtain⟨m,F⟩:=I.fr;exact LSm.sum_ints F (nq (g:=X.base)) (I.ok.hd c) l.isList (ua f) fun t d v x e=>⟨.int n.sum,H,kU I F.ns x.ns (ny I.bk x e),⟨_,rfl⟩,q⟩
noncomputable def kj:List P->Option (List Bool)
 | []=>some []
 | .bl b::r=>(kj r).map (b::·)
 | _=>none
noncomputable def numsOf:List P->Option (List Int)
 | []=>some []
 | .int b::r=>(numsOf r).map (b::·)
 | _=>none
noncomputable def fJ:List P->Option P
 | [.lst x]=>(kj x).map fun b=>.bl (b.all id)
 | _=>none
noncomputable def pG:List P->Option P
 | [.lst x]=>(kj x).map fun b=>.bl (b.any id)
 | _=>none
noncomputable def pF:List P->Option P
 | [.lst x]=>(numsOf x).map fun n=>.int n.sum
 | _=>none
theorem sj:∀{a:List P}{s:List Bool}{x:List V},kj a=some s->bR K F H a x->x=s.map V.bl
 | [],s,x,h,r=>by cases h;exact kC r.length.symm
 | .bl b::a,s,x,h,r=>by simp only [kj] at h;obtain⟨n,e,rfl⟩:=Option.map_eq_some_iff.mp h;obtain⟨y,f,rfl,p,k⟩:=r;cases (show y=.bl b from p);rw [sj e k];rfl
theorem tD:∀{a:List P}{s:List Int}{x:List V},numsOf a=some s->bR K F H a x->x=s.map V.int
 | [],s,x,h,r=>by cases h;exact kC r.length.symm
 | .int b::a,s,x,h,r=>by simp only [numsOf] at h;obtain⟨n,e,rfl⟩:=Option.map_eq_some_iff.mp h;obtain⟨y,f,rfl,p,k⟩:=r;cases (show y=.int b from p);rw [tD e k];rfl
theorem D9 (c:X.calm=true):bZ X (.builtin "all") (rC X.K fJ):=by
 intro B s N H w u Q I r h;obtain⟨F,m,d,v,f,q,k⟩:=h;unfold fJ at q;split at q
 .obtain⟨b,e,rfl⟩:=Option.map_eq_some_iff.mp q;obtain⟨x,rfl,p⟩:=vT f;obtain⟨a,y,rfl,t,n⟩:=p;exact B1 c B s N H _ u Q I r ⟨a,b,rfl,by rw [<- sj e n];exact t.sq,k _ F H .refl rfl⟩
 .cases q
theorem callAny (c:X.calm=true):bZ X (.builtin "any") (rC X.K pG):=by
 intro B s N H w u Q I r h;obtain⟨F,m,d,v,f,q,k⟩:=h;unfold pG at q;split at q
 .obtain⟨b,e,rfl⟩:=Option.map_eq_some_iff.mp q;obtain⟨x,rfl,p⟩:=vT f;obtain⟨a,y,rfl,t,n⟩:=p;exact B0 c B s N H _ u Q I r ⟨a,b,rfl,by rw [<- sj e n];exact t.sq,k _ F H .refl rfl⟩
 .cases q
theorem D5 (c:X.calm=true):bZ X (.builtin "sum") (rC X.K pF):=by
 intro B s N H w u Q I r h;obtain⟨F,m,d,v,f,q,k⟩:=h;unfold pF at q;split at q
 .obtain⟨b,e,rfl⟩:=Option.map_eq_some_iff.mp q;obtain⟨x,rfl,p⟩:=vT f;obtain⟨a,y,rfl,t,n⟩:=p;exact BY c B s N H _ u Q I r ⟨a,b,rfl,by rw [<- tD e n];exact t.sq,k _ F H .refl rfl⟩
 .cases q
variable {e:Expr}{es:Ab}{fs:f6}{p C:Pos}
theorem HZ (g:Gl X "all") (m:X.mg "all"=none) (a:PA X (e::es) (n9 X.K fs)) (c:X.calm=true) (x:starEach (e::es) X.env=(false,eval e X.env)::starEach es X.env) (h:(backTo C (starEach es X.env)).any (·.1)=false) :
  PE X (.Call (.Name "all" p) (e::es) [] C) (tV X.K (al fJ fs)):=mF (D9 c) g m PyProof.Rows.boot_all a (by decide) (by decide) x h
theorem HY (g:Gl X "any") (m:X.mg "any"=none) (a:PA X (e::es) (n9 X.K fs)) (c:X.calm=true) (x:starEach (e::es) X.env=(false,eval e X.env)::starEach es X.env) (h:(backTo C (starEach es X.env)).any (·.1)=false) :
  PE X (.Call (.Name "any" p) (e::es) [] C) (tV X.K (al pG fs)):=mF (callAny c) g m PyProof.Rows.boot_any a (by decide) (by decide) x h
theorem HV (g:Gl X "sum") (m:X.mg "sum"=none) (a:PA X (e::es) (n9 X.K fs)) (c:X.calm=true) (x:starEach (e::es) X.env=(false,eval e X.env)::starEach es X.env) (h:(backTo C (starEach es X.env)).any (·.1)=false) :
  PE X (.Call (.Name "sum" p) (e::es) [] C) (tV X.K (al pF fs)):=mF (D5 c) g m PyProof.Rows.boot_sum a (by decide) (by decide) x h
end
end Ev
namespace Ev
open PySem PySem.Spec PyProof.Rows L2
noncomputable def zK (P:Program) (w:World):zL:=fun t H s E e h=>∃(a:Addr) (c n:Value) (x:Hp) (B:Heap),e=.ref a/\h.os=s.os/\AllBare h.gens/\Un (jb t) [] H x s.heap h.heap/\hU P w x h.heap/\x a=none /\
 (∀b o,s.heap.get? b=some o->b ∉ jb t->∃k,B.get? b=some k)/\(∀b o,s.heap.get? b=some o->H b=none->b ∉ jb t->B.get? b=some o)/\(∀b u o,x b=some u->h.heap.get? b=some o->B.get? b=some o) /\
 Heap.FlyingW B t a c n h.heap/\E c none x
section
variable {X:Cx}{O:PN}{U:L2.St}{H:Hp}{s:Shared}
structure Leaves (X:Cx) (E:XK):Prop where
 ex:X.ex=[]
 stk:X.stack=X.env::X.outer
 frm:X.env.frame=some X.env.locals
 xe:X.xe=fun e s'=>wpAny (model X.prog X.w) X.A (leaving X.env e) (fun _ s''=>zK X.prog X.w X.outer X.H₀ X.s₀ E e s'') (fun e' s''=>zK X.prog X.w X.outer X.H₀ X.s₀ E e' s'') s'
theorem Leaves.mem (l:Leaves X E) (b:Addr):b ∈ jb X.stack↔b=X.env.locals\/b ∈ X.fs:=by rw [l.stk];unfold jb;rw [gH,l.frm];exact List.mem_cons
theorem Leaves.old (l:Leaves X E) (I:Inv X O U H s) (e:X.s₀.heap.get? b=some o) (n:b ∉ X.fs):b ∉ jb X.stack:=fun z=>by
 rcases (l.mem b).mp z with rfl | z
 .exact absurd (aV e) (kv.mpr I.ok.above)
 .exact n z
theorem xc {B:Heap} (I:Inv X O U H s) (l:Leaves X E) (u:Un (jb X.stack) [] H L s.heap Q) (S:∀b o,s.heap.get? b=some o->b ∉ jb X.stack->∃g,B.get? b=some g) (F:∀b o,s.heap.get? b=some o->H b=none->b ∉ jb X.stack->B.get? b=some o)
  (y:B.StaysIn c) (r:Q.UpToSlots c):Un (jb X.outer) [] X.H₀ L X.s₀.heap c:=by
 have x:Un X.fs [] X.H₀ H X.s₀.heap s.heap:=by have:=I.base;rw [l.ex] at this;exact this
 have w:∀b o,X.s₀.heap.get? b=some o->X.H₀ b=none->b ∈ X.fs->∃r,c.get? b=some { o with slots:=r }:=fun b o e n h=>by
  obtain⟨t,a⟩:=x.slot b o e n h (by simp);have C:=x.free b o e n (by simp);obtain⟨J,k⟩:=u.slot b _ a C ((l.mem b).mpr (.inr h)) (by simp);have D:∀q,o.data≠.fields q:=fun q z=>by obtain⟨_,g,f,d⟩:=I.ok.funs.mem h;rw [e] at f;cases f;exact d q z
  obtain⟨p,K⟩:=r b _ k D;exact⟨p,K⟩
 refine⟨fun b o e n h _=>?_,fun b o e n h _=>w b o e n h,fun b o e n M=>?_,fun b o e _=>?_,fun b j e=>u.tups b j (x.tups b j e),fun b o v e=>u.frzs b o v (x.frzs b o v e),fun b G e=>?_⟩
 .exact y b o (F b o (x.keep b o e n h (by simp)) (x.free b o e n (by simp)) (l.old I e h))
 .obtain⟨m,a⟩:=x.there b o e (by simp);exact u.free b m a (x.free b o e n (by simp)) (by simp)
 .by_cases h:b ∈ X.fs
  .obtain⟨t,a⟩:=w b o e (I.ok.frf b h) h;exact⟨_,a⟩
  .obtain⟨m,a⟩:=x.there b o e (by simp);obtain⟨i,k⟩:=S b m a (l.old I e h);exact⟨i,y b i k⟩
 .obtain⟨P,a⟩:=x.tbls b G e;obtain⟨A,k⟩:=u.tbls b _ a;exact⟨P++A,by rw [k,Array.append_assoc]⟩
theorem nH {B:Heap} (k:hU X.prog X.w m r) (x:∀b u o,m b=some u->r.get? b=some o->B.get? b=some o) (y:B.StaysIn l):hU X.prog X.w m l:=fun b u e=>
 (k b u e).stay (fun c v h q=>y c v (by
  rcases h with rfl | h
  .exact x _ u v e q
  .exact x c _ v h q)) (fun _ q=>q) fun _ _ q=>q
theorem leave_new (l:Leaves X E) (I:Inv X O U H s) (m:Heap.MadeExcOf s.heap L e c Q) (q:E c none H):X.xe (.ref e) { s with heap:=L }:=by
 rw [l.xe];have r:X.A.frames=some (X.env::X.outer):=by rw [<- l.stk];exact I.ok.frames
 have i:∀b o,s.heap.get? b=some o->b ∉ jb X.stack->(PySem.W.hideAll s.heap (jb X.stack)).get? b=some o:=fun b o e n=>PySem.W.hideAll_get _ e n;have trk:∀b u,H b=some u->b ∉ jb X.stack:=fun b u e z=>by rw [I.stkFree b z] at e;cases e
 have K:s.heap.FunFrames (PySem.W.hideAll s.heap (jb X.stack)) (X.env::X.outer):=by rw [<- l.stk];exact PySem.W.funFrames_hide I.stack fun k F b S=>kA.mpr ⟨k,F,S⟩
 refine wpAny_leaves_madeW r l.frm (fun b o z=>PySem.W.of_hideAll _ z) K m fun y t f _ _ P=>?_;have p:s.heap.UpToSlots y:=(Heap.UpToSlots.of_keeps m.keeps).trans P;have d:Un (jb X.stack) [] H H s.heap s.heap:=Un.kept fun _ _ z=>z;have u:=xc I l d (fun b o z n=>⟨o,i b o z n⟩) (fun b o z _ n=>i b o z n) f.1 p;have w:∀b u o,H b=some u->s.heap.get? b=some o->(PySem.W.hideAll s.heap (jb X.stack)).get? b=some o:=fun b u o z h=>i b o h (trk b u z);have j:Un X.fs [] X.H₀ H X.s₀.heap s.heap:=by have:=I.base;rw [l.ex] at this;exact this
 refine⟨e,c,.ref t,H,_,rfl,I.os,I.bare,u,nH I.hok w f.1,GL I m.new,fun b o z n=>?_,fun b o z h n=>?_,fun b v o z h=>?_,f,q⟩
 .obtain⟨x,a⟩:=j.there b o z (by simp);exact⟨x,i b x a (l.old I z n)⟩
 .exact i b o (j.keep b o z h n (by simp)) (l.old I z n)
 .obtain⟨x,a⟩:=we (I.hok b v z);have g:=w b v x z a;rw [f.1 b x g] at h;cases h;exact g
theorem Bl (l:Leaves X E) (I:Inv X O U H s) (F:zK X.prog X.w X.stack H s L e Q) (q:∀c h,L c none h->E c none h):X.xe e Q:=by
 rw [l.xe];obtain⟨a,c,y,h,B,rfl,os,r,un,k,S,d,w,g,j,K⟩:=F;have p:X.A.frames=some (X.env::X.outer):=by rw [<- l.stk];exact I.ok.frames
 rw [l.stk] at j;refine wpAny_leaves_onW p l.frm j fun A f P=>?_;have u:Un X.fs [] X.H₀ H X.s₀.heap s.heap:=by have:=I.base;rw [l.ex] at this;exact this
 refine⟨a,c,y,h,B,rfl,os.trans I.os,r,xc I l un d w f.1 P,nH k g f.1,S,fun b o z n=>?_,fun b o z x n=>?_,fun b v o z x=>?_,f,q c h K⟩
 .obtain⟨m,t⟩:=u.there b o z (by simp);exact d b m t (l.old I z n)
 .exact w b o (u.keep b o z x n (by simp)) (u.free b o z x (by simp)) (l.old I z n)
 .obtain⟨m,t⟩:=we (k b v z);have i:=g b v m z t;rw [f.1 b m i] at x;cases x;exact i
end
noncomputable abbrev ig (X:Cx) (e:Value):Cx:={ X with A:=X.A.mark (some e),calm:=false,xe:=fun _ _=>False }
section
variable {X:Cx}{O:PN}{U:L2.St}{H:Hp}{s:Shared}
theorem o0 (I:Inv X O U H s) (e:Value):Inv (ig X e) O U H s:=
 ⟨⟨I.ok.mod,I.ok.kind,I.ok.glob,I.ok.blt,I.ok.above,I.ok.inj,I.ok.has,I.ok.cab,(fun z=>nomatch z),I.ok.frames,I.ok.stk,I.ok.exf,I.ok.bs,I.ok.bsz,I.ok.noex,I.ok.exfs,I.ok.funs,I.ok.frf⟩,I.os,I.bare,I.base,I.loc,I.cell,I.free,I.freeC,I.pin,I.hok,I.len⟩
theorem vG (ok:X.Ok) (I:Inv (ig X e) O U H s):Inv X O U H s:=⟨ok,I.os,I.bare,I.base,I.loc,I.cell,I.free,I.freeC,I.pin,I.hok,I.len⟩
theorem CG {B:Heap} (u:Un c [] H q m l) (v:∀b ∈ c,H b=none/\∃o,m.get? b=some o/\∀j,o.data≠.fields j) (t:∀b o,m.get? b=some o->b ∉ c->∃w,B.get? b=some w) (p:∀b o,m.get? b=some o->H b=none->b ∉ c->B.get? b=some o)
  (y:B.StaysIn r) (s:l.UpToSlots r):Un c [] H q m r:=by
 have f:∀b o,m.get? b=some o->b ∈ c->∃s,r.get? b=some { o with slots:=s }:=fun b o e h=>by obtain⟨n,z,x,d⟩:=v b h;rw [e] at x;cases x;obtain⟨g,x⟩:=u.slot b o e n h (by simp);obtain⟨i,a⟩:=s b _ x d;exact⟨i,a⟩
 refine⟨fun b o e n h _=>y b o (p b o e n h),fun b o e n h _=>f b o e h,u.free,fun b o e _=>?_,u.tups,u.frzs,u.tbls⟩;by_cases h:b ∈ c
 .obtain⟨g,x⟩:=f b o e h;exact⟨_,x⟩
 .obtain⟨k,a⟩:=t b o e h;exact⟨k,y b k a⟩
theorem zc (I:Inv X O U H s) (i:X.s₀.heap.get? a=none) (j:H a=none) (L:a≠X.env.locals) (C:∀x c,X.env.cells.lookup x=some c->c≠a) (l:∀p ∈ X.pn++O,p.1≠a) (w:cH X.prog X.w (cF H a u) s.heap a u):Inv X O U (cF H a u) s:=by
 have h:∀b v,H b=some v->b≠a:=fun b v e z=>by rw [z,j] at e;cases e
 refine⟨I.ok,I.os,I.bare,⟨I.base.keep,I.base.slot,fun b o e n y=>?_,I.base.there,fun b d e=>?_,fun b o v e=>?_,fun b S e=>?_⟩,I.loc,I.cell,?_,fun x c e=>?_,fun p t=>?_,fun b v e=>?_,I.len⟩
 .rw [aF (fun z=>by rw [z,i] at e;cases e)];exact I.base.free b o e n y
 .have:=I.base.tups b d e;rw [aF (h _ _ this)];exact this
 .have:=I.base.frzs b o v e;rw [aF (h _ _ this)];exact this
 .obtain⟨m,k⟩:=I.base.tbls b S e;exact⟨m,by rw [aF (h _ _ k)];exact k⟩
 .rw [aF (bS L)];exact I.free
 .rw [aF (C x c e)];exact I.freeC x c e
 .obtain⟨k,g,r⟩:=I.pin p t;exact⟨k,by rw [aF (l p t)];exact g,r⟩
 .by_cases f:b=a
  .subst f;rw [a1] at e;cases e;exact w
  .rw [aF f] at e;exact (I.hok b v e).stay (fun _ _ _ q=>q) (fun c q=>by rw [aF (h _ _ q)];exact q) fun c d q=>by rw [aF (h _ _ q)];exact q
theorem BB {M:Nat} (I:Inv X O U H s) (N:X.N.Nodup) (A:X.N[l]? = some n) (C:∀(j:Nat) (x:Str) (w:V),X.N[j]? = some x->U[j]? = some (some w)->EU X.env.scope x->∃u,RelV w u/\Look X.env s.heap m x u)
  (K:Q.Ns X.env.locals (fun x=>if x=n then L else m x)) (h:Heap.SameBut X.env.locals s.heap Q):Inv X O (U.set l none) H { s with heap:=Q,toks:=M }:=by
 have P:∀b o,X.s₀.heap.get? b=some o->b≠X.env.locals:=fun b o e=>bM (cu (aV e) I.ok.above);have i:l < U.length:=by rw [I.len];exact (bw.mp A).1
 refine⟨I.ok,I.os,I.bare,⟨fun b o e n S f=>(h.2 b (P b o e)).trans (I.base.keep b o e n S f),fun b o e n S f=>?_,I.base.free,fun b o e f=>?_,I.base.tups,I.base.frzs,I.base.tbls⟩,⟨_,K,fun j y w a t B=>?_⟩,fun y c e=>?_,I.free,I.freeC,fun p D=>?_,fun b w e=>?_,by simpa using I.len⟩
 .obtain⟨J,a⟩:=I.base.slot b o e n S f;exact⟨J,(h.2 b (P b o e)).trans a⟩
 .obtain⟨G,a⟩:=I.base.there b o e f;exact⟨G,(h.2 b (P b o e)).trans a⟩
 .by_cases F:j=l
  .subst F;rw [et i] at t;cases t
  .rw [cU (bS F)] at t;obtain⟨u,r,q⟩:=C j y w a t B;refine⟨u,r,?_⟩;rcases q with ⟨k,e⟩ | ⟨k,c,e,z⟩
   .exact .inl ⟨k,by have g:¬y=n:=fun z=>F (nj N a (by rw [z];exact A));show (if y=n then L else m y)=some u;rw [if_neg g];exact e⟩
   .exact .inr ⟨k,c,e,z.sameBut h (I.cne y c e)⟩
 .obtain⟨R,z⟩:=I.cell y c e;exact⟨R,z.sameBut h (I.cne y c e)⟩
 .obtain⟨e,n,g,E,d⟩:=I.pin p D;exact⟨(h.2 p.1 g).trans e,n,g,E,d⟩
 .refine (I.hok b w e).stay (fun c z v q=>(h.2 c ?_).trans q) (fun _ q=>q) fun _ _ q=>q;rintro rfl;rcases v with rfl | v
  .rw [I.free] at e;cases e
  .rw [I.free] at v;cases v
theorem Bq {n:Hp}{B x:Heap}{h:Shared} (I:Inv X O U H s) (os:h.os=s.os) (a:AllBare h.gens) (un:Un (jb X.stack) [] H n s.heap h.heap) (k:hU X.prog X.w n h.heap) (c:∀b o,s.heap.get? b=some o->b ∉ jb X.stack->∃t,B.get? b=some t) (f:∀b o,s.heap.get? b=some o->H b=none->b ∉ jb X.stack->B.get? b=some o)
  (m:∀b u o,n b=some u->h.heap.get? b=some o->B.get? b=some o) (y:B.StaysIn x) (l:h.heap.UpToSlots x):Inv X O U n { h with heap:=x }:=by
 have r:∀b ∈ jb X.stack,H b=none/\∃o,s.heap.get? b=some o/\∀v,o.data≠.fields v:=fun b e=>⟨I.stkFree b e,(I.stack.mem e).2⟩;exact I.call' (z:={ h with heap:=x }) (i:=[]) os (CG un r c f y l) (nH k m y) a fun _ z=>nomatch z
theorem BX {E':XK}{e:Value}{s1:Shared}{c n:Str}{C2:Addr}{i:Nat}{b0:Stmt}{g:List Stmt}{np A:Pos}{bx:List ExceptHandler}{D:Ends}{N:Value->TS} (P:X.stack=X.env::X.outer) (W:X.env.frame=some X.env.locals) (ex:X.ex=[]) (hN:X.N.Nodup) (I:Inv X O U H s) (hx:zK X.prog X.w X.stack H s E' e s1)
  (gl:Gl X c) (mgc:X.mg c=some (.ref C2)) (hdb:(c == ("__debug__":Str))=false) (hi:X.N[i]? = some n) (hl:X.env.scope.names.lookup n=some .local) (hb:∀e,fN (ig X e) (b0::g) (N e))
  (k:∀(a:Addr) (l:Value) (R:Hp),e=.ref a->E' l none R->R a=none->∃C,l=.ref C/\PySem.W.exmOne X.K l (.ref C2)=some true /\
   N e { nx:=fun h d=>D.nx (h.set i none) d,rt:=D.rt,bk:=fun h d=>D.bk (h.set i none) d,ct:=fun h d=>D.ct (h.set i none) d } (U.set i (some (.ref a))) (cF R a (.ext (lu a C)))) :
  wpAny (model X.prog X.w) X.A (noteFrame e X.env) (fun _ s2=>wpAny (model X.prog X.w) X.A (setFlight e none) (fun _ s3=>wpAny (model X.prog X.w) X.A (handleBy e X.env (.ExceptHandler (some (.Name c np)) (some n) (b0::g) A::bx)) (SP X O D) X.xe s3) X.xe s2) X.xe s1:=by
 obtain⟨a,l,a0,R,B,rfl,os,V,un,hok,hn,c0,c1,c2,fl,qe⟩:=hx;obtain⟨C,rfl,exm,go⟩:=k a l R rfl qe hn;have J:=fun h1 y sl=>Bq (x:=h1) I os V un hok c0 c1 c2 y sl;have hfr:X.A.frames=some (X.env::X.outer):=by rw [<- P];exact I.ok.frames
 rw [P] at fl;refine wpAny_looks_onW hfr W fl fun h4 L sl4=>?_;refine wpAny_landsW L fun h5 G K=>?_;have K:=sl4.trans K;have I5:=J h5 G.1 K;refine wpAny_handleBy_cons (codeAny_handlers_test (j6 (o0 I5 (.ref a)) gl mgc ?_ hdb)) (by intro z;cases z);obtain⟨ob,hob,hobc⟩:=G.there;have LT:PySem.W.Looks (model X.prog X.w) h5 (typeOf (.ref a)) (.ref C):=by rw [<- hobc];exact (PySem.W.Looks.ld hob).andThen .now
 refine (PySem.W.exm_one (M:=model X.prog X.w) I5.kIn LT exm).here ?_;rw [if_pos rfl];refine codeAny_handlers_suite_as (lands_againW G fun h6 S sl6=>?_);have I6:=J h6 S.1 (K.trans sl6);obtain⟨oe,vs,T,oT,tvs,he,⟨Y,_⟩,hd,_⟩:=S.2.2.2;have F:a ∉ jb X.stack:=fun z=>by rw [P] at z;obtain⟨_,o,Z,nf⟩:=S.2.2.1.mem z;rw [he] at Z;cases Z;exact nf vs hd
 have E:s.heap.get? a=none:=by
  cases q:s.heap.get? a with
  | none=>rfl
  | some o=>obtain⟨o',z⟩:=c0 a o q F;rw [S.2.1] at z;cases z
 have not0:X.s₀.heap.get? a=none:=by
  cases q:X.s₀.heap.get? a with
  | none=>rfl
  | some o=>obtain⟨o',z⟩:=I.base.there a o q (by rw [ex];simp);rw [E] at z;cases z
 have I7:=zc (u:=.ext (lu a C)) I6 not0 hn (fun z=>F (by rw [P,z];exact kA.mpr ⟨X.env,.head _,W⟩)) (fun x c' q z=>by
   obtain⟨v,o,Z,hv⟩:=I6.cell x c' q;rw [z,he] at Z;cases Z;rw [hd] at hv;cases hv) (fun p hp z=>by
   have:=(I.pin p hp).1;rw [z,E] at this;cases this) ⟨⟨oe,he,Y⟩,⟨oe,he⟩,fun h1 h2 ⟨o,q1,q2⟩ y=>⟨o,y o q1,q2⟩⟩
 refine iQ I7 hN hi (.inl hl) (v:=.ref a) (u:=.ref a) rfl (fun s8 I8 _=>?_) (.inr hl);refine wpAny_mono (hb (.ref a) O s8 _ _ _ (o0 I8 (.ref a)) go) (fun f s9 h9=>?_) fun _ _ z=>z.elim;have hp:(X.env.scope.kind == .class || (X.env.scope.kind == .module && X.env.locals != X.env.globals))=false:=by rw [I.ok.kind];rfl
 have j:∀{h:L2.St}{d:Hp},Inv (ig X (.ref a)) O h d s9->(∀b,Inv X O (h.set i none) d b->SP X O D f b)->wpAny (model X.prog X.w) X.A (do bindName X.env n .none;unbindBehindTheSuite X.env n A) (fun _ b=>SP X O D f b) X.xe s9:=fun w k9=>by have w:=vG I.ok w;obtain⟨m,hm,Q⟩:=id w.loc;exact wpAny_nameGoes_keeps hl hm hp fun h' v hn' hs=>k9 _ (BB w hN hi Q hn' hs)
 cases f with
 | next=>obtain⟨h,d,w,q⟩:=h9;exact j w fun b t=>⟨_,_,t,q⟩
 | brk=>obtain⟨h,d,w,q⟩:=h9;exact j w fun b t=>⟨_,_,t,q⟩
 | cont=>obtain⟨h,d,w,q⟩:=h9;exact j w fun b t=>⟨_,_,t,q⟩
 | ret u=>obtain⟨v,h,d,w,r,q⟩:=h9;exact j w fun b t=>⟨v,_,_,t,r,q⟩
end
noncomputable abbrev EX:=Lc->aR->Option (Str×Lc×aR)
noncomputable abbrev GX:=List D->aR->Option (Str×aR)
noncomputable def sD (X:Cx) (c:Str) (U:L2.St) (H:Hp):Prop:=∀C,PySem.W.nsIn X.K mainGlobals c=some (some (.ref C)) ->
 ∀(O:PN) (h:Hp) (s:Shared) (E:XK) (e:Value) (a:Shared),Inv X O U h s->zK X.prog X.w X.stack h s E e a->(∀l x,E l none x->l=.ref C/\x=H)->X.xe e a
noncomputable def J1 (X:Cx) (c:Str) (U:L2.St) (H:Hp):Prop:=(∀C,PySem.W.nsIn X.K mainGlobals c=some (some (.ref C)) ->
 ∀(O:PN) (s:Shared) (h:Heap) (e:Addr) (v:LV),Inv X O U H s->Heap.MadeExcOf s.heap h e (.ref C) v->X.xe (.ref e) { s with heap:=h })/\sD X c U H
inductive tXI (X:Cx) (f:EX) (σ:L2.St) (H:Hp):Prop
 | mk (F:Aa) (m:List Addr) (L:Lc) (S:aR) (c:Str) (L':Lc) (S':aR) (h0_:Rel X.K F H m S) (h1_:RL X.K F H m σ L) (h2_:f L S=some (c,L',S')) (h3_:∀σ' F' m' H',Stp F m H F' m' H'->Rel X.K F' H' m' S'->RL X.K F' H' m' σ' L'->J1 X c σ' H'):tXI X f σ H
noncomputable def tX (X:Cx) (f:EX):TS:=fun _ U H=>tXI X f U H
inductive tXEI (X:Cx) (f:EX) (σ:L2.St) (H:Hp):Prop
 | mk (F:Aa) (m:List Addr) (L:Lc) (S:aR) (c:Str) (L':Lc) (S':aR) (h0_:Rel X.K F H m S) (h1_:RL X.K F H m σ L) (h2_:f L S=some (c,L',S')) (h3_:∀σ' F' m' H',Stp F m H F' m' H'->Rel X.K F' H' m' S'->RL X.K F' H' m' σ' L'->sD X c σ' H'):tXEI X f σ H
noncomputable def Kf (X:Cx) (f:EX):TE:=fun U H _=>tXEI X f U H
noncomputable def Ke (X:Cx) (f:EX):TS:=fun _ U H=>Kf X f U H fun _ _=>True
noncomputable def zM:EX:=fun _ _=>none
noncomputable def Ct (x:ES) (f g:EX):EX:=fun L S=>match x L S with
 | some (.nx,h,a)=>g h a
 | some _=>none
 | none=>f L S
noncomputable def zV (c:EB) (f g:EX):EX:=fun L S=>ba (c L S) fun k h=>if k=true then f L h else g L h
noncomputable def jt (g:i0) (b:ES) (x:EX):List P->Lc->aR->Option (Str×Lc×aR)
 | [],_,_=>none
 | v::r,L,S=>match g v L with
  | none=>none
  | some a=>match b a S with
   | some (.nx,L2,h)=>jt g b x r L2 h
   | some (.ct,L2,h)=>jt g b x r L2 h
   | some _=>none
   | none=>x a S
noncomputable def Fd (i:f6) (g:i0) (b:ES) (x:EX):EX:=fun L S=>ba (i L S) fun s h=>jt g b x s L h
noncomputable def mE (c:Str):EX:=fun L S=>some (c,L,S)
noncomputable def gL (g:GX) (a:pP):EX:=fun L S=>ba (a L S) fun d h=>(g d h).map fun z=>(z.1,L,z.2)
section
variable {X:Cx}{y:Stmt}{bx v d:List Stmt}{e:Expr}{M:Ab}{Y:Pos}{x:ES}{f g:EX}{i:EB}
theorem K0:fN X bx (tX X zM):=fun _ _ _ _ _ _ ⟨_,_,_,_,_,_,_,_,_,q,_⟩=>nomatch q
theorem vg:PS X y (tX X zM):=fun _ _ _ _ _ _ ⟨_,_,_,_,_,_,_,_,_,q,_⟩=>nomatch q
theorem E_ (w:PS X y (fP X.K x)) (u:PS X y (tX X f)) (i:fN X bx (tX X g)):fN X (y::bx) (tX X (Ct x f g)):=fun O s U H D I z=>by
 obtain⟨F,m,L,S,c,a,n,r,l,q,k⟩:=z;unfold Ct at q;split at q
 .rename_i e b d;exact j0 w i O s U H D I ⟨F,m,L,S,.nx,e,b,r,l,d,fun G t K J C A j=>⟨t,K,e,b,c,a,n,A,j,q,fun h p P v E B o=>k h p P v (C.trans E) B o⟩⟩
 .cases q
 .exact j0 u (kM (X:=X)) O s U H D I ⟨F,m,L,S,c,a,n,r,l,q,k⟩
theorem HU (h:PS X y (tX X f)):fN X [y] (tX X f):=q_ h
theorem Lh (B:PT X c (tQ X.K i)) (P:fN X v (tX X f)) (A:fN X d (tX X g)):PS X (.If c v d Y) (tX X (zV i f g)):=(Et B P A).imp' fun D U H C=>by
 obtain⟨F,m,L,S,c,j,y,r,l,q,k⟩:=C;obtain⟨b,e,K,q⟩:=ao q;refine⟨F,m,L,S,b,e,r,l,K,fun u z E s o=>?_⟩;cases b with
 | true=>rw [if_pos rfl] at q ⊢;exact⟨u,z,L,e,c,j,y,o,l.mono s,q,fun h x t a w p n=>k h x t a (s.trans w) p n⟩
 | false=>rw [if_neg ci] at q ⊢;exact⟨u,z,L,e,c,j,y,o,l.mono s,q,fun h x t a w p n=>k h x t a (s.trans w) p n⟩
theorem FP (x:fN X bx t) (a:fN X bx u):fN X bx (fun D U H=>t D U H\/u D U H):=fun O s U H D I h=>h.elim (x O s U H D I) (a O s U H D I)
theorem Ij {tg iter:Expr}{fi:f6}{g:i0}{b:List Stmt}{u:ES}{G:EX} (hp:PassesOwn (model X.prog X.w) X.A X.env X.xe) (hc:X.calm=true) (hi:PI X tg iter (tI X.K fi)) (hg:PG X tg (gT X.K g)) (hb:fN X b (fP X.K u)) (hx:fN X b (tX X G))
  (hs:∀x,foldedSetIterable iter X.env x=pure x:=by intro _;rfl):PS X (.For tg iter b [] Y) (tX X (Fd fi g u G)):=
 (vY hp hc hi hg (FP hb hx) hs).imp' fun D U H hz=>by
  obtain⟨F,m,L,S,c,T,W,r,l,q,k⟩:=hz;obtain⟨v,S1,e1,q⟩:=ao q;refine⟨F,m,L,S,v,S1,r,l,e1,fun J A M R s1 r1 it=>?_⟩;refine⟨fun i n o w=>n=v.length-i/\i≤v.length/\∃s a L2 f,Stp A M R s a w/\Rel X.K s w a f/\RL X.K s w a o L2/\jt g u G (v.drop i) L2 f=some (c,T,W),
   ⟨v.length,rfl,Nat.zero_le _,A,M,L,S1,.refl,r1,l.mono s1,by rw [kw];exact q⟩,?_⟩
  rintro i n o w ⟨rfl,hi,s,a,L2,f,s2,r2,l2,h⟩;obtain⟨go,_⟩:=it s a w s2;by_cases t:i < v.length
  .right;have hv:v[i]? = some v[i]:=by simp [t]
   rw [List.drop_eq_getElem_cons t] at h;obtain⟨hgo,hy⟩:=go i _ hv;refine⟨hgo,fun K p=>∃n',n' < v.length-i/\(n'=v.length-(i+1)/\i+1≤v.length/\∃s a L2 f,Stp A M R s a p/\Rel X.K s p a f/\RL X.K s p a K L2/\jt g u G (v.drop (i+1)) L2 f=some (c,T,W)),fun _ _ z=>z,fun x p y=>?_⟩;obtain⟨B,gr,p3⟩:=hy x p y;unfold jt at h;cases eg:g v[i] L2 with
   | none=>rw [eg] at h;cases h
   | some E=>
    rw [eg] at h;dsimp only at h;refine⟨B,a,L2,v[i],E,l2.mono gr.stp,p3,eg,fun K l3=>?_⟩;have s3:Stp A M R B a p:=s2.trans gr.stp;have r3:=r2.grow gr;cases eb:u E f with
    | none=>rw [eb] at h;exact .inr ⟨B,a,E,f,c,T,W,r3,l3,h,fun P C N H4 Q O I=>k P C N H4 (s1.trans (s3.trans Q)) O I⟩
    | some z=>
     obtain⟨j,V,Z⟩:=z;rw [eb] at h;refine .inl ⟨B,a,E,f,j,V,Z,r3,l3,eb,fun P C N H4 Q O I=>?_⟩;cases j with
     | nx=>exact⟨v.length-(i+1),by lia,rfl,t,C,N,V,Z,s3.trans Q,O,I,h⟩
     | ct=>exact⟨v.length-(i+1),by lia,rfl,t,C,N,V,Z,s3.trans Q,O,I,h⟩
     | bk=>cases h
     | rt d=>cases h
  .have e:i=v.length:=by lia
   subst e;rw [pW] at h;cases h
noncomputable abbrev Go:LV:=[.type "ValueError",.type "Exception",.type "BaseException",.type "object"]
theorem DS {K:FG}{h:Heap}{C:Addr}{n:String}{b:LV} (k:K.In h) (q:PySem.W.excIn K C b n=true):∃t N nm j v u y sub r c d x a s f m z,
  h.get? C=some (excClassObj nm j C N v t u y sub r c d x a s f m n)/\h.Ns N z/\z "__init__"=none/\OwnTail h b t:=by
 revert q;unfold PySem.W.excIn;split
 .next d F M l=>
  split
  .next S t x a s f g m e w=>
   intro q;rw [Bool.and_eq_true,Bool.and_eq_true,Bool.and_eq_true,Bool.and_eq_true,Bool.and_eq_true] at q;obtain⟨⟨⟨⟨⟨E,G⟩,I⟩,J⟩,H⟩,L⟩:=q;have P:=eq_of_beq E;have A:=eq_of_beq G;have B:=eq_of_beq L;subst P A;have i:M=#[x,a,s,f,some (.builtin g),m]:=Array.toList_inj.mp w;subst i;cases F with
   | mk nm v o D j u y sub r c p=>
    cases p with
    | true=>cases I
    | false=>cases (show o=.ref S::t from e);exact⟨t,D,nm,j,v,u,y,sub,r,c,d,x,a,s,f,m,_,k _ _ l,.of_isNs (PySem.W.isNs_of_in k H),PySem.W.nsMap_none_of_in k H B,PySem.W.tail_of_in k J⟩
  .exact fun q=>nomatch q
 .exact fun q=>nomatch q
theorem Cv (a:X.calm=true) (f:Gl X c) (G:PySem.W.nsIn X.K mainGlobals c=some (some (.ref C))) (g:X.mg c=some (.ref C)) (q:PySem.W.excIn X.K C Go "ValueError.__new__"=true) (h:(c == ("__debug__":Str))=false) :
  PS X (.Raise (some (.Call (.Name c np) [] [] b)) none Y) (tX X (mE c)):=fun O s U H D I z=>by
 obtain⟨F,m,L,S,Z,V,W,r,l,J,k⟩:=z;cases J;have t:=(k U F m H .refl r l).1 C G;obtain⟨R,N,nm,M,v,i,Q,sub,x,o,d,y,K,P,A,B,E,w,u,n,T⟩:=DS I.kIn q;exact wpAny_Raise_call_subT (C:=C) (nm:=nm) (q:=M) (N:=N) (bs:=v) (bm:=R) (hdct:=i) (sn:=Q) (sub:=sub) (ab:=x) (col:=o) (dd:=d) (k0:=y) (k1:=K) (k2:=P) (k3:=A) (k5:=B) PySem.F.excBase_ValueError (mN:=E)
  (T.hasType PySem.F.excBase_ValueError.hasBase) (I.ok.hd a) rfl n (j6 I f g ⟨rfl,evalArgs_empty ⟨rfl,Nat.zero_le _,w,u,T,fun p e j=>t O s p e [] I j⟩⟩ h)
inductive spEI (K:FG) (gx:GX) (vs:List V) (H:Hp) (E:XK):Prop
 | mk (F:Aa) (m:List Addr) (ds:List D) (S:aR) (c:Str) (S':aR) (h0_:Rel K F H m S) (h1_:du K F H m ds vs) (h2_:gx ds S=some (c,S')) (h3_:∀F' m' H',Stp F m H F' m' H'->Rel K F' H' m' S'->∃C,PySem.W.nsIn K mainGlobals c=some (some (.ref C))/\E (.ref C) none H'):spEI K gx vs H E
noncomputable def Hq (K:FG) (g:GX):Sp:=fun v H _ E=>spEI K g v H E
noncomputable def BS (K:FG) (g:GX):Prop:=∀d S c h,g d S=some (c,h)->∃C,PySem.W.nsIn K mainGlobals c=some (some (.ref C))
theorem Fa (G:FnOk X.prog X.w X.K X.mg X.base (zK X.prog X.w) b J fd ps (Hq X.K T)) (cl:BS X.K T) (hr:Room b X.A) (hg:Gl X o) (hm:X.mg o=some (.ref J)) (hk:PySem.W.keepIn X.K (.ref J)=true) (hb:Binds X.K fd ps [])
  (ha:PA X (e::M) (Ap X.K fs)) (P:(o == ("__debug__":Str))=false) (he:starEach (e::M) X.env=(false,eval e X.env)::starEach M X.env) (D:(backTo Y (starEach M X.env)).any (·.1)=false) :
  PE X (.Call (.Name o p) (e::M) [] Y) (Kf X (gL T fs)):=fun O s U H Q I E=>by
 obtain⟨F,m,L,S,c,L',S',r,l,q,kk⟩:=E;obtain⟨y,g,e1,q⟩:=ao q;obtain⟨⟨i,W⟩,Z,q⟩:=Option.map_eq_some_iff.mp q;cases q;obtain⟨C,ns⟩:=cl y g i W Z;refine pX (j6 I hg hm ?_ P);refine PySem.W.callWith_K (h₀:=X.base) I.ok.mod.kin hk (cZ (ha Y O s U H (fun V t=>Hq X.K T V t Q (fun h _ x=>h=.ref C/\sD X i U x)) I ⟨F,m,L,S,y,g,r,l,e1,fun xs F' m' w s' r' p'=>⟨F',m',y,g,i,W,r',p',Z,fun F2 m2 x v N=>⟨C,ns,rfl,kk U F2 m2 x (s'.trans v) N (l.mono (s'.trans v))⟩⟩⟩) fun d R E=>?_) he D;obtain⟨V,t,n,rv,q1⟩:=E;refine⟨n.kIn,?_⟩;have hl:d.length=ps.length:=by rw [<- rv.length];exact G.len _ _ _ _ q1
 refine wpAny_call (jh (G.run X.A X.stack R t ⟨d,[]⟩ d V Q _ hr n.env0 (by have:=hb R d n.kIn (by simpa using hl);simpa using this) rv q1) fun N v f=>?_);cases N with
 | error ev=>obtain⟨a,h,a0,w,B,rfl,os,k,un,A,hn,c0,j,c2,K,rfl,qe⟩:=f;exact qe C ns O t R (fun h _ x=>h=.ref C/\x=w) _ v n ⟨a,.ref C,a0,w,B,rfl,os,k,un,A,hn,c0,j,c2,K,rfl,rfl⟩ fun h x z=>z
 | ok K=>
  cases K with
  | ret u=>exact n.after f
  | next=>exact False.elim f
  | brk=>exact False.elim f
  | cont=>exact False.elim f
theorem Lq {D:Ends}{U:L2.St}{H:Hp} (h:tX X f D U H):Ke X f D U H:=by obtain⟨F,m,L,S,c,n,b,r,l,q,k⟩:=h;exact⟨F,m,L,S,c,n,b,r,l,q,fun x a t e s r l=>(k x a t e s r l).2⟩
theorem zY (h:PE X e (Kf X f)) (s:swapsWith e none Y.line X.env=pure false):PS X (.Expr e Y) (Ke X f):=(xA h s).imp' fun _ _ _ z=>z
end
noncomputable def fnX (p n:Nat) (b:EX):GX:=fun d S=>if d.length=p then (b (d.map some++List.replicate (n-d.length) none) S).map fun z=>(z.1,z.2.2) else none
theorem GQ {P:Program}{w:World}{K:FG}{g:SV}{base:Heap}{x u:Str}{y:Stmt}{f:Addr}{G:FuncData}{N j:LS}{k:Nat}{b:EX} (F:Fun K x u y f G) (S:FnScope N j (aP y)) (rd:∀{F:Aa}{H:Hp}{m:List Addr}{a:List D}{v:List V},du K F H m a v->RL K F H m (L2.start N v) (a.map some++List.replicate (N.length-a.length) none))
  (hb:∀(d:Value) (A:Around) (o:List Env) (s:Shared) (H:Hp) (E:XK),Room k (A.deeper (envOfC u (aP y) s.heap.objs.size f d)) ->
   fN (lQ (zK P w) P w K g base N u (aP y) f d A o s H E) (dc y) (tX (lQ (zK P w) P w K g base N u (aP y) f d A o s H E) b)):FnOk P w K g base (zK P w) (k+1) f G j (Hq K (fnX j.length N.length b)):=by
 obtain⟨oc,od,kV,doc,pm,an,d,ct,osl,rfl,lk,t⟩:=F.ex;refine EH lk t S (fun v H Q E h=>?_) fun A o s H v Q E hr h=>⟨_,hb d A o s H E hr,?_⟩
 .obtain⟨F,m,a,S,c,Y,R,r,q,J⟩:=h;rw [<- r.length];unfold fnX at q;split at q
  .assumption
  .cases q
 .obtain⟨F,m,a,S,c,Y,R,r,q,J⟩:=h;unfold fnX at q;split at q
  .obtain⟨⟨c1,X,Z⟩,eb,q⟩:=Option.map_eq_some_iff.mp q;cases q;refine⟨F,m,_,S,c1,X,Z,R,rd r,eb,fun σ' T m' U s' r' l'=>?_⟩;obtain⟨B,n,M⟩:=J T m' U s' r';have L:Leaves (lQ (zK P w) P w K g base N u (aP y) f d A o s H E) E:=⟨rfl,rfl,rfl,rfl⟩;refine⟨fun C i O s1 h1 e v I p=>?_,fun C i O H0 s1 E1 e s2 I p hE=>Bl L I p fun l W z=>?_⟩
   .cases (show some (some (Value.ref C))=some (some (Value.ref B)) from i.symm.trans n);exact leave_new L I p M
   .cases (show some (some (Value.ref C))=some (some (Value.ref B)) from i.symm.trans n);obtain⟨rfl,rfl⟩:=hE l W z;exact M
  .cases q
noncomputable def yR (x:ES) (s:EX) (sub:Str->Bool) (i:Nat) (g:ES):ES:=fun L S=>match x L S with
 | some z=>some z
 | none=>match s L S with
  | some (c,a,h)=>if sub c=true then (match g (a.set i (some (.ref h.length))) (h++[.exc c]) with
   | some (f,L2,e)=>some (f,L2.set i none,e)
   | none=>none) else none
  | none=>none
section
variable {X:Cx}
theorem RL.clr {K:FG}{F:Aa}{H:Hp}{m:List Addr}{U:L2.St}{L:Lc} (h:RL K F H m U L) (i:Nat):RL K F H m (U.set i none) (L.set i none):=⟨by rw [cv,cv];exact h.len,fun j d q=>by
 by_cases x:i=j
 .subst x;by_cases a:i < L.length
  .rw [et a] at q;cases q
  .rw [List.getElem?_eq_none (by rw [cv];lia)] at q;cases q
 .rw [cU x] at q;rw [cU x];exact h.at' j d q⟩
noncomputable abbrev j4 (X:Cx) (E:VP) (p:PN):Cx:={ X with xe:=E,pn:=p }
theorem HK {b:List Stmt}{c n:Str}{C2:Addr}{i:Nat}{b0:Stmt}{w:List Stmt}{np G Y:Pos}{x g:ES}{fx:EX}{sub:Str->Bool} (stk:X.stack=X.env::X.outer) (frm:X.env.frame=some X.env.locals) (ex:X.ex=[]) (hN:X.N.Nodup)
  (gl:Gl X c) (mgc:X.mg c=some (.ref C2)) (hdb:(c == ("__debug__":Str))=false) (hi:X.N[i]? = some n) (hl:X.env.scope.names.lookup n=some .local)
  (h0:∀E T,fN (j4 X E T) b (fP X.K x)) (hx:∀E T,fN (j4 X E T) b (Ke (j4 X E T) fx)) (hg:∀e,fN (ig X e) (b0::w) (fP X.K g))
  (hs:∀y C,sub y=true->PySem.W.nsIn X.K mainGlobals y=some (some (.ref C))->PySem.W.exmOne X.K (.ref C) (.ref C2)=some true) :
  PS X (.Try b [.ExceptHandler (some (.Name c np)) (some n) (b0::w) G] [] [] Y) (fP X.K (yR x fx sub i g)):=fun O s U H D I hz=>by
 obtain⟨F,m,L,S,fl,L',S',r,l,q,k⟩:=hz;unfold yR at q;split at q
 .rename_i z e0;cases q;refine wpAny_Try_except (wpAny_mono (h0 (fun _ _=>False) X.pn O s U H D (I.wish _) ⟨F,m,L,S,fl,L',S',r,l,e0,k⟩) (fun f V t=>?_) fun _ _ z=>z.elim);have t:=SP.unwish (X:=X) (E:=fun _ _=>False) t;cases f with
  | next=>exact wpAny_pure t
  | _=>exact t
 .split at q
  .rename_i y R A e1;split at q
   .rename_i J;split at q
    .rename_i fl2 Lg Sg eg;cases q;have IX:∀{E:VP}{v:PN}{Q:L2.St}{W:Hp}{s2:Shared},Inv (j4 X E (X.pn++O)) v Q W s2->Inv X O Q W s2:=fun h=>
      ⟨⟨h.ok.mod,h.ok.kind,h.ok.glob,h.ok.blt,h.ok.above,h.ok.inj,h.ok.has,h.ok.cab,h.ok.hd,h.ok.frames,h.ok.stk,h.ok.exf,h.ok.bs,h.ok.bsz,h.ok.noex,h.ok.exfs,h.ok.funs,h.ok.frf⟩,h.os,h.bare,h.base,h.loc,h.cell,h.free,h.freeC,fun p hp=>h.pin p (dv _ hp),h.hok,h.len⟩
     have XI:∀E:VP,Inv (j4 X E (X.pn++O)) [] U H s:=fun E=>
      ⟨⟨I.ok.mod,I.ok.kind,I.ok.glob,I.ok.blt,I.ok.above,I.ok.inj,I.ok.has,I.ok.cab,I.ok.hd,I.ok.frames,I.ok.stk,I.ok.exf,I.ok.bs,I.ok.bsz,I.ok.noex,I.ok.exfs,I.ok.funs,I.ok.frf⟩,I.os,I.bare,I.base,I.loc,I.cell,I.free,I.freeC,fun p hp=>I.pin p ((bi.mp hp).elim id fun z=>nomatch z),I.hok,I.len⟩
     refine wpAny_Try_except (wpAny_mono (hx _ (X.pn++O) [] s U H ⟨fun _ _=>False,fun _ _=>False,fun _ _=>False,fun _ _=>False⟩ (XI _) ⟨F,m,L,S,y,R,A,r,l,e1,fun M o B H1 V r1 l1 C ns v W s2 E e s3 h hc hE=>?_⟩) (fun f V t=>?_) fun e V t=>t)
     .refine BX (D:=D) (N:=fun _=>fP X.K g) stk frm ex hN (IX h) hc gl mgc hdb hi hl hg fun a Z P he qe hn=>?_;obtain⟨rfl,rfl⟩:=hE Z P qe;have r5:Rel X.K o (cF P a (.ext (lu a C))) (B++[a]) (A++[.exc y]):=Rel.own (K:=X.K) (so:=.exc y) r1 hn ⟨C,ns,a1⟩;have s5:Stp o B P o (B++[a]) (cF P a (.ext (lu a C))):=gP hn;have l5:RL X.K o (cF P a (.ext (lu a C))) (B++[a]) (M.set i (some (.ref a))) (R.set i (some (.ref A.length))):=RL.set (RL.mono s5 (show RL X.K o P B M R from l1)) (d:=.ref A.length) ⟨a,rfl,by rw [<- r1.len];simp⟩ i;refine⟨C,rfl,hs y C J ns,o,B++[a],R.set i (some (.ref A.length)),A++[.exc y],fl,Lg,S',r5,l5,eg,fun σ4 F4 m4 H4 s4 r4 l4=>?_⟩;have j:=k (σ4.set i none) F4 m4 H4 (V.trans (s5.trans s4)) r4 (l4.clr i);cases fl with
      | nx=>exact j
      | bk=>exact j
      | ct=>exact j
      | rt d=>exact j
     .cases f with
      | next=>obtain⟨_,_,_,z⟩:=t;exact z.elim
      | brk=>obtain⟨_,_,_,z⟩:=t;exact z.elim
      | cont=>obtain⟨_,_,_,z⟩:=t;exact z.elim
      | ret u=>obtain⟨_,_,_,_,_,z⟩:=t;exact z.elim
    .cases q
   .cases q
  .cases q
end
open PySem.W (Looks)
open PySem.Builtin PySem.Builtin.ObjectAttr PySem.Builtin.Getset_descriptor
section
variable {G:Program}{w:World}{A:Around}{E:VP}{s:Shared}{K:FG}{a C:Addr}
theorem s_ (T:Looks (model G w) s.heap (typeOf (.ref a)) (.ref C)) (sub:Looks (model G w) s.heap (isSubtype (.ref C) (.type "object")) true) (h:R (.ok (.ret (.ref C))) s) :
  codeAny (model G w) A (.call (.builtin "getset_descriptor.__get__") ⟨[.builtin "object.__class__",.ref a,b],[]⟩) R s:=by
 have o:∀B:Around,wpAny (model G w) B (Builtin.«object.__class__» ⟨[.ref a],[]⟩) (fun f u=>f=.done (.ret (.ref C))/\u=s) (fun _ _=>False) s:=fun B=>by
  obtain⟨p,g,d,t,os⟩:=s;simp only [Builtin.«object.__class__»,shownTypeOf];repeat lk
  exact⟨rfl,rfl⟩
 have k:∀B:Around,wpAny (model G w) B (descrCheckInstance (.builtin "object.__class__") (.ref a)) (fun _ u=>u=s) (fun _ _=>False) s:=fun B=>by obtain⟨p,g,d,t,os⟩:=s;simp only [descrCheckInstance,descrNameAndClass,isInstance,PySem.W.KF.owner_class];repeat lk
 obtain⟨q,x⟩:=And.intro PySem.W.KF.slot_gs PySem.W.KF.entry_gs;refine qv q.plain x (q.check _ _ _ _ _ _ _ _ PySem.W.KF.type_class (PySem.W.KF.args_gs _ _ _) ?_);simp only [Builtin.«getset_descriptor.__get__»,descrGet,PySem.W.dga_obj,descrGetter];refine wpAny_bind (wpAny_pure (wpAny_bind (wpAny_mono (k _) (fun _ u e=>?_) fun _ _ z=>z.elim)));subst e;refine wpAny_pure ⟨Code.quiet_builtin (id:="object.__class__") _ (by decide +kernel),codeAny_builtin PySem.W.KF.entry_class (wpAny_mono (o _) (fun f u e=>?_) fun _ _ z=>z.elim)⟩;obtain⟨rfl,rfl⟩:=e;exact h
structure ExcCl (K:FG) (C:Addr):Prop where
 get:PySem.W.findIn K (.ref C) "__getattribute__"=some (some (.builtin "BaseException.__getattribute__"))
 hook:PySem.W.findIn K (.ref C) "__getattr__"=some none
 cls:PySem.W.findIn K (.ref C) "__class__"=some (some (.builtin "object.__class__"))
 by':PySem.W.specialIn K (.builtin "object.__class__") "__get__"=some (some (.builtin "getset_descriptor.__get__"))
 dat:PySem.W.takesIn K (.builtin "object.__class__")=some true
 obj:PySem.W.mroIn K C (.type "object")=some true
 bas:PySem.W.mroIn K C (.type "BaseException")=some true
 isC:(PySem.W.clsIn K C).isSome=true
theorem BI (F:ExcCl K C) (k:K.In s.heap) (T:Looks (model G w) s.heap (typeOf (.ref a)) (.ref C)) (c:Q (some (.ref C)) { s with toks:=s.toks+1 }):wpAny (model G w) A (getAttr? (.ref a) "__class__") Q E s:=by
 have sub:=PySem.W.looks_mroIn (M:=model G w) k F.obj;have h:=PySem.W.looks_mroIn (M:=model G w) k F.bas;have b:=qD (M:=model G w) k F.get;have n:=qD (M:=model G w) k F.hook;have m:Looks (model G w) s.heap (find (.ref a) (.ref C) "__class__") (.bind (.builtin "getset_descriptor.__get__") (.builtin "object.__class__")):=
  (qD k F.cls).andThen ((show Looks (model G w) s.heap (getOf (some (.builtin "object.__class__"))) (some (.builtin "getset_descriptor.__get__")) from PySem.W.looks_specialIn k F.by').andThen
   ((show Looks (model G w) s.heap (dataDescriptor? (some (.builtin "object.__class__")) (some (.builtin "getset_descriptor.__get__"))) (some (.builtin "getset_descriptor.__get__",.builtin "object.__class__")) from (PySem.W.looks_takesIn k F.dat).andThen .now).andThen (Looks.tag .now)))
 have i:∀B:Around,∀x:Tok,∀u:Shared,u.heap=s.heap->codeAny (model G w) B (.call (.builtin "BaseException.__getattribute__") ⟨[.ref a,.str "__class__" x],[]⟩) (fun r l=>r=.ok (.ret (.ref C))/\l=u) u:=fun B x u q=>by
  obtain⟨p,g,d,t,os⟩:=u;cases (show p=s.heap from q);have v:builtinKind "BaseException.__getattribute__"=some .slot:=by decide +kernel
  have j:splitId "BaseException.__getattribute__"=some ("BaseException","__getattribute__"):=by decide +kernel
  refine qv (by decide +kernel) PySem.F.entry_bexc_ga ?_;have f:=PySem.F.args_bexc_ga (.ref a) (.str "__class__" x);simp only [checkBuiltinCall,v,j,isInstance];refine wpAny_bind (wpAny_bind (T.at (h.at ?_)));simp only [Bool.not_true,qx,iM];refine wpAny_of_eq f ?_;refine wpAny_bind (wpAny_pure (wpAny_bind (wpAny_pure (wpAny_bind (T.at (wpAny_bind (m.at ?_)))))));show wpAny _ _ (bindTo (.builtin "getset_descriptor.__get__") (.builtin "object.__class__") (.ref a) (.ref C)) _ _ _;exact wpAny_bind (wpAny_holding (wpAny_call (s_ (s:=⟨s.heap,g,d,t,os⟩) T sub (wpAny_pure ⟨rfl,rfl⟩))))
 obtain⟨p,g,d,t,os⟩:=s;simp only [getAttr?,getAttrBy?,getAttrBy];refine wpAny_bind (wpAny_mkText (wpAny_bind (wpAny_attempt (wpAny_holding (wpAny_bind (T.at (wpAny_bind (b.at ?_))))))));have o:(onTheHeap (Value.ref C) && Value.builtin "BaseException.__getattribute__" == Value.builtin "object.__getattribute__")=false:=by rw [show (Value.builtin "BaseException.__getattribute__" == Value.builtin "object.__getattribute__")=false by decide +kernel];rfl
 simp only [o,getAttrByItsOwn,hookBefore,qx,iM];refine wpAny_bind (wpAny_ite ?_);rw [if_pos (show onTheHeap (Value.ref C)=true from rfl)];refine n.at (wpAny_bind (wpAny_attempt (wpAny_holding ?_)));have bound:=PySem.F.attrBase_ValueError.ga.bind (.ref a);simp only [callGetattribute,boundAndCalled,Bool.false_and,qx,iM,bound];refine wpAny_bind (wpAny_pure (wpAny_call (jh (i A t ⟨p,g,d,t+1,os⟩ rfl) fun r u e=>?_)));obtain⟨rfl,rfl⟩:=e;exact PySem.W.handed_on rfl (wpAny_pure c)
end
section
variable {K:FG}{a C:Addr}
theorem BH (p:lu a C b):PySem.W.Looks c b (typeOf (.ref a)) (.ref C):=by obtain⟨o,x,h⟩:=p;rw [<- h];exact (PySem.W.Looks.ld x).andThen .now
theorem tT (F:ExcCl K C) (e:PySem.W.kitCls K (.ref C) (.ref C)=some true):PySem.W.KitX K (.ref a) (.ref C) (lu a C) where
 ty:=fun _ _ _ p=>BH p
 it:=fun _ _ k _=>(PySem.W.kit_cls k e).2.1
 ne:=fun h x d i n f k t=>by
  rcases q:(Value.ref C == Value.ref x) with _ | _
  .rfl
  .have same:C=x:=by simpa using q
   subst same;have s:=F.isC;unfold PySem.W.clsIn at s;split at s
   .next l=>exact nomatch (k _ _ l).symm.trans t
   .exact nomatch s
 ca:=fun k p g=>BI F k (BH p) g
end
noncomputable def wr (B:Str->Option Bool):D->aR->Option Bool
 | .p .non,_=>some false
 | .ref i,S=>match S[i]? with
  | some (.exc c)=>B c
  | _=>none
 | _,_=>none
noncomputable def ie (B:Str->Option Bool) (f:EE):EV:=fun L S=>ba (f L S) fun d h=>(wr B d h).map fun b=>(.bl b,h)
noncomputable def EQ:Value->Option V
 | .ref C=>some (.ref C)
 | .type T=>some (.ty T)
 | _=>none
variable {u:Value}
theorem BU (h:EQ u=some b) (r:RelV b w):w=u:=by cases u <;> cases h <;> exact r
theorem yg:∀{x:LV}{s:List V}{w:LV},x.map EQ=s.map some->aU s w->w=x
 | [],s,w,h,r=>by
  cases s with
  | nil=>cases r;rfl
  | cons v s=>cases h
 | u::x,s,w,h,r=>by
  cases s with
  | nil=>cases h
  | cons v s=>
   rw [List.map_cons,List.map_cons,List.cons.injEq] at h;cases r with
   | cons q t=>rw [BU h.1 q,yg h.2 t]
structure AnsOk (K:FG) (ans:Str->Option Bool) (cs:LV):Prop where
 non:PySem.W.kitAny K (.type "NoneType") cs=some false
 exc:∀c b C,ans c=some b->PySem.W.nsIn K mainGlobals c=some (some (.ref C))->ExcCl K C/\PySem.W.kitCls K (.ref C) (.ref C)=some true/\PySem.W.kitAny K (.ref C) cs=some b
theorem nv {K:FG}{t c:Value}{b:Bool} (h:PySem.W.kitAny K t [c]=some b):PySem.W.kitOne K t c=some b:=by
 simp only [PySem.W.kitAny] at h;split at h
 .next e=>rw [e];exact h
 .next e=>rw [e];exact h
 .cases h
section
variable {X:Cx}{a:Expr}{M:Ab}{J:EE}{p Y:Pos}{B:Str->Option Bool}
theorem zD (y:EQ u=some l) (K:AnsOk X.K B [u]) :
  bZ X (.builtin "isinstance") (fun k H Q=>∃F m S d b x,k=[x,l]/\Rel X.K F H m S/\RD X.K F H m d x/\wr B d S=some b/\Q (.bl b) H):=by
 intro O s U H k J Q I r h;obtain⟨F,m,S,d,b,x,rfl,D,pd,e,q⟩:=h;obtain⟨n,G,rfl,a,E⟩:=vals2 r;cases BU y E;have f:∀t,EP X O U Q (.bool b) { s with toks:=t }:=fun t=>⟨.bl b,H,I.tok _,rfl,q⟩
 unfold wr at e;split at e
 .cases e;cases (show x=.non from pd);cases (show n=Value.none from a);exact c6 qu I.kIn trivial (nv K.non) (fun z=>nomatch z) f
 .split at e
  .next j c o=>obtain⟨ad,rfl,i⟩:=pd;cases (show n=Value.ref ad from a);obtain⟨C,P,g⟩:=D.obj _ ad _ i o;obtain⟨p,v,w⟩:=K.exc c b C e P;have A:=I.hok ad _ g;exact c6 (tT p v) I.kIn A.1 (nv w) (fun z=>nomatch z) f
  .cases e
 .cases e
theorem wP (J:us.map EQ=vs.map some) (K:AnsOk X.K B us) :
  bZ X (.builtin "isinstance") (fun v H Q=>∃F m S d b x t,v=[x,.ref t]/\H t=some (.tup vs)/\Rel X.K F H m S/\RD X.K F H m d x/\wr B d S=some b/\Q (.bl b) H):=by
 intro O s U H v ws Q I r h;obtain⟨F,m,S,d,b,x,t,rfl,G,T,pd,e,q⟩:=h;obtain⟨p,Y,rfl,u,W⟩:=vals2 r;cases (show Y=Value.ref t from W);obtain⟨i,V,⟨⟨N,Z,o,R⟩,a,y,n,P⟩,_⟩:=I.tuple (n6.of G);cases (show N=.type "tuple" from y);cases (show o=.seq i.toArray n from P);cases yg J V;have f:∀k,EP X O U Q (.bool b) { s with toks:=k }:=fun k=>⟨.bl b,H,I.tok _,rfl,q⟩
 unfold wr at e;split at e
 .cases e;cases (show x=.non from pd);cases (show p=Value.none from u);exact PySem.W.kia_tup qu I.kIn trivial a K.non (fun z=>nomatch z) f
 .split at e
  .next j c E=>obtain⟨ad,rfl,D⟩:=pd;cases (show p=Value.ref ad from u);obtain⟨C,L,A⟩:=T.obj _ ad _ D E;obtain⟨w,g,l⟩:=K.exc c b C e L;have M:=I.hok ad _ A;exact PySem.W.kia_tup (tT w g) I.kIn M.1 a l (fun z=>nomatch z) f
  .cases e
 .cases e
theorem HQ (A:EQ u=some z) (K:AnsOk X.K B [u]) (o:Gl X "isinstance") (P:X.mg "isinstance"=none) (g:PE X a (tE X.K J)) (j:PE X c (tC z)) (n:starEach [a,c] X.env=[(false,eval a X.env),(false,eval c X.env)]) (h:starEach [c] X.env=[(false,eval c X.env)]) :
  PE X (.Call (.Name "isinstance" p) [a,c] [] Y) (tV X.K (ie B J)):=
 (gv (zD A K) o P vd (cm g (cm j eu (by rw [h];rfl)) (by rw [n,h])) (by decide) (by decide) (by rw [n,h]) (by rw [h];rfl)).imp' fun U H Q C=>by obtain⟨F,m,L,S,d,E,r,l,q,k⟩:=C;obtain⟨x,G,w,q⟩:=ao q;obtain⟨b,i,q⟩:=Option.map_eq_some_iff.mp q;cases q;exact⟨F,m,L,S,_,_,r,l,w,fun y e f v s t D=>⟨e,f,_,x,b,y,rfl,t,D,i,k _ e f v s t rfl⟩⟩
theorem E7 (C:I.map EQ=o.map some) (e:o.length≤sizeLine) (K:AnsOk X.K B I) (P:Gl X "isinstance") (A:X.mg "isinstance"=none) (g:PE X a (tE X.K J)) (j:PA X M (fun _ H Q=>Q o H)) (f:starEach [a,.Tuple M z c] X.env=[(false,eval a X.env),(false,eval (.Tuple M z c) X.env)]) (h:starEach [.Tuple M z c] X.env=[(false,eval (.Tuple M z c) X.env)]) :
  PE X (.Call (.Name "isinstance" p) [a,.Tuple M z c] [] Y) (tV X.K (ie B J)):=
 (gv (wP C K) P A vd (cm g (cm (A1 j) eu (by rw [h];rfl)) (by rw [f,h])) (by decide) (by decide) (by rw [f,h]) (by rw [h];rfl)).imp' fun U H Q e=>by obtain⟨F,m,L,S,d,N,r,l,q,k⟩:=e;obtain⟨x,O,u,q⟩:=ao q;obtain⟨b,i,q⟩:=Option.map_eq_some_iff.mp q;cases q;exact⟨F,m,L,S,_,_,r,l,u,fun y n v G s w D=>⟨e,fun E t=>⟨n,v,_,x,b,y,E,rfl,a1,w.new t,D.mono (fQ t),i,k _ n v _ (s.trans (fQ t)) (w.new t) rfl⟩⟩⟩
end
end Ev
namespace PySem
namespace SetTable
noncomputable def stepN (t:SetTable):Nat->Probe->Probe
 | 0,p=>p
 | n+1,p=>stepN t n (t.advance p)
theorem stepN_add (t:SetTable):∀(n m:Nat) (p:Probe),stepN t (n+m) p=stepN t m (stepN t n p)
 | 0,m,p=>by rw [lY];rfl
 | n+1,m,p=>by rw [Nat.add_right_comm];exact stepN_add t n m (t.advance p)
noncomputable def ee (mask:Nat):Nat->Nat×Nat->Nat×Nat
 | 0,x=>x
 | k+1,x=>ee mask k (leap mask x.1 x.2)
theorem o9 (mask:Nat):∀(n m:Nat) (x:Nat×Nat),ee mask (n+m) x=ee mask m (ee mask n x)
 | 0,m,x=>by rw [lY];rfl
 | n+1,m,x=>by rw [Nat.add_right_comm];exact o9 mask n m _
noncomputable def jI (mask:Nat) (x:Nat×Nat) (d:Option Nat):Probe:={ j:=x.1,more:=runEnd mask x.1-x.1,i:=x.1,perturb:=x.2,dummy:=d }
theorem tm (t:SetTable):∀(m:Nat) (p:Probe),p.more=m->stepN t (m+1) p=jI t.mask (leap t.mask p.i p.perturb) p.dummy
 | 0,p,h=>by show t.advance p=_;unfold advance;rw [if_neg (by lia)];rfl
 | m+1,p,h=>by
  show stepN t (m+1) (t.advance p)=_;have e:t.advance p={ p with j:=p.j+1,more:=p.more-1 }:=by unfold advance;rw [if_pos (by lia)]
  rw [e,tm t m _ (by show p.more-1=m;lia)]
theorem o8 (t:SetTable):∀(k:Nat) (x:Nat×Nat) (d:Option Nat),∃n,n≤10 * k/\stepN t n (jI t.mask x d)=jI t.mask (ee t.mask k x) d
 | 0,x,d=>⟨0,by lia,rfl⟩
 | k+1,x,d=>by
  have h:=tm t _ (jI t.mask x d) rfl;have m:(jI t.mask x d).more≤9:=by show runEnd t.mask x.1-x.1≤9;unfold runEnd;split <;> lia
  obtain⟨n,a,e⟩:=o8 t k (leap t.mask x.1 x.2) d;refine⟨(jI t.mask x d).more+1+n,by lia,?_⟩;rw [stepN_add,h];exact e
theorem j1 (mask:Nat):∀(k:Nat) (x:Nat×Nat),(ee mask k x).2=x.2 / 32 ^ k
 | 0,x=>by simp [ee]
 | k+1,x=>by show (ee mask k (leap mask x.1 x.2)).2=_;rw [j1 mask k];show x.2 / 32 / 32 ^ k=_;rw [Nat.div_div_eq_div_mul,Nat.pow_succ,lW]
theorem tR (mask:Nat):∀(k:Nat) (x:Nat×Nat),x.1≤mask->(ee mask k x).1≤mask
 | 0,x,h=>h
 | k+1,x,h=>tR mask k _ (by show (x.1 * 5+1+x.2 / 32) % (mask+1)≤mask;exact qm (Nat.mod_lt _ (Nat.succ_pos mask)))
noncomputable def Hs (mask:Nat):Nat->Nat->Nat
 | 0,i=>i
 | k+1,i=>Hs mask k ((i * 5+1) % (mask+1))
theorem tP (mask:Nat):∀(k i:Nat),(ee mask k (i,0)).1=Hs mask k i
 | 0,i=>rfl
 | k+1,i=>by show (ee mask k (leap mask i 0)).1=Hs mask k ((i * 5+1) % (mask+1));rw [<- tP mask k];rfl
theorem GZ:∀i,i < 8->∀j,j < 8->∃k,k < 8/\Hs 7 k i=j:=by decide +kernel
theorem DY:∀i,i < 32->∀j,j < 32->∃k,k < 32/\Hs 31 k i=j:=by decide +kernel
theorem yn {mask:Nat} (m:mask=7\/mask=31) (x:Nat×Nat) (f:x.1≤mask) (p:x.2 < 2 ^ 64) (j:Nat) (s:j≤mask):∃k,k≤mask+13/\(ee mask k x).1=j:=by
 have n:(ee mask 13 x).2=0:=by rw [j1];exact Nat.div_eq_of_lt (cu p (by decide))
 have a:=tR mask 13 x f;have c:∃k,k≤mask/\Hs mask k (ee mask 13 x).1=j:=by
  rcases m with rfl | rfl
  .obtain⟨k,h,e⟩:=GZ _ (pZ a) j (pZ s);exact⟨k,by lia,e⟩
  .obtain⟨k,h,e⟩:=DY _ (pZ a) j (pZ s);exact⟨k,by lia,e⟩
 obtain⟨k,b,e⟩:=c;refine⟨13+k,by lia,?_⟩;rw [o9,show ee mask 13 x=((ee mask 13 x).1,0) from by rw [<- n],tP];exact e
theorem td [DecidableEq k]:∀{l m:List k},l.Nodup->(∀x ∈ l,x ∈ m)->l.length≤m.length
 | [],m,_,_=>Nat.zero_le _
 | x::l,m,d,h=>by
  obtain⟨n,s⟩:=List.nodup_cons.mp d;have a:x ∈ m:=h x List.mem_cons_self;have i:=td (l:=l) (m:=m.erase x) s fun y e=>(List.mem_erase_of_ne (show y≠x from fun z=>by subst z;exact n e)).mpr (h y (bE _ e));rw [List.length_erase_of_mem a] at i;have:=List.length_pos_of_mem a
  simp only [bo];lia
variable {t:SetTable}
theorem slot_plain (d:t.dummies=#[]) (j:Nat):t.slot j=.empty\/∃i,t.slot j=.live i/\t.place[i]? = some j:=by
 unfold slot;dsimp only;split
 .rename_i h;exact .inr ⟨_,rfl,by simpa using h⟩
 .left;rw [d];have:has #[] j=false:=by simp [has]
  rw [this];rfl
theorem wA (d:t.dummies=#[]) (s:t.place.size≤t.mask):∃j,j≤t.mask/\t.slot j=.empty:=by
 apply u_;intro n;have all:∀j ∈ List.range (t.mask+1),j ∈ t.place.toList:=fun j x=>by
  have a:=bt.mp x;rcases slot_plain d j with h | ⟨i,_,h⟩
  .exact absurd ⟨j,by lia,h⟩ n
  .rw [<- jr] at h;exact cV h
 have:=td List.nodup_range all;rw [qj,gG] at this;lia
theorem empty_met {t:SetTable} (m:t.mask=7\/t.mask=31) (d:t.dummies=#[]) (c:t.place.size≤t.mask) (h:Int):∃n,n < 10 * turns t.mask/\t.slot (stepN t n (t.probeStart h)).j=.empty:=by
 obtain⟨j,s,f⟩:=wA d c;have b:bits h < 2 ^ 64:=by unfold bits;have r:=fj h (show (2 ^ 64:Int)≠0 by decide);have p:=fv h (show (0:Int) < 2 ^ 64 by decide);lia
 have i:bits h % (t.mask+1)≤t.mask:=qm (Nat.mod_lt _ (Nat.succ_pos t.mask));obtain⟨k,q,e⟩:=yn m (bits h % (t.mask+1),bits h) i b j s;obtain⟨n,v,x⟩:=o8 t k (bits h % (t.mask+1),bits h) none;refine⟨n,by unfold turns;lia,?_⟩;have a:t.probeStart h=jI t.mask (bits h % (t.mask+1),bits h) none:=rfl;rw [a,x];show t.slot (ee t.mask k (bits h % (t.mask+1),bits h)).1=.empty;rw [e];exact f
theorem stepN_dummy (t:SetTable):∀(n:Nat) (p:Probe),(stepN t n p).dummy=p.dummy
 | 0,p=>rfl
 | n+1,p=>by show (stepN t n (t.advance p)).dummy=_;rw [stepN_dummy t n];unfold advance;split <;> rfl
theorem go_met (d:t.dummies=#[]) (hashAt:Nat->Int) (h:Int):∀(n f:Nat) (p:Probe),n < f->p.dummy=none->t.slot (stepN t n p).j=.empty ->
  (∃j,probe.go t hashAt h f p=some (.empty j none))\/∃m j i,m < n/\t.slot j=.live i/\t.place[i]? = some j/\probe.go t hashAt h f p=some (.candidate j i (stepN t (m+1) p))
 | n,0,p,b,_,_=>absurd b (gF _)
 | n,f+1,p,b,c,a=>by
  rcases slot_plain d p.j with s | ⟨i,s,l⟩
  .left;refine⟨p.j,?_⟩;unfold probe.go;rw [s];dsimp only;rw [c]
  .cases n with
   | zero=>have:t.slot p.j=.empty:=a;rw [s] at this;cases this
   | succ n=>
    by_cases k:(hashAt i == h)=true
    .right;refine⟨0,p.j,i,by lia,s,l,?_⟩;unfold probe.go;rw [s];dsimp only;rw [if_pos k];rfl
    .have x:(t.advance p).dummy=none:=by rw [<- c];exact stepN_dummy t 1 p
     have e:probe.go t hashAt h (f+1) p=probe.go t hashAt h f (t.advance p):=by
      conv=>lhs;unfold probe.go
      rw [s];dsimp only;rw [if_neg k]
     rcases go_met d hashAt h n f (t.advance p) (by lia) x a with ⟨j,q⟩ | ⟨m,j,r,g,v,w,u⟩
     .exact .inl ⟨j,by rw [e];exact q⟩
     .exact .inr ⟨m+1,j,r,by lia,v,w,by rw [e];exact u⟩
end SetTable
end PySem
namespace PySem
namespace SetTable
theorem nh:∀{l:List (Option k)},(l.filterMap id).length < l.length->∃j:Nat,l[j]? = some none
 | [],h=>absurd h (gF _)
 | none::l,_=>⟨0,rfl⟩
 | some a::l,h=>by obtain⟨j,e⟩:=nh (l:=l) (by simpa using h);exact⟨j+1,by simpa using e⟩
theorem tf (v:k):∀{l:List (Option k)}{j:Nat},l[j]? = some none->List.Perm ((l.set j (some v)).filterMap id) (v::l.filterMap id)
 | [],j,h=>by simp at h
 | x::l,0,h=>by cases (show x=none by simpa using h);simp
 | x::l,j+1,h=>by
  have i:=tf v (l:=l) (j:=j) (by simpa using h);cases x with
  | none=>simpa using i
  | some a=>simp only [List.set_cons_succ,gH,id_eq];exact (i.cons a).trans (.swap v a _)
theorem DL {mask:Nat} (p:mask=7\/mask=31) {o:Array (Option Nat)} (c:o.size=mask+1) (z:(o.toList.filterMap id).length≤mask) (i q:Nat) (t:i≤mask) (d:q < 2 ^ 64) :
  ∃j:Nat,layClean.free mask o (turns mask) i q=some j/\o.toList[j]? = some none:=by
 have u:o.toList.length=mask+1:=by rw [<- c];simp
 obtain⟨m,n⟩:=nh (l:=o.toList) (by lia);have s:m≤mask:=by have:=(bw.mp n).1;rw [gG,c] at this;lia
 obtain⟨k,g,e⟩:=yn p (i,q) t d m s;have y:∀(k f i q:Nat),k < f->o.toList[(ee mask k (i,q)).1]? = some none->∃j:Nat,layClean.free mask o f i q=some j/\o.toList[j]? = some none:=by
  intro k;induction k with
  | zero=>
   intro f i q a e;cases f with
   | zero=>exact absurd a (gF _)
   | succ f=>
    unfold layClean.free;cases h:(List.range (runEnd mask i+1-i)).find? fun k=>(o.getD (i+k) (some 0)).isNone with
    | some k=>
     have:=pS h;refine⟨i+k,rfl,?_⟩;rw [jr];rw [vb] at this;cases x:o[i+k]? with
     | none=>rw [x] at this;simp at this
     | some v=>rw [x] at this;cases v with | none=>rfl | some _=>simp at this
    | none=>
     have b:=List.find?_eq_none.mp h 0 (by rw [bt];unfold runEnd;split <;> lia);have r:o[i]? = some none:=by rw [<- jr];exact e
     rw [Nat.add_zero,vb,r] at b;simp at b
  | succ k w=>
   intro f i q a e;cases f with
   | zero=>exact absurd a (gF _)
   | succ f=>
    unfold layClean.free;cases h:(List.range (runEnd mask i+1-i)).find? fun k=>(o.getD (i+k) (some 0)).isNone with
    | some k=>
     have:=pS h;refine⟨i+k,rfl,?_⟩;rw [jr];rw [vb] at this;cases x:o[i+k]? with
     | none=>rw [x] at this;simp at this
     | some v=>rw [x] at this;cases v with | none=>rfl | some _=>simp at this
    | none=>exact w f _ _ (by lia) e
 exact y k (turns mask) i q (by unfold turns;lia) (by rw [e];exact n)
theorem Ea (h:Int):bits h < 2 ^ 64:=by unfold bits;have x:=fj h (show (2 ^ 64:Int)≠0 by decide);have a:=fv h (show (0:Int) < 2 ^ 64 by decide);lia
theorem Bn {mask:Nat} (m:mask=7\/mask=31):∀(s:List Int) (o:Array (Option Nat)) (k:Nat),o.size=mask+1->List.Perm (o.toList.filterMap id) (List.range k)->k+s.length≤mask ->
  ∃w:Array (Option Nat),s.foldl (fun c h=>do
   let (o,k) <- c
   let b <- layClean.free mask o (turns mask) (bits h % (mask+1)) (bits h)
   pure (o.setIfInBounds b (some k),k+1)) (some (o,k))=some (w,k+s.length)/\w.size=mask+1/\List.Perm (w.toList.filterMap id) (List.range (k+s.length))
 | [],o,k,x,a,_=>⟨o,rfl,x,a⟩
 | h::s,o,k,x,a,f=>by
  simp only [bo] at f;obtain⟨b,e,n⟩:=DL m x (by rw [a.length_eq,qj];lia) (bits h % (mask+1)) (bits h) (qm (Nat.mod_lt _ (Nat.succ_pos mask))) (Ea h);have p:List.Perm ((o.setIfInBounds b (some k)).toList.filterMap id) (List.range (k+1)):=by rw [Array.toList_setIfInBounds];refine (tf k n).trans ?_;rw [pU];exact (a.cons k).trans (List.perm_append_singleton k _).symm
  obtain⟨r,q,t,v⟩:=Bn m s (o.setIfInBounds b (some k)) (k+1) (by rw [Array.size_setIfInBounds];exact x) p (by lia);refine⟨r,?_,t,?_⟩
  .rw [jl];have:(do
    let (o,k) <- some (o,k)
    let b <- layClean.free mask o (turns mask) (bits h % (mask+1)) (bits h)
    pure (o.setIfInBounds b (some k),k+1))=some (o.setIfInBounds b (some k),k+1):=by
    show (layClean.free mask o (turns mask) (bits h % (mask+1)) (bits h) >>= fun b=>pure (o.setIfInBounds b (some k),k+1))=_;rw [e];rfl
   rw [this,q,bo];congr 2;lia
  .rw [bo,show k+(s.length+1)=k+1+s.length by lia];exact v
theorem y7 (o:Array (Option Nat)):∀(n:Nat),n=o.size->((List.range n).filterMap fun j=>(o.getD j none).map (j,·)).map (·.2)=o.toList.filterMap id:=by
 intro n a;subst a;rw [List.map_filterMap];have:(fun j=>Option.map (fun x:Nat×Nat=>x.2) ((o.getD j none).map (j,·)))=fun j=>o.getD j none:=by funext j;cases o.getD j none <;> rfl
 rw [this];have e:o.toList=(List.range o.size).map fun j=>o.getD j none:=by
  apply List.ext_getElem?;intro i;rw [List.getElem?_map,jr];by_cases h:i < o.size
  .simp [h]
  .simp [h]
 rw [e,List.filterMap_map];rfl
theorem relaid_ok (t:SetTable) (h:Array Int) (w:Nat) (k:sizeAbove w=32) (n:h.size≤31) :
  ∃x r,t.relaid h w=some (x,r)/\x.mask=31/\x.dummies=#[]/\x.place.size=h.size/\List.Perm r.toList (List.range h.size):=by
 obtain⟨o,e,f,s⟩:=Bn (mask:=31) (.inr rfl) h.toList (Array.replicate 32 none) 0 (by simp) (by decide) (by simpa using n);have a:layClean 31 h=some o:=by unfold layClean;rw [<- Array.foldl_toList];show Option.map _ (h.toList.foldl _ (some (Array.replicate 32 none,0)))=_;rw [e];rfl
 simp only [lY,gG] at s;have l:=y7 o 32 f.symm;refine⟨{ mask:=31,place:=(((List.range 32).filterMap fun j=>(o.getD j none).map (j,·)).map (·.1)).toArray,dummies:=#[],finger:=t.finger,led:=t.led,moves:=t.movedTo 31,plain:=t.plain },(((List.range 32).filterMap fun j=>(o.getD j none).map (j,·)).map (·.2)).toArray,?_,rfl,rfl,?_,?_⟩
 .unfold relaid laid;rw [k,a];rfl
 .have:=congrArg List.length l;rw [List.length_map,s.length_eq,qj] at this;simpa using this
 .rw [List.toList_toArray,l];exact s
end SetTable
end PySem
namespace PySem
section
variable {G:Program}{w:World}{K:Type} [DecidableEq K] {knd:KeyKind G w K}{A:Around}{E:VP}{s:Shared}
theorem uT {a:Type}{p:Value->Prop}{n:LV}{b0:a}{f:Value->a->Sem (ForInStep a)}{J:a->Prop}{Q:a->Shared->Prop} (m:∀v ∈ n,p v) (k:J b0)
  (t:∀v r,p v->J r->wpAny (model G w) A (f v r) (fun x z=>z=s/\match x with | .yield b=>J b | .done b=>Q b s) E s) (i:∀r,J r->Q r s):wpAny (model G w) A (forIn n b0 f) Q E s:=by
 refine wpAny_forIn_list f (fun l r z=>J r/\z=s/\∀v ∈ l,p v) Q (fun v l r z q=>?_) (fun r z q=>q.2.1 ▸ i r q.1) n b0 ⟨k,rfl,m⟩;obtain⟨j,e,q⟩:=q;subst e;refine wpAny_mono (t v r (q v (by simp)) j) (fun x d h=>?_) fun _ _ h=>h;obtain⟨e,h⟩:=h;subst e;cases x with
 | yield b=>exact⟨h,rfl,fun u c=>q u (by simp [c])⟩
 | done b=>exact h
theorem pO {h:Type}{p:Value->Prop}{a:Array Value}{b0:h}{f:Value->h->Sem (ForInStep h)}{J:h->Prop}{Q:h->Shared->Prop} (n:∀v ∈ a.toList,p v) (e:J b0)
  (t:∀v r,p v->J r->wpAny (model G w) A (f v r) (fun x z=>z=s/\match x with | .yield b=>J b | .done b=>Q b s) E s) (i:∀r,J r->Q r s):wpAny (model G w) A (forIn a b0 f) Q E s:=by
 rw [<- Array.forIn_toList];exact uT n e t i
theorem jT {f:List K}{a:Addr}{Q:Bool->Shared->Prop} (k:IsTupleKey knd s.heap f a) (h:Q false s):wpAny (model G w) A (ofAClassStatement 8 (.ref a)) Q E s:=by
 unfold ofAClassStatement;refine wpAny_bind (wpAny_typeOf k.typeIs ?_);obtain⟨o,q,m,b,-,c,t⟩:=k;show wpAny _ _ (do
  let u <- if (("tuple":String) == "tuple")=true then pure true else isSubtype (.type "tuple") (.type "tuple")
  _) _ _ s
 rw [if_pos (by decide)];apply wpAny_bind;apply wpAny_pure;dsimp only;rw [if_neg (by decide)];apply wpAny_bind;refine wpAny_seqItems b c (wpAny_bind ?_);refine pO (a:=q) (p:=fun v=>carriedByValue v=true) (J:=fun r=>r.1=none) t.byValue rfl (fun v r n x=>?_) fun r x=>?_
 .have e:ofAClassStatement 7 v=pure false:=by cases v <;> first | rfl | cases n
  rw [e];apply wpAny_bind;apply wpAny_pure;rw [if_neg (by decide)];exact wpAny_pure ⟨rfl,rfl⟩
 .rw [x];exact wpAny_pure h
theorem CZ {m:List K}{x:Addr}{stored:LV}{Q:Bool->Shared->Prop} (f:IsTupleKey knd s.heap m x) (b:∀y ∈ stored,∃k a,y=.ref a/\IsTupleKey knd s.heap k a) (h:Q false s):wpAny (model G w) A (searchCouldBeSeen (.ref x) stored) Q E s:=by
 unfold searchCouldBeSeen;apply wpAny_bind;refine uT (p:=fun y=>∃k a,y=.ref a/\IsTupleKey knd s.heap k a) (J:=fun r=>r.1=none) b rfl (fun v r c n=>?_) fun r n=>?_
 .obtain⟨k,a,rfl,e⟩:=c;dsimp only;split
  .exact wpAny_pure ⟨rfl,rfl⟩
  .refine wpAny_bind (wpAny_eqIsQuiet_tuple f ?_);rw [if_neg (by decide)];refine wpAny_bind (wpAny_eqIsQuiet_tuple e ?_);rw [if_neg (by decide)];refine wpAny_bind (jT f ?_);rw [if_neg (by decide)];refine wpAny_bind (jT e ?_);rw [if_neg (by decide)];exact wpAny_pure ⟨rfl,rfl⟩
 .dsimp only;rw [n];exact wpAny_pure h
noncomputable def d7 (knd:KeyKind G w K) (h:Heap) (S:Addr) (s:List (List K)) (c:Nat):Prop:=
 ∃o M p t,h.get? S=some o/\o.ExactSet/\o.data=.set M p t/\(∀e ∈ M.toList,∃k a,k ∈ s/\e=(tupleKeyHash knd k,Value.ref a)/\IsTupleKey knd h k a)/\M.size=c/\t.place.size=M.size/\t.dummies=#[] /\
  ((t.mask=7/\M.size≤4)\/(t.mask=31/\M.size≤18))/\(M.size=1->∀e ∈ M.toList,t.slot (t.probeStart e.1).j=.live 0)
theorem d7.fits {M:Array (Int×Value)}{t:SetTable} (h:t.place.size=M.size) (x:t.dummies=#[]) (s:(t.mask=7/\M.size≤4)\/(t.mask=31/\M.size≤18)):t.fits M.size=true:=by
 have e:t.fill=M.size:=by show t.place.size+t.dummies.size=_;rw [h,x];rfl
 unfold SetTable.fits;rw [h,e];rcases s with ⟨a,b⟩ | ⟨a,b⟩ <;> rw [a] <;> simp <;> lia
noncomputable def JZ (knd:KeyKind G w K) (h:Heap) (M:Array (Int×Value)) (t:SetTable) (k:List K) (p:SetTable.Probe):Prop:=
 ∃i a,t.slot p.j=.live i/\M[i]? = some (tupleKeyHash knd k,Value.ref a)/\IsTupleKey knd h k a
noncomputable def wy (M:Array (Int×Value)) (i:Nat):Int:=(M[i]?.map (·.1)).getD 0
theorem BD {h:Int} (a:0 < n) (s:t.slot p.j=.live b) (x:f b=h):SetTable.probe.go t f h n p=some (.candidate p.j b (t.advance p)):=by
 cases n with
 | zero=>exact absurd a (hX _)
 | succ n=>unfold SetTable.probe.go;rw [s];simp [x]
theorem DI {h:Int} (x:0 < n) (s:t.slot p.j=.empty):SetTable.probe.go t f h n p=some (.empty p.j p.dummy):=by
 cases n with
 | zero=>exact absurd x (hX _)
 | succ n=>unfold SetTable.probe.go;rw [s]
theorem vR {S J:Addr}{o:Obj}{M:Array (Int×Value)}{ep:Nat}{t:SetTable}{c:List K}{ks:List (List K)} (hu:A.units < cLine) (ho:s.heap.get? S=some o) (R:o.data=.set M ep t)
  (F:∀e ∈ M.toList,∃k a,k ∈ ks/\e=(tupleKeyHash knd k,Value.ref a)/\IsTupleKey knd s.heap k a) (h1:t.place.size=M.size) (O:t.dummies=#[]) (h3:(t.mask=7/\M.size≤4)\/(t.mask=31/\M.size≤18))
  (hx:IsTupleKey knd s.heap c J) {Q:SetFound->Shared->Prop} (ht:c ∈ ks->Q (.there none) s) :
  ∀(n f:Nat) (p:SetTable.Probe) (d:Option SetTable.Probe),n < f->n < 10 * SetTable.turns t.mask->p.dummy=none->t.slot (SetTable.stepN t n p).j=.empty->d.getD (t.probeStart (tupleKeyHash knd c))=p->(∀j,(M.size=0->j=p.j)->¬JZ knd s.heap M t c p->Q (.free j false) s) ->
   wpAny (model G w) A (setSearchFrom S (.ref J) (tupleKeyHash knd c) true f d) Q E s:=by
 have V:=d7.fits h1 O h3;intro n;induction n using Nat.strongRecOn with
 | _ n ih=>
  intro f p d W B hp he hst h;cases f with
  | zero=>exact absurd W (gF _)
  | succ f=>
   unfold setSearchFrom;refine wpAny_bind (wpAny_setState_of ho R V ?_);dsimp only;rw [if_neg (by unfold SetTable.gaveWay;rcases h3 with ⟨a,_⟩ | ⟨a,_⟩ <;> rw [a] <;> decide),hst]
   unfold SetTable.probe;have r:0 < 10 * SetTable.turns t.mask:=qz (Nat.zero_le _) B;have I:∀{i:Nat}{a:Addr},M[i]? = some (tupleKeyHash knd c,Value.ref a)->wy M i=tupleKeyHash knd c:=fun q=>by unfold wy;rw [q];rfl
   rcases SetTable.go_met O (wy M) (tupleKeyHash knd c) n (10 * SetTable.turns t.mask) p B hp he with ⟨j,q⟩ | ⟨m,j,i,q1,q2,q3,D⟩
   .erw [q];refine wpAny_pure (h j (fun z=>?_) fun l=>?_)
    .rcases SetTable.slot_plain O p.j with C | ⟨i,_,hpl⟩
     .rw [DI r C] at q;injection q with q;injection q with q1 q2;exact q1.symm
     .have:=(Array.getElem?_eq_some_iff.mp hpl).1;lia
    .obtain⟨i,a,C,u,_⟩:=l;rw [BD r C (I u)] at q;cases q
   .erw [D];have Z:i < M.size:=by
     rw [<- h1];exact (Array.getElem?_eq_some_iff.mp q3).1
    obtain⟨k,a,P,X,H⟩:=F M[i] (by simp);have v:M[i]? = some (tupleKeyHash knd k,Value.ref a):=by rw [u9 Z,X]
    have sm:t.sameMemory t.moves t.mask=some true:=by simp [SetTable.sameMemory]
    have stored:∀y ∈ (M.filter fun x=>x.1 == tupleKeyHash knd c).toList.map (·.2),∃k a,y=.ref a/\IsTupleKey knd s.heap k a:=fun y hy=>by
     obtain⟨e,T,rfl⟩:=bb.mp hy;have U:e ∈ M.toList:=by have:=Array.mem_filter.mp (qB.mp T);exact qB.mpr this.1
     obtain⟨k',a',_,e1,L⟩:=F e U;exact⟨k',a',by rw [e1],L⟩
    have g:¬k=c->wpAny (model G w) A (setSearchFrom S (.ref J) (tupleKeyHash knd c) true f (some (t.stepN (m+1) p))) Q E s:=fun b=>by
     refine ih (n-(m+1)) (by lia) f (t.stepN (m+1) p) _ (by lia) (by lia) (by rw [SetTable.stepN_dummy];exact hp) ?_ rfl fun j' _ _=>h j' (fun z=>absurd z (by lia)) fun l=>b ?_
     .rw [<- SetTable.stepN_add,show m+1+(n-(m+1))=n by lia];exact he
     .obtain⟨i',a',C,u,Y⟩:=l;rw [BD r C (I u)] at D;injection D with D;injection D with _ L _;subst L;rw [v] at u;injection u with u;injection u with _ N;injection N with N;subst N;exact IsTupleKey.inj H Y
    dsimp only;rw [v];split
    .refine wpAny_bind (CZ hx stored ?_);rw [if_neg (by decide)];dsimp only;refine wpAny_bind (wpAny_holding (wpAny_eqBool_tuple hu H hx ?_));refine wpAny_bind (wpAny_setState_of ho R V ?_);dsimp only;by_cases b:k=c
     .rw [if_pos (by simp [b])];exact wpAny_pure (ht (b ▸ P))
     rw [decide_eq_false b,if_neg (by decide),sm];dsimp only;rw [if_pos rfl,q2];dsimp only;rw [v];dsimp only;refine wpAny_bind (wpAny_isSame_ref_self ?_);refine wpAny_bind (wpAny_pure ?_);rw [if_pos rfl];dsimp only;rw [if_neg (by decide)];exact g b
    .dsimp only;refine wpAny_bind (wpAny_holding (wpAny_eqBool_tuple hu H hx ?_));refine wpAny_bind (wpAny_setState_of ho R V ?_);dsimp only;by_cases b:k=c
     .rw [if_pos (by simp [b])];exact wpAny_pure (ht (b ▸ P))
     rw [decide_eq_false b,if_neg (by decide),sm];dsimp only;rw [if_pos rfl,q2];dsimp only;rw [v];dsimp only;refine wpAny_bind (wpAny_isSame_ref_self ?_);refine wpAny_bind (wpAny_pure ?_);rw [if_pos rfl];dsimp only;rw [if_neg (by decide)];exact g b
theorem wx {n:List K}{a:Addr}{Q:Bool->Shared->Prop} (k:IsTupleKey knd s.heap n a) (h:∀b,Q b s):wpAny (model G w) A (hashByValue 8 (.ref a)) Q E s:=by
 unfold hashByValue;apply wpAny_bind;refine wpAny_specialOf k.typeIs F.slot_tuple_hash.lookup ?_;obtain⟨o,d,m,f,-,c,t⟩:=k;apply wpAny_bind;refine wpAny_seqItems f c (wpAny_bind ?_);refine pO (a:=d) (p:=fun v=>carriedByValue v=true) (J:=fun _=>True) t.byValue trivial (fun v r x _=>?_) fun r _=>?_
 .obtain⟨b,e⟩:∃b,hashByValue 7 v=pure b:=by cases v <;> first | exact⟨_,rfl⟩ | cases x
  rw [e];apply wpAny_bind;apply wpAny_pure;cases b
  .exact wpAny_pure ⟨rfl,wpAny_pure (h _)⟩
  .exact wpAny_pure ⟨rfl,trivial⟩
 .obtain⟨q,u⟩:=r;cases q <;> exact wpAny_pure (h _)
theorem o3 (s:Array k) (p:Nat) (x:k):(SetTable.insertAt s p x).size=s.size+1:=by have:=(qA s p x).length_eq;simpa using this
theorem tW (k:IsTupleKey knd b c a) (s:Heap.SameBut S b m) (h:a≠S):IsTupleKey knd m c a:=by obtain⟨o,i,n,x,r⟩:=k;exact⟨o,i,n,(s.2 a h).trans x,r⟩
theorem pa (k:IsTupleKey knd b c a) (s:b.get? S=some o) (e:o.cls=.type "set"):a≠S:=by rintro rfl;obtain⟨f,i,n,x,h,_⟩:=k;rw [s] at x;cases x;rw [e] at h;exact absurd h (by decide)
theorem xz {h:Heap} (s:Array (Int×Value)) (x:SetTable) (a:h.get? S=some o) (d:o.data=.set M b t):(h.update S (Obj.putSet s x)).get? S=some { o with data:=.set s (b+1) x }:=by have e:=putSet_of s x d;exact e ▸ Heap.get?_update_self (Obj.putSet s x) a (by rw [e];rfl)
theorem d7.stored (x:b.get? S=some o) (hex:o.ExactSet) (d:o.data=.set M l t)
  (h:∀e ∈ m.toList,∃k a,k ∈ z/\e=(tupleKeyHash knd k,Value.ref a)/\IsTupleKey knd b k a) (s:m.size=c) (n:r.place.size=m.size) (f:r.dummies=#[]) (p:(r.mask=7/\m.size≤4)\/(r.mask=31/\m.size≤18)) (v:m.size=1->∀e ∈ m.toList,r.slot (r.probeStart e.1).j=.live 0) :
  d7 knd (b.update S (Obj.putSet m r)) S z c:=by
 have g:=xz m r x d;refine⟨_,m,l+1,r,g,hex,rfl,fun e w=>?_,s,n,f,p,v⟩;obtain⟨k,a,u,i,q⟩:=h e w;exact⟨k,a,u,i,tW q (qf b S _) (pa q x hex.1)⟩
theorem wa {k:Type}{M:Array k}{o:Array Nat} (p:List.Perm o.toList (List.range M.size)):List.Perm (o.filterMap (M[·]?)).toList M.toList:=by rw [Array.toList_filterMap];refine (p.filterMap _).trans ?_;rw [filterMap_getElem?_range]
theorem uV {S u:Addr}{v:List K}{T:List (List K)}{c:Nat}{o:Obj}{M:Array (Int×Value)}{ep p:Nat}{t n:SetTable} (P:s.heap.get? S=some o) (hex:o.ExactSet) (I:o.data=.set M ep t)
  (J:∀e ∈ M.toList,∃k a,k ∈ T/\e=(tupleKeyHash knd k,Value.ref a)/\IsTupleKey knd s.heap k a) (h0:M.size=c) (h3:(t.mask=7/\M.size≤4)\/(t.mask=31/\M.size≤18)) (hl:c≤17)
  (hx:IsTupleKey knd s.heap v u) (B:n.mask=t.mask) (V:n.place.size=M.size+1) (Y:n.dummies=#[]) (U:M.size=0->n.slot (n.probeStart (tupleKeyHash knd v)).j=.live 0) {Q:Bool->Shared->Prop}
  (h:∀D,Heap.SameBut S s.heap D->d7 knd D S (T++[v]) (c+1)->Q true { s with heap:=D }) :
  wpAny (model G w) A (do
   storeSet S (SetTable.insertAt M p (tupleKeyHash knd v,Value.ref u)) n
   if (!false && n.tooFull)=true then do
    setRelay S (SetTable.grown (M.size+1))
    pure true
   else pure true) Q E s:=by
 have q:=o3 M p (tupleKeyHash knd v,Value.ref u);have l:∀e ∈ (SetTable.insertAt M p (tupleKeyHash knd v,Value.ref u)).toList,∃k a,k ∈ T++[v]/\e=(tupleKeyHash knd k,Value.ref a)/\IsTupleKey knd s.heap k a:=fun e j=>by
  have d:=(qA M p (tupleKeyHash knd v,Value.ref u)).mem_iff.mp j;rw [Array.toList_push] at d;rcases bi.mp d with R | R
  .obtain⟨k,a,W,X,C⟩:=J e R;exact⟨k,a,dv _ W,X,C⟩
  .cases bP.mp R;exact⟨v,u,by simp,rfl,hx⟩
 have F:M.size=0->∀e ∈ (SetTable.insertAt M p (tupleKeyHash knd v,Value.ref u)).toList,e.1=tupleKeyHash knd v:=fun z e j=>by have d:=(qA M p (tupleKeyHash knd v,Value.ref u)).mem_iff.mp j;rw [Array.toList_push,ve z] at d;rw [bP.mp d]
 generalize SetTable.insertAt M p (tupleKeyHash knd v,Value.ref u)=x at *
 have H:x.size=c+1:=by rw [q,h0]
 have i:n.fill=x.size:=by show n.place.size+n.dummies.size=_;rw [V,Y,q];rfl
 have line:32≤sizeLine:=by rw [sizeLine_eq];decide
 refine wpAny_bind (wpAny_storeSet_of P I ?_ (by rw [q];lia));have vS:=qf s.heap S (Obj.putSet x n);by_cases f:n.tooFull=true
 .rw [if_pos (by rw [f];rfl)];have g:t.mask=7/\x.size=5:=by
   unfold SetTable.tooFull at f;rw [i,B] at f;have L:=bq f;rcases h3 with ⟨a,b⟩ | ⟨a,b⟩ <;> rw [a] at L
   .exact⟨a,by lia⟩
   .lia
  have y:=xz x n P I;have N:n.fits x.size=true:=by unfold SetTable.fits;rw [V,<- q,i,B,g.1,g.2];decide
  have O:SetTable.grown (M.size+1)=20:=by rw [<- q,g.2];decide
  obtain⟨t3,r,e1,e2,e3,Z,e5⟩:=SetTable.relaid_ok n (x.map (·.1)) 20 (by decide) (by rw [Array.size_map,g.2];decide);rw [Array.size_map] at Z e5;have hp:=wa e5;have m:(r.filterMap (x[·]?)).size=x.size:=by rw [<- gG,hp.length_eq,gG]
  rw [O];apply wpAny_bind;unfold setRelay;refine wpAny_bind (wpAny_setState_of (s:={ s with heap:=s.heap.update S (Obj.putSet x n) }) y rfl N ?_);dsimp only;rw [if_neg (by rw [show SetTable.sizeAbove 20=32 by decide];lia),e1];apply wpAny_bind;show wpAny _ _ (do
   if ((r.filterMap (x[·]?)).size != x.size)=true then unsupported "internal:set-table-lost-an-element"
   pure (r.filterMap (x[·]?),t3)) _ _ _
  rw [if_neg (by rw [m];simp)];refine wpAny_pure ?_;refine wpAny_storeSet_of (s:={ s with heap:=s.heap.update S (Obj.putSet x n) }) y rfl ?_ (by rw [m,g.2];lia);refine wpAny_pure (h _ (vS.trans (qf _ S _)) (d7.stored (o:={ o with data:=.set x (ep+1) n }) y hex rfl (fun e j=>?_) (by rw [m];exact H) (by rw [Z,m]) e3 (.inr ⟨e2,by rw [m,g.2];decide⟩) fun z=>absurd z (by rw [m,g.2];decide)));obtain⟨k,a,W,X,C⟩:=l e (hp.mem_iff.mp j);exact⟨k,a,W,X,tW C vS (pa C P hex.1)⟩
 .rw [if_neg (by simpa using f)];refine wpAny_pure (h _ vS (d7.stored P hex I l H (by rw [V,q]) Y ?_ fun z e j=>?_));rotate_left
  .rw [F (by lia) e j];exact U (by lia)
  unfold SetTable.tooFull at f;rw [i,B] at f;have L:¬x.size * 5 ≥ t.mask * 3:=fun z=>f (dH z)
  rw [B];rcases h3 with ⟨a,b⟩ | ⟨a,b⟩ <;> rw [a] at L ⊢
  .exact .inl ⟨rfl,by lia⟩
  .exact .inr ⟨rfl,by lia⟩
theorem Eh {S C:Addr}{f:List K}{d:List (List K)}{c:Nat} (Y:A.units < cLine) (hS:d7 knd s.heap S d c) (B:IsTupleKey knd s.heap f C) (X:c≤17) {Q:Bool->Shared->Prop}
  (h:∀m U,Heap.SameBut S s.heap m->d7 knd m S (d++[f]) (c+1)->¬(c=1/\d=[f])->Q true { s with heap:=m,toks:=U }) (ht:∀U,f ∈ d->d7 knd s.heap S (d++[f]) c->Q false { s with toks:=U }):wpAny (model G w) A (setAdd S (.ref C)) Q E s:=by
 unfold setAdd;refine wpAny_holding (wpAny_bind (wpAny_pyHash_tuple Y B ?_));generalize s.toks+(f.length+1)=x;obtain⟨o,M,ep,t,g,hex,u,l,J,D,F,p,V⟩:=hS;have W:=d7.fits D F p;unfold setAddHashed;refine wpAny_holding ?_;unfold setAddHashedIn;refine wpAny_bind (wpAny_setState_of (s:={ s with toks:=x }) g u W ?_);dsimp only;rw [if_neg (show ¬byScan (.ref C) M=true from fun z=>by simp [byScan,Value.scannable] at z)];obtain⟨n,v,N⟩:=SetTable.empty_met (t:=t) (by rcases p with ⟨a,_⟩ | ⟨a,_⟩ <;> simp [a]) F (by rcases p with ⟨a,b⟩ | ⟨a,b⟩ <;> lia) (tupleKeyHash knd f);have P:n < 100000:=by unfold SetTable.turns at v;rcases p with ⟨a,_⟩ | ⟨a,_⟩ <;> rw [a] at v <;> lia
 unfold setSearch;refine wpAny_bind (vR (s:={ s with toks:=x }) Y g u l D F p B (fun hm=>wpAny_pure (ht x hm ⟨o,M,ep,t,g,hex,u,fun e he=>?_,J,D,F,p,V⟩)) n 100000 _ none P v rfl N rfl fun j L O=>?_)
 .obtain⟨k,a,i,y,T⟩:=l e he;exact⟨k,a,dv _ i,y,T⟩
 have q:¬(c=1/\d=[f]):=fun z=>by
  obtain⟨z1,z2⟩:=z;have hs:0 < M.size:=by lia
  obtain⟨k,a,i,y,T⟩:=l M[0] (by simp);rw [z2] at i;cases bP.mp i;refine O ⟨0,a,?_,by rw [u9 hs,y],T⟩;have:=V (by lia) M[0] (by simp)
  rw [y] at this;exact this
 have first:∀R,M.size=0->({ (t.put j).1 with plain:=R }:SetTable).slot (({ (t.put j).1 with plain:=R }:SetTable).probeStart (tupleKeyHash knd f)).j=.live 0:=fun R z=>by have I:=L z;have e2:t.place=#[]:=ve (by lia);show SetTable.slot _ (t.probeStart (tupleKeyHash knd f)).j=_;have I:j=(t.probeStart (tupleKeyHash knd f)).j:=I;rw [<- I];simp [SetTable.slot,SetTable.put,e2,SetTable.insertAt,SetTable.below,SetTable.below.go]
 dsimp only;refine wpAny_bind (wpAny_setState_of (s:={ s with toks:=x }) g u W ?_);dsimp only;have Z:(t.put j).1.mask=t.mask:=rfl;have pp:(t.put j).1.place.size=M.size+1:=by show (SetTable.insertAt t.place _ j).size=_;rw [o3,D]
 have pd:(t.put j).1.dummies=#[]:=by show (if SetTable.has t.dummies j=true then _ else t.dummies)=#[];rw [F,if_neg (by simp [SetTable.has])]
 have H:∀(b:Bool) (m:Heap),Heap.SameBut S s.heap m->d7 knd m S (d++[f]) (c+1)->Q true { s with heap:=m,toks:=x }:=fun _ m i y=>h m x i y q;have r:∀b:Bool,wpAny (model G w) A (do
   storeSet S (SetTable.insertAt M (t.put j).2 (tupleKeyHash knd f,Value.ref C)) (if b=true then (t.put j).1 else { (t.put j).1 with plain:=false })
   if (!false && (if b=true then (t.put j).1 else { (t.put j).1 with plain:=false }).tooFull)=true then do
    setRelay S (SetTable.grown (M.size+1))
    pure true
   else pure true) Q E { s with toks:=x }:=fun b=>by
  cases b
  .exact uV (s:={ s with toks:=x }) (n:={ (t.put j).1 with plain:=false }) g hex u l J p X B Z pp pd (first false) (H false)
  .exact uV (s:={ s with toks:=x }) (n:=(t.put j).1) g hex u l J p X B Z pp pd (first (t.put j).1.plain) (H true)
 split
 .exact wpAny_bind (wx (s:={ s with toks:=x }) B fun b=>r b)
 .exact wpAny_bind (wpAny_pure (r true))
end
open PyProof.Rows
section
variable {G:Program}{w:World}{A:Around}{E:VP}{s:Shared}
noncomputable abbrev cy (led:Bool):Obj:={ cls:=.type "set",dict:=none,data:=.set #[] 0 (.fresh 0 0 led) }
theorem vN (v:∀led:Bool,wpAny (model G w) A.in1.in1 (Builtin.«set.__init__» ⟨[.ref s.heap.objs.size,b],[]⟩)
   (fun i a=>match i with
    | .done f=>wants (fun r h=>r=.none/\Q (.ref s.heap.objs.size) h) E (.ok f) a
    | .again m=>m.quiet=true/\codeAny (model G w) A.in1 m (wants (fun r h=>r=.none/\Q (.ref s.heap.objs.size) h) E) a)
   (fun e a=>wants (fun r h=>r=.none/\Q (.ref s.heap.objs.size) h) E (.error e) a)
   { s with heap:=s.heap.push (cy led) }) :
  wpAny (model G w) A (call (.type "set") [b]) Q E s:=by
 have u:=hV.mro;obtain⟨c,D,j⟩:=u;have y:=hV.made;have H:=hV.sub;have S:=hV.notType;have K:=hV.canCreate;have P:=F.typeCall_set_1 b;have B:=hV.init.lookup;apply wpAny_call;apply codeAny_of_tree;show wpAny _ _ (callAny (.type "set") _) _ _ _;apply wpAny_pure;refine⟨Code.quiet_builtin _ (by decide +kernel),codeAny_builtin F.entry_type_call ?_⟩;rw [Around.under_plain (weight_type_call_type "set" [b] []) rfl];repeat any_goals first | assumption | wp_step
 have k:=code_set_new_1 (prog:=G) (w:=w) (A:=A.in1) (s:=s) b (E:=E) (Q₁:=fun o z=>∃led:Bool,o=.ref s.heap.objs.size/\z={ s with heap:=s.heap.push (cy led) }) fun led=>⟨led,rfl,rfl⟩;refine jh k fun r z n=>?_;rcases r with e | q
 .exact n
 .cases q with
  | ret o=>
   obtain⟨led,t,p⟩:=n;subst t p;have T:Shared.TypeIs { s with heap:=s.heap.push (cy led) } (.ref s.heap.objs.size) "set":=⟨cy led,Heap.get?_push_size _ rfl,rfl⟩;have C:=hV.init.bind (.ref s.heap.objs.size);repeat any_goals first | assumption | wp_step
   refine jh (qv hV.init.plain F.entry_set_init (check_set_init_1 T (v led))) fun g I x=>?_;rcases g with e | l
   .exact x
   .cases l with
    | ret r=>obtain⟨e,d⟩:=x;subst e;repeat any_goals first | assumption | wp_step
    | _=>exact x.elim
  | _=>exact n.elim
end
section
variable {G:Program}{w:World}{A:Around}{E:VP}{R:Result->Shared->Prop}{k:Type}
theorem sN (h:wpAny (model G w) A.in1 (Builtin.«set.update.loop» c) (fun i x=>match i with
   | .done f=>R (.ok f) x
   | .again b=>b.quiet=true/\codeAny (model G w) A b R x) (fun e x=>R (.error e) x) s):codeAny (model G w) A (.builtin "set.update.loop" c) R s:=
 codeAny_builtin F.entry_set_update_loop (by rw [Around.under_plainId F.plain_set_update_loop c];exact h)
theorem AD (hh:A.handled=none) {a:Heap}{S d l:Addr}{t:Array Value} (u:a.get? S=none) (m:a.get? d=none) (M:S≠d) (hl:a.IsList l t) {Is:k->Value->Prop}{H:Heap->List k->Prop}{N:Nat}
  (hex:∀{h f:Heap}{j:List k},(∀o,h.get? d=some o->o.cls=.type "list_iterator")->H h j->Heap.ExtBut d h f->H f j)
  (I:∀(s:Shared) (j:List k) (x:k) (v:Value) (Q:Bool->Shared->Prop) (E:VP),(∀b o,a.get? b=some o->s.heap.get? b=some o)->H s.heap j->Is x v->j.length < N ->
   (∀b f tk,Heap.SameBut S s.heap f->H f (j++[x])->Q b { s with heap:=f,toks:=tk })->wpAny (model G w) A.in1 (setAdd S v) Q E s) :
  ∀(bx:List k) (i:Nat) (n:List k) (s:Shared),(∀b o,a.get? b=some o->s.heap.get? b=some o)->s.heap.IsListIter d l i->H s.heap n->Paired Is bx (t.toList.drop i)->(n++bx).length≤N->i+bx.length=t.size ->
   (∀f t',(∀b o,a.get? b=some o->f.get? b=some o)->H f (n++bx)->R (.ok (.ret .none)) { s with heap:=f,toks:=t' }) ->
   codeAny (model G w) A (.builtin "set.update.loop" ⟨[.ref S,.ref d],[]⟩) R s:=by
 have cl:∀{h:Heap}{i:Nat},h.IsListIter d l i->∀o,h.get? d=some o->o.cls=.type "list_iterator":=fun q o e=>by obtain⟨o',e',c,_⟩:=q;rw [e] at e';cases e';exact c
 intro bx;induction bx with
 | nil=>
  intro i n s P p V T D O h;have y:t[i]? = none:=by simp at O ⊢;lia
  have g:s.heap.IsList l t:=by obtain⟨o,K,r⟩:=hl;exact⟨o,P _ _ K,r⟩
  refine sN (wpAny_bind (wpAny_pyNext_list_end hh p g y fun f eb=>?_));rw [gE] at h;apply wpAny_pure;exact h f s.toks (fun b o e=>eb b o (fun z=>by rw [z,m] at e;cases e) (P b o e)) (hex (cl p) V eb)
 | cons x bx ih=>
  intro i n s P p V T D O h;have g:s.heap.IsList l t:=by obtain⟨o,K,r⟩:=hl;exact⟨o,P _ _ K,r⟩
  generalize er:t.toList.drop i=us at T;cases T with
  | cons hx U=>
   rename_i v us';have hv:t[i]? = some v:=by have:=congrArg (·[0]?) er;simpa using this
   have J:t.toList.drop (i+1)=us':=by rw [<- List.drop_drop,er];rfl
   refine sN (wpAny_bind (wpAny_pyNext_list_item p g hv fun h1 X vS=>?_));have B:∀b o,a.get? b=some o->h1.get? b=some o:=fun b o e=>(vS.2 b (fun z=>by rw [z,m] at e;cases e)).trans (P b o e);show wpAny _ A.in1 (holding [v] (setAdd S v) >>= _) _ _ _;apply wpAny_bind;apply wpAny_holding;refine I { s with heap:=h1 } n x v _ _ B (hex (cl p) V fun b o hb e=>(vS.2 b hb).trans e) hx (by simp at D;lia) fun b2 L tk C W=>?_;refine wpAny_pure ⟨plainId_quiet F.plain_set_update_loop _,?_⟩;have Z:∀b o,a.get? b=some o->L.get? b=some o:=fun b o e=>(C.2 b (fun z=>by rw [z,u] at e;cases e)).trans (B b o e);have Y:L.IsListIter d l (i+1):=by obtain⟨o,K,r⟩:=X;exact⟨o,(C.2 d (bS M)).trans K,r⟩
   have e1:n++x::bx=(n++[x])++bx:=by simp
   rw [e1] at D h;exact ih (i+1) (n++[x]) { s with heap:=L,toks:=tk } Z Y W (J ▸ U) D (by simp at O;lia) fun f t' k1 k2=>h f t' k1 k2
end
section
variable {G:Program}{w:World}{A:Around}{E:VP}{s:Shared}{k:Type}
theorem AC {l:Addr}{i:Array Value}{n:Nat}{u:List k}{Q:VP} (U:A.handled=none) (D:s.heap.get? l=some { cls:=.type "list",data:=.seq i n }) {I:k->Value->Prop}{H:Heap->List k->Prop}{N:Nat}
  (R:∀(h:Heap) (led:Bool),h.get? s.heap.objs.size=some (cy led)->H h [])
  (y:∀{K:Addr}{h c:Heap}{m:List k},K≠s.heap.objs.size->(∀o,h.get? K=some o->o.cls=.type "list_iterator")->H h m->Heap.ExtBut K h c->H c m)
  (j:∀(z:Shared) (m:List k) (x:k) (v:Value) (Q:Bool->Shared->Prop) (E:VP),(∀b o,s.heap.get? b=some o->z.heap.get? b=some o)->H z.heap m->I x v->m.length < N ->
   (∀b c tk,Heap.SameBut s.heap.objs.size z.heap c->H c (m++[x])->Q b { z with heap:=c,toks:=tk })->wpAny (model G w) A.in1.in1.in1 (setAdd s.heap.objs.size v) Q E z)
  (L:Paired I u i.toList) (V:u.length≤N)
  (h:∀c P,(∀b o,s.heap.get? b=some o->c.get? b=some o)->H c u->Q (.ref s.heap.objs.size) { s with heap:=c,toks:=P }):wpAny (model G w) A (call (.type "set") [.ref l]) Q E s:=by
 refine vN fun led=>?_;have C:(s.heap.push (cy led)).get? s.heap.objs.size=some (cy led):=Heap.get?_push_size _ rfl;have r:=Heap.size_push s.heap (cy led);have d:∀b o,s.heap.get? b=some o->(s.heap.push (cy led)).get? b=some o:=fun b o e=>Heap.get?_push_of_some _ e;have hT:Shared.TypeIs { s with heap:=s.heap.push (cy led) } (.ref s.heap.objs.size) "set":=⟨_,C,rfl⟩;have S:=d _ _ D;obtain⟨Y,Z,no3⟩:isSubtype (.type "list") (.type "set")=pure false/\isSubtype (.type "list") (.type "frozenset")=pure false/\(Value.type "list" == Value.type "dict")=false:=⟨F.sub_list_set,F.sub_list_frozenset,by decide⟩;obtain⟨g,B⟩:∃f,f=pyIter:=⟨_,rfl⟩;unfold Builtin.«set.__init__» Builtin.Frozenset.updateFrom noKeywords;rw [<- B]
 wp_walk
 rw [B];refine wpAny_pyIter_list (l:=l) (items:=i) ⟨_,S,rfl,n,rfl⟩ ?_;refine wpAny_bind (wpAny_runValue ?_);have t:∀a,s.heap.objs.size≤a->s.heap.get? a=none:=fun a T=>Option.eq_none_iff_forall_ne_some.mpr fun o q=>absurd (aV q) (kv.mpr T);have M:=t _ (Nat.le_refl _);have O:=t (s.heap.push (cy led)).objs.size (by rw [r];lia);have p:s.heap.objs.size≠(s.heap.push (cy led)).objs.size:=by rw [r];exact bM (ky _)
 have J:u.length=i.size:=by have:=Paired.length L;simpa using this
 refine AD (A:=A.in1.in1) (a:=s.heap) (t:=i) (l:=l) (Is:=I) (H:=H) (N:=N) (by simpa using U) M O p ⟨_,D,rfl,n,rfl⟩ (fun W X sb=>y (bS p) W X sb) j u 0 [] { s with heap:=(s.heap.push (cy led)).push { cls:=.type "list_iterator",data:=.fields #[.ref l,.int 0 0] } }
  (fun b o e=>Heap.get?_push_of_some _ (d b o e)) ⟨_,Heap.get?_push_size _ rfl,rfl,rfl⟩ (R _ led (Heap.get?_push_of_some _ C)) (by simpa using L) (by simpa using V) (by lia) fun c P q1 q2=>?_
 repeat any_goals first | assumption | wp_step
 exact⟨rfl,h c P q1 q2⟩
end
section
variable {G:Program}{w:World}{A:Around}{E:VP}{s:Shared}{K:Type} [DecidableEq K] {knd:KeyKind G w K}
noncomputable def gW (a:Addr) (n:Nat):Heap->Prop:=fun h=>∃o M e t,h.get? a=some o/\o.ExactSet/\o.data=.set M e t/\t.fits M.size=true/\M.size=n
noncomputable def Ck:List K->Nat
 | []=>0
 | x::r=>Ck r+if x ∈ r then 0 else 1
noncomputable def dn (k:List K):Nat:=Ck k.reverse
theorem DV (k:List K) (x:K):dn (k++[x])=dn k+if x ∈ k then 0 else 1:=by unfold dn;rw [List.reverse_append,List.reverse_singleton,List.singleton_append];show Ck k.reverse+(if x ∈ k.reverse then 0 else 1)=_;simp only [ms]
theorem BO:∀k:List K,Ck k≤k.length
 | []=>Nat.le_refl _
 | x::r=>by have:=BO r;show Ck r+(if x ∈ r then 0 else 1)≤r.length+1;split <;> lia
theorem EK (k:List K):dn k≤k.length:=by have:=BO k.reverse;rwa [List.length_reverse] at this
theorem set_plain {l:Addr}{i:Array Value}{n:Nat}{H:List K}{Q:VP} (B:A.handled=none) (C:s.heap.get? l=some { cls:=.type "list",data:=.seq i n })
  (I:Paired (fun (x:K) (v:Value)=>knd.is x v=true/\v.scannable=true) H i.toList) (J:H.length≤4000)
  (h:∀a y,(∀b o,s.heap.get? b=some o->a.get? b=some o)->gW s.heap.objs.size (dn H) a->Q (.ref s.heap.objs.size) { s with heap:=a,toks:=y }):wpAny (model G w) A (call (.type "set") [.ref l]) Q E s:=by
 refine AC (H:=fun h f=>h.SetOf knd s.heap.objs.size (fun k=>decide (k ∈ f)) (dn f)) (N:=4000) B C (fun h led e=>?_) (fun c U d F=>?_) (fun z f x v Q E X d j V q=>?_) I J fun a y L O=>?_
 .exact SetOf_congr ((setObjOf_fresh (knd:=knd) led).setOf e (by unfold scanBound;lia)) (fun _=>by simp) rfl
 .obtain⟨o,M,p,t,m,r⟩:=d;exact⟨o,M,p,t,F _ o (bS c) m,r⟩
 .unfold setAdd;apply wpAny_holding;refine wpAny_bind (knd.pyHash j.1 ?_);have S:=EK f;refine wpAny_setAddHashed_of (s:={ z with toks:=z.toks+1 }) j.1 j.2 d (by unfold scanBound;lia) fun a R u=>?_
  refine q _ a (z.toks+1) R (SetOf_congr u (fun W=>?_) ?_)
  .simp [bi,Bool.decide_or]
  .rw [DV];by_cases D:x ∈ f <;> simp [D]
 .obtain⟨o,M,p,t,m,hex,S,_,_,T,P,g⟩:=O;exact h a y L ⟨o,M,p,t,m,hex,S,P,g⟩
noncomputable def vq [DecidableEq k]:List k->Bool
 | x::y::_=>decide (x=y)
 | _=>false
noncomputable def G9 (knd:KeyKind G w K) (h:Heap) (S:Addr) (k:List (List K)):Prop:=
 ∃c,d7 knd h S k c/\c≤k.length/\(k.Nodup->c=k.length)/\(vq k=true->c < k.length)
theorem yC [DecidableEq k] (x:k) (h:vq (b++[x])=true):vq b=true\/b=[x]:=by
 match b,h with
 | [],h=>cases h
 | [y],h=>exact .inr (by rw [bq h])
 | _::_::_,h=>exact .inl h
theorem vM (hh:A.handled=none) (hu:A.in1.in1.in1.units < cLine) (hl:s.heap.get? l=some { cls:=.type "list",data:=.seq I n })
  (hp:Paired (fun (x:List K) (v:Value)=>∃a,v=.ref a/\IsTupleKey knd s.heap x a) L I.toList) (hz:L.length≤18)
  (h:∀f U c,(∀b o,s.heap.get? b=some o->f.get? b=some o)->gW s.heap.objs.size c f->c≤L.length->(L.Nodup->c=L.length)->(vq L=true->c < L.length)->Q (.ref s.heap.objs.size) { s with heap:=f,toks:=U }):wpAny (model G w) A (call (.type "set") [.ref l]) Q E s:=by
 refine AC (H:=fun h d=>G9 knd h s.heap.objs.size d) (N:=18) hh hl (fun h led e=>?_) (fun p hc B i=>?_) (fun z d x v Q E kp B D hk q=>?_) hp hz fun f U O R=>?_
 .exact⟨0,⟨_,_,_,_,e,⟨rfl,rfl,rfl⟩,rfl,fun e i=>by simp at i,rfl,rfl,rfl,.inl ⟨rfl,by simp⟩,fun z=>by simp at z⟩,Nat.le_refl _,fun _=>rfl,fun z=>by cases z⟩
 .obtain⟨c,⟨o,M,y,t,P,hex,H,F,r⟩,r2⟩:=B;refine⟨c,⟨o,M,y,t,i _ o (bS p) P,hex,H,fun e D=>?_,r⟩,r2⟩;obtain⟨k,a,O,R,u,J,m,T,Y,q5⟩:=F e D;refine⟨k,a,O,R,u,J,m,i a u (fun z=>?_) T,Y,q5⟩;rw [z] at T;have:=hc u T
  rw [Y] at this;exact absurd this (by decide)
 .obtain⟨a,rfl,u,J,m,Z,r⟩:=D;obtain⟨c,hS,X,g,j⟩:=B;have part:(d++[x]).Nodup->d.Nodup/\x ∉ d:=fun z=>by
   obtain⟨W,_,z2⟩:=jq.mp z;exact⟨W,fun zm=>z2 x zm x (by simp) rfl⟩
  refine Eh hu hS ⟨u,J,m,kp _ _ Z,r⟩ (by lia) (fun f V sb S p=>q true f V sb ⟨c+1,S,by simp;lia,fun z=>?_,fun z=>?_⟩) fun V hm S=>q false z.heap V (Heap.SameBut.refl _ _) ⟨c,S,by simp;lia,fun z=>absurd hm (part z).2,fun z=>?_⟩
  .rw [bN,g (part z).1];rfl
  .rcases yC x z with z | z
   .have:=j z;simp;lia
   .subst z;have:c≠1:=fun W=>p ⟨W,rfl⟩
    have:=g (by simp);exact absurd this ‹c≠1›
  .simp;lia
 .obtain⟨c,⟨o,M,y,t,P,hex,H,_,C,h1,h2,h3,_⟩,X,g,j⟩:=R;exact h f U c O ⟨o,M,y,t,P,hex,H,d7.fits h1 h2 h3,C⟩ X g j
end
end PySem
namespace Ev
open PySem PySem.Spec PyProof.Rows L2
noncomputable def ef:List P->Option (List cS)
 | []=>some []
 | x::r=>(fU x).bind fun k=>(ef r).map (k::·)
noncomputable def tupK:P->Option (List cS)
 | .tup y=>ef y
 | _=>none
noncomputable def fB:List P->Option (List (List cS))
 | []=>some []
 | x::r=>(tupK x).bind fun k=>(fB r).map (k::·)
noncomputable def kL (x:List P):Option Nat:=match ef x with
 | some k=>if k.length≤4000 then some (dn k) else none
 | none=>match fB x with
  | some k=>if (k.Nodup/\k.length≤18) then some k.length else none
  | none=>none
noncomputable def mV (x:List P):Bool:=match ef x with
 | some k=>decide (k.length≤4000)
 | none=>match fB x with
  | some k=>decide (k.length≤18)
  | none=>false
noncomputable def lp (x:List P) (c:Nat):Prop:=match ef x with
 | some k=>c=dn k
 | none=>match fB x with
  | some k=>c≤k.length/\(k.Nodup->c=k.length)/\(vq k=true->c < k.length)
  | none=>False
theorem xw (h:kL b=some n):mV b=true/\∀c,lp b c->c=n:=by
 unfold kL at h;unfold mV lp;cases e:ef b with
 | some k=>
  rw [e] at h;dsimp only at h ⊢;split at h
  .rename_i l;cases h;exact⟨dH l,fun c x=>x⟩
  .cases h
 | none=>
  rw [e] at h;dsimp only at h ⊢;cases a:fB b with
  | none=>rw [a] at h;cases h
  | some k=>
   rw [a] at h;dsimp only at h ⊢;split at h
   .rename_i l;cases h;exact⟨dH l.2,fun c x=>x.2.1 l.1⟩
   .cases h
noncomputable def ik (x:List P) (m:Int):Option Bool:=match kL x with
 | some n=>some (decide ((n:Int)=m))
 | none=>match ef x,fB x with
  | none,some k=>if (decide (k.length≤18) && vq k && decide ((k.length:Int)≤m))=true then some false else none
  | _,_=>none
theorem AG {m:Int} (h:ik r m=some b):mV r=true/\∀c:Nat,lp r c->b=decide ((c:Int)=m):=by
 unfold ik at h;cases f:kL r with
 | some n=>rw [f] at h;cases h;obtain⟨a,k⟩:=xw f;exact⟨a,fun c x=>by rw [k c x]⟩
 | none=>
  rw [f] at h;dsimp only at h;cases s:ef r with
  | some t=>rw [s] at h;cases e:fB r <;> rw [e] at h <;> cases h
  | none=>
   cases e:fB r with
   | none=>rw [s,e] at h;cases h
   | some t=>
    rw [s,e] at h;dsimp only at h;split at h
    .rename_i x;cases h;simp only [Bool.and_eq_true,decide_eq_true_eq] at x;unfold mV lp;rw [s,e];refine⟨dH x.1.1,fun c q=>(decide_eq_false fun z=>?_).symm⟩;have:=q.2.2 x.1.2
     lia
    .cases h
noncomputable def jN (a:EV):EV:=fun L S=>ba (a L S) fun v h=>match v with
 | .lst x=>(kL x).map fun n=>(.int n,h)
 | _=>none
section
variable {X:Cx}
theorem DD (r:RelV (kV b) u):u.scannable=true:=by
 cases b with
 | inl i=>obtain⟨t,rfl⟩:=(show ∃t,u=Value.int i t from r);rfl
 | inr x=>obtain⟨t,rfl⟩:=(show ∃t,u=Value.str x t from r);rfl
theorem nw (_:Inv X O U H s):∀{f:List P}{n:List cS}{h:List V}{u:LV},bR X.K F H f h->aU h u->ef f=some n ->
  Paired (fun (x:cS) (v:Value)=>(bX X.prog X.w).is x v=true/\v.scannable=true) n u
 | [],n,h,u,r,v,e=>by cases e;cases (show h=[] from r);cases v;exact .nil
 | p::f,n,h,u,r,v,e=>by
  obtain⟨x,q,rfl,c,m⟩:=r;cases v with
  | cons v1 v2=>
   cases a:fU p with
   | none=>simp [ef,a] at e
   | some k=>
    cases b:ef f with
    | none=>simp [ef,a,b] at e
    | some t=>simp only [ef,a,b,hZ,pV,qt] at e;subst e;cases ir a c;exact .cons ⟨tZ v1,DD v1⟩ (nw ‹_› m v2 b)
theorem t5 {P:Program}{w:World}:∀{k:List cS}{u:LV},Paired (fun (x:cS) (v:Value)=>(bX P w).is x v=true/\v.scannable=true) k u->ItemsAre (bX P w) k u
 | _,_,.nil=>.nil
 | _,_,.cons h t=>.cons h.1 (t5 t)
theorem sO {O:PN}{s:Shared}{U:L2.St}{H:Hp}{F:Aa} (I:Inv X O U H s):∀{c:List P}{b:List (List cS)}{f:List V}{u:LV},bR X.K F H c f->aU f u->fB c=some b ->
  Paired (fun (x:List cS) (v:Value)=>∃a,v=.ref a/\IsTupleKey (bX X.prog X.w) s.heap x a) b u
 | [],b,f,u,r,v,e=>by cases e;cases (show f=[] from r);cases v;exact .nil
 | p::c,b,f,u,r,v,e=>by
  obtain⟨x,S,rfl,w,g⟩:=r;cases v with
  | cons v1 v2=>
   cases h:tupK p with
   | none=>simp [fB,h] at e
   | some k=>
    cases m:fB c with
    | none=>simp [fB,h,m] at e
    | some z=>
     simp only [fB,h,m,hZ,pV,qt] at e;subst e;refine .cons ?_ (sO I g v2 m);cases p with
     | tup K=>obtain⟨a,A,rfl,y,j⟩:=w;obtain⟨i,l,⟨o,q,t,n,d⟩,_⟩:=I.tuple y.sq;refine⟨a,v1,o,i.toArray,n,q,t,d,?_⟩;simpa using t5 (nw I j l h)
     | _=>cases h
theorem AF (h:gW a n b) (k:∀o,b.get? a=some o->c.get? a=some o):gW a n c:=by obtain⟨o,M,e,t,x,r⟩:=h;exact⟨o,M,e,t,k o x,r⟩
theorem D6 (y:X.calm=true) (Z:X.A.units+64 < cLine):bZ X (.type "set") (fun B H Q=>∃(F:Aa) (t:List P),bR X.K F H [.lst t] B/\mV t=true/\∀p c,H p=none->lp t c->c≤4000->Q (.ref p) (cF H p (.ext (gW p c)))):=by
 intro O s U H B us Q I r h;obtain⟨F,t,T,q,M⟩:=h;obtain⟨x,rfl,R⟩:=vT T;obtain⟨a,C,rfl,N,K⟩:=R;obtain⟨u,rfl,V⟩:=vals1 r;cases (show u=Value.ref a from V);obtain⟨zl,i,n,A,z⟩:C.length≤sizeLine/\∃(i:LV) (n:Nat),aU C i/\s.heap.get? a=some { cls:=.type "list",data:=.seq i.toArray n }:=I.hok a _ N.2;have f:∀k m v,lp t k->k≤4000->(∀b o,s.heap.get? b=some o->m.get? b=some o)->gW s.heap.objs.size k m->EP X O U Q (.ref s.heap.objs.size) { s with heap:=m,toks:=v }:=fun k m v J L w d=>
  ⟨.ref s.heap.objs.size,_,I.laid (a:=s.heap.objs.size) (o:=.ext (gW s.heap.objs.size k)) (t':=v) w (Nat.le_refl _) ⟨d,let ⟨o,_,_,_,e,_⟩:=d;⟨o,e⟩,fun W Y=>AF⟩,rfl,M _ k (I.hok.fresh (Nat.le_refl _)) J L⟩
 unfold mV at q;unfold lp at f;cases g:ef t with
 | some S=>rw [g] at q f;have l:=bq q;exact set_plain (knd:=bX X.prog X.w) (I.ok.hd y) z (by simpa using nw I K A g) l fun m v w d=>f _ m v rfl (bL (EK S) l) w d
 | none=>
  rw [g] at q f;cases j:fB t with
  | none=>rw [j] at q;cases q
  | some S=>rw [j] at q f;have l:=bq q;exact vM (knd:=bX X.prog X.w) (I.ok.hd y) (by simp only [Around.in1];lia) z (by simpa using sO I K A j) l fun m v c w d D E G=>f c m v ⟨D,E,G⟩ (by lia) w d
theorem wQ:bZ X (.builtin "len") (fun x H Q=>∃p k,x=[.ref p]/\H p=some (.ext (gW p k))/\k≤4000/\Q (.int k) H):=by intro O s U H x m Q I r h;obtain⟨p,k,rfl,e,c,q⟩:=h;obtain⟨u,rfl,n⟩:=vals1 r;cases (show u=Value.ref p from n);obtain⟨⟨o,M,b,t,a,hex,d,f,z⟩,_⟩:=I.hok p _ e;refine call_len_set a hex d f (by lia) ?_;rw [z];exact⟨.int k,H,I.tok _,⟨_,rfl⟩,q⟩
inductive tLenSetI (K:FG) (fa:EV) (σ:L2.St) (H:Hp) (Q:VK):Prop
 | mk (F:Aa) (m:List Addr) (L:Lc) (S:aR) (xs:List P) (S1:aR) (h0_:Rel K F H m S) (h1_:RL K F H m σ L) (h2_:fa L S=some (.lst xs,S1)) (h3_:mV xs=true) (h4_:∀c F' m' H',lp xs c->Stp F m H F' m' H'->Rel K F' H' m' S1->Q (.int (c:Nat)) H'):tLenSetI K fa σ H Q
noncomputable def xm (K:FG) (J:EV):TE:=fun U H Q=>tLenSetI K J U H Q
theorem kN (h:X.calm=true) (K:X.A.units+64 < cLine) (y:Gl X "len") (o:X.mg "len"=none) (g:Gl X "set") (e:X.mg "set"=none) (i:PE X a (tV X.K J)) (t:starEach [a] X.env=[(false,eval a X.env)]) :
  PE X (.Call (.Name "len" q) [.Call (.Name "set" p2) [a] [] T] [] I) (xm X.K J):=
 (gv wQ y o PySem.boot_len (cm (kO (D6 h K) g e PyProof.Rows.boot_set (cm i eu (by rw [t];rfl)) (by decide) (by decide) (by rw [t];rfl) rfl) eu rfl) (by decide) (by decide) rfl rfl).imp' fun U H Q z=>by obtain⟨F,m,L,S,p,d,r,l,w,P,k⟩:=z;refine⟨F,m,L,S,.lst p,d,r,l,w,fun v x A f C B q=>?_⟩;refine⟨x,p,⟨v,[],rfl,q,rfl⟩,P,fun n c s j u=>⟨n,c,rfl,a1,u,?_⟩⟩;have b:Grow x f x (cF f n (.ext (gW n c))):=bU s;exact k c _ A _ j (C.trans b.stp) (B.grow b)
theorem zU (h:X.calm=true) (y:X.A.units+64 < cLine) (u:Gl X "len") (i:X.mg "len"=none) (g:Gl X "set") (s:X.mg "set"=none) (v:PE X a (tV X.K J)) (j:starEach [a] X.env=[(false,eval a X.env)]) :
  PE X (.Call (.Name "len" p1) [.Call (.Name "set" p2) [a] [] T] [] I) (tV X.K (jN J)):=
 (kN h y u i g s v j).imp' fun U H Q z=>by
  obtain⟨F,m,L,S,d,C,r,l,q,k⟩:=z;obtain⟨x,D,p,q⟩:=ao q;cases x with
  | lst f=>
   dsimp only at q;cases e:kL f with
   | none=>rw [e] at q;cases q
   | some n=>rw [e] at q;cases q;obtain⟨o,K⟩:=xw e;exact⟨F,m,L,S,f,_,r,l,p,o,fun c b P t w B A=>k _ b P t B A (by rw [K c w];rfl)⟩
  | _=>cases q
noncomputable def ju (J f:EV):EV:=fun L S=>ba (J L S) fun v h=>match v with
 | .lst s=>ba (f L h) fun y x=>match y with
  | .int m=>(ik s m).map fun b=>(.bl b,x)
  | _=>none
 | _=>none
theorem oZ (h:tV X.K (ju J I) U H Q):Eo (rP X.K rZ) (xm X.K J) (tV X.K I) U H Q:=by
 obtain⟨F,m,L,S,d,R,r,l,q,k⟩:=h;obtain⟨x,e,j,q⟩:=ao q;cases x with
 | lst M=>
  dsimp only at q;obtain⟨y,T,z,q⟩:=ao q;cases y with
  | int a=>dsimp only at q;obtain⟨b,o,q⟩:=Option.map_eq_some_iff.mp q;cases q;obtain⟨P,A⟩:=AG o;refine⟨F,m,L,S,M,e,r,l,j,P,fun c f B N K n E=>?_⟩;refine⟨f,B,L,e,.int a,_,E,l.mono n,z,fun v t C O G s D=>?_⟩;refine⟨t,.int (c:Nat),.int a,.bl (decide ((c:Int)=a)),s.ft,rfl,D,rfl,fun u w i g p=>?_⟩;refine k u w C i (n.trans (G.trans g.stp)) (s.grow g) ?_;rw [A c K];exact p
  | _=>cases q
 | _=>cases q
theorem Cr (c:X.calm=true) (u:X.A.units+64 < cLine) (s:Gl X "len") (n:X.mg "len"=none) (g:Gl X "set") (m:X.mg "set"=none) (x:PE X a (tV X.K J)) (k:starEach [a] X.env=[(false,eval a X.env)]) (e:PE X b (tV X.K r)) (mk:behindInMarks .Eq b=false) :
  PE X (.Compare (.Call (.Name "len" z) [.Call (.Name "set" o) [a] [] l] [] q) [.Eq] [b] Y) (tV X.K (ju J r)):=
 (rc (A' (by lia)) (kN c u s n g m x k) e mk).imp' fun _ _ _ h=>oZ h
theorem Cp (c:X.calm=true) (o:X.A.units+64 < cLine) (i:Gl X "len") (j:X.mg "len"=none) (g:Gl X "set") (e:X.mg "set"=none) (w:PE X a (tV X.K J)) (y:starEach [a] X.env=[(false,eval a X.env)]) (u:PE X b (tV X.K z)) (mk:behindInMarks .Eq b=false) :
  PT X (.Compare (.Call (.Name "len" p1) [.Call (.Name "set" p2) [a] [] T] [] I) [.Eq] [b] Y) (tQ X.K (bV (ju J z))):=
 (qZ (A' (by lia)) (kN c o i j g e w y) u mk).imp' fun U H Q h=>by
  refine oZ ?_;obtain⟨F,m,L,S,d,A,r,l,q,k⟩:=h;obtain⟨x,B,t,q⟩:=ao q;cases x with
  | bl b=>cases q;exact⟨F,m,L,S,_,_,r,l,t,fun v n K f s P p=>⟨_,p,k n K f s P⟩⟩
  | _=>cases q
end
noncomputable def hJ (x:List k) (lo h y:Option Int):List k:=
 (sliceRange (sliceBounds lo h y x.length).1 (sliceBounds lo h y x.length).2.1 (sliceBounds lo h y x.length).2.2).filterMap (x[·]?)
theorem oS (r:aU b c):∀s:List Nat,aU (s.filterMap (b[·]?)) (s.filterMap (c[·]?))
 | []=>.nil
 | i::s=>by
  have t:=oS r s;cases h:b[i]? with
  | none=>simp only [gH,h,aU.none_of r h];exact t
  | some x=>obtain⟨u,a,e⟩:=r.get h;simp only [gH,h,a];exact .cons e t
theorem bR.get' {K:FG}{F:Aa}{H:Hp}:∀{h:List P}{s:List V} (_:bR K F H h s) (i:Nat),(h[i]? = none/\s[i]? = none)\/∃d x,h[i]? = some d/\s[i]? = some x/\RP K F H d x
 | [],s,r,i=>by cases (show s=[] from r);simp
 | d::h,s,r,i=>by
  obtain⟨x,e,rfl,p,a⟩:=r;cases i with
  | zero=>exact .inr ⟨d,x,rfl,rfl,p⟩
  | succ i=>simpa using bR.get' a i
theorem tt {K:FG}{F:Aa}{H:Hp}{e:List P}{n:List V} (r:bR K F H e n):∀s:List Nat,bR K F H (s.filterMap (e[·]?)) (s.filterMap (n[·]?))
 | []=>rfl
 | i::s=>by
  have t:=tt r s;rcases r.get' i with ⟨h,a⟩ | ⟨d,x,h,a,p⟩
  .simp only [gH,h,a];exact t
  .simp only [gH,h,a];exact⟨x,_,rfl,p,t⟩
section
variable {X:Cx}
noncomputable def CC (a:EV) (lo k y:EO):EV:=fun L S=>ba (a L S) fun x h=>ba (lo L h) fun i e=>ba (k L e) fun j s=>ba (y L s) fun c n=>match x,c with
 | .lst f,some c=>if c=0 then none else some (.lst (hJ f i j (some c)),n)
 | _,_=>none
theorem K4 {e:Expr}{lo hi:Option Expr}{y:Expr}{J:EV}{fl fh fs:EO}{Y p2:Pos} (he:PE X e (tV X.K J)) (hl:PO X lo (tO X.K fl)) (hh:PO X hi (tO X.K fh)) (hs:PO X (some y) (tO X.K fs)):PE X (.Subscript e (.Slice lo hi (some y) p2) Y) (tV X.K (CC J fl fh fs)):=by
 intro O s U H Q I h;obtain⟨F,m,L,S,d,S',r,l,q,k⟩:=h;obtain⟨x,S1,e1,q⟩:=ao q;obtain⟨i,S2,e2,q⟩:=ao q;obtain⟨j,S3,e3,q⟩:=ao q;obtain⟨c,S4,e4,q⟩:=ao q;refine Subscript_ (cZ (he O s U H (fun v C=>∃u D,Stp F m H u D C/\Rel X.K u C D S1/\RP X.K u C x v) I ⟨F,m,L,S,x,S1,r,l,e1,fun v u D C s1 r1 p1=>⟨u,D,s1,r1,p1⟩⟩) fun v z1 g=>?_);obtain⟨n,C,I1,ry,u,D,p,r1,p1⟩:=g;refine wpAny_Slice (cZ (hl O z1 U C (fun o N=>o=i/\∃A E,Stp u D C A E N/\Rel X.K A N E S2) I1 ⟨u,D,L,S1,i,S2,r1,l.mono p,e2,fun A E N s2 r2=>⟨rfl,A,E,s2,r2⟩⟩) fun vl z2 g=>?_);obtain⟨K,N,I2,pl,eo2,A,E,w,r2⟩:=g;subst eo2;refine cZ (hh O z2 U N (fun o R=>o=j/\∃B G,Stp A E N B G R/\Rel X.K B R G S3) I2 ⟨A,E,L,S2,j,S3,r2,(l.mono p).mono w,e3,fun B G R s3 r3=>⟨rfl,B,G,s3,r3⟩⟩) fun vu z3 g=>?_
 obtain⟨P,R,I3,pu,eo3,B,G,M,r3⟩:=g;subst eo3;refine cZ (hs O z3 U R (fun o T=>o=c/\∃W V,Stp B G R W V T/\Rel X.K W T V S4) I3 ⟨B,G,L,S3,c,S4,r3,((l.mono p).mono w).mono M,e4,fun W V T s4 r4=>⟨rfl,W,V,s4,r4⟩⟩) fun vs f g=>?_;obtain⟨o4,T,I4,ps,eo4,W,V,st4,r4⟩:=g;subst eo4;have I5:L2.Inv X O U T { f with heap:=f.heap.push { cls:=.type "slice",data:=.fields #[vl,vu,vs] } }:=I4.kept (t':=f.toks) fun b ob q=>Heap.get?_push_of_some _ q;have px:=RP.mono st4 (RP.mono M (RP.mono w p1));have ss:=p.trans (w.trans (M.trans st4));cases x with
 | lst ds=>
  cases o4 with
  | none=>cases q
  | some c=>
   dsimp only at q;split at q
   .cases q
   .rename_i hc0;cases q;obtain⟨a,xs,rfl,ta,ra⟩:=px;cases (show v=Value.ref a from ry);obtain⟨t,rv,ht,g⟩:=I5.list ta.sq;show wpAny (model X.prog X.w) X.A (subscriptTail e (.Slice lo hi (some y) p2) (.ref a) (.ref f.heap.objs.size)) (EP X O U Q) X.xe { f with heap:=f.heap.push { cls:=.type "slice",data:=.fields #[vl,vu,vs] } };refine tail_any (ops:=[.ref a,.ref f.heap.objs.size]) ht.isList.typeIs slot_list_getitem.lookup ?_ (by with_unfolding_all rfl);have Z:=rv.length;refine wpAny_getItem_list_slice ht.isList (Heap.IsSliceOf.new ..) pl pu ps (fun z=>hc0 (Option.some.inj z)) ?_ (by rw [List.size_toArray];lia);have hp:T (f.heap.push { cls:=.type "slice",data:=.fields #[vl,vu,vs] }).objs.size=none:=I5.hok.fresh (Nat.le_refl _);have hv:aU (hJ xs K P (some c)) (slicePick t.toArray K P (some c)).toList:=by
     unfold hJ slicePick;rw [Z];simpa using oS rv _
    have hsz:(hJ xs K P (some c)).length≤sizeLine:=by
     rw [hv.length];have:=slicePick_size_le t.toArray K P (some c)
     have e0:t.toArray.size=t.length:=List.size_toArray ..;have e:(slicePick t.toArray K P (some c)).toList.length=(slicePick t.toArray K P (some c)).size:=gG;lia
    refine⟨.ref (f.heap.push { cls:=.type "slice",data:=.fields #[vl,vu,vs] }).objs.size,_,I5.laid (t':=f.toks) (o:=.lst (hJ xs K P (some c))) (fun b ob q=>Heap.get?_push_of_some _ q) (Nat.le_refl _) ⟨hsz,_,0,hv,?_⟩,rfl,k _ _ V _ (ss.trans (cz hp).stp) (r4.grow (cz hp)) (.newLst hp ?_)⟩
    .have:=Heap.get?_push_size (o:={ cls:=.type "list",data:=.seq (slicePick t.toArray K P (some c)) }) (f.heap.push { cls:=.type "slice",data:=.fields #[vl,vu,vs] }) rfl;simpa using this
    .unfold hJ;rw [ra.length];exact tt ra _
 | _=>cases q
end
noncomputable def oh (j k:Nat) (b:ES):Nat->Nat->Lc->aR->Option (Fl×Lc×aR)
 | 0,_,_,_=>none
 | f+1,i,L,S=>match S[j]? with
  | some (.lst s)=>match s[i]? with
   | none=>some (.nx,L,S)
   | some d=>match b (L.set k (some d)) S with
    | none=>none
    | some (.nx,L2,h)=>oh j k b f (i+1) L2 h
    | some (.ct,L2,h)=>oh j k b f (i+1) L2 h
    | some (.bk,L2,h)=>some (.nx,L2,h)
    | some (.rt d,L2,h)=>some (.rt d,L2,h)
  | _=>none
noncomputable def xx (e:EE) (k:Nat) (b:ES):ES:=fun L S=>ba (e L S) fun d h=>match d with
 | .ref j=>match h[j]? with
  | some (.lst _)=>oh j k b 1000 0 L h
  | _=>none
 | _=>none
inductive gTDI (K:FG) (k:Nat) (x:V) (σ:L2.St) (H:Hp) (Q:L2.St->Hp->Prop):Prop
 | mk (F:Aa) (m:List Addr) (L:Lc) (d:D) (h0_:RL K F H m σ L) (h1_:RD K F H m d x) (h2_:∀σ',RL K F H m σ' (L.set k (some d))->Q σ' H):gTDI K k x σ H Q
noncomputable def Hw (K:FG) (k:Nat):TG:=fun x U H Q=>gTDI K k x U H Q
section
variable {X:Cx}{Y:Pos}
theorem BE (i:Nat) (h:X.N.Nodup) (x:X.N[i]? = some b) (a:L2.Loc X.env.scope b) (f:X.fn b=true\/X.env.scope.names.lookup b=some .local):PG X (.Name b Y) (Hw X.K i):=
 (xE h x a f).imp' fun v U H Q ⟨F,m,L,d,l,p,k⟩=>k _ (l.set (d:=d) p i)
theorem HM (hp:PassesOwn (model X.prog X.w) X.A X.env X.xe) (hc:X.calm=true) (hi:PI X tg iter (Ho X.K false fe)) (hg:PG X tg (Hw X.K Q)) (hb:fN X o (fP X.K I))
  (hs:∀x,foldedSetIterable iter X.env x=pure x:=by intro _;rfl):PS X (.For tg iter o [] Y) (fP X.K (xx fe Q I)):=
 (vY hp hc hi hg hb hs).imp' fun D U H hz=>by
  obtain⟨F,m,L,S,fl,L',S',r,l,q,k⟩:=hz;obtain⟨d,S1,e1,q⟩:=ao q;cases d with
  | p _=>cases q
  | ref j=>
   dsimp only at q;split at q
   .rename_i V es0;refine⟨F,m,L,S,j,S1,V,r,l,e1,es0,fun a O m1 H1 J r1 ha=>?_⟩;refine⟨fun i n v w=>∃f s L2 b,Stp O m1 H1 f s w/\Rel X.K f w s b/\RL X.K f w s v L2/\oh j Q I n i L2 b=some (fl,L',S'),
     ⟨1000,O,m1,L,S1,.refl,r1,l.mono J,q⟩,?_⟩
    rintro i n v w ⟨f,s,L2,b,u,r2,l2,h⟩;cases n with
    | zero=>cases h
    | succ n=>
     have ha2:s[j]? = some a:=by obtain⟨t,e⟩:=u.pre;rw [e,List.getElem?_append_left (bw.mp ha).1];exact ha
     unfold oh at h;split at h
     .rename_i ds M;obtain⟨xs,hH,rs⟩:=r2.obj j a _ ha2 M;have c:eN X.K w a xs:=eN.of hH;split at h
      .rename_i Z;left;cases h;refine⟨t6 (r:=false) c ?_,k v f s w (J.trans u) r2 l2⟩;rw [<- rs.length];exact mz.mp Z
      .rename_i d0 Z;right;obtain⟨x,hx,px⟩:=rs.get Z;refine⟨⟨xs,x,c,hx⟩,fun K B=>∃n',n' < n+1/\∃f s L2 b,Stp O m1 H1 f s B/\Rel X.K f B s b/\RL X.K f B s K L2/\oh j Q I n' (i+1) L2 b=some (fl,L',S'),fun _ _ z=>z,fun y B z=>?_⟩;obtain⟨e3,hz⟩:=z;subst e3;have hy:=hz xs c;rw [hx] at hy;cases hy;refine⟨f,s,L2,d0,l2,px,fun K l3=>?_⟩;cases W:I (L2.set Q (some d0)) b with
       | none=>rw [W] at h;cases h
       | some z=>
        obtain⟨g,R,T⟩:=z;rw [W] at h;refine⟨f,s,_,b,g,R,T,r2,l3,W,fun P A E H4 N G C=>?_⟩;cases g with
        | nx=>exact⟨n,by lia,A,E,R,T,u.trans N,G,C,h⟩
        | ct=>exact⟨n,by lia,A,E,R,T,u.trans N,G,C,h⟩
        | bk=>cases h;exact k P A E H4 (J.trans (u.trans N)) G C
        | rt d=>cases h;exact k P A E H4 (J.trans (u.trans N)) G C
     .cases h
   .cases q
end
noncomputable def gC (j x:Nat) (c:EB) (e:EV):Nat->Nat->Lc->aR->Option (List P×aR)
 | 0,_,_,_=>none
 | f+1,i,L,S=>match S[j]? with
  | some (.lst n)=>match n[i]? with
   | none=>some ([],S)
   | some d=>ba (c (L.set x (some d)) S) fun k h=>if k=true then ba (e (L.set x (some d)) h) fun y a=>ba (gC j x c e f (i+1) (L.set x (some d)) a) fun b s=>some (y::b,s) else gC j x c e f (i+1) (L.set x (some d)) h
  | _=>none
noncomputable def jv (f:EE) (N:List Nat) (n k:Nat) (c:EB) (e:EV):EV:=fun L S=>ba (f L S) fun d h=>match d with
 | .ref j=>match h[j]? with
  | some (.lst _)=>ba (gC j k c e 1000 0 (c_ N n L) h) fun y x=>some (.lst y,x)
  | _=>none
 | _=>none
section
variable {X:Cx}{h:Scope}{j:LS}{N:List Nat}{n:Nat}
theorem nT 
  (B:BlockOk X h j N n) (hcalm:X.calm=true)
  (hi:PI X tg iter (Ho X.K false fo)) (hg:∀s H C K,PG (inn X h j s H C K) tg (Hw X.K kx)) (hc:∀s H C K,PIfs (inn X h j s H C K) eh fc) (he:∀s H C K,PE (inn X h j s H C K) elt (tV X.K fe))
  (hclos:closureFor h X.env=pure (g_ h X.env)) (hs:∀x,foldedSetIterable iter X.env x=pure x)
  (I:Inv X O U H s) (r:Rel X.K F H m S) (l:RL X.K F H m U L) (q:jv fo N n kx fc fe L S=some (a0,S2))
  (fin:∀p F' m' D sx C,Inv X O U D sx->Stp F m H F' m' D->Rel X.K F' D m' S2->RP X.K F' D a0 (.ref p)->D C=none->X.s₀.heap.objs.size≤C->C≠X.env.locals->(∀x c,X.env.cells.lookup x=some c->c≠C)->(∀p ∈ X.pn++O,p.1≠C) ->
   (∃mC,sx.heap.Ns C mC)->compPost (model X.prog X.w) X.A X.xe use Q (.ref p) C (.ok .next) sx) :
  wpAny (model X.prog X.w) X.A (comprehension (.ListComp elt [⟨tg,iter,eh,0⟩] h Y) h X.env p2 (newList []) false (eval iter X.env) use) Q X.xe s:=by
 obtain⟨dd,S1,e1,q⟩:=ao q;cases dd with
 | p _=>cases q
 | ref k=>
 dsimp only at q;split at q;case h_2=>cases q
 rename_i ds0 es0;obtain⟨ys,S2',e2,q⟩:=ao q;cases q;refine wpAny_comprehension_free (use:=use) rfl hs hclos B.kind B.loc (cZ (hi O s U H (fun J H1=>∃a F1 m1,J=Jo X.K false a/\Stp F m H F1 m1 H1/\Rel X.K F1 H1 m1 S1/\m1[k]? = some a) I ⟨F,m,L,S,k,S1,ds0,r,l,e1,es0,fun a F1 m1 H1 s1 r1 ha=>⟨a,F1,m1,rfl,s1,r1,ha⟩⟩) fun xv sA hA=>cZ hA fun itv w h2=>?_);obtain⟨it,K,tn,J,V,rfl,I2,T,st2,f2,a,F1,m1,rfl,s1,r1,ha⟩:=h2;have hfp:∀b ∈ K,b < w.heap.objs.size:=fun b P=>by obtain⟨o,e,_⟩:=T.obj _ _ st2 b P;exact aV e
 refine wpAny_newObj_type ?_ (by show 0≤sizeLine;exact Nat.zero_le _);refine wpAny_newFunctionEnv B.cell (by intro y hy;simp at hy) (fun h1 hns1 Z=>?_) B.kind;dsimp only at hns1 Z ⊢;have hD:V w.heap.objs.size=none:=I2.hok.fresh (Nat.le_refl _);generalize hH2:w.heap.push { cls:=.type "list",dict:=none,data:=.seq ([]:LV).toArray }=d at hns1 Z ⊢;have hC:d.objs.size=w.heap.objs.size+1:=by rw [<- hH2,Heap.size_push]
 have g:w.heap.objs.size≤d.objs.size:=by rw [hC];exact lR _
 have old:∀b o,w.heap.get? b=some o->h1.get? b=some o:=fun b o e=>Z.extBut b o (bM (cu (aV e) g)) (Heap.get?_push_of_some _ (hH2 ▸ Heap.get?_push_of_some _ e));have hDC:w.heap.objs.size≠d.objs.size:=by rw [hC];exact bM (ky _)
 have accO:h1.get? w.heap.objs.size=some { cls:=.type "list",dict:=none,data:=.seq ([]:LV).toArray }:=Z.extBut _ _ hDC (Heap.get?_push_of_some _ (hH2 ▸ Heap.get?_push_size _ rfl));have hCn:V d.objs.size=none:=I2.hok.fresh g;have hCcell:∀x c,X.env.cells.lookup x=some c->c≠d.objs.size:=fun x c e z=>by obtain⟨v,o,ho,_⟩:=I2.cell x c e;exact absurd (aV ho) (kv.mpr (by rw [z];exact g))
 have hCloc:d.objs.size≠X.env.locals:=mo (cu I2.lt g);have hCpin:∀p ∈ X.pn++O,p.1≠d.objs.size:=fun p hp z=>absurd (aV (I2.pin p hp).1) (kv.mpr (by rw [z];exact g));have I3:=ye (tk:=w.toks+([]:List (Str×Value)).length) B I2 g f2 hfp old hD hDC hCn hns1 accO;have okX:=wv (k:=d.objs.size) B I2 g f2 hfp;have fpH:∀{D:Hp},(∀b ∈ K,D b=none)->∀b ∈ K,oN (inn X h j w V d.objs.size K) [] D b:=fun hn b P=>
  ⟨hn b P,bM (cu (hfp b P) g),okX.exfs b P,.inl P,(okX.exf b P).2,fun p hp=>absurd (show p ∈ ([]:PN) from hp) (by simp)⟩
 have tn1:tn 0 h1:=T.keep _ _ _ st2 fun b P o e=>old b o e;have loop:∀s3:Shared,s3={ w with heap:=h1,toks:=w.toks+([]:List (Str×Value)).length } ->
   codeAny (model X.prog X.w) X.A (.compLoop (.ListComp elt [⟨tg,iter,eh,0⟩] h Y) 0 (.ref it) (.ref w.heap.objs.size) (compEnvC h (g_ h X.env) d.objs.size X.env))
    (compPost (model X.prog X.w) X.A X.xe use Q (.ref w.heap.objs.size) d.objs.size) s3:=by
  rintro s3 rfl;refine pD (cIv X.K (inn X h j w V d.objs.size K) F1 m1 V w.heap.objs.size tn K (fun nn i L' S' bx=>i+nn=1000/\gC k kx fc fe nn i L' S'=some (bx,S2)) ys) ?_ 1000 ?_
  .rintro nn sx ⟨i,σ',F',m',D,L',S',acc,bx,xs,I',tn',fr',st',r',l',hacc,ra,hal,nF,nm,⟨hin,G⟩,rfl⟩;have ha':m'[k]? = some a:=by
    obtain⟨t,e⟩:=st'.pre;rw [e,List.getElem?_append_left (bw.mp ha).1];exact ha
   cases nn with
   | zero=>cases G
   | succ nn=>
   unfold gC at G;split at G;case h_2=>cases G
   rename_i ds M;obtain⟨xs0,hH,rs⟩:=r'.obj k a _ ha' M;have hsq:eN X.K D a xs0:=eN.of hH;split at G;rotate_left
   .rename_i d0 ei;obtain⟨x0,hx0,px0⟩:=rs.get ei;have hgo1:(Jo X.K false a).go i D:=⟨xs0,x0,hsq,hx0⟩;refine wpAny_mono (T.item (inn X h j w V d.objs.size K) rfl rfl rfl hcalm i [] sx σ' D (fun _ _=>False) I' (fpH fr') tn' hgo1) (fun rr sy hr=>?_) (fun _ _ f=>f.elim);obtain⟨u,rfl,hr⟩:=hr;refine wpAny_mono hr (fun _ sz hz=>?_) (fun _ _ f=>f.elim);obtain⟨x,H3,I4,rx,yl,tn4,fr4⟩:=hz;have yl':H3=D/\∀ys,eN X.K D a ys->ys[i]? = some x:=yl;obtain⟨e3,hyl⟩:=yl';subst e3;have hxx:=hyl xs0 hsq;rw [hx0] at hxx;cases hxx;have st4:=st';have r4:=r';have l4:=l';have acc4:=hacc;have nF4:=nF;have I4':=I4.pinned (fpH fr4) (T.obj _ _ tn4);have back:∀{σ7:L2.St}{H7:Hp}{s7:Shared},Inv (inn X h j w V d.objs.size K) ([]++im K sz.heap) σ7 H7 s7->tn (i+1) s7.heap/\∀b ∈ K,H7 b=none:=fun {σ7 H7 s7} I7=>
     ⟨T.keep _ _ _ tn4 fun b P o e=>(I7.pin (b,o) (List.mem_append_right _ (List.mem_append_right _ (ez P e)))).1,fun b P=>by obtain⟨o,e,dd⟩:=T.obj _ _ tn4 b P;exact (I7.pin (b,o) (List.mem_append_right _ (List.mem_append_right _ (ez P e)))).2.1⟩
    obtain⟨kk,S5,e5,G⟩:=ao G;refine wpAny_mono (hg w V d.objs.size K _ sz σ' H3 x0 u (fun A H5=>H5=H3/\RL X.K F' H3 m' A (L'.set kx (some d0))) I4' rx ⟨F',m',L',d0,l4,px0,fun A l5=>⟨rfl,l5⟩⟩) (fun _ s5 h5=>?_) (fun _ _ f=>f.elim);obtain⟨A,H5,I5,e5',l5⟩:=h5;subst e5';have test:wpAny (model X.prog X.w) X.A (forIn eh true fun c r=>if r=true then do let ok <- isTrue c (compEnvC h (g_ h X.env) d.objs.size X.env) (eval c (compEnvC h (g_ h X.env) d.objs.size X.env));pure (ForInStep.yield ok) else pure (ForInStep.yield r))
      (fun ok s6=>ok=kk/\∃R m6 H6,Inv (inn X h j w V d.objs.size K) ([]++im K sz.heap) A H6 s6/\Stp F' m' H5 R m6 H6/\Rel X.K R H6 m6 S5) (fun _ _=>False) s5:=by
     have hcc:=hc w V d.objs.size K;cases hcc with
     | none=>cases e5;exact wpAny_tests_nil ⟨rfl,F',m',H5,I5,.refl,r4⟩
     | one hq=>refine wpAny_tests_one (wpAny_mono (hq _ s5 A H5 (fun b H6=>b=kk/\∃R m6,Stp F' m' H5 R m6 H6/\Rel X.K R H6 m6 S5) I5 ⟨F',m',_,S',kk,S5,r4,l5,e5,fun R m6 H6 s6 r6=>⟨rfl,R,m6,s6,r6⟩⟩) (fun b s6 h6=>?_) fun _ _ f=>f);obtain⟨H6,I6,rfl,R,m6,E,r6⟩:=h6;exact⟨rfl,R,m6,H6,I6,E,r6⟩
    refine wpAny_mono test (fun ok s6 h6=>?_) (fun _ _ f=>f.elim);obtain⟨rfl,R,m6,H6,I6,E,r6⟩:=h6;have W:=E.oth _ _ acc4 nm;have nm6:w.heap.objs.size ∉ m6:=fun z=>by
     rcases E.nm _ z with z | z
     .exact nm z
     .rw [acc4] at z;cases z
    have nF6:¬R w.heap.objs.size:=fun z=>by
     rcases E.nf _ z with z | z | z
     .exact nF4 z
     .rw [acc4] at z;cases z
     .exact nm z
    have ra6:=bR.mono E ra;have l6:=l5.mono E;cases ok with
    | false=>rw [if_neg ci] at G ⊢;obtain⟨t7,f7⟩:=back I6;exact⟨nn,by lia,i+1,A,R,m6,H6,_,S5,acc,bx,xs,I6.pins_of fun p hp=>absurd hp (by simp),t7,f7,st4.trans E,r6,l6,W,ra6,Nat.le_succ_of_le hal,nF6,nm6,⟨by lia,G⟩,rfl⟩
    | true=>
     rw [if_pos rfl] at G ⊢;obtain⟨y,S8,e8,G⟩:=ao G;obtain⟨zs,S9,e9,G⟩:=ao G;cases G;refine wpAny_mono (he w V d.objs.size K _ s6 A H6 (fun v8 H8=>∃F8 m8,Stp R m6 H6 F8 m8 H8/\Rel X.K F8 H8 m8 S8/\RP X.K F8 H8 y v8) I6 ⟨R,m6,_,S5,y,S8,r6,l6,e8,fun v8 F8 m8 H8 s8 r8 p8=>⟨F8,m8,s8,r8,p8⟩⟩) (fun u8 s8 h8=>?_) (fun _ _ f=>f.elim);obtain⟨v8,H8,I8,rv8,F8,m8,st8,r8,p8⟩:=h8;have acc8:=st8.oth _ _ W nm6;have nm8:w.heap.objs.size ∉ m8:=fun z=>by
      rcases st8.nm _ z with z | z
      .exact nm6 z
      .rw [W] at z;cases z
     have nF8:¬F8 w.heap.objs.size:=fun z=>by
      rcases st8.nf _ z with z | z | z
      .exact nF6 z
      .rw [W] at z;cases z
      .exact nm6 z
     have ra8:=bR.mono st8 ra6;have nt8:∀zs,H8 w.heap.objs.size≠some (.tup zs):=fun zs z=>by rw [acc8] at z;cases z
     have hl8:xs.length < sizeLine:=by rw [<- ra8.length];exact cu (show acc.length < 1000 by lia) (by decide)
     refine wpAny_mono (kP (X:=inn X h j w V d.objs.size K) _ s8 A H8 (.ref w.heap.objs.size) [v8] (.ref w.heap.objs.size) [u8] (fun _ H9=>H9=cF H8 w.heap.objs.size (.lst (xs++[v8]))) I8 rfl (.cons rv8 .nil) ⟨_,xs,v8,rfl,rfl,acc8,hl8,rfl⟩) (fun _ s9 h9=>?_) (fun _ _ f=>f.elim);obtain⟨_,H9,I9,_,rfl⟩:=h9;obtain⟨t9,f9⟩:=back I9;have kb:Kp F8 m8 H8 F8 m8 (cF H8 w.heap.objs.size (.lst (xs++[v8]))):=Kp.bump nF8 nt8;have st9:Stp F1 m1 V F8 m8 (cF H8 w.heap.objs.size (.lst (xs++[v8]))):=(st4.trans (E.trans st8)).bump hD;have l9:RL X.K F8 (cF H8 w.heap.objs.size (.lst (xs++[v8]))) m8 A (L'.set kx (some d0)):=⟨l6.len,fun k dd e=>by obtain⟨v,e1,rr⟩:=(l6.mono st8).at' k dd e;exact⟨v,e1,RD.kp kb rr⟩⟩
     exact⟨nn,by lia,i+1,A,F8,m8,_,_,S8,acc++[y],zs,xs++[v8],I9.pins_of fun p hp=>absurd hp (by simp),t9,f9,st9,r8.bump nF8 nm8 nt8,l9,a1,
      bR.kp kb (ra8.append ⟨v8,[],rfl,p8,rfl⟩),by rw [bN];exact Nat.succ_le_succ hal,nF8,nm8,⟨by lia,e9⟩,by simp⟩
   .rename_i ei;cases G;have hstop:(Jo X.K false a).stop i D:=t6 (r:=false) hsq (by rw [<- rs.length];exact mz.mp ei);refine wpAny_mono (T.done (inn X h j w V d.objs.size K) rfl rfl rfl hcalm i [] sx σ' D (fun _ _=>False) I' (fpH fr') tn' hstop) (fun rr sy hr=>?_) (fun _ _ f=>f.elim);obtain⟨rfl,I5⟩:=hr;rw [gE] at *
    have Iout:Inv X O U D sy:=I2.call' (i:=K) I5.os I5.base I5.hok I5.bare fun b P=>⟨(f2 b P).2.2.2.1,(f2 b P).2.1,(f2 b P).2.2.2.2.1,(f2 b P).2.2.2.2.2⟩;have hD0:H w.heap.objs.size=none:=by
     cases q:H w.heap.objs.size with
     | none=>rfl
     | some o=>exact absurd hD (s1.trk _ (by rw [q];exact fun z=>nomatch z))
    have hCH:D d.objs.size=none:=I5.free;obtain⟨mC,hmC,_⟩:=I5.loc;exact fin w.heap.objs.size (fun b=>F' b\/b=w.heap.objs.size) m' D sy d.objs.size Iout ((s1.trans st').addF hD0) (r'.addF nm (by rw [hacc];exact fun z=>nomatch z))
     ⟨_,xs,rfl,⟨.inr rfl,hacc⟩,bR.kp (m:=m') LZ ra⟩ hCH (bL I2.sz g) hCloc hCcell hCpin ⟨mC,hmC⟩
  .exact⟨0,_,F1,m1,_,c_ N n L,S1,[],ys,[],I3,tn1,fun b P=>by rw [aF (bM (hfp b P))];exact (f2 b P).1,(bU hD).stp,r1.grow (bU hD),((l.mono s1).mono (bU hD).stp).up N n,a1,rfl,Nat.zero_le _,r1.fresh_F hD,r1.fresh_m hD,⟨rfl,e2⟩,rfl⟩
 exact codeAny_compStart_list (loop _ rfl) (T.self X.A 0 _ _ _ tn1 (loop _ rfl))
theorem Fe (B:BlockOk X h j N n) (c:X.calm=true)
  (E:PI X z iter (Ho X.K false fo)) (D:∀s H C f,PG (inn X h j s H C f) z (Hw X.K kx)) (P:∀s H C f,PIfs (inn X h j s H C f) eh T) (A:∀s H C f,PE (inn X h j s H C f) b (tV X.K fe))
  (o:closureFor h X.env=pure (g_ h X.env)) (G:∀x,foldedSetIterable iter X.env x=pure x:=by intro _;rfl) :
  PE X (.ListComp b [⟨z,iter,eh,0⟩] h Y) (tV X.K (jv fo N n kx T fe)):=by
 intro O s U H Q I ⟨F,m,L,S,d,S',r,l,q,k⟩;rw [eval_ListComp];refine nT B c E D P A o G I r l q fun p t M e sx C v y V W K w u g i J=>?_
 obtain⟨R,a⟩:=J;exact⟨R,a,fun h' Z=>⟨.ref p,e,v.letGo Z K w u g i,rfl,k _ t M e y V W⟩⟩
theorem E6 (i:Nat) (hN:X.N.Nodup) (B:BlockOk X h j N n) (c:X.calm=true)
  (hi:PI X T iter (Ho X.K false fo)) (hg:∀s H C f,PG (inn X h j s H C f) T (Hw X.K kx)) (hc:∀s H C f,PIfs (inn X h j s H C f) eh fc) (he:∀s H C f,PE (inn X h j s H C f) b (tV X.K fe))
  (o:closureFor h X.env=pure (g_ h X.env)) (P:swapsWith (.ListComp b [⟨T,iter,eh,0⟩] h Y) (some (.Name x px)) z.line X.env=pure true:=by rfl)
  (hs:∀x,foldedSetIterable iter X.env x=pure x:=by intro _;rfl) (g:X.N[i]? = some x:=by rfl) (hx:Loc X.env.scope x:=by first | exact Or.inl rfl | exact Or.inr rfl)
  (hf:X.fn x=true\/X.env.scope.names.lookup x=some .local:=by first | exact .inl rfl | exact .inr rfl | assumption) :
  PS X (.Assign [.Name x px] (.ListComp b [⟨T,iter,eh,0⟩] h Y) z) (fP X.K (ay i (eV (jv fo N n kx fc fe)))):=by
 intro O s U H D I ⟨F,m,L,S,fl,L',S',r,l,q,k⟩;obtain⟨d,S1,W,q⟩:=ao q;cases q;obtain⟨v,S2,Z,e3⟩:=ao W;cases e3;rw [exec_Assign_Name_used _ _ _ _ P];refine wpAny_bind (lT (wpAny_bind ?_));show wpAny _ _ (do let _ <- comprehension (.ListComp b [⟨T,iter,eh,0⟩] h Y) h X.env _ (newList []) false (eval iter X.env) (some (assign (.Name x px) X.env))) _ _ s;refine wpAny_bind (wpAny_mono (nT (use:=some (assign (.Name x px) X.env)) (Q:=fun _ A=>SP X O D .next A) B c hi hg hc he o hs I r l Z fun p R m' G sx C V y r' rp hC h0 J M h3 hz=>?_) (fun _ A hq=>wpAny_pure (wpAny_pure hq)) fun _ _ e=>e);obtain⟨mC,K⟩:=hz;refine wpAny_assign_Name (iQ V hN g hx (v:=.ref p) rfl (fun A u w=>?_) hf);refine⟨mC,?_,fun h' sb=>⟨_,G,u.letGo sb hC h0 J M h3,k _ R m' G y r' ((l.mono y).set (d:=.p v) rp i)⟩⟩;obtain⟨a,E,t⟩:=w;refine K.sameBut E ?_;rcases t with t | t
 .rw [t];exact J
 .exact bS (M x a t)
end
section
variable {X:Cx}
theorem pe_or (x:∀L S,b L S=f L S\/b L S=g L S) (p:PE X e (tV X.K f)) (a:PE X e (tV X.K g)):PE X e (tV X.K b):=fun O s U H Q I z=>by
 obtain⟨F,m,L,S,d,h,r,l,q,k⟩:=z;rcases x L S with e | e
 .exact p O s U H Q I ⟨F,m,L,S,d,h,r,l,e ▸ q,k⟩
 .exact a O s U H Q I ⟨F,m,L,S,d,h,r,l,e ▸ q,k⟩
theorem IP {y:Stmt}{f g h:ES} (b:∀L S,h L S=f L S\/h L S=g L S) (p:PS X y (fP X.K f)) (c:PS X y (fP X.K g)):PS X y (fP X.K h):=fun O s U H D I z=>by
 obtain⟨F,m,L,S,n,x,a,r,l,q,k⟩:=z;rcases b L S with e | e
 .exact p O s U H D I ⟨F,m,L,S,n,x,a,r,l,e ▸ q,k⟩
 .exact c O s U H D I ⟨F,m,L,S,n,x,a,r,l,e ▸ q,k⟩
end
noncomputable def cW (f:EE) (N:List Nat) (n k:Nat) (c:EB) (e:EV):EV:=fun L S=>match f L S with
 | some (.p _,_)=>au (eM (vE f)) N n (ah k) c e L S
 | _=>jv f N n k c e L S
theorem pE (f:EE) (N:List Nat) (n k:Nat) (c:EB) (e:EV) (L:Lc) (S:aR):cW f N n k c e L S=au (eM (vE f)) N n (ah k) c e L S\/cW f N n k c e L S=jv f N n k c e L S:=by
 unfold cW;split
 .exact .inl rfl
 .exact .inr rfl
noncomputable def yc:P->Option (List P)
 | .lst x=>some x
 | .ro x=>some x
 | .tup x=>some x
 | _=>none
noncomputable def x3 (a:EV):EE:=fun L S=>ba (a L S) fun v h=>(yc v).map fun x=>(.ref h.length,h++[.lst (x.map .p)])
section
variable {X:Cx}
theorem Fc (B:Gl X "list") (C:X.mg "list"=none) (A:PE X a (tV X.K J)) (i:starEach [a] X.env=[(false,eval a X.env)]):PE X (.Call (.Name "list" p) [a] [] Y) (tE X.K (x3 J)):=
 (kO hB B C PyProof.Rows.boot_list (cm A eu (by rw [i];rfl)) (by decide) (by decide) (by rw [i];rfl) rfl).imp' fun U H Q z=>by
  obtain⟨F,m,L,S,d,I,r,l,q,k⟩:=z;obtain⟨x,K,P,q⟩:=ao q;obtain⟨G,n,q⟩:=Option.map_eq_some_iff.mp q;cases q;refine⟨F,m,L,S,x,K,r,l,P,fun v s c h E j w=>?_⟩;have f:∀y,bR X.K s h G y->∀b,h b=none->Q (.ref b) (cF h b (.lst y)):=fun y D b g=>by have o:Stp s c h s (c++[b]) (cF h b (.lst y)):=gP g;refine k (.ref b) s (c++[b]) _ (E.trans o) (j.own g ⟨y,a1,du.ofP (bR.mono o D)⟩) ⟨b,rfl,?_⟩;rw [<- j.len,c7 (Nat.le_refl _)];simp
  cases x with
  | lst u=>cases n;obtain⟨a,y,rfl,t,e⟩:=w;exact⟨a,y,rfl,.inl t.sq,f y e⟩
  | ro u=>cases n;obtain⟨a,y,rfl,t,e⟩:=w;exact⟨a,y,rfl,.inl t.sq,f y e⟩
  | tup u=>cases n;obtain⟨a,y,rfl,t,e⟩:=w;exact⟨a,y,rfl,.inr t.sq,f y e⟩
  | _=>cases n
end
end Ev
namespace Ev
open PySem PySem.Spec PyProof.Rows L2
noncomputable def pureOf (g:GF) (p:List P):Option P:=match g (p.map .p) [] with
 | some (d,S)=>(jx 9 d S).map (·.1)
 | none=>none
noncomputable def cq (p n:Nat) (b:ES):GF:=fun s S=>if s.length=p then match b (s.map some++List.replicate (n-s.length) none) S with
 | some (.rt d,_,h)=>some (d,h)
 | some (.nx,_,h)=>some (.p .non,h)
 | _=>none else none
variable {K:FG}{F:Aa}{H:Hp}
theorem Rel.nil (f:∀a,F a->H a≠none):Rel K F H [] []:=⟨rfl,by simp,by simp,by simp,by simp,f⟩
theorem mR (h:Kg K (pureOf g) A H b E):sZ K g A H b E:=by
 obtain⟨F,s,d,t,r,q,k⟩:=h;unfold pureOf at q;cases e:g (s.map .p) [] with
 | none=>rw [e] at q;cases q
 | some z=>
  obtain⟨a,S⟩:=z;rw [e] at q;dsimp only at q;cases x:jx 9 a S with
  | none=>rw [x] at q;cases q
  | some l=>obtain⟨p,o⟩:=l;rw [x] at q;cases q;refine⟨F,[],s.map .p,[],a,S,.nil t,du.ofP r,e,fun v y P f i m u=>?_⟩;obtain⟨n,j,w,_,c⟩:=mL 9 x m u;exact k v n f ((i.trans j).toGrow w.ft) c
variable {y:SV}{k:Nat}
theorem FnOk.pure (G:FnOk b w K y base sG k f d c (sZ K g)):FnOk b w K y base sG k f d c (Kg K (pureOf g)):=
 FnOk.imp G fun _ _ _ _ h=>mR h
theorem du.toSt (r:du K F H b c w):RL K F H b (L2.start N w) (c.map some++List.replicate (N.length-c.length) none):=by
 have l:=r.length;refine⟨by unfold L2.start;simp [l],fun i d e=>?_⟩;by_cases h:i < c.length
 .rw [List.getElem?_append_left (by simpa using h),List.getElem?_map] at e;cases q:c[i]? with
  | none=>rw [q] at e;cases e
  | some v=>rw [q] at e;cases e;obtain⟨x,a,p⟩:=r.get q;refine⟨x,?_,p⟩;unfold L2.start;rw [List.getElem?_append_left (by simpa [<- l] using h),List.getElem?_map,a];rfl
 .rw [c7 (by simpa using h),u4] at e;split at e <;> cases e
theorem GR {P:Program}{w:World}{K:FG}{y:SV}{base:Heap}{x u:Str}{st:Stmt}{f:Addr}{g:FuncData}{N p:LS}{k:Nat}{b:ES} (F:Fun K x u st f g) (S:FnScope N p (aP st))
  (I:∀(c:Value) (A:Around) (o:List Env) (s:Shared) (H:Hp) (E:XK),Room k (A.deeper (envOfC u (aP st) s.heap.objs.size f c)) ->
   fN (lQ sG P w K y base N u (aP st) f c A o s H E).nox (dc st) (fP K b)):FnOk P w K y base sG (k+1) f g p (sZ K (cq p.length N.length b)):=by
 refine F.ok S (fun O H Q E h=>?_) (fun c A o s H O Q E J h=>⟨_,I c A o s H E J,?_⟩)
 .obtain⟨F,m,a,S,d,D,B,r,q,k⟩:=h;rw [<- r.length];unfold cq at q;split at q
  .assumption
  .cases q
 .obtain⟨F,m,a,S,d,D,B,r,q,k⟩:=h;unfold cq at q;split at q
  .cases e:b (a.map some++List.replicate (N.length-a.length) none) S with
   | none=>rw [e] at q;cases q
   | some z=>
    obtain⟨l,L,G⟩:=z;rw [e] at q;refine⟨F,m,_,S,l,L,G,B,r.toSt,e,fun R n i t C j U=>?_⟩;cases l with
    | nx=>cases q;exact k .non n i t C j rfl
    | bk=>cases q
    | ct=>cases q
    | rt T=>intro v M;cases q;exact k v n i t C j M
  .cases q
theorem BG:FnOk g w K y base sG k f b c (sZ K fun _ _=>none):=by
 have n:∀v H Q E,¬sZ K (fun _ _=>none) v H Q E:=fun v H Q E h=>by obtain⟨F,m,a,S,d,x,_,_,q,_⟩:=h;cases q
 exact⟨fun v H Q E h=>absurd h (n v H Q E),fun A o s H B u v Q E _ _ _ _ h=>absurd h (n v H Q E)⟩
structure Tr where
 v:Option EV:=none
 e:Option EE:=none
 b:Option EB:=none
 w:Option EB:=none
noncomputable def Tr.ofV (f:Option EV):Tr:=⟨f,f.map eV,f.map fun g=>bT (eV g),f.map bV⟩
noncomputable def Tr.ofC (f:Option EV):Tr:=⟨f,f.map eV,f.map bV,f.map bV⟩
noncomputable def Tr.ofE (f:Option EE):Tr:=⟨f.map vE,f,f.map bT,f.map fun g=>bV (vE g)⟩
noncomputable def Tr.ofB (b w:Option EB):Tr:=⟨w.map vB,w.map fun g=>eV (vB g),b,w⟩
structure Cn where
 N:LS
 own:LS
 deep:LS
 refs:LS
 ks:List (Str×NameKind)
 F:Str->Option GF
 G:Str->Option P
 A:Str->Str->Bool
 M:Str->Str->Option GF
 I:Str->Option GF
 E:List (Str×LS)
 R:LS
 Y:Str->Option GX
noncomputable def gy:LS->Str->Option Nat
 | [],_=>none
 | y::r,x=>if y=x then some 0 else (gy r x).map (·+1)
theorem j8:∀{N:LS}{x:Str}{i:Nat},gy N x=some i->N[i]? = some x
 | [],_,_,h=>by cases h
 | y::r,x,i,h=>by
  unfold gy at h;split at h
  .rename_i e;cases h;simp [e]
  .cases q:gy r x with
   | none=>rw [q] at h;cases h
   | some j=>rw [q] at h;cases h;simpa using j8 q
theorem ls:∀{N:LS}{x:Str}{i:Nat},N.Nodup->N[i]? = some x->gy N x=some i
 | [],_,_,_,h=>by simp at h
 | y::r,x,0,_,h=>by
  have:y=x:=by simpa using h
  unfold gy;rw [if_pos this]
 | y::r,x,i+1,d,h=>by
  have a:r[i]? = some x:=by simpa using h
  have n:¬y=x:=fun e=>by subst e;exact (List.nodup_cons.mp d).1 (cV a)
  unfold gy;rw [if_neg n,ls (List.nodup_cons.mp d).2 a];rfl
noncomputable def bj (s:List (Str×NameKind)) (x:Str) (l:List NameKind):Bool:=match s.lookup x with
 | some k=>l.contains k
 | none=>false
noncomputable def b9 (x:Str):Bool:=!(x == ("__debug__":Str)) && !(x == ("__classdict__":Str))
noncomputable abbrev JC:=BR (fun _ j=>decide (0≤j)) fun i j=>.int (i / 2 ^ j.toNat)
variable {X:Cx}
theorem Ja:lE X (binaryOp .RShift) JC:=rh F7 (fun i j h=>bq h) fun _ _ _ _ _=>rfl
noncomputable def EJ (E:List (Str×LS)) (t:Str):Bool:=E.any (fun x=>decide (x.1=t)) || decide (t=("ValueError":Str))
noncomputable def hR (E:List (Str×LS)) (R O:LS) (c:Str):Option Bool:=if R.contains c=true then (E.lookup c).map fun a=>O.any fun t=>a.contains t else none
noncomputable def wg (k:List (Str×NameKind)) (E:List (Str×LS)):Ab->Option (LS)
 | []=>some []
 | .Name t _::r=>if (bj k t [.globalImplicit] && EJ E t && b9 t)=true then (wg k E r).map (t::·) else none
 | _::_=>none
noncomputable def MO:Operator->Option (P->P->Option P)
 | .Add=>some aB
 | .Sub=>some lO
 | .Mult=>some cB
 | .FloorDiv=>some ax
 | .RShift=>some JC
 | .Mod=>some aK
 | .Pow=>some zu
 | _=>none
noncomputable def JJ:CmpOp->Option (P->P->Option P)
 | .Lt=>some Ky
 | .LtE=>some u1
 | .Gt=>some u2
 | .GtE=>some Me
 | _=>none
noncomputable def JI:CmpOp->Option (D->D->aR->Option P)
 | .Eq=>some el
 | .NotEq=>some n5
 | .In=>some kX
 | .NotIn=>some bv
 | .Is=>some Hx
 | .IsNot=>some gX
 | _=>none
noncomputable def n8:List (Option EV)->Option f6
 | []=>some aO
 | a::r=>a.bind fun f=>(n8 r).map fun g=>aM f g
noncomputable def mK:List (Option EE)->Option pP
 | []=>some bG
 | a::r=>a.bind fun f=>(mK r).map fun g=>aw f g
noncomputable def sK (o:BoolOp):List (Option EB)->Option EB
 | []=>none
 | [a]=>a
 | a::r=>a.bind fun f=>(sK o r).map fun g=>match o with | .And=>c9 f g | .Or=>nW f g
noncomputable def Ir (o:Option (Option EV)):Option EO:=match o with
 | none=>some aE
 | some a=>a.map aD
noncomputable def Bx (t:Str):Option String:=if t=("tuple":Str) then some "tuple" else none
noncomputable def pH (f:Str):Option (List P->Option P):=
 if f=("max":Str) then some lB else if f=("min":Str) then some lA
 else if f=("list":Str) then some bW else if f=("tuple":Str) then some hG else if f=("all":Str) then some fJ else if f=("any":Str) then some pG else if f=("sum":Str) then some pF else none
noncomputable def D':LS:=["len","isinstance","int","bool","tuple","list","str","max","min","dict","range","abs","enumerate","sorted","all","any","sum","set"]
noncomputable def i7 (a s:List (Str×NameKind)):List (Str×NameKind):=a.map fun (n,k)=>if (k == .free && s.lookup n == some .cell) then (n,.cell) else (n,k)
noncomputable def sr (u:Cn) (j:Scope) (o:LS) (O:List Nat) (n:Nat):Bool:=
 decide (j.kind=.function) && j.names.all (fun x=>x.2 != .cell) && j.names.all (fun x=>x.2 != .local || j.names.lookup x.1 == some .local)
  && j.names.all (fun x=>x.2 != .free || (j.names.lookup x.1 == some .free && (u.ks.lookup x.1 == some .cell || u.ks.lookup x.1 == some .free)))
  && decide (u.N=o.take u.N.length) && decide (o.length=u.N.length+n)
  && j.names.all (fun x=>x.2 != .local || match gy u.N x.1 with | some i=>O.contains i | none=>true)
noncomputable def nB (u:Cn) (f g:Str):Bool:=decide (f=g) && bj u.ks f [.globalImplicit]
noncomputable def By:Expr->Bool
 | .Tuple ..=>true
 | _=>false
noncomputable def qW (u:Cn) (a:Expr):Option Expr:=match a with
 | .Call (.Name r _) [b] [] _=>if nB u r "set"=true then some b else none
 | _=>none
noncomputable def Gq (u:Cn) (a:Expr) (o:CmpOp):Option Expr:=match o,a with
 | .Eq,.Call (.Name f _) [b] [] _=>if nB u f "len"=true then qW u b else none
 | _,_=>none
noncomputable def r_ (u:Cn) (a:Expr):Option Expr:=match a with
 | .Call (.Name r _) [b] [] _=>if (nB u r "list" && b9 r && (u.F r).isNone && (u.I r).isNone)=true then some b else none
 | _=>none
noncomputable def yI (u:Cn) (T:Expr->Tr) (l e:Expr):Option f6:=match e with
 | .Call (.Name f _) B [] _=>if nB u f "range"=true then match B with
   | [a]=>(T a).v.map jA
   | _=>none
  else if nB u f "enumerate"=true then match B with
   | [a]=>if By l=true then (T a).v.map Jp else none
   | _=>none
  else (T e).v.map eM
 | .Set ..=>none
 | _=>(T e).v.map eM
noncomputable def yH (N:LS) (s:List (Str×NameKind)) (k:List NameKind):Expr->Option i0
 | .Name x _=>if bj s x k=true then (gy N x).map ah else none
 | _=>none
noncomputable def Ah (N:LS) (s:List (Str×NameKind)) (k:List NameKind):Ab->Option (List i0)
 | []=>some []
 | e::r=>(yH N s k e).bind fun g=>(Ah N s k r).map fun h=>g::h
noncomputable def yG (N:LS) (s:List (Str×NameKind)) (k:List NameKind):Expr->Option i0
 | .Tuple h _ _=>(Ah N s k h).map cP
 | e=>yH N s k e
noncomputable def Jl:Expr->LS
 | .Name x _=>[x]
 | _=>[]
noncomputable def bY:Expr->LS
 | .Tuple s _ _=>s.flatMap Jl
 | e=>Jl e
noncomputable def gd (N:LS):LS->LS
 | []=>[]
 | t::r=>if (N.contains t || (gd N r).contains t)=true then gd N r else t::gd N r
noncomputable def HG (N:LS) (O:LS):List Nat:=O.filterMap fun t=>gy N t
noncomputable def CL (N:LS) (s:List (Str×NameKind)) (k:List NameKind):Expr->Option Nat
 | .Name x _=>if bj s x k=true then gy N x else none
 | _=>none
noncomputable def xH (u:Cn) (T:Expr->Tr):Expr->Option EE
 | .Name x p=>if u.own.contains x=true then (T (.Name x p)).e else none
 | _=>none
noncomputable def xi (u:Cn) (T:Cn->Expr->Tr) (p l iter:Expr) (eh:Ab) (j:Scope):Option EV:=
 if (sr u j (u.N++gd u.N (bY l)) (HG u.N (bY l)) (gd u.N (bY l)).length && decide (u.N++gd u.N (bY l)).Nodup)=true then
  (xH u (T u) iter).bind fun f=>(CL (u.N++gd u.N (bY l)) (i7 j.names u.ks) [.local] l).bind fun k=>
   (match eh with | []=>some aZ | [c]=>(T ⟨u.N++gd u.N (bY l),bY l,[],u.refs,i7 j.names u.ks,u.F,u.G,u.A,u.M,u.I,u.E,u.R,u.Y⟩ c).b | _=>none).bind fun c=>
   (T ⟨u.N++gd u.N (bY l),bY l,[],u.refs,i7 j.names u.ks,u.F,u.G,u.A,u.M,u.I,u.E,u.R,u.Y⟩ p).v.map fun e=>cW f (HG u.N (bY l)) (gd u.N (bY l)).length k c e
 else none
noncomputable def qL (u:Cn) (T:Cn->Expr->Tr) (p l iter:Expr) (eh:Ab) (j:Scope):Option EV:=
 if (sr u j (u.N++gd u.N (bY l)) (HG u.N (bY l)) (gd u.N (bY l)).length && decide (u.N++gd u.N (bY l)).Nodup)=true then
  (yI u (T u) l iter).bind fun i=>(yG (u.N++gd u.N (bY l)) (i7 j.names u.ks) [.local] l).bind fun g=>
   (match eh with | []=>some aZ | [c]=>(T ⟨u.N++gd u.N (bY l),u.own.filter (fun x=>!(bY l).contains x),[],u.refs,i7 j.names u.ks,u.F,u.G,u.A,u.M,u.I,u.E,u.R,u.Y⟩ c).b | _=>none).bind fun c=>
   (T ⟨u.N++gd u.N (bY l),u.own.filter (fun x=>!(bY l).contains x),[],u.refs,i7 j.names u.ks,u.F,u.G,u.A,u.M,u.I,u.E,u.R,u.Y⟩ p).v.map fun e=>au i (HG u.N (bY l)) (gd u.N (bY l)).length g c e
 else none
noncomputable def qM (u:Cn) (T:Cn->Expr->Tr) (p l iter:Expr) (eh:Ab) (j:Scope):Option EV:=match xi u T p l iter eh j with
 | some f=>some f
 | none=>qL u T p l iter eh j
noncomputable def ph (u:Cn):Nat->Expr->Bool
 | 0,_=>false
 | _,.Name x _=>u.own.contains x
 | n+1,.Subscript a _ _=>ph u n a
 | n+1,.Attribute a _ _=>ph u n a
 | _,_=>false
noncomputable def Hr (u:Cn) (o:Expr) (m:Str) (n:Str) (a r:Pos):Bool:=decide (m=n) && ph u 4 o && (a.endLine == r.line)
noncomputable def tr (u:Cn):Nat->Expr->Tr
 | 0,_=>{}
 | n+1,e=>match e with
  | .Constant (.int i) _ _=>.ofV (some (vC (.int i)))
  | .Constant (.bool i) _ _=>.ofV (some (vC (.bl i)))
  | .Constant .none _ _=>.ofV (some (vC .non))
  | .Constant (.str i) _ _=>.ofV (some (vC (.str i)))
  | .Name x _=>if (bj u.ks x [.local,.cell,.free] && b9 x)=true then .ofE ((gy u.N x).map ac) else
    if (bj u.ks x [.globalImplicit] && b9 x)=true then .ofV ((u.G x).bind fun v=>if BA v=true then none else some (vC v)) else {}
  | .BinOp a h b _=>.ofV ((MO h).bind fun g=>(tr u n a).v.bind fun x=>(tr u n b).v.map fun y=>ag g x y)
  | .UnaryOp .USub a _=>.ofV ((tr u n a).v.map (CB rX))
  | .UnaryOp .Not a _=>.ofB ((tr u n a).b.map ec) ((tr u n a).w.map ec)
  | .BoolOp h s _=>.ofB (sK h (s.map fun x=>(tr u n x).b)) (sK h (s.map fun x=>(tr u n x).w))
  | .Compare a [h] [b] _=>.ofC (match Gq u a h with
    | some x=>(tr u n x).v.bind fun f=>(tr u n b).v.map fun y=>ju f y
    | none=>match JJ h with
    | some g=>(tr u n a).v.bind fun x=>(tr u n b).v.map fun y=>ag g x y
    | none=>(JI h).bind fun g=>(tr u n a).e.bind fun x=>(tr u n b).e.map fun y=>aG g x y)
  | .Compare a [h,w] [b,c] _=>.ofC ((JJ h).bind fun g=>(JJ w).bind fun F=>(tr u n a).v.bind fun x=>(tr u n b).v.bind fun y=>(tr u n c).v.map fun z=>fA g F x y z)
  | .IfExp c a b _=>{ Tr.ofV ((tr u n c).b.bind fun q=>(tr u n a).v.bind fun x=>(tr u n b).v.map fun y=>Io q x y) with b:=none }
  | .Tuple s _ _=>.ofV ((n8 (s.map fun x=>(tr u n x).v)).map aj)
  | .List s _=>.ofV ((n8 (s.map fun x=>(tr u n x).v)).map ar)
  | .Subscript a (.Slice lo d none _) _=>.ofV ((tr u n a).v.bind fun x=>(Ir (lo.map fun y=>(tr u n y).v)).bind fun y=>(Ir (d.map fun z=>(tr u n z).v)).map fun z=>bK x y z)
  | .Subscript a (.Slice lo d (some st) _) _=>.ofV ((tr u n a).v.bind fun x=>(Ir (lo.map fun y=>(tr u n y).v)).bind fun y=>(Ir (d.map fun z=>(tr u n z).v)).bind fun z=>(tr u n st).v.map fun c=>CC x y z (aD c))
  | .Subscript a i _=>if ph u 4 a=true then .ofE ((tr u n a).e.bind fun x=>(tr u n i).v.map fun y=>fI x y) else .ofV ((tr u n a).v.bind fun x=>(tr u n i).v.map fun y=>ag aA x y)
  | .Call (.Name f _) B [] _=>if (bj u.ks f [.globalImplicit] && b9 f)=true then
    match u.F f with
    | some g=>match B with
     | []=>{}
     | _=>if u.refs.contains f=true then .ofV ((mK (B.map fun x=>(tr u n x).e)).map fun a=>bu g a) else .ofV ((n8 (B.map fun x=>(tr u n x).v)).map fun a=>al (pureOf g) a)
    | none=>match B with
     | []=>{}
     | [a]=>if f=("len":Str) then (match qW u a with | some b=>.ofV ((tr u n b).v.map jN) | none=>.ofV ((tr u n a).e.map ck)) else .ofV ((pH f).bind fun g=>(n8 [(tr u n a).v]).map fun x=>al g x)
     | [a,.Name t Q]=>if f=("isinstance":Str) then (if bj u.ks t [.globalImplicit]=true then (match Bx t with | some T=>.ofV ((tr u n a).e.map fun x=>vm T x) | none=>if (EJ u.E t && b9 t)=true then .ofV ((tr u n a).e.map fun x=>ie (hR u.E u.R [t]) x) else {}) else {}) else .ofV ((pH f).bind fun g=>(n8 [(tr u n a).v,(tr u n (.Name t Q)).v]).map fun x=>al g x)
     | [a,.Tuple O K Q]=>if f=("isinstance":Str) then (match wg u.ks u.E O with | some S=>if decide (S.length≤100)=true then .ofV ((tr u n a).e.map fun x=>ie (hR u.E u.R S) x) else {} | none=>{}) else .ofV ((pH f).bind fun g=>(n8 [(tr u n a).v,(tr u n (.Tuple O K Q)).v]).map fun x=>al g x)
     | _=>.ofV ((pH f).bind fun g=>(n8 (B.map fun x=>(tr u n x).v)).map fun x=>al g x)
   else {}
  | .Call (.Attribute o m k) [a] [] r=>if Hr u o m "append" k r=true then .ofE ((tr u n o).e.bind fun x=>(tr u n a).e.map fun y=>da x y) else
    if Hr u o m "extend" k r=true then .ofE ((tr u n o).e.bind fun x=>(tr u n a).v.map fun y=>eE x y) else {}
  | .Call (.Attribute o m k) [] [] r=>if Hr u o m "pop" k r=true then .ofE ((tr u n o).e.map BL) else {}
  | .ListComp p [⟨l,iter,eh,0⟩] j _=>.ofV (qM u (fun H x=>tr H n x) p l iter eh j)
  | _=>{}
noncomputable def CN (u:Cn) (n:Nat):Nat->Expr->Option EE
 | 0,_=>none
 | k+1,e=>match e with
  | .List s _=>(mK (s.map fun x=>CN u n k x)).map pz
  | .Call (.Name f _) B [] _=>if (bj u.ks f [.globalImplicit] && b9 f && !B.isEmpty)=true then
    match u.F f with
    | some g=>(mK (B.map fun x=>(tr u n x).e)).map fun a=>k8 g a
    | none=>(tr u n e).e
   else (tr u n e).e
  | _=>(tr u n e).e
structure ExsOk (K:FG) (mg:SV) (E:List (Str×LS)) (R:LS):Prop where
 own:∀c,(E.any fun x=>decide (x.1=c))=true->∃C,PySem.W.nsIn K mainGlobals c=some (some (.ref C))/\mg c=some (.ref C)
 val:mg ("ValueError":Str)=none
 non:∀t C,(E.any fun x=>decide (x.1=t))=true->mg t=some (.ref C)->PySem.W.kitOne K (.type "NoneType") (.ref C)=some false
 nonV:PySem.W.kitOne K (.type "NoneType") (.type "ValueError")=some false
 cl:∀c anc C,R.contains c=true->E.lookup c=some anc->PySem.W.nsIn K mainGlobals c=some (some (.ref C))->ExcCl K C/\PySem.W.kitCls K (.ref C) (.ref C)=some true/\PySem.W.kitOne K (.ref C) (.type "ValueError")=some (anc.contains ("ValueError":Str)) /\
  ∀t T,(E.any fun x=>decide (x.1=t))=true->mg t=some (.ref T)->PySem.W.kitOne K (.ref C) (.ref T)=some (anc.contains t)/\(anc.contains t=true->PySem.W.exmOne K (.ref C) (.ref T)=some true)
 rE:∀c,R.contains c=true->(E.any fun x=>decide (x.1=c))=true
 rs:∀c C,R.contains c=true->PySem.W.nsIn K mainGlobals c=some (some (.ref C))->mg c=some (.ref C)/\PySem.W.excIn K C Go "ValueError.__new__"=true
noncomputable def uE (y:SV) (t:Str):Value:=(y t).getD (.type "ValueError")
variable {R:LS}{t:Str}
theorem wJ (h:ExsOk K y E R) (q:EJ E t=true):(∃C,y t=some (.ref C)/\uE y t=.ref C/\(E.any fun x=>decide (x.1=t))=true)\/(t="ValueError"/\y t=none/\uE y t=.type "ValueError"):=by
 unfold EJ at q;rcases Bool.or_eq_true_iff.mp q with q | q
 .obtain⟨C,_,e⟩:=h.own t q;exact .inl ⟨C,e,by unfold uE;rw [e];rfl,q⟩
 .cases bq q;exact .inr ⟨rfl,h.val,by unfold uE;rw [h.val];rfl⟩
theorem kS {K:FG}{t:Value}{f:Str->Bool}{g:Str->Value}:∀{O:LS},(∀x ∈ O,PySem.W.kitOne K t (g x)=some (f x))->PySem.W.kitAny K t (O.map g)=some (O.any f)
 | [],_=>rfl
 | x::O,q=>by
  have e:=q x (.head _);have h:=kS fun y a=>q y (.tail _ a);rw [List.map_cons,f8];simp only [PySem.W.kitAny,e];cases f x with
  | true=>rfl
  | false=>exact h
theorem B' {K:FG}{y:SV}{E:List (Str×LS)}{R:LS} (h:ExsOk K y E R) {O:LS} (q:∀t ∈ O,EJ E t=true):AnsOk K (hR E R O) (O.map (uE y)) where
 non:=by
  have:=kS (K:=K) (t:=.type "NoneType") (f:=fun _=>false) (g:=uE y) (O:=O) fun x m=>by
   rcases wJ h (q x m) with ⟨C,s,a,k⟩ | ⟨_,_,a⟩
   .rw [a];exact h.non x C k s
   .rw [a];exact h.nonV
  rw [this];simp
 exc:=fun c b C e i=>by
  unfold hR at e;split at e;case isFalse=>cases e
  rename_i p;obtain⟨n,r,rfl⟩:=Option.map_eq_some_iff.mp e;obtain⟨v,d,w,u⟩:=h.cl c n C p r i;refine⟨v,d,kS fun x m=>?_⟩;rcases wJ h (q x m) with ⟨T,s,a,k⟩ | ⟨rfl,_,a⟩
  .rw [a];exact (u x T k s).1
  .rw [a];exact w
theorem xK:∀{s:Ab}{O:LS},wg b E s=some O->∀t ∈ O,EJ E t=true
 | [],_,h,t,x=>by cases h;cases x
 | e::s,O,h,t,x=>by
  unfold wg at h;split at h
  .cases h;cases x
  .split at h
   .rename_i q;obtain⟨r,a,rfl⟩:=Option.map_eq_some_iff.mp h;simp only [Bool.and_eq_true] at q;rcases List.mem_cons.mp x with rfl | x
    .exact q.1.2
    .exact xK a t x
   .cases h
  .cases h
structure XOk (Γ:Cn) (X:Cx):Prop where
 hN:X.N=Γ.N
 nd:X.N.Nodup
 ks:X.env.scope.names=Γ.ks
 kd:X.env.scope.kind=.function
 calm:X.calm=true
 hu:X.A.units+64 < cLine
 fns:∀x g,Γ.F x=some g->∃k f fd ps,FnOk X.prog X.w X.K X.mg X.base sG k f fd ps (sZ X.K g)/\Room k X.A/\X.mg x=some (.ref f)/\PySem.W.keepIn X.K (.ref f)=true/\Binds X.K fd ps []
 blt:∀x ∈ D',X.mg x=none
 glb:∀x v,Γ.G x=some v->i1 X.w X.K X.mg x v
 attrs:MW X.K Γ.A
 meths:N0 X Γ.M
 mks:∀c g,Γ.I c=some g->∃C k f fd ps,uZ X.K c C/\X.mg c=some (.ref C)/\Mk X.K C f/\FnOk X.prog X.w X.K X.mg X.base sG k f fd ps (sZ X.K g)/\Room (k+1) X.A/\Binds X.K fd ps []
 exs:ExsOk X.K X.mg Γ.E Γ.R
 ys:∀x gx,Γ.Y x=some gx->BS X.K gx/\∃k f fd ps,FnOk X.prog X.w X.K X.mg X.base (zK X.prog X.w) k f fd ps (Hq X.K gx)/\Room k X.A/\X.mg x=some (.ref f)/\PySem.W.keepIn X.K (.ref f)=true/\Binds X.K fd ps []
structure Good (X:Cx) (ex:Expr) (t:Tr):Prop where
 v:∀f,t.v=some f->PE X ex (tV X.K f)
 e:∀f,t.e=some f->PE X ex (tE X.K f)
 b:∀f,t.b=some f->PT X ex (tQ X.K f)
 w:∀f,t.w=some f->PE X ex (tV X.K (vB f))
section
variable {X:Cx}{e:Expr}
theorem Good.no:Good X e {}:=⟨fun _ h=>(by cases h),fun _ h=>(by cases h),fun _ h=>(by cases h),fun _ h=>(by cases h)⟩
noncomputable def Cg (e:Expr):Prop:=∀s w,isTrue e s w=(do let v <- w;standAt e.pos;holding [v] (truthy v))
theorem Good.ofV {t:Option EV} (h:∀f,t=some f->PE X e (tV X.K f)) (p:Cg e):Good X e (.ofV t) where
 v:=h
 e:=fun f q=>by
  cases t with
  | none=>cases q
  | some g=>cases q;exact Hh (h _ rfl)
 b:=fun f q=>by
  cases t with
  | none=>cases q
  | some g=>cases q;exact yT (Hh (h _ rfl)) (p _)
 w:=fun f q=>by
  cases t with
  | none=>cases q
  | some g=>cases q;exact wZ (h _ rfl)
theorem Good.ofC {t:Option EV} (h:∀f,t=some f->PE X e (tV X.K f)) (x:∀f,t=some f->PT X e (tQ X.K (bV f))):Good X e (.ofC t) where
 v:=h
 e:=fun f q=>by
  cases t with
  | none=>cases q
  | some g=>cases q;exact Hh (h _ rfl)
 b:=fun f q=>by
  cases t with
  | none=>cases q
  | some g=>cases q;exact x _ rfl
 w:=fun f q=>by
  cases t with
  | none=>cases q
  | some g=>cases q;exact wZ (h _ rfl)
theorem Good.ofE {t:Option EE} (h:∀f,t=some f->PE X e (tE X.K f)) (p:Cg e):Good X e (.ofE t) where
 v:=fun f q=>by
  cases t with
  | none=>cases q
  | some g=>cases q;exact K1 (h _ rfl)
 e:=h
 b:=fun f q=>by
  cases t with
  | none=>cases q
  | some g=>cases q;exact yT (h _ rfl) (p _)
 w:=fun f q=>by
  cases t with
  | none=>cases q
  | some g=>cases q;exact wZ (K1 (h _ rfl))
theorem Good.ofB {b w:Option EB} (x:∀f,b=some f->PT X e (tQ X.K f)) (h:∀f,w=some f->PE X e (tV X.K (vB f))):Good X e (.ofB b w) where
 v:=fun f q=>by
  cases w with
  | none=>cases q
  | some g=>cases q;exact h _ rfl
 e:=fun f q=>by
  cases w with
  | none=>cases q
  | some g=>cases q;exact Hh (h _ rfl)
 b:=x
 w:=h
end
theorem av {m e:Type}{x:Option m}{f:m->Option e}{r:e} (h:x.bind f=some r):∃a,x=some a/\f a=some r:=by
 cases x with
 | none=>cases h
 | some a=>exact⟨a,rfl,h⟩
theorem az {m e:Type}{x:Option m}{f:m->e}{r:e} (h:x.map f=some r):∃a,x=some a/\r=f a:=by
 cases x with
 | none=>cases h
 | some a=>cases h;exact⟨a,rfl,rfl⟩
noncomputable def d8 (e:Expr):Prop:=∀h s,starEach (e::h) s=(false,eval e s)::starEach h s
variable {u:Cn}{n:Nat}{e:Expr}
theorem bB (h:(tr u n e).v.isSome=true\/(tr u n e).e.isSome=true):d8 e:=by
 intro x s;cases n with
 | zero=>rcases h with h | h <;> cases h
 | succ n=>cases e <;> first | rfl | (rcases h with h | h <;> cases h)
theorem m_ (h:(tr u n e).v.isSome=true):mm e:=by
 intro o i;cases n with
 | zero=>cases h
 | succ n=>cases e <;> first | rfl | cases h
variable {s:Env}{U:Pos}
theorem kr (h:∀e ∈ b,d8 e):(backTo U (starEach b s)).any (·.1)=false:=by
 induction b with
 | nil=>rfl
 | cons e b i=>
  rw [h e List.mem_cons_self b s];have:=i fun x a=>h x (bE _ a)
  unfold backTo at this ⊢;rw [List.map_cons,f8,this];rfl
section
variable {u:Cn}{X:Cx} (h:XOk u X)
include h
theorem XOk.gl (q:bj u.ks x [.globalImplicit]=true):Gl X x:=by
 unfold Gl Env.kindOf;rw [h.ks];unfold bj at q;cases e:u.ks.lookup x with
 | none=>rw [e] at q;cases q
 | some k=>rw [e] at q;cases k <;> first | rfl | cases q
theorem XOk.vis (q:bj u.ks x [.local,.cell,.free]=true):EU X.env.scope x:=by
 unfold EU;rw [h.ks];unfold bj at q;cases e:u.ks.lookup x with
 | none=>rw [e] at q;cases q
 | some k=>rw [e] at q;cases k <;> first | exact .inl rfl | exact .inr (.inl rfl) | exact .inr (.inr rfl) | cases q
theorem XOk.loc (q:bj u.ks x [.local,.cell]=true):L2.Loc X.env.scope x:=by
 unfold L2.Loc;rw [h.ks];unfold bj at q;cases e:u.ks.lookup x with
 | none=>rw [e] at q;cases q
 | some k=>rw [e] at q;cases k <;> first | exact .inl rfl | exact .inr rfl | cases q
theorem XOk.local (q:bj u.ks x [.local]=true):X.env.scope.names.lookup x=some .local:=by
 rw [h.ks];unfold bj at q;cases e:u.ks.lookup x with
 | none=>rw [e] at q;cases q
 | some k=>rw [e] at q;cases k <;> first | rfl | cases q
omit h in
theorem b_ (q:b9 x=true):(x == ("__debug__":Str))=false/\(x == ("__classdict__":Str))=false:=by unfold b9 at q;rw [Bool.and_eq_true] at q;exact⟨by simpa using q.1,by simpa using q.2⟩
theorem XOk.get (q:gy u.N x=some i):X.N[i]? = some x:=by rw [h.hN];exact j8 q
omit h in
theorem eT {u:Cn}{n:Nat}:∀{s:Ab}{k:f6},(∀e ∈ s,Good X e (tr u n e))->n8 (s.map fun x=>(tr u n x).v)=some k->PA X s (n9 X.K k)/\∀e ∈ s,d8 e
 | [],k,_,q=>by cases q;exact⟨JT,fun _ z=>by cases z⟩
 | e::s,k,g,q=>by
  obtain⟨f,b,p⟩:=av q;obtain⟨r,v,rfl⟩:=az p;obtain⟨m,t⟩:=eT (fun x a=>g x (bE _ a)) v;have b:(tr u n e).v=some f:=b;have c:d8 e:=bB (.inl (by rw [b];rfl));refine⟨ET ((g e List.mem_cons_self).v f b) m (c _ _),fun x a=>?_⟩;rcases List.mem_cons.mp a with a | a
  .subst a;exact c
  .exact t x a
omit h in
theorem l8 {u:Cn}{n:Nat}:∀{s:Ab}{k:pP},(∀e ∈ s,Good X e (tr u n e))->mK (s.map fun x=>(tr u n x).e)=some k->PA X s (Ap X.K k)/\∀e ∈ s,d8 e
 | [],k,_,q=>by cases q;exact⟨EM,fun _ z=>by cases z⟩
 | e::s,k,g,q=>by
  obtain⟨f,b,p⟩:=av q;obtain⟨r,v,rfl⟩:=az p;obtain⟨m,t⟩:=l8 (fun x a=>g x (bE _ a)) v;have b:(tr u n e).e=some f:=b;have c:d8 e:=bB (.inr (by rw [b];rfl));refine⟨BQ ((g e List.mem_cons_self).e f b) m (c _ _),fun x a=>?_⟩;rcases List.mem_cons.mp a with a | a
  .subst a;exact c
  .exact t x a
omit h in
theorem sI {o:BoolOp}{U:Pos}{u:Cn}{n:Nat}:∀{s:Ab}{f:EB},(∀e ∈ s,Good X e (tr u n e))->sK o (s.map fun x=>(tr u n x).b)=some f->PW X (.BoolOp o s U) (tQ X.K f)
 | [],f,_,q=>by cases q
 | [a],f,g,q=>by
  cases o with
  | And=>exact HS ((g a List.mem_cons_self).b f q)
  | Or=>exact KS ((g a List.mem_cons_self).b f q)
 | a::b::s,f,g,q=>by
  obtain⟨x,k,m⟩:=av q;obtain⟨r,t,rfl⟩:=az m;have i:=sI (s:=b::s) (U:=U) (fun x c=>g x (bE _ c)) t;cases o with
  | And=>exact KZ ((g a List.mem_cons_self).b x k) i
  | Or=>exact MY ((g a List.mem_cons_self).b x k) i
omit h in
theorem sJ {o:BoolOp}{U:Pos}{u:Cn}{n:Nat}:∀{s:Ab}{f:EB},(∀e ∈ s,Good X e (tr u n e))->sK o (s.map fun x=>(tr u n x).w)=some f->PE X (.BoolOp o s U) (tV X.K (vB f))
 | [],f,_,q=>by cases q
 | [a],f,g,q=>Ii ((g a List.mem_cons_self).w f q)
 | a::b::s,f,g,q=>by
  obtain⟨x,k,m⟩:=av q;obtain⟨r,t,rfl⟩:=az m;have i:=sJ (s:=b::s) (U:=U) (fun x c=>g x (bE _ c)) t;cases o with
  | And=>exact Lf ((g a List.mem_cons_self).w x k) i
  | Or=>exact MZ ((g a List.mem_cons_self).w x k) i
omit h in
theorem qK {u:Cn}{n:Nat}{o:Option Expr}{f:EO} (g:∀e,Good X e (tr u n e)) (q:Ir (o.map fun y=>(tr u n y).v)=some f):PO X o (tO X.K f):=by
 cases o with
 | none=>cases q;exact Gj
 | some e=>obtain⟨x,a,rfl⟩:=az (show ((tr u n e).v).map aD=some f from q);exact Bd ((g e).v x a)
theorem G2 (q:MO b=some g):lE X (binaryOp b) g:=by cases b <;> first | (cases q;exact Gf) | (cases q;exact I_) | (cases q;exact Ge) | (cases q;exact Dm) | (cases q;exact Ja) | (cases q;exact Je) | (cases q;exact Jb) | cases q
omit h in
theorem lh (q:JJ b=some g):lE X (compareOp b) g:=by cases b <;> first | (cases q;exact LP) | (cases q;exact LQ) | (cases q;exact LR) | (cases q;exact LU) | cases q
theorem yd (q:JI b=some g):fZ X (compareOp b) (rE X.K g):=by cases b <;> first | (cases q;exact Jj h.hu) | (cases q;exact Jc h.hu) | (cases q;exact Jg h.hu) | (cases q;exact A9 h.hu) | (cases q;exact Jf) | (cases q;exact A_) | cases q
omit h in
theorem uG (b:Expr) (q:JJ c=some g):behindInMarks c b=false:=by cases c <;> first | exact Gk b | cases q
omit h in
theorem xO (q:(tr u n b).e.isSome=true):behindInMarks c b=false:=by
 cases n with
 | zero=>cases q
 | succ n=>cases b <;> first | rfl | cases q
omit h in
theorem tN (q:(tr u n c).v.isSome=true):lastMarks [w,d] [b,c]=false:=by
 cases n with
 | zero=>cases q
 | succ n=>cases c <;> first | rfl | cases q
theorem D4 (r:u.F f=some g) (t:bj u.ks f [.globalImplicit]=true) (v:b9 f=true) (x:PA X (a::b) (n9 X.K c)) (n:∀e ∈ a::b,d8 e) :
  PE X (.Call (.Name f J) (a::b) [] U) (tV X.K (al (pureOf g) c)):=by
 obtain⟨k,w,i,j,G,d,q,p,s⟩:=h.fns f g r;exact Ih (FnOk.pure G) d (h.gl t) q p s x (b_ v).1 (n a List.mem_cons_self _ _) (kr fun e m=>n e (bE _ m))
theorem uQ (d:u.F f=some g) (r:bj u.ks f [.globalImplicit]=true) (q:b9 f=true) (s:PA X (a::b) (Ap X.K c)) (n:∀e ∈ a::b,d8 e) :
  PE X (.Call (.Name f J) (a::b) [] U) (tV X.K (bu g c))/\PE X (.Call (.Name f J) (a::b) [] U) (tE X.K (k8 g c)):=by
 obtain⟨k,w,i,j,G,v,t,p,m⟩:=h.fns f g d;exact⟨Cs G v (h.gl r) t p m s (b_ q).1 (n a List.mem_cons_self _ _) (kr fun e x=>n e (bE _ x)),
  Fg G v (h.gl r) t p m s (b_ q).1 (n a List.mem_cons_self _ _) (kr fun e x=>n e (bE _ x))⟩
theorem si (x:pH f=some g) (b:bj u.ks f [.globalImplicit]=true) (k:PA X (a::c) (n9 X.K q)) (m:∀e ∈ a::c,d8 e) :
  PE X (.Call (.Name f J) (a::c) [] U) (tV X.K (al g q)):=by
 have n:=m a List.mem_cons_self c X.env;have p:=kr (s:=X.env) (U:=U) fun e n=>m e (bE _ n);unfold pH at x;split at x
 .rename_i e;subst e;cases x;exact HX (h.gl b) (h.blt _ (by decide)) k h.calm n p
 split at x
 .rename_i e;subst e;cases x;exact HW (h.gl b) (h.blt _ (by decide)) k h.calm n p
 split at x
 .rename_i e;subst e;cases x;exact Fb (h.gl b) (h.blt _ (by decide)) k n p
 split at x
 .rename_i e;subst e;cases x;exact Cq (h.gl b) (h.blt _ (by decide)) k n p
 split at x
 .rename_i e;subst e;cases x;exact HZ (h.gl b) (h.blt _ (by decide)) k h.calm n p
 split at x
 .rename_i e;subst e;cases x;exact HY (h.gl b) (h.blt _ (by decide)) k h.calm n p
 split at x
 .rename_i e;subst e;cases x;exact HV (h.gl b) (h.blt _ (by decide)) k h.calm n p
 .cases x
theorem GJ (x:Bx t=some T) (n:bj u.ks ("isinstance":Str) [.globalImplicit]=true) (k:bj u.ks t [.globalImplicit]=true) (s:PE X a (tE X.K b)) (c:d8 a) :
  PE X (.Call (.Name "isinstance" J) [a,.Name t Q] [] U) (tV X.K (vm T b)):=by
 have f:starEach [a,.Name t Q] X.env=[(false,eval a X.env),(false,eval (.Name t Q) X.env)]:=by rw [c];rfl
 have m:=h.blt ("isinstance":Str) (by decide);unfold Bx at x;split at x
 .rename_i e;subst e;cases x;exact KW kit_tuple (h.gl n) m (h.gl k) (h.blt _ (by decide)) PyProof.Rows.boot_tuple s (by decide) (by decide) f
 .cases x
omit h in
theorem fV (q:nB u f g=true):f=g/\bj u.ks f [.globalImplicit]=true:=by unfold nB at q;rw [Bool.and_eq_true] at q;exact⟨bq q.1,q.2⟩
theorem Bv {n:Nat}{l e:Expr}{f:f6} (g:∀x,Good X x (tr u n x)) (q:yI u (fun x=>tr u n x) l e=some f):PI X l e (tI X.K f):=by
 have plain:((tr u n e).v.map eM=some f)->PI X l e (tI X.K f):=fun q=>by obtain⟨x,s,rfl⟩:=az q;exact iS ((g e).v x s)
 unfold yI at q;split at q
 .rename_i b J B U;split at q
  .rename_i r;obtain⟨rfl,r⟩:=fV r;have k:=h.gl r;have m:=h.blt ("range":Str) (by decide);split at q
   .rename_i a;obtain⟨x,s,rfl⟩:=az q;exact NC k m ((g a).v x s) (bB (.inl (by rw [s];rfl)) _ _)
   .cases q
  .split at q
   .rename_i r;obtain⟨rfl,r⟩:=fV r;split at q
    .rename_i a;split at q
     .rename_i t;obtain⟨x,s,rfl⟩:=az q;cases l <;> first | (cases t;done) | skip
      exact iE (h.gl r) (h.blt ("enumerate":Str) (by decide)) ((g a).v x s) (bB (.inl (by rw [s];rfl)) _ _)
     .cases q
    .cases q
   .exact plain q
 .cases q
 .exact plain q
omit h in
theorem wK (q:r_ u a=some b):∃r p c,a=.Call (.Name r p) [b] [] c/\nB u r "list"=true:=by
 unfold r_ at q;split at q
 .rename_i r p e c;split at q
  .rename_i x;cases q;simp only [Bool.and_eq_true] at x;exact⟨r,p,c,rfl,x.1.1.1⟩
  .cases q
 .cases q
omit h in
theorem o5 (q:qW u a=some b):∃r p c,a=.Call (.Name r p) [b] [] c/\nB u r "set"=true:=by
 unfold qW at q;split at q
 .rename_i r p e c;split at q
  .rename_i x;cases q;exact⟨r,p,c,rfl,x⟩
  .cases q
 .cases q
omit h in
theorem xR {a x:Expr}{o:CmpOp} (q:Gq u a o=some x):o=.Eq/\∃f b e r m s,a=.Call (.Name f b) [.Call (.Name r m) [x] [] s] [] e/\nB u f "len"=true/\nB u r "set"=true:=by
 unfold Gq at q;split at q
 .split at q
  .rename_i n;obtain⟨r,p,c,rfl,k⟩:=o5 q;exact⟨rfl,_,_,_,r,p,c,rfl,n,k⟩
  .cases q
 .cases q
omit h in
theorem Bj (q:(tr u n b).v.isSome=true):behindInMarks c b=false:=by
 cases n with
 | zero=>cases q
 | succ n=>cases c <;> first | rfl | (cases b <;> first | rfl | cases q)
omit h in
theorem nz (q:yI u T l e=some f) (s:Env) (x:Value):foldedSetIterable e s x=pure x:=by cases e <;> first | rfl | cases q
theorem uS (q:sr u j o O n=true):BlockOk X j o O n:=by
 unfold sr at q;simp only [Bool.and_eq_true] at q;obtain⟨⟨⟨⟨⟨⟨f,b⟩,c⟩,m⟩,r⟩,p⟩,v⟩:=q;have s:u.N=o.take u.N.length:=bq r;refine⟨bq f,fun x a=>?_,fun x a l=>?_,fun x a l=>?_,?_,?_,fun x a l i k=>?_⟩
 .simpa using aW.mp b x a
 .have:=aW.mp c x a;rw [l] at this;simpa using this
 .have:=aW.mp m x a;rw [l] at this;have t:j.names.lookup x.1=some .free/\(u.ks.lookup x.1=some .cell\/u.ks.lookup x.1=some .free):=by simpa using this
  refine⟨t.1,?_⟩;unfold Env.kindOf;rw [h.ks];exact t.2
 .rw [h.hN];exact s
 .rw [h.hN];exact bq p
 .have:=aW.mp v x a;rw [l] at this;have e:gy u.N x.1=some i:=ls (by rw [<- h.hN];exact h.nd) (by rw [<- h.hN];exact k);rw [e] at this;simpa using this
end
theorem Bg {X:Cx}{N:LS}{s:List (Str×NameKind)}{k:List NameKind}{e:Expr}{g:i0} (n:X.N=N) (d:X.N.Nodup) (f:∀x,bj s x k=true->L2.Loc X.env.scope x/\(X.fn x=true\/X.env.scope.names.lookup x=some .local)) (q:yH N s k e=some g):GK e=true/\PG X e (gT X.K g):=by
 unfold yH at q;split at q
 .split at q
  .rename_i c;obtain⟨i,b,rfl⟩:=az q;obtain⟨h,a⟩:=f _ c;exact⟨rfl,GP i d (by rw [n];exact j8 b) h a⟩
  .cases q
 .cases q
theorem xj {X:Cx}{N:LS}{a:List (Str×NameKind)}{k:List NameKind}{e:Expr}{g:i0} (t:X.calm=true) (f:X.N=N) (d:X.N.Nodup) (b:∀x,bj a x k=true->L2.Loc X.env.scope x/\(X.fn x=true\/X.env.scope.names.lookup x=some .local)) (q:yG N a k e=some g):PG X e (gT X.K g):=by
 have all:∀{s:Ab}{h:List i0},Ah N a k s=some h->GsOk X s h:=by
  intro s;induction s with
  | nil=>intro h q;cases q;exact .nil
  | cons e s i=>intro h q;obtain⟨g,n,q⟩:=av q;obtain⟨r,p,rfl⟩:=az q;obtain⟨c,m⟩:=Bg f d b n;exact .cons c m (i p)
 unfold yG at q;split at q
 .obtain⟨h,n,rfl⟩:=az q;exact GO t (all n)
 .exact (Bg f d b q).2
variable {j:Scope}
theorem AJ (h:s.scope.kind=.function):(relabel j s).names=i7 j.names s.scope.names:=by unfold relabel i7 Env.kindOf;rw [h];simp
variable {o:LS}{O:List Nat}
theorem XOk.inn (h:XOk u X) (B:BlockOk X j o O n) (d:o.Nodup) (s:Shared) (H:Hp) (C:Addr) (J:List Addr) :
  XOk ⟨o,[],[],u.refs,i7 j.names u.ks,u.F,u.G,u.A,u.M,u.I,u.E,u.R,u.Y⟩ (Ev.inn X j o s H C J) where
 hN:=rfl
 nd:=d
 ks:=by show (relabel j X.env).names=_;rw [AJ h.kd,h.ks]
 kd:=B.kind
 calm:=h.calm
 hu:=h.hu
 fns:=h.fns
 blt:=h.blt
 glb:=h.glb
 attrs:=h.attrs
 meths:=h.meths
 mks:=h.mks
 exs:=h.exs
 ys:=h.ys
theorem gZ (B:BlockOk X j o O n) (I:Inv X q w H b):closureFor j X.env=pure (g_ j X.env):=by
 have all:∀x ∈ j.names,x.2=.free->∃c,X.env.cells.lookup x.1=some c:=fun x d e=>I.ok.has x.1 (B.fr x d e).2;unfold closureFor g_;have f:∀(l:List (Str×NameKind)) (a:List (Str×Addr)),(∀x ∈ l,x.2=.free->∃c,X.env.cells.lookup x.1=some c) ->
   (forIn l a fun (x:Str×NameKind) (r:List (Str×Addr))=>(do
    if x.2 == .free then do
     let c <- cellOf X.env x.1
     pure (ForInStep.yield ((x.1,c)::r))
    else pure (ForInStep.yield r):Sem (ForInStep (List (Str×Addr)))))=pure ((((l.filter fun x=>x.2 == .free).map fun x=>(x.1,(X.env.cells.lookup x.1).getD 0)).reverse)++a):=by
  intro l;induction l with
  | nil=>intro a _;rfl
  | cons x l i=>
   intro a e;rw [List.forIn_cons];by_cases h:(x.2 == NameKind.free)=true
   .obtain⟨c,m⟩:=e x List.mem_cons_self (by simpa using h);rw [if_pos h,List.filter_cons_of_pos (p:=fun (x:Str×NameKind)=>x.2 == .free) h,List.map_cons,List.reverse_cons,dQ];have v:cellOf X.env x.1=pure c:=by unfold cellOf;rw [m]
    rw [v,m];show (forIn l ((x.1,c)::a) _:Sem _)=_;rw [i ((x.1,c)::a) fun y s=>e y (bE _ s)];rfl
   .rw [if_neg h,List.filter_cons_of_neg (p:=fun (x:Str×NameKind)=>x.2 == .free) h];show (forIn l a _:Sem _)=_;rw [i a fun y s=>e y (bE _ s)]
 have k:=f j.names [] all;rw [gE] at k;show (Bind.bind (forIn j.names [] fun (x:Str×NameKind) (r:List (Str×Addr))=>(do
    if x.2 == .free then do
     let c <- cellOf X.env x.1
     pure (ForInStep.yield ((x.1,c)::r))
    else pure (ForInStep.yield r):Sem (ForInStep (List (Str×Addr))))) fun t=>pure t:Sem (List (Str×Addr)))=_
 rw [k];rfl
variable {p:Expr}{l:Expr}
theorem zW (B:BlockOk X j o O n) (h:X.calm=true)
  (f:PI X l iter (tI X.K d)) (k:∀s H C J,PG (inn X j o s H C J) l (gT X.K g)) (a:∀s H C J,PIfs (inn X j o s H C J) eh c) (e:∀s H C J,PE (inn X j o s H C J) p (tV X.K b))
  (m:∀x,foldedSetIterable iter X.env x=pure x) :
  PE X (.ListComp p [⟨l,iter,eh,0⟩] j U) (tV X.K (au d O n g c b)):=fun i s r H Q I q=>
 Ie B h f k a e (gZ B I) m i s r H Q I q
variable {x:Str}
theorem zS (i:Nat) (N:X.N.Nodup) (B:BlockOk X j o O n) (h:X.calm=true)
  (t:PI X l iter (tI X.K z)) (r:∀s H C J,PG (inn X j o s H C J) l (gT X.K g)) (k:∀s H C J,PIfs (inn X j o s H C J) eh c) (f:∀s H C J,PE (inn X j o s H C J) p (tV X.K d))
  (w:swapsWith (.ListComp p [⟨l,iter,eh,0⟩] j U) (some (.Name x A)) b.line X.env=pure true)
  (v:∀x,foldedSetIterable iter X.env x=pure x) (e:X.N[i]? = some x) (u:L2.Loc X.env.scope x)
  (m:X.fn x=true\/X.env.scope.names.lookup x=some .local) :
  PS X (.Assign [.Name x A] (.ListComp p [⟨l,iter,eh,0⟩] j U) b) (fP X.K (ay i (eV (au z O n g c d)))):=fun a s y H D I q=>
 HP i N B h t r k f (gZ B I) w v e u m a s y H D I q
noncomputable def sE (n:Nat):Prop:=∀(u:Cn) (X:Cx),XOk u X->∀e,Good X e (tr u n e)
theorem XOk.own (h:XOk u X) (o:LS):XOk ⟨u.N,o,u.deep,u.refs,u.ks,u.F,u.G,u.A,u.M,u.I,u.E,u.R,u.Y⟩ X:=⟨h.hN,h.nd,h.ks,h.kd,h.calm,h.hu,h.fns,h.blt,h.glb,h.attrs,h.meths,h.mks,h.exs,h.ys⟩
theorem uI {u:Cn}{X:Cx} (h:XOk u X) {n:Nat} (G:sE n) {p l iter:Expr}{eh:Ab}{j:Scope}{f:EV} (q:qL u (fun t x=>tr t n x) p l iter eh j=some f) :
  ∃o O m w g v d,BlockOk X j o O m/\PI X l iter (tI X.K w)/\(∀s H C J,PG (inn X j o s H C J) l (gT X.K g))/\(∀s H C J,PIfs (inn X j o s H C J) eh v)/\(∀s H C J,PE (inn X j o s H C J) p (tV X.K d)) /\
   (∀x,foldedSetIterable iter X.env x=pure x)/\f=au w O m g v d:=by
 unfold qL at q;generalize N:u.N++gd u.N (bY l)=o at q;generalize K:HG u.N (bY l)=O at q;generalize E:(gd u.N (bY l)).length=m at q;split at q
 .rename_i k;rw [Bool.and_eq_true] at k;obtain⟨P,S,q⟩:=av q;obtain⟨F,A,q⟩:=av q;obtain⟨c,b,q⟩:=av q;obtain⟨e,D,rfl⟩:=az q;have B:BlockOk X j o O m:=uS h k.1;have z:o.Nodup:=bq k.2;have i:=fun s H C J=>(h.inn B z s H C J).own (u.own.filter (fun x=>!(bY l).contains x))
  refine⟨o,O,m,P,F,c,e,B,Bv h (G u X h) S,fun s H C J=>?_,fun s H C J=>?_,fun s H C J=>?_,fun x=>nz S _ x,rfl⟩
  .exact xj h.calm rfl z (fun x y=>⟨.inl ((i s H C J).local y),.inr ((i s H C J).local y)⟩) A
  .cases eh with
   | nil=>cases b;exact PIfs.none
   | cons a r=>
    cases r with
    | nil=>exact PIfs.one ((G _ _ (i s H C J) a).b c b)
    | cons _ _=>cases b
  .exact (G _ _ (i s H C J) p).v e D
 .cases q
theorem xg (q:CL N b i e=some k):∃x p,e=.Name x p/\bj b x i=true/\gy N x=some k:=by
 unfold CL at q;split at q
 .split at q
  .exact⟨_,_,rfl,by assumption,q⟩
  .cases q
 .cases q
theorem uH {u:Cn}{X:Cx} (h:XOk u X) {n:Nat} (G:sE n) {p l iter:Expr}{eh:Ab}{j:Scope}{U:Pos}{f:EV} (q:qM u (fun Γ' x=>tr Γ' n x) p l iter eh j=some f) :
  PE X (.ListComp p [⟨l,iter,eh,0⟩] j U) (tV X.K f)/\∀(i:Nat) {x:Str}{V t:Pos},X.N.Nodup->swapsWith (.ListComp p [⟨l,iter,eh,0⟩] j U) (some (.Name x V)) t.line X.env=pure true->X.N[i]? = some x->L2.Loc X.env.scope x->(X.fn x=true\/X.env.scope.names.lookup x=some .local) ->
   PS X (.Assign [.Name x V] (.ListComp p [⟨l,iter,eh,0⟩] j U) t) (fP X.K (ay i (eV f))):=by
 unfold qM at q;split at q
 .rename_i f' d;cases q;unfold xi at d;generalize hN':u.N++gd u.N (bY l)=o at d;generalize hts:HG u.N (bY l)=O at d;generalize hm:(gd u.N (bY l)).length=m at d;split at d
  .rename_i hc;rw [Bool.and_eq_true] at hc;obtain⟨A,P,d⟩:=av d;obtain⟨k,W,d⟩:=av d;obtain⟨c,q3,d⟩:=av d;obtain⟨e,q4,rfl⟩:=az d;have B:BlockOk X j o O m:=uS h hc.1;have nd:o.Nodup:=bq hc.2;have v:=fun s H C J=>(h.inn B nd s H C J).own (bY l)
   unfold xH at P;split at P
   .rename_i xn xp;split at P
    .have hi:PI X l (.Name xn xp) (Ho X.K false A):=iO ((G u X h _).e A P);obtain⟨Z,Q,rfl,hk,W⟩:=xg W
     .·
       have hg:∀s H C J,PG (inn X j o s H C J) (.Name Z Q) (Hw X.K k):=fun s H C J=>BE (X:=inn X j o s H C J) k nd (j8 W) (.inl ((v s H C J).local hk)) (.inr ((v s H C J).local hk));have g:∀s H C J,PIfs (inn X j o s H C J) eh c:=fun s H C J=>by
        cases eh with
        | nil=>cases q3;exact PIfs.none
        | cons a r=>
         cases r with
         | nil=>exact PIfs.one ((G _ _ (v s H C J) a).b c q3)
         | cons _ _=>cases q3
       have y:∀s H C J,PE (inn X j o s H C J) p (tV X.K e):=fun s H C J=>(G _ _ (v s H C J) p).v e q4;have M:PI X (.Name Z Q) (.Name xn xp) (tI X.K (eM (vE A))):=iS (K1 ((G u X h _).e A P));have E:∀s H C J,PG (inn X j o s H C J) (.Name Z Q) (gT X.K (ah k)):=fun s H C J=>(Bg (X:=inn X j o s H C J) (N:=o) (k:=[.local]) rfl nd (fun x K=>⟨.inl ((v s H C J).local K),.inr ((v s H C J).local K)⟩) (show yH o (i7 j.names u.ks) [.local] (.Name Z Q)=some (ah k) by unfold yH;dsimp only;rw [if_pos hk,W];rfl)).2;exact⟨pe_or (pE A O m k c e) (zW B h.calm M E g y fun _=>rfl) fun w s σ H b I qq=>Fe B h.calm hi hg g y (gZ B I) (fun _=>rfl) w s σ H b I qq,
        fun i x V t R Y F K T=>IP (fun L S=>(pE A O m k c e L S).imp (fun z=>by unfold ay eV;rw [z]) fun z=>by unfold ay eV;rw [z]) (zS i R B h.calm M E g y Y (fun _=>rfl) F K T) fun w s σ H D I qq=>E6 i R B h.calm hi hg g y (gZ B I) Y (fun _=>rfl) F K T w s σ H D I qq⟩
    .cases P
   .cases P
  .cases d
 .obtain⟨o,O,m,fi,gg,fc,fe,B,p1,p2,p3,p4,p6,rfl⟩:=uI h G q;exact⟨zW B h.calm p1 p2 p3 p4 p6,fun i x V t R Y F K T=>zS i R B h.calm p1 p2 p3 p4 Y p6 F K T⟩
theorem eZ (h:ph u n b=true) (a:x≠("__class__":Str)):attributeBase b x s (eval b s)=eval b s:=by
 cases n with
 | zero=>cases h
 | succ n=>cases b <;> first | (cases h;done) | rfl | skip
variable {r:Pos}
theorem rj (h:Hr u b c q d r=true):c=q/\ph u 4 b=true/\(d.endLine == r.line)=true:=by unfold Hr at h;simp only [Bool.and_eq_true] at h;exact⟨bq h.1.1,h.1.2,h.2⟩
variable {Q:Pos}
theorem JK (h:XOk u X) (q:EJ u.E t=true) (k:bj u.ks t [.globalImplicit]=true) (o:b9 t=true):∃v,EQ (uE X.mg t)=some v/\PE X (.Name t Q) (tC v):=by
 rcases wJ h.exs q with ⟨C,e,x,_⟩ | ⟨rfl,e,x⟩
 .exact⟨.ref C,by rw [x];rfl,xF (h.gl k) e rfl (b_ o).1⟩
 .exact⟨.ty "ValueError",by rw [x];rfl,xG (h.gl k) e PyProof.Rows.Boot.«ValueError» rfl (by decide) (by decide)⟩
variable {a:Expr}{J:Pos}
theorem DF (h:XOk u X) (q:EJ u.E t=true) (k:bj u.ks t [.globalImplicit]=true) (o:b9 t=true) (s:bj u.ks ("isinstance":Str) [.globalImplicit]=true) (e:PE X a (tE X.K b)) (m:d8 a) :
  PE X (.Call (.Name "isinstance" J) [a,.Name t Q] [] U) (tV X.K (ie (hR u.E u.R [t]) b)):=by
 obtain⟨v,n,c⟩:=JK h (Q:=Q) q k o;exact HQ n (B' h.exs (O:=[t]) fun x f=>by cases f with | head=>exact q | tail _ z=>cases z) (h.gl s) (h.blt ("isinstance":Str) (by decide)) e c (by rw [m];rfl) rfl
theorem EN (h:XOk u X):∀{n:Ab}{O:LS},wg u.ks u.E n=some O->∃s:List V,(O.map (uE X.mg)).map EQ=s.map some/\s.length=O.length/\PA X n (fun _ H x=>x s H)
 | [],O,q=>by cases q;exact⟨[],rfl,rfl,eu⟩
 | e::n,O,q=>by
  unfold wg at q;split at q
  .rename_i z;cases z
  .rename_i t Q r z;cases z;split at q
   .rename_i a;obtain⟨d,k,rfl⟩:=Option.map_eq_some_iff.mp q;rw [Bool.and_eq_true,Bool.and_eq_true] at a;obtain⟨s,b,m,p⟩:=EN h k;obtain⟨v,f,c⟩:=JK h (Q:=Q) a.1.2 a.1.1 a.2;exact⟨v::s,by rw [List.map_cons,List.map_cons,List.map_cons,b,f],by rw [bo,bo,m],(cm c p rfl).imp' fun _ _ _ z=>z⟩
   .cases q
  .cases q
theorem Bw {u:Cn}{X:Cx} (h:XOk u X) {e:Ab}{O:LS}{a:Expr}{f:EE}{t:Nat}{J Q U:Pos} (q:wg u.ks u.E e=some O) (z:O.length≤100) (k:bj u.ks ("isinstance":Str) [.globalImplicit]=true) (x:PE X a (tE X.K f)) (c:d8 a) :
  PE X (.Call (.Name "isinstance" J) [a,.Tuple e t Q] [] U) (tV X.K (ie (hR u.E u.R O) f)):=by
 obtain⟨v,s,n,b⟩:=EN h q;exact E7 s (by rw [n,sizeLine_eq];lia) (B' h.exs (xK q)) (h.gl k) (h.blt ("isinstance":Str) (by decide)) x b (by rw [c];rfl) rfl
theorem jO:∀n,sE n
 | 0=>fun u X h e=>Good.no
 | n+1=>by
  have G:=jO n;intro u X h e;have g:=G u X h;unfold tr;split
  .exact .ofV (fun f q=>by cases q;exact Ld) fun _ _=>rfl
  .exact .ofV (fun f q=>by cases q;exact M5) fun _ _=>rfl
  .exact .ofV (fun f q=>by cases q;exact K8) fun _ _=>rfl
  .exact .ofV (fun f q=>by cases q;exact K3) fun _ _=>rfl
  .split
   .rename_i x p d;rw [Bool.and_eq_true] at d;refine .ofE (fun f q=>?_) fun _ _=>rfl
    obtain⟨i,k,rfl⟩:=az q;exact H_ i (h.get k) (h.vis d.1) (b_ d.2).1 (b_ d.2).2
   .split
    .rename_i d;rw [Bool.and_eq_true] at d;refine .ofV (fun f q=>?_) fun _ _=>rfl
     obtain⟨v,k,q⟩:=av q;split at q
     .cases q
     .rename_i hd;cases q;exact Ic (h.gl d.1) ((h.glb _ v k).1 (by simpa using hd)) (b_ d.2).1
    .exact .no
  .refine .ofV (fun f q=>?_) fun _ _=>rfl;obtain⟨o,k,q⟩:=av q;obtain⟨x,m,q⟩:=av q;obtain⟨y,w,rfl⟩:=az q;exact M0 (G2 h k) ((g _).v x m) ((g _).v y w)
  .refine .ofV (fun f q=>?_) fun _ _=>rfl;obtain⟨x,k,rfl⟩:=az q;exact K_ ((g _).v x k)
  .refine .ofB (fun f q=>?_) fun f q=>?_
   .obtain⟨x,k,rfl⟩:=az q;exact KU ((g _).b x k)
   .obtain⟨x,k,rfl⟩:=az q;exact K7 ((g _).w x k)
  .exact .ofB (fun f q=>(sI (fun e _=>g e) q).pt) fun f q=>sJ (fun e _=>g e) q
  .refine .ofC (fun f q=>?_) fun f q=>?_
   .split at q
    .rename_i sx qs;obtain⟨I,m,q⟩:=av q;obtain⟨y,w,rfl⟩:=az q;obtain⟨rfl,lf,p1,Y,lr,W,R,rfl,F,H⟩:=xR qs;obtain⟨rfl,F⟩:=fV F;obtain⟨rfl,H⟩:=fV H;exact Cr h.calm h.hu (h.gl F) (h.blt _ (by decide)) (h.gl H) (h.blt _ (by decide)) ((g _).v I m) (bB (.inl (by rw [m];rfl)) _ _) ((g _).v y w) (Bj (by rw [w];rfl))
    split at q
    .rename_i Z k;obtain⟨x,m,q⟩:=av q;obtain⟨y,w,rfl⟩:=az q;exact Le (lh k) ((g _).v x m) ((g _).v y w) (uG _ k)
    .obtain⟨o,k,q⟩:=av q;obtain⟨x,m,q⟩:=av q;obtain⟨y,w,rfl⟩:=az q;exact Ig (yd h k) ((g _).e x m) ((g _).e y w) (xO (by rw [w];rfl))
   .split at q
    .rename_i sx qs;obtain⟨I,m,q⟩:=av q;obtain⟨y,w,rfl⟩:=az q;obtain⟨rfl,lf,p1,Y,lr,W,R,rfl,F,H⟩:=xR qs;obtain⟨rfl,F⟩:=fV F;obtain⟨rfl,H⟩:=fV H;exact Cp h.calm h.hu (h.gl F) (h.blt _ (by decide)) (h.gl H) (h.blt _ (by decide)) ((g _).v I m) (bB (.inl (by rw [m];rfl)) _ _) ((g _).v y w) (Bj (by rw [w];rfl))
    split at q
    .rename_i Z k;obtain⟨x,m,q⟩:=av q;obtain⟨y,w,rfl⟩:=az q;exact KY (lh k) ((g _).v x m) ((g _).v y w) (uG _ k)
    .obtain⟨o,k,q⟩:=av q;obtain⟨x,m,q⟩:=av q;obtain⟨y,w,rfl⟩:=az q;exact HR (yd h k) ((g _).e x m) ((g _).e y w) (xO (by rw [w];rfl))
  .refine .ofC (fun f q=>?_) fun f q=>?_
   .obtain⟨o,k,q⟩:=av q;obtain⟨o',m,q⟩:=av q;obtain⟨x,w,q⟩:=av q;obtain⟨y,C,q⟩:=av q;obtain⟨z,D,rfl⟩:=az q;exact Ff (lh k) (lh m) ((g _).v x w) ((g _).v y C) ((g _).v z D) (tN (by rw [D];rfl))
   .obtain⟨o,k,q⟩:=av q;obtain⟨o',m,q⟩:=av q;obtain⟨x,w,q⟩:=av q;obtain⟨y,C,q⟩:=av q;obtain⟨z,D,rfl⟩:=az q;exact E8 (lh k) (lh m) ((g _).v x w) ((g _).v y C) ((g _).v z D) (tN (by rw [D];rfl))
  .rename_i c a b p;have M:∀f,((tr u n c).b.bind fun q=>(tr u n a).v.bind fun x=>(tr u n b).v.map fun y=>Io q x y)=some f->PE X (.IfExp c a b p) (tV X.K f):=fun f q=>by
    obtain⟨o,k,q⟩:=av q;obtain⟨x,m,q⟩:=av q;obtain⟨y,w,rfl⟩:=az q;exact M4 ((g _).b o k) ((g _).v x m) ((g _).v y w)
   refine⟨M,fun f q=>?_,fun f q=>(by cases q),fun f q=>?_⟩
   .obtain⟨x,k,rfl⟩:=az (show Option.map eV _=some f from q);exact Hh (M _ k)
   .obtain⟨x,k,rfl⟩:=az (show Option.map bV _=some f from q);exact wZ (M _ k)
  .refine .ofV (fun f q=>?_) fun _ _=>rfl;obtain⟨x,k,rfl⟩:=az q;exact K2 (eT (fun e _=>g e) k).1
  .refine .ofV (fun f q=>?_) fun _ _=>rfl;obtain⟨x,k,rfl⟩:=az q;exact K' (eT (fun e _=>g e) k).1
  .refine .ofV (fun f q=>?_) fun _ _=>rfl;obtain⟨x,k,q⟩:=av q;obtain⟨y,m,q⟩:=av q;obtain⟨z,w,rfl⟩:=az q;exact K5 ((g _).v x k) (qK g m) (qK g w)
  .refine .ofV (fun f q=>?_) fun _ _=>rfl;obtain⟨x,k,q⟩:=av q;obtain⟨y,m,q⟩:=av q;obtain⟨z,w,q⟩:=av q;obtain⟨c,C,rfl⟩:=az q;exact K4 ((g _).v x k) (qK g m) (qK g w) (Bd ((g _).v c C))
  .split
   .refine .ofE (fun f q=>?_) fun _ _=>rfl;obtain⟨x,k,q⟩:=av q;obtain⟨y,m,rfl⟩:=az q;exact Lb (by have:=h.hu;lia) ((g _).e x k) ((g _).v y m) (m_ (by rw [m];rfl))
   .refine .ofV (fun f q=>?_) fun _ _=>rfl;obtain⟨x,k,q⟩:=av q;obtain⟨y,m,rfl⟩:=az q;exact M3 (by have:=h.hu;lia) ((g _).v x k) ((g _).v y m) (m_ (by rw [m];rfl))
  .rename_i f J B r;split
   .rename_i d;rw [Bool.and_eq_true] at d;split
    .rename_i gf U;split
     .exact .no
     .rename_i E S;split
      .refine .ofV (fun f q=>?_) fun _ _=>rfl;obtain⟨x,k,rfl⟩:=az q;obtain⟨j,l⟩:=l8 (fun e _=>g e) k;cases B with
       | nil=>exact absurd rfl S
       | cons a N=>exact (uQ h U d.1 d.2 j l).1
      .refine .ofV (fun f q=>?_) fun _ _=>rfl;obtain⟨x,k,rfl⟩:=az q;obtain⟨j,l⟩:=eT (fun e _=>g e) k;cases B with
       | nil=>exact absurd rfl S
       | cons a N=>exact D4 h U d.1 d.2 j l
    .split
     .exact .no
     .rename_i a;split
      .rename_i A;subst A;split
       .rename_i b hb;obtain⟨s,W,R,rfl,H⟩:=o5 hb;refine .ofV (fun f q=>?_) fun _ _=>rfl
        obtain⟨x,k,rfl⟩:=az q;obtain⟨rfl,H⟩:=fV H;exact zU h.calm h.hu (h.gl d.1) (h.blt _ (by decide)) (h.gl H) (h.blt _ (by decide)) ((g _).v x k) (bB (.inl (by rw [k];rfl)) _ _)
       .refine .ofV (fun f q=>?_) fun _ _=>rfl;obtain⟨x,k,rfl⟩:=az q;exact La (h.gl d.1) (h.blt _ (by decide)) ((g _).e x k) (bB (.inr (by rw [k];rfl)) _ _)
      .refine .ofV (fun f q=>?_) fun _ _=>rfl;obtain⟨o,k,q⟩:=av q;obtain⟨x,m,rfl⟩:=az q;obtain⟨j,l⟩:=eT (s:=[a]) (fun e _=>g e) m;exact si h k d.1 j l
     .rename_i a t Q;split
      .rename_i A;subst A;split
       .rename_i V;split
        .rename_i T k;refine .ofV (fun f q=>?_) fun _ _=>rfl
         obtain⟨x,m,rfl⟩:=az q;exact GJ h k d.1 V ((g _).e x m) (bB (.inr (by rw [m];rfl)))
        .split
         .rename_i L;rw [Bool.and_eq_true] at L;refine .ofV (fun f q=>?_) fun _ _=>rfl
          obtain⟨x,m,rfl⟩:=az q;exact DF h L.1 V L.2 d.1 ((g _).e x m) (bB (.inr (by rw [m];rfl)))
         .exact .no
       .exact .no
      .refine .ofV (fun f q=>?_) fun _ _=>rfl;obtain⟨o,k,q⟩:=av q;obtain⟨x,m,rfl⟩:=az q;obtain⟨j,l⟩:=eT (s:=[a,.Name t Q]) (fun e _=>g e) m;exact si h k d.1 j l
     .rename_i a O tc Q;split
      .rename_i A;subst A;split
       .rename_i xs hx;split
        .rename_i hz;refine .ofV (fun f q=>?_) fun _ _=>rfl
         obtain⟨x,m,rfl⟩:=az q;exact Bw h hx (bq hz) d.1 ((g _).e x m) (bB (.inr (by rw [m];rfl)))
        .exact .no
       .exact .no
      .refine .ofV (fun f q=>?_) fun _ _=>rfl;obtain⟨o,k,q⟩:=av q;obtain⟨x,m,rfl⟩:=az q;obtain⟨j,l⟩:=eT (s:=[a,.Tuple O tc Q]) (fun e _=>g e) m;exact si h k d.1 j l
     .rename_i S _ _ _;refine .ofV (fun f q=>?_) fun _ _=>rfl
      obtain⟨o,k,q⟩:=av q;obtain⟨x,m,rfl⟩:=az q;obtain⟨j,l⟩:=eT (fun e _=>g e) m;cases B with
      | nil=>exact absurd rfl S
      | cons a N=>exact si h k d.1 j l
   .exact .no
  .split
   .rename_i d;obtain⟨rfl,K,P⟩:=rj d;refine .ofE (fun f q=>?_) fun _ _=>rfl
    obtain⟨x,k,q⟩:=av q;obtain⟨y,m,rfl⟩:=az q;exact w8 ((g _).e x k) ((g _).e y m) (bB (.inr (by rw [m];rfl)) _ _) (eZ K (by decide)) P
   .split
    .rename_i d;obtain⟨rfl,K,P⟩:=rj d;refine .ofE (fun f q=>?_) fun _ _=>rfl
     obtain⟨x,k,q⟩:=av q;obtain⟨y,m,rfl⟩:=az q;exact Cu ((g _).e x k) ((g _).v y m) (bB (.inl (by rw [m];rfl)) _ _) (eZ K (by decide)) P
    .exact .no
  .split
   .rename_i d;obtain⟨rfl,K,P⟩:=rj d;refine .ofE (fun f q=>?_) fun _ _=>rfl
    obtain⟨x,k,rfl⟩:=az q;exact K6 ((g _).e x k) (eZ K (by decide)) P
   .exact .no
  .refine .ofV (fun f q=>?_) fun _ _=>rfl;exact (uH h G q).1
  .exact .no
theorem sQ (h:CN u n k e=some f):d8 e:=by
 intro x s;cases k with
 | zero=>cases h
 | succ k=>cases e <;> first | rfl | exact bB (u:=u) (n:=n) (.inr (by rw [show (tr u n (Expr.Starred _ _)).e=some f from h];rfl)) x s
theorem vz (h:XOk u X) (n:Nat):∀(k:Nat) {e:Expr}{f:EE},CN u n k e=some f->PE X e (tE X.K f)
 | 0,_,_,q=>by cases q
 | k+1,e,f,q=>by
  have g:=jO n u X h;have all:∀{c:Ab}{m:pP},mK (c.map fun x=>CN u n k x)=some m->PA X c (Ap X.K m):=by
   intro c;induction c with
   | nil=>intro m q;cases q;exact EM
   | cons e c i=>intro m q;obtain⟨f,b,w⟩:=av q;obtain⟨s,j,rfl⟩:=az w;have b:CN u n k e=some f:=b;exact BQ (vz h n k b) (i j) (sQ b _ _)
  unfold CN at q;split at q
  .obtain⟨m,b,rfl⟩:=az q;exact Ib (all b)
  .rename_i y J B r;split at q
   .rename_i t;simp only [Bool.and_eq_true] at t;split at q
    .rename_i z d;obtain⟨x,b,rfl⟩:=az q;obtain⟨p,v⟩:=l8 (fun e _=>g e) b;cases B with
     | nil=>simp at t
     | cons a l=>exact (uQ h d t.1.1 t.1.2 p v).2
    .exact (g _).e f q
   .exact (g _).e f q
  .exact (g _).e f q
noncomputable def n7 (T:Stmt->Option ES):List Stmt->Option ES
 | []=>some d_
 | [s]=>T s
 | s::r=>(T s).bind fun f=>(n7 T r).map fun g=>ak f g
noncomputable def ED:Expr->Option (Ab)
 | .List e _=>some e
 | _=>none
noncomputable def nD:Expr->Bool
 | .ListComp ..=>true
 | _=>false
theorem me (h:nD e=false):∀a b c d,e≠.ListComp a b c d:=fun a b c d z=>by subst z;cases h
noncomputable def EG (u:Cn) (l iter:Expr):Option Nat:=match iter with
 | .Name x _=>if u.deep.contains x=true then CL u.N u.ks [.local,.cell] l else none
 | _=>none
noncomputable def x9 (u:Cn) (o:Expr) (m:Str) (a:Expr) (p r:Pos):Bool:=match o,a with
 | .Name x _,.List ..=>u.deep.contains x && Hr u o m "append" p r
 | _,_=>false
noncomputable def Aj (u:Cn) (n:Nat) (t v:Expr):Option ES:=match t with
 | .Name x _=>if bj u.ks x [.local,.cell]=true then (gy u.N x).bind fun i=>if (u.deep.contains x && !nD v)=true then (CN u n 5 v).map (ay i) else match r_ u v with
    | some a=>if u.own.contains x=true then (tr u n a).v.map fun f=>ay i (x3 f) else (tr u n v).e.map (ay i)
    | none=>match ED v with
    | some e=>if u.own.contains x=true then (n8 (e.map fun y=>(tr u n y).v)).map fun a=>ay i (gA a) else (tr u n v).e.map (ay i)
    | none=>(tr u n v).e.map (ay i)
   else none
 | .Subscript o i _=>(tr u n o).e.bind fun x=>(tr u n i).v.bind fun y=>if nD v=true then none else (tr u n v).v.map fun z=>mX x y z
 | .Tuple e c p=>if (nD v || By v)=true then none else (yG u.N u.ks [.local,.cell] (.Tuple e c p)).bind fun g=>(tr u n v).v.map fun z=>i3 g z
 | _=>none
noncomputable def Fv (u:Cn) (n:Nat) (e:Expr):Option ES:=match e with
 | .Call (.Attribute o m p) [a] [] r=>if x9 u o m a p r=true then (tr u n o).e.bind fun x=>(CN u n 5 a).map fun y=>cM (da x y) else (tr u n (.Call (.Attribute o m p) [a] [] r)).e.map cM
 | e=>if nD e=true then none else (tr u n e).e.map cM
noncomputable def Ag (u:Cn) (n:Nat) (b:List Stmt) (m:List ExceptHandler):Option ES:=match b,m with
 | [.Expr (.Call (.Name f J) B [] r) t],[.ExceptHandler (some (.Name c q)) (some nm) [.Assign [.Name y v] (.Name z d) e] p]=>match u.Y f with
    | some gx=>if (bj u.ks y [.local,.cell] && bj u.ks f [.globalImplicit] && b9 f && !B.isEmpty && bj u.ks c [.globalImplicit] && b9 c && (u.E.any fun w=>decide (w.1=c)) && bj u.ks nm [.local] && decide (z=nm) && b9 nm)=true then
      (gy u.N y).bind fun j=>(gy u.N nm).bind fun k=>(tr u n (.Call (.Name f J) B [] r)).e.bind fun s=>(mK (B.map fun w=>(tr u n w).e)).map fun a=>
       yR (cM s) (gL gx a) (fun x=>u.R.contains x && (u.E.lookup x).any fun h=>h.contains c) k (ay j (ac k))
     else none
    | none=>none
 | _,_=>none
noncomputable def xh (u:Cn):Nat->Stmt->Option ES
 | 0,_=>none
 | n+1,st=>match st with
  | .Assign [t] v _=>Aj u n t v
  | .Return (some e) _=>(tr u n e).e.map aQ
  | .Expr e _=>Fv u n e
  | .If c a b _=>(tr u n c).b.bind fun q=>(n7 (xh u n) a).bind fun x=>(n7 (xh u n) b).map fun y=>dt q x y
  | .For l iter o [] _=>match EG u l iter with
   | some k=>(xH u (fun y=>tr u n y) iter).bind fun i=>(n7 (xh u n) o).map fun b=>xx i k b
   | none=>(yG u.N u.ks [.local,.cell] l).bind fun g=>(yI u (fun y=>tr u n y) l iter).bind fun i=>(n7 (xh u n) o).map fun b=>jX i g b
  | .While c o [] _=>(tr u n c).b.bind fun q=>(n7 (xh u n) o).map fun b=>qY 1000 q b
  | .Raise ..=>some mY
  | .Try b h [] [] _=>Ag u n b h
  | _=>none
theorem nk {v:Expr}{t:Option Expr}{line:Nat}{s:Env} (h:∀a b c d,v≠.ListComp a b c d) (x:∀a b c d,v≠.SetComp a b c d) (n:∀a b c d e,v≠.DictComp a b c d e):swapsWith v t line s=pure false:=by cases v <;> first | rfl | exact absurd rfl (h _ _ _ _) | exact absurd rfl (x _ _ _ _) | exact absurd rfl (n _ _ _ _ _)
theorem tH (h:(tr u n e).e.isSome=true):(∀a b c d,e≠.SetComp a b c d)/\∀a b c d f,e≠.DictComp a b c d f:=by
 cases n with
 | zero=>cases h
 | succ n=>exact⟨fun a b c d z=>(by subst z;cases h),fun a b c d f z=>(by subst z;cases h)⟩
theorem Mr (h:(tr u n e).v=some f) (l:∀a b c d,e≠.ListComp a b c d):(∀a b c d,e≠.SetComp a b c d)/\∀a b c d g,e≠.DictComp a b c d g:=by
 cases n with
 | zero=>cases h
 | succ n=>exact⟨fun a b c d z=>(by subst z;cases h),fun a b c d f z=>(by subst z;cases h)⟩
theorem Iu (h:CN u n k e=some f):(∀a b c d,e≠.SetComp a b c d)/\∀a b c d g,e≠.DictComp a b c d g:=by
 cases k with
 | zero=>cases h
 | succ k=>
  cases n with
  | zero=>exact⟨fun a b c d z=>(by subst z;cases h),fun a b c d f z=>(by subst z;cases h)⟩
  | succ n=>exact⟨fun a b c d z=>(by subst z;cases h),fun a b c d f z=>(by subst z;cases h)⟩
theorem tx (h:(tr u n e).v.isSome=true):uX e:=by
 intro o U s v;cases n with
 | zero=>cases h
 | succ n=>cases e <;> first | rfl | cases h
theorem Bf (h:By q=false):swappedStores [.Tuple d c b] q s=pure none:=by cases q <;> first | rfl | cases h
theorem CK (h:(tr u n (.ListComp p g j U)).e=some f) :
    ∃k l iter eh s,n=k+1/\g=[⟨l,iter,eh,0⟩]/\qM u (fun e x=>tr e k x) p l iter eh j=some s/\f=eV s:=by
  cases n with
  | zero=>cases h
  | succ n=>
    unfold tr at h;split at h;all_goals first
      | (rename_i a;cases a;done)
      | (rename_i a;cases a
         obtain⟨x,q,rfl⟩:=az (show Option.map eV _=some f from h);exact⟨n,_,_,_,x,rfl,rfl,q,rfl⟩)
      | (cases h;done)
theorem fO (h:∀st f,T st=some f->PS X st (fP X.K f)):∀{aq:List Stmt}{f:ES},n7 T aq=some f->fN X aq (fP X.K f)
 | [],f,q=>by cases q;exact KP
 | [s],f,q=>E4 (h s f q)
 | s::t::r,f,q=>by obtain⟨x,a,q⟩:=av q;obtain⟨y,e,rfl⟩:=az q;exact HN (h s x a) (fO h e)
theorem XOk.more (h:XOk u X) (E:VP) (p:PN):XOk u (j4 X E p):=⟨h.hN,h.nd,h.ks,h.kd,h.calm,h.hu,h.fns,h.blt,h.glb,h.attrs,h.meths,h.mks,h.exs,h.ys⟩
structure OnStack (X:Cx):Prop where
 stk:X.stack=X.env::X.outer
 frm:X.env.frame=some X.env.locals
 ex:X.ex=[]
variable {B:Ab}
theorem Ed (h:XOk u X) (q:mK (B.map fun w=>(tr u n w).e)=some b):PA X B (Ap X.K b)/\∀e ∈ B,d8 e:=l8 (fun e _=>jO n u X h e) q
variable {f:Str}{gx:GX}
theorem uP (h:XOk u X) (Y:u.Y f=some gx) (m:bj u.ks f [.globalImplicit]=true) (t:b9 f=true) (p:B.isEmpty=false) (j:mK (B.map fun w=>(tr u n w).e)=some b):PE X (.Call (.Name f J) B [] r) (Kf X (gL gx b)):=by
 obtain⟨l,k,y,z,o,G,i,g,d,q⟩:=h.ys f gx Y;obtain⟨s,x⟩:=Ed h j;cases B with
 | nil=>cases p
 | cons a c=>exact Fa G l i (h.gl m) g d q s (b_ t).1 (x a List.mem_cons_self _ _) (kr fun e v=>x e (bE _ v))
theorem CI (h:XOk u X) (l:∀x,X.fn x=true) (y:OnStack X) (Y:u.Y f=some gx)
  (F:bj u.ks b [.local,.cell]=true) (K:bj u.ks f [.globalImplicit]=true) (P:b9 f=true) (D:B.isEmpty=false) (L:bj u.ks c [.globalImplicit]=true) (O:b9 c=true) (z:(u.E.any fun w=>decide (w.1=c))=true) (o:bj u.ks nm [.local]=true) (m:b9 nm=true)
  (Z:gy u.N b=some q) (H:gy u.N nm=some k) (V:(tr u n (.Call (.Name f J) B [] r)).e=some A) (W:mK (B.map fun w=>(tr u n w).e)=some N) :
  PS X (.Try [.Expr (.Call (.Name f J) B [] r) I] [.ExceptHandler (some (.Name c np)) (some nm) [.Assign [.Name b yp] (.Name nm zp) M] G] [] [] U) (fP X.K (yR (cM A) (gL gx N) (fun s=>u.R.contains s && (u.E.lookup s).any fun a=>a.contains c) k (ay q (ac k)))):=by
 obtain⟨S,T,g⟩:=h.exs.own c z;have v:swapsWith (.Call (.Name f J) B [] r) none I.line X.env=pure false:=rfl;refine HK y.stk y.frm y.ex h.nd (h.gl L) g (b_ O).1 (h.get H) (h.local o) (fun E p=>?_) (fun E p=>?_) (fun e=>?_) fun s C t Q=>?_
 .have j:=h.more E p;exact E4 (X:=j4 X E p) (wY (X:=j4 X E p) ((jO n u _ j _).e A V) v)
 .have j:=h.more E p;exact q_ (zY (X:=j4 X E p) (uP j Y K P D W) v)
 .exact E4 (X:=ig X e) (yv (X:=ig X e) q h.nd (H_ (X:=ig X e) k (h.get H) (.inl (h.local o)) (b_ m).1 (b_ m).2) (h.get Z) (h.loc F) rfl (.inl (l b)))
 .obtain⟨R,d⟩:=Bool.and_eq_true_iff.mp (show (u.R.contains s && (u.E.lookup s).any fun a=>a.contains c)=true from t);cases i:u.E.lookup s with
  | none=>rw [i] at d;cases d
  | some a=>rw [i] at d;exact ((h.exs.cl s a C R i Q).2.2.2 c S z g).2 d
theorem Ai {u:Cn}{X:Cx} (h:XOk u X) (s:∀x,X.fn x=true) (n:Nat) {t v:Expr}{C:Pos}{f:ES} (q:Aj u n t v=some f):PS X (.Assign [t] v C) (fP X.K f):=by
 have g:=jO n u X h;unfold Aj at q;split at q
 .rename_i x A;split at q
  .rename_i K;obtain⟨i,qi,q⟩:=av q;split at q
   .rename_i M;rw [Bool.and_eq_true] at M;obtain⟨J,m,rfl⟩:=az q;obtain⟨S,F⟩:=Iu m;exact yv i h.nd (vz h n 5 m) (h.get qi) (h.loc K) (nk (me (by simpa using M.2)) S F) (.inl (s x))
   have plain:(tr u n v).e.map (ay i)=some f->PS X (.Assign [.Name x A] v C) (fP X.K f):=fun q=>by
    obtain⟨J,m,rfl⟩:=az q;by_cases N:∃a b c d,v=.ListComp a b c d
    .obtain⟨a,b,c,d,rfl⟩:=N;obtain⟨k,l,iter,eh,T,rfl,rfl,B,rfl⟩:=CK m;have G:=uH (U:=d) h (jO k) B;have D:swapsWith (.ListComp a [⟨l,iter,eh,0⟩] c d) (some (.Name x A)) C.line X.env=pure (X.env.blockKind == .function && X.env.kindOf x == some .local && A.line == (Expr.ListComp a [⟨l,iter,eh,0⟩] c d).pos.line
      && !(c.names.any fun (n,k)=>n == x && (k == .local || k == .cell))):=rfl
     cases L:(X.env.blockKind == .function && X.env.kindOf x == some .local && A.line == (Expr.ListComp a [⟨l,iter,eh,0⟩] c d).pos.line && !(c.names.any fun (n,k)=>n == x && (k == .local || k == .cell))) with
     | true=>rw [L] at D;exact G.2 i h.nd D (h.get qi) (h.loc K) (.inl (s x))
     | false=>rw [L] at D;exact yv i h.nd (Hh G.1) (h.get qi) (h.loc K) D (.inl (s x))
    .have H:∀a b c d,v≠.ListComp a b c d:=fun a b c d z=>N ⟨a,b,c,d,z⟩;obtain⟨S,F⟩:=tH (show (tr u n v).e.isSome=true by rw [m];rfl);exact yv i h.nd ((g v).e J m) (h.get qi) (h.loc K) (nk H S F) (.inl (s x))
   split at q
   .rename_i R E;split at q
    .obtain⟨O,m,rfl⟩:=az q;obtain⟨lr,Z,Y,rfl,j⟩:=wK E;obtain⟨rfl,j⟩:=fV j;exact yv i h.nd (Fc (h.gl j) (h.blt _ (by decide)) ((g _).v O m) (bB (.inl (by rw [m];rfl)) _ _)) (h.get qi) (h.loc K) rfl (.inl (s x))
    .exact plain q
   split at q
   .rename_i I w;split at q
    .obtain⟨a,m,rfl⟩:=az q;unfold ED at w;split at w
     .cases w;exact yv i h.nd (Ia (eT (fun e _=>g e) m).1) (h.get qi) (h.loc K) rfl (.inl (s x))
     .cases w
    .exact plain q
   .exact plain q
  .cases q
 .rename_i o i W;obtain⟨x,m,q⟩:=av q;obtain⟨y,B,q⟩:=av q;split at q
  .cases q
  .rename_i r;obtain⟨z,P,rfl⟩:=az q;have H:∀a b c d,v≠.ListComp a b c d:=me (by simpa using r);obtain⟨S,F⟩:=Mr P H;exact HL ((g o).e x m) ((g i).v y B) ((g v).v z P) (nk H S F) rfl (tx (by rw [B];rfl))
 .rename_i I c p;split at q
  .cases q
  .rename_i r;rw [pR,not_or] at r;obtain⟨V,m,q⟩:=av q;obtain⟨z,P,rfl⟩:=az q;have H:∀a b c d,v≠.ListComp a b c d:=me (by simpa using r.1);obtain⟨S,F⟩:=Mr P H;exact KN ((g v).v z P) (xj h.calm h.hN h.nd (fun x Q=>⟨h.loc Q,.inl (s x)⟩) m) (show swapsWith v (some (.Tuple I c p)) C.line X.env=pure false from nk H S F) (Bf (by simpa using r.2)) rfl
 .cases q
theorem CM {u:Cn}{X:Cx} (h:XOk u X) (n:Nat) {e:Expr}{p:Pos}{f:ES} (q:Fv u n e=some f):PS X (.Expr e p) (fP X.K f):=by
 have g:=jO n u X h;unfold Fv at q;split at q
 .split at q
  .rename_i d;obtain⟨x,a,q⟩:=av q;obtain⟨y,k,rfl⟩:=az q;unfold x9 at d;split at d
   .rw [Bool.and_eq_true] at d;obtain⟨rfl,b,c⟩:=rj d.2;exact wY (w8 ((g _).e x a) (vz h n 5 k) (sQ k _ _) (eZ b (by decide)) c) rfl
   .cases d
  .obtain⟨x,a,rfl⟩:=az q;exact wY ((g _).e x a) rfl
 .split at q
  .cases q
  .rename_i s;obtain⟨x,a,rfl⟩:=az q;obtain⟨m,r⟩:=tH (by rw [a];rfl);exact wY ((g _).e x a) (nk (me (by simpa using s)) m r)
theorem Af {u:Cn}{X:Cx} (h:XOk u X) (s:∀x,X.fn x=true) (F:OnStack X) (n:Nat) {b:List Stmt}{d:List ExceptHandler}{t:Pos}{f:ES} (q:Ag u n b d=some f):PS X (.Try b d [] [] t) (fP X.K f):=by
 unfold Ag at q;split at q
 .rename_i f J B r D c L nm y M z N m p;split at q
  .rename_i gx Y;split at q
   .rename_i k;simp only [Bool.and_eq_true,pY] at k;obtain⟨⟨⟨⟨⟨⟨⟨⟨⟨v,w⟩,g⟩,i⟩,l⟩,o⟩,H⟩,S⟩,a⟩,e⟩:=k;obtain⟨j,A,q⟩:=av q;obtain⟨I,C,q⟩:=av q;obtain⟨G,K,q⟩:=av q;obtain⟨E,P,rfl⟩:=az q;cases bq a;exact CI h s F Y v w g i l o H S e A C K P
   .cases q
  .cases q
 .cases q
theorem qJ (h:XOk u X) (e:∀x,X.fn x=true) (p:PassesOwn (model X.prog X.w) X.A X.env X.xe) (t:OnStack X):∀n (st:Stmt) (f:ES),xh u n st=some f->PS X st (fP X.K f)
 | 0,st,f,q=>by cases q
 | n+1,st,f,q=>by
  have i:=qJ h e p t n;have g:=jO n u X h;unfold xh at q;split at q
  .exact Ai h e n q
  .obtain⟨x,a,rfl⟩:=az q;exact KO ((g _).e x a)
  .exact CM h n q
  .obtain⟨c,a,q⟩:=av q;obtain⟨x,m,q⟩:=av q;obtain⟨y,j,rfl⟩:=az q;exact MX ((g _).b c a) (fO i m) (fO i j)
  .split at q
   .rename_i k s;obtain⟨v,a,q⟩:=av q;obtain⟨b,m,rfl⟩:=az q;unfold EG at s;split at s
    .rename_i o H;split at s
     .obtain⟨z,Q,rfl,r,s⟩:=xg s;unfold xH at a;dsimp only at a;split at a
      .exact HM p h.calm (iO ((g _).e v a)) (BE k h.nd (h.get s) (h.loc r) (.inl (e _))) (fO i m) fun _=>rfl
      .cases a
     .cases s
    .cases s
   obtain⟨l,w,q⟩:=av q;obtain⟨v,a,q⟩:=av q;obtain⟨b,m,rfl⟩:=az q;exact KQ p h.calm (Bv h g a) (xj h.calm h.hN h.nd (fun x d=>⟨h.loc d,.inl (e x)⟩) w) (fO i m) fun x=>nz a _ x
  .obtain⟨c,a,q⟩:=av q;obtain⟨b,m,rfl⟩:=az q;exact E3 p ((g _).b c a) (fO i m)
  .cases q;exact E5
  .exact Af h e t n q
  .cases q
noncomputable def vy (T:Stmt->Option ES) (h:Stmt->EX):List Stmt->EX
 | []=>zM
 | [s]=>h s
 | s::r=>match T s with
  | some f=>Ct f (h s) (vy T h r)
  | none=>h s
noncomputable def Hn (u:Cn):Nat->Stmt->EX
 | 0,_=>zM
 | n+1,st=>match st with
  | .If c a b _=>match (tr u n c).b with
   | some q=>zV q (vy (xh u n) (Hn u n) a) (vy (xh u n) (Hn u n) b)
   | none=>zM
  | .For l iter o [] _=>match yG u.N u.ks [.local,.cell] l,yI u (fun y=>tr u n y) l iter,n7 (xh u n) o with
   | some g,some i,some b=>Fd i g b (vy (xh u n) (Hn u n) o)
   | _,_,_=>zM
  | .Raise (some (.Call (.Name c _) [] [] _)) none _=>if (u.R.contains c && bj u.ks c [.globalImplicit] && b9 c)=true then mE c else zM
  | .Expr (.Call (.Name f _) B [] _) _=>match u.Y f,mK (B.map fun w=>(tr u n w).e) with
   | some gx,some s=>if (bj u.ks f [.globalImplicit] && b9 f && !B.isEmpty)=true then gL gx s else zM
   | _,_=>zM
  | _=>zM
theorem Ik {X:Cx}{st:Stmt}{f:EX} (h:PS X st (Ke X f)):PS X st (tX X f):=h.imp' fun _ _ _ z=>Lq z
theorem jP (x:∀st f,T st=some f->PS X st (fP X.K f)) (h:∀st,PS X st (tX X (b st))):∀aq:List Stmt,fN X aq (tX X (vy T b aq))
 | []=>K0
 | [s]=>HU (h s)
 | s::t::r=>by
  unfold vy;split
  .rename_i a e;exact E_ (x s a e) (h s) (jP x h (t::r))
  .exact (j0 (h s) (kM (X:=X))).imp' fun _ _ _ z=>z
theorem Ae (h:XOk u X) (f:∀x,X.fn x=true) (p:PassesOwn (model X.prog X.w) X.A X.env X.xe) (k:OnStack X):∀n (st:Stmt),PS X st (tX X (Hn u n st))
 | 0,st=>vg
 | n+1,st=>by
  have e:=Ae h f p k n;have i:=qJ h f p k n;have g:=jO n u X h;unfold Hn;split
  .split
   .rename_i q a;exact Lh ((g _).b q a) (jP i e _) (jP i e _)
   .exact vg
  .split
   .rename_i w j b v a s;exact Ij p h.calm (Bv h g a) (xj h.calm h.hN h.nd (fun x t=>⟨h.loc t,.inl (f x)⟩) v) (fO i s) (jP i e _) fun x=>nz a _ x
   .exact vg
  .split
   .rename_i c;rw [Bool.and_eq_true,Bool.and_eq_true] at c;obtain⟨C,r,_⟩:=h.exs.own _ (h.exs.rE _ c.1.1);obtain⟨m,q⟩:=h.exs.rs _ C c.1.1 r;exact Cv h.calm (h.gl c.1.2) r m q (b_ c.2).1
   .exact vg
  .split
   .rename_i gx d Y s;split
    .rename_i c;simp only [Bool.and_eq_true,pY] at c;exact Ik (zY (uP h Y c.1.1 c.1.2 c.2 s) rfl)
    .exact vg
   .exact vg
  .exact vg
structure Df where
 name:Str
 short:Str
 cls:Str
 st:Stmt
 N:LS
 ps:LS
 own:LS
 deep:LS
 refs:LS
noncomputable abbrev At:=List (Str×LS)
noncomputable def aT (T:At) (c f:Str):Bool:=T.any fun x=>decide (x.1=c) && x.2.contains f
noncomputable def fT (D:List Df) (h:Str->GF) (x:Str):Option GF:=if (D.any fun d=>decide (d.name=x) && d.cls.cps.isEmpty)=true then some (h x) else none
noncomputable def Kq (c m:Str) (d:Df):Bool:=decide (d.cls=c) && decide (d.short=m) && !d.cls.cps.isEmpty
noncomputable def mT (D:List Df) (h:Str->GF) (c m:Str):Option GF:=if m=("__init__":Str) then none else (D.find? (Kq c m)).map fun d=>h d.name
noncomputable def L5 (D:List Df) (h:Str->GF) (c:Str):Option GF:=(D.find? (Kq c "__init__")).map fun d=>h d.name
noncomputable abbrev Ex:=List (Str×LS)
noncomputable abbrev P3:=(Str->GF)×(Str->Option GF)×(Str->GX)
noncomputable def KR (D:List Df) (h:Str->GX) (x:Str):Option GX:=if (D.any fun d=>decide (d.name=x) && d.cls.cps.isEmpty)=true then some (h x) else none
noncomputable def Hv (G:Str->Option P) (T:At) (E:Ex) (R:LS) (D:List Df) (p:P3) (d:Df):Cn:=⟨d.N,d.own,d.deep,d.refs,(aP d.st).names,fT D p.1,G,aT T,mT D p.1,p.2.1,E,R,KR D p.2.2⟩
noncomputable def sh (G:Str->Option P) (T:At) (E:Ex) (R:LS) (D:List Df) (p:P3) (d:Df):ES:=(n7 (xh (Hv G T E R D p d) 60) (dc d.st)).getD mY
noncomputable def uR (G:Str->Option P) (T:At) (E:Ex) (R:LS) (D:List Df) (p:P3) (d:Df):EX:=vy (xh (Hv G T E R D p d) 60) (Hn (Hv G T E R D p d) 60) (dc d.st)
noncomputable def iw (R:LS) (gx:GX):GX:=fun d S=>(gx d S).bind fun z=>if R.contains z.1=true then some z else none
noncomputable def i5 (G:Str->Option P) (T:At) (E:Ex) (R:LS) (D:List Df):Nat->P3
 | 0=>(fun _ _ _=>none,fun _=>none,fun _ _ _=>none)
 | n+1=>(fun x=>match D.find? fun d=>decide (d.name=x) with
  | some d=>cq d.ps.length d.N.length (sh G T E R D (i5 G T E R D n) d)
  | none=>fun _ _=>none,L5 D (i5 G T E R D n).1,fun x=>match D.find? fun d=>decide (d.name=x) with
  | some d=>iw R (fnX d.ps.length d.N.length (uR G T E R D (i5 G T E R D n) d))
  | none=>fun _ _=>none)
noncomputable def JV (G:Str->Option P) (T:At) (E:Ex) (R:LS) (D:List Df) (n:Nat):Str->GF:=(i5 G T E R D n).1
noncomputable def JU (G:Str->Option P) (T:At) (E:Ex) (R:LS) (D:List Df) (n:Nat):Str->GX:=(i5 G T E R D n).2.2
variable {S:aR}
theorem ub (h:iw R gx d S=some z):gx d S=some z/\R.contains z.1=true:=by
 obtain⟨y,e,q⟩:=Option.bind_eq_some_iff.mp h;split at q
 .rename_i c;cases q;exact⟨e,c⟩
 .cases q
noncomputable def Kh (d:Df):Bool:=decide ((aP d.st).kind=.function) && !(aP d.st).isCoroutine && !(aP d.st).isGenerator && decide d.N.Nodup && decide (d.N.take d.ps.length=d.ps)
 && d.ps.all (fun x=>(aP d.st).names.lookup x == some .local || (aP d.st).names.lookup x == some .cell) && (aP d.st).names.all (fun y=>y.2 != .free)
theorem FE (h:Kh d=true):FnScope d.N d.ps (aP d.st):=by
 unfold Kh at h;simp only [Bool.and_eq_true] at h;obtain⟨⟨⟨⟨⟨⟨a,e⟩,s⟩,n⟩,k⟩,f⟩,b⟩:=h;refine⟨bq a,by simpa using e,by simpa using s,bq n,bq k,fun x c=>?_,fun y m=>?_⟩
 .have:=aW.mp f x c;simpa using this
 .have:=aW.mp b y m;simpa using this
structure DOk (K:FG) (mg:SV) (d:Df) (f:Addr) (fd:FuncData):Prop where
 fn:Fun K d.short d.name d.st f fd
 bd:Binds K fd d.ps []
 gl:d.cls.cps.isEmpty=true->mg d.name=some (.ref f)
 cl:d.cls.cps.isEmpty=false->∃C,uZ K d.cls C/\mg d.cls=some (.ref C)/\Cls K C/\(d.short=("__init__":Str)->Mk K C f)/\(d.short≠("__init__":Str)->Meth K C d.short f)
structure TOk (w:World) (G:Str->Option P) (T:At) (E:Ex) (R:LS) (D:List Df) (K:FG) (mg:SV):Prop where
 ex:ExsOk K mg E R
 fn:∀d ∈ D,∃f fd,DOk K mg d f fd
 sc:D.all Kh=true
 un:(D.map (·.name)).Nodup
 z:∀x ∈ D',mg x=none
 gl:∀x v,G x=some v->i1 w K mg x v
 at':MW K (aT T)
theorem jF:∀{D:List Df}{d:Df},(D.map (·.name)).Nodup->d ∈ D->(D.find? fun e=>decide (e.name=d.name))=some d
 | [],_,_,h=>by cases h
 | a::r,d,x,h=>by
  rw [List.map_cons,List.nodup_cons] at x;rcases List.mem_cons.mp h with h | h
  .subst h;simp
  .have n:¬a.name=d.name:=fun z=>x.1 (by rw [z];exact bb.mpr ⟨d,h,rfl⟩);rw [List.find?_cons_of_neg (by simpa using n)];exact jF x.2 h
theorem B8 {D:List Df}{x:Str}{a:Str->GF}{g:GF} (h:fT D a x=some g):∃d ∈ D,d.name=x/\d.cls.cps.isEmpty=true/\g=a x:=by
 unfold fT at h;split at h
 .rename_i c;cases h;obtain⟨d,s,e⟩:=jm.mp c;rw [Bool.and_eq_true] at e;exact⟨d,s,bq e.1,e.2,rfl⟩
 .cases h
theorem Bz (h:Kq c b d=true):d.cls=c/\d.short=b/\d.cls.cps.isEmpty=false:=by unfold Kq at h;simp only [Bool.and_eq_true] at h;exact⟨bq h.1.1,bq h.1.2,by simpa using h.2⟩
theorem B9 {D:List Df}{x:Str->GF}{c m:Str}{g:GF} (h:mT D x c m=some g):m≠("__init__":Str)/\∃d ∈ D,d.cls=c/\d.short=m/\d.cls.cps.isEmpty=false/\g=x d.name:=by
 unfold mT at h;split at h
 .cases h
 .rename_i n;obtain⟨d,q,rfl⟩:=az h;obtain⟨a,e,s⟩:=Bz (pS q);exact⟨n,d,List.mem_of_find?_eq_some q,a,e,s,rfl⟩
theorem B_ {D:List Df}{x:Str->GF}{c:Str}{g:GF} (h:L5 D x c=some g):∃d ∈ D,d.cls=c/\d.short=("__init__":Str)/\d.cls.cps.isEmpty=false/\g=x d.name:=by unfold L5 at h;obtain⟨d,q,rfl⟩:=az h;obtain⟨a,e,s⟩:=Bz (pS q);exact⟨d,List.mem_of_find?_eq_some q,a,e,s,rfl⟩
theorem JP {D:List Df}{x:Str}{a:Str->GX}{g:GX} (h:KR D a x=some g):∃d ∈ D,d.name=x/\d.cls.cps.isEmpty=true/\g=a x:=by
 unfold KR at h;split at h
 .rename_i c;cases h;obtain⟨d,s,e⟩:=jm.mp c;rw [Bool.and_eq_true] at e;exact⟨d,s,bq e.1,e.2,rfl⟩
 .cases h
theorem zy (h:ExsOk K y E R) (gx:GX):BS K (iw R gx):=fun d S c x q=>by obtain⟨C,n,_⟩:=h.own c (h.rE c (ub q).2);exact⟨C,n⟩
theorem x8 {G:Str->Option P}{T:At}{E:Ex}{R:LS}{D:List Df}{O:Program}{w:World}{K:FG}{y:SV}{base:Heap} (i:TOk w G T E R D K y):∀n,(∀d ∈ D,
  ∀f j,Fun K d.short d.name d.st f j->FnOk O w K y base sG n f j d.ps (sZ K (JV G T E R D n d.name))/\FnOk O w K y base (zK O w) n f j d.ps (Hq K (JU G T E R D n d.name))) /\
  (∀x,BS K (JU G T E R D n x)) /\
  ∀c g,(i5 G T E R D n).2.1 c=some g->∃m,n=m+1/\∃C f j ps,uZ K c C/\y c=some (.ref C)/\Mk K C f/\FnOk O w K y base sG m f j ps (sZ K g)/\Binds K j ps []
 | 0=>by
  have no:∀x Z H Q E0,¬Hq K (JU G T E R D 0 x) Z H Q E0:=fun x Z H Q E0 h=>by obtain⟨F,m,ds,S,c,U,_,_,q,_⟩:=h;cases (show (none:Option (Str×aR))=some (c,U) from q)
  refine⟨fun d W f j hF=>⟨BG,fun Z H Q E0 h=>absurd h (no _ Z H Q E0),fun A o s H B us Z Q E0 _ _ _ _ h=>absurd h (no _ Z H Q E0)⟩,fun x=>fun ds S c U q=>?_,fun c g h=>?_⟩
  .cases (show (none:Option (Str×aR))=some (c,U) from q)
  .cases (show (none:Option GF)=some g from h)
 | n+1=>by
  have ih:=x8 (O:=O) (w:=w) (base:=base) i n;refine⟨fun d W f j hF=>?_,fun x=>?_,fun c g h=>?_⟩
  .have e:JV G T E R D (n+1) d.name=cq d.ps.length d.N.length (sh G T E R D (i5 G T E R D n) d):=by
    show (match D.find? fun t=>decide (t.name=d.name) with | some d=>cq d.ps.length d.N.length (sh G T E R D (i5 G T E R D n) d) | none=>fun _ _=>none)=_;rw [jF i.un W]
   have ex:JU G T E R D (n+1) d.name=iw R (fnX d.ps.length d.N.length (uR G T E R D (i5 G T E R D n) d)):=by show (match D.find? fun t=>decide (t.name=d.name) with | some d=>iw R (fnX d.ps.length d.N.length (uR G T E R D (i5 G T E R D n) d)) | none=>fun _ _=>none)=_;rw [jF i.un W]
   rw [e,ex];have J:=FE (aW.mp i.sc d W);have XO:∀(v:Value) (A:Around) (o:List Env) (s:Shared) (H:Hp) (M:XK),Room n (A.deeper (envOfC d.name (aP d.st) s.heap.objs.size f v)) ->
     XOk (Hv G T E R D (i5 G T E R D n) d) (lQ (zK O w) O w K y base d.N d.name (aP d.st) f v A o s H M):=fun v A o s H M I=>{
    hN:=rfl
    nd:=J.nd
    ks:=rfl
    kd:=J.kind
    calm:=rfl
    hu:=by have:=I.un;show (A.deeper (envOfC d.name (aP d.st) s.heap.objs.size f v)).units+64 < _;lia
    fns:=fun x g Y=>by obtain⟨t,u,hn,V,rfl⟩:=B8 Y;obtain⟨z,a,p⟩:=i.fn t u;subst hn;exact⟨n,z,a,t.ps,(ih.1 t u z a p.fn).1,I,p.gl V,p.fn.kp,p.bd⟩
    blt:=i.z
    glb:=i.gl
    attrs:=i.at'
    meths:=fun c m g Y=>by obtain⟨hm,t,u,rfl,rfl,V,rfl⟩:=B9 Y;obtain⟨z,a,p⟩:=i.fn t u;obtain⟨C,c1,c2,c3,c4,c5⟩:=p.cl V;exact⟨C,n,z,a,t.ps,c1,c3,c5 hm,(ih.1 t u z a p.fn).1,I,p.bd⟩
    mks:=fun c g Y=>by obtain⟨m,rfl,C,z,a,ps,c1,c2,c3,c4,c5⟩:=ih.2.2 c g Y;exact⟨C,m,z,a,ps,c1,c2,c3,c4,I,c5⟩
    exs:=i.ex
    ys:=fun x gx Y=>by obtain⟨t,u,hn,V,rfl⟩:=JP Y;obtain⟨z,a,p⟩:=i.fn t u;subst hn;exact⟨ih.2.1 t.name,n,z,a,t.ps,(ih.1 t u z a p.fn).2,I,p.gl V,p.fn.kp,p.bd⟩ }
   refine⟨GR (N:=d.N) hF J fun v A o s H M I=>?_,FnOk.imp (GQ (N:=d.N) (b:=uR G T E R D (i5 G T E R D n) d) hF J (fun r=>r.toSt) fun v A o s H M I=>?_) fun Z H Q M h=>?_⟩
   .have X:XOk (Hv G T E R D (i5 G T E R D n) d) (lQ sG O w K y base d.N d.name (aP d.st) f v A o s H M).nox:=(XO v A o s H M I).more (fun _ _=>False) [];unfold sh;cases q:n7 (xh (Hv G T E R D (i5 G T E R D n) d) 60) (dc d.st) with
    | none=>exact kM.imp' fun D σ H hz=>by obtain⟨F,m,L,S,fl,L',U,r,l,q,k⟩:=hz;cases q
    | some b=>exact fO (fun st f q=>qJ X (fun _=>rfl) PassesOwn.never ⟨rfl,rfl,rfl⟩ 60 st f q) q
   .have X:=XO v A o s H M I;exact jP (fun st f q=>qJ X (fun _=>rfl) PassesOwn.leaving ⟨rfl,rfl,rfl⟩ 60 st f q) (fun st=>Ae X (fun _=>rfl) PassesOwn.leaving ⟨rfl,rfl,rfl⟩ 60 st) (dc d.st)
   .obtain⟨F,m,ds,S,c,U,rl,r,q,k⟩:=h;exact⟨F,m,ds,S,c,U,rl,r,(ub q).1,k⟩
  .show BS K (match D.find? fun t=>decide (t.name=x) with | some d=>iw R (fnX d.ps.length d.N.length (uR G T E R D (i5 G T E R D n) d)) | none=>fun _ _=>none);split
   .exact zy i.ex _
   .exact fun ds S c U q=>nomatch q
  .obtain⟨d,W,rfl,hs,V,rfl⟩:=B_ (x:=(i5 G T E R D n).1) h;obtain⟨f,j,p⟩:=i.fn d W;obtain⟨C,c1,c2,c3,c4,c5⟩:=p.cl V;exact⟨n,rfl,C,f,j,d.ps,c1,c2,c4 hs,(ih.1 d W f j p.fn).1,p.bd⟩
theorem t_:∀s:List Int,bR K F H (s.map .int) (s.map V.int)
 | []=>rfl
 | n::r=>⟨_,_,rfl,rfl,t_ r⟩
theorem Gu {K:FG}{H:Hp}{a:Addr}{n:List Int}{g:GF}{E:XK} (O:zJ H) (S:eN K H a (n.map V.int)) (h:pureOf g [.ro (n.map .int)]=some (.bl true)):sZ K g [.ref a] H (fun v _=>v=.bl true) E:=by
 refine mR ⟨fun b=>b=a/\H a≠none,[.ro (n.map .int)],.bl true,fun b x=>(by rw [x.1];exact x.2),⟨_,_,rfl,⟨a,_,rfl,?_,t_ n⟩,rfl⟩,h,fun v F s _ r=>r⟩;rcases S with S | S
 .rcases O a with z | ⟨o,k,z⟩
  .rcases S with S | ⟨o,S⟩ <;> rw [z] at S <;> cases S
  .rcases S with S | ⟨e,S⟩
   .rw [z] at S;cases S
   .exact .inl ⟨⟨rfl,by rw [z];exact fun q=>nomatch q⟩,e,S⟩
 .exact .inr (.inr S)
open PySem L2
section
variable (L:Lc) (S:aR)
@[simp] theorem Ip (v:P):vC v L S=some (v,S):=rfl
@[simp] theorem x2 (i:Nat):ac i L S=match L[i]? with | some (some d)=>some (d,S) | _=>none:=rfl
@[simp] theorem Ek (f:EE):vE f L S=ba (f L S) (jx 9):=rfl
@[simp] theorem Jy (f:EV):eV f L S=ba (f L S) fun v h=>some (.p v,h):=rfl
@[simp] theorem J7 (i:Nat):Ll i L S=ba (ac i L S) (jx 9):=rfl
@[simp] theorem Fp (g:P->P->Option P) (a b:EV):ag g a b L S=ba (a L S) fun x h=>ba (b L h) fun y e=>(g x y).map fun v=>(v,e):=rfl
@[simp] theorem Lm (g:P->Option P) (a:EV):CB g a L S=ba (a L S) fun x h=>(g x).map fun v=>(v,h):=rfl
@[simp] theorem MQ (a:EV):bV a L S=ba (a L S) fun x h=>match x with | .bl b=>some (b,h) | _=>none:=rfl
@[simp] theorem KE (a b:EB):c9 a b L S=ba (a L S) fun c h=>if c=true then b L h else some (false,h):=rfl
@[simp] theorem Mg (a b:EB):nW a b L S=ba (a L S) fun c h=>if c=true then some (true,h) else b L h:=rfl
@[simp] theorem KD (a:EB):ec a L S=ba (a L S) fun c h=>some (!c,h):=rfl
@[simp] theorem KC:aZ L S=some (true,S):=rfl
@[simp] theorem Ms (a:EB):vB a L S=ba (a L S) fun c h=>some (.bl c,h):=rfl
@[simp] theorem Ln (c:EB) (a b:EV):Io c a b L S=ba (c L S) fun k h=>if k=true then a L h else b L h:=rfl
@[simp] theorem z6:aO L S=some ([],S):=rfl
@[simp] theorem yB (a:EV) (r:f6):aM a r L S=ba (a L S) fun x h=>ba (r L h) fun s e=>some (x::s,e):=rfl
@[simp] theorem J8 (a:f6):aj a L S=ba (a L S) fun x h=>if ku x=true then some (.tup x,h) else none:=rfl
@[simp] theorem Ka (a:f6):ar a L S=ba (a L S) fun x h=>if ku x=true then some (.lst x,h) else none:=rfl
@[simp] theorem Kv (a:f6):gA a L S=ba (a L S) fun x h=>if ku x=true then some (.ref h.length,h++[.lst (x.map .p)]) else none:=rfl
@[simp] theorem z7 (g:List P->Option P) (a:f6):al g a L S=ba (a L S) fun x h=>(g x).map fun v=>(v,h):=rfl
@[simp] theorem Kb (r:EE):ck r L S=ba (r L S) fun d h=>match bC d h with | some n=>some (.int (n:Int),h) | none=>none:=by
 unfold ck;cases r L S with
 | none=>rfl
 | some z=>obtain⟨d,h⟩:=z;rw [iC,iC];cases bC d h <;> rfl
@[simp] theorem J_ (a:EV) (lo h:EO):bK a lo h L S=ba (a L S) fun x e=>ba (lo L e) fun i s=>ba (h L s) fun j n=>(cT x i j).map fun v=>(v,n):=rfl
@[simp] theorem LF:d_ L S=some (.nx,L,S):=rfl
@[simp] theorem aa (f g:ES):ak f g L S=match f L S with | some (.nx,c,q)=>g c q | b=>b:=rfl
@[simp] theorem Kj (i:Nat) (f:EE):ay i f L S=ba (f L S) fun d h=>some (.nx,L.set i (some d),h):=rfl
@[simp] theorem C0 (f:EE):aQ f L S=ba (f L S) fun d h=>some (.rt d,L,h):=rfl
@[simp] theorem II (f:EE):cM f L S=ba (f L S) fun _ h=>some (.nx,L,h):=rfl
@[simp] theorem Im (a:Str->Option Bool) (f:EE):ie a f L S=ba (f L S) fun d h=>(wr a d h).map fun b=>(.bl b,h):=rfl
@[simp] theorem K9:zM L S=none:=rfl
@[simp] theorem J4 (h:ES) (f g:EX):Ct h f g L S=match h L S with | some (.nx,b,c)=>g b c | some _=>none | none=>f L S:=rfl
@[simp] theorem J5 (c:EB) (f g:EX):zV c f g L S=ba (c L S) fun k h=>if k=true then f L h else g L h:=rfl
@[simp] theorem J6 (i:f6) (g:i0) (b:ES) (x:EX):Fd i g b x L S=ba (i L S) fun s h=>jt g b x s L h:=rfl
@[simp] theorem Hg (c:Str):mE c L S=some (c,L,S):=rfl
@[simp] theorem Hi (gx:GX) (a:pP):gL gx a L S=ba (a L S) fun d h=>(gx d h).map fun z=>(z.1,L,z.2):=rfl
@[simp] theorem FH (c:EB) (a b:ES):dt c a b L S=ba (c L S) fun k h=>if k=true then a L h else b L h:=rfl
@[simp] theorem Kk (i:f6) (g:i0) (b:ES):jX i g b L S=ba (i L S) fun x h=>cA g b x L h:=rfl
@[simp] theorem Kr (i:Nat) (v:P):ah i v L=some (L.set i (some (.p v))):=rfl
@[simp] theorem GI (a:EV):eM a L S=ba (a L S) fun v h=>match v with | .lst b=>some (b,h) | .ro b=>some (b,h) | .tup b=>some (b,h) | .str x=>if (x.cps.all (· < 128))=true then some (signs x,h) else none | _=>none:=rfl
@[simp] theorem gN (f:EE) (O:List Nat) (n k:Nat) (c:EB) (e:EV):cW f O n k c e L S=match f L S with
 | some (.p _,_)=>au (eM (vE f)) O n (ah k) c e L S
 | _=>jv f O n k c e L S:=rfl
@[simp] theorem JA (a:EV):x3 a L S=ba (a L S) fun v h=>(yc v).map fun x=>(.ref h.length,h++[.lst (x.map .p)]):=rfl
@[simp] theorem Hk (f:EE) (O:List Nat) (n k:Nat) (c:EB) (e:EV):jv f O n k c e L S=ba (f L S) fun d h=>match d with
 | .ref j=>match h[j]? with
  | some (.lst _)=>ba (gC j k c e 1000 0 (c_ O n L) h) fun y x=>some (.lst y,x)
  | _=>none
 | _=>none:=rfl
@[simp] theorem IH (e:EE) (k:Nat) (b:ES):xx e k b L S=ba (e L S) fun d h=>match d with
 | .ref j=>match h[j]? with
  | some (.lst _)=>oh j k b 1000 0 L h
  | _=>none
 | _=>none:=rfl
@[simp] theorem Hj (f h:EV):ju f h L S=ba (f L S) fun v x=>match v with
 | .lst s=>ba (h L x) fun y a=>match y with
  | .int m=>(ik s m).map fun b=>(P.bl b,a)
  | _=>none
 | _=>none:=rfl
@[simp] theorem Fq (a:EV):jN a L S=ba (a L S) fun v h=>match v with | .lst b=>(kL b).map fun n=>(P.int (n:Int),h) | _=>none:=by unfold jN;rfl
@[simp] theorem J9 (a:EV) (lo h st:EO):CC a lo h st L S=ba (a L S) fun x e=>ba (lo L e) fun i s=>ba (h L s) fun j n=>ba (st L n) fun c k=>match x,c with
 | .lst f,some c=>if c=0 then none else some (.lst (hJ f i j (some c)),k)
 | _,_=>none:=rfl
@[simp] theorem Ma (r:EE) (k:EV):fI r k L S=ba (r L S) fun d x=>ba (k L x) fun y h=>match d with
 | .p v=>(aA v y).map fun z=>(.p z,h)
 | .ref i=>match h[i]? with
  | some (.lst s)=>(match y with
   | .int j=>(L2.atI s j).map fun z=>(z,h)
   | _=>none)
  | some (.fz v)=>(aA v y).map fun z=>(.p z,h)
  | some (.dct a e)=>(match fU y with
   | some k=>(jc k a e).map fun z=>(z,h)
   | none=>none)
  | _=>none:=rfl
@[simp] theorem Ku (r:EE):BL r L S=ba (r L S) fun d h=>match cO d h with
 | some (i,s)=>match s[s.length-1]? with
  | some x=>some (x,h.set i (.lst s.dropLast))
  | none=>none
 | none=>none:=rfl
@[simp] theorem GY (r a:EE):da r a L S=ba (r L S) fun d h=>match cO d h with
 | none=>none
 | some _=>ba (a L h) fun x e=>match cO d e with
  | some (i,s)=>if ku s=true then some (.p .non,e.set i (.lst (s++[x]))) else none
  | none=>none:=rfl
end
variable {m:Type}
@[simp] theorem L9 (x:List m):(ku x=true)=(x.length≤1000000):=by unfold ku;simp
@[simp] theorem yi (n:Nat):(fM n=true)=(n≤1000000):=by unfold fM;simp
theorem aI {m:Type}{s:List m}{i:Int}{x:m} (a:0≤i) (h:s[i.toNat]? = some x):L2.atI s i=some x:=by have l:=(bw.mp h).1;unfold L2.atI L2.wq;rw [if_pos a,if_pos (by lia)];exact h
@[simp] theorem JN (x:m) (s:List m):L2.atI (x::s) 0=some x:=aI (by lia) rfl
@[simp] theorem KH (x y:m) (s:List m):L2.atI (x::y::s) 1=some y:=aI (by lia) rfl
@[simp] theorem KG (x y z:m) (s:List m):L2.atI (x::y::z::s) 2=some z:=aI (by lia) rfl
@[simp] theorem HH (x y z w:m) (s:List m):L2.atI (x::y::z::w::s) 3=some w:=aI (by lia) rfl
@[simp] theorem dY (x:List P) (i:Int):aA (.tup x) (.int i)=L2.atI x i:=rfl
@[simp] theorem cJ (x:List P) (i:Int):aA (.lst x) (.int i)=L2.atI x i:=rfl
@[simp] theorem Md (x:List P) (i:Int):aA (.ro x) (.int i)=L2.atI x i:=rfl
@[simp] theorem Kz (k:List cS) (v:List P) (x:Str):aA (.dct k v) (.str x)=jc (.inr x) k v:=rfl
@[simp] theorem JG (i j:Int):rZ (.int i) (.int j)=some (.bl (decide (i=j))):=rfl
@[simp] theorem JF (i j:Str):rZ (.str i) (.str j)=some (.bl (decide (i=j))):=rfl
@[simp] theorem KA (i j:Bool):rZ (.bl i) (.bl j)=some (.bl (decide (i=j))):=rfl
@[simp] theorem Kx (i j:Int):HA (.int i) (.int j)=some (.bl (!decide (i=j))):=rfl
@[simp] theorem Kw (i j:Str):HA (.str i) (.str j)=some (.bl (!decide (i=j))):=rfl
@[simp] theorem Mc (i j:Bool):HA (.bl i) (.bl j)=some (.bl (!decide (i=j))):=rfl
@[simp] theorem JH (i j:Int):lP (.int i) (.int j)=some (.int (i+j)):=rfl
@[simp] theorem JE (i j:Int):rY (.int i) (.int j)=if hL i j=true then some (.int (i * j)) else none:=rfl
@[simp] theorem JD (i:Int):rX (.int i)=some (.int (-i)):=rfl
variable {v:P}
theorem tv (h:g (b.map .p) []=some (.p v,S)):pureOf g b=some v:=by unfold pureOf;rw [h];simp
theorem ap (e n:Nat) (b:ES) (s:List P):pureOf (cq e n b) s=if s.length=e then match b (s.map (fun p=>some (.p p))++List.replicate (n-s.length) none) [] with
 | some (.rt d,_,S)=>(jx 9 d S).map (·.1)
 | some (.nx,_,_)=>some .non
 | _=>none else none:=by
 unfold pureOf cq;rw [List.length_map,List.map_map];by_cases h:s.length=e
 .rw [if_pos h,if_pos h];show (match (match b (s.map (fun p=>some (D.p p))++List.replicate (n-s.length) none) [] with
   | some (.rt d,_,a)=>some (d,a)
   | some (.nx,_,a)=>some (.p .non,a)
   | _=>none:Option (D×aR)) with
   | some (d,S)=>(jx 9 d S).map (fun (x:P×aR)=>x.1)
   | none=>none)=_
  cases b (s.map (fun p=>some (D.p p))++List.replicate (n-s.length) none) [] with
  | none=>rfl
  | some z=>obtain⟨f,L,S⟩:=z;cases f <;> simp
 .rw [if_neg h,if_neg h]
theorem dB (h:g v L=some q) (x:b q S=some (.nx,L2,d)):cA g b (v::c) L S=cA g b c L2 d:=by simp [cA,h,x]
theorem ue (h:g v L=some q) (x:b q S=some (.rt d,L2,w)):cA g b (v::c) L S=some (.rt d,L2,w):=by simp [cA,h,x]
theorem mG {c:EB}{b:ES}{n:Nat}{L L2:Lc}{S h x:aR} (a:c L S=some (true,h)) (e:b L h=some (.nx,L2,x)):dR c b (n+1) L S=dR c b n L2 x:=by simp [dR,a,e]
theorem sH {c:EB}{b:ES}{n:Nat}{L:Lc}{S h:aR} (x:c L S=some (false,h)):dR c b (n+1) L S=some (.nx,L,h):=by simp [dR,x]
section
variable (L:Lc) (S:aR)
@[simp] theorem J' (g:D->D->aR->Option P) (a b:EE):aG g a b L S=ba (a L S) fun x e=>ba (b L e) fun y h=>(g x y h).map fun v=>(v,h):=rfl
@[simp] theorem MR (a:EE):bT a L S=ba (a L S) fun d h=>(sP d h).map fun b=>(b,h):=rfl
@[simp] theorem Hl (g e:P->P->Option P) (a b c:EV):fA g e a b c L S=ba (a L S) fun x s=>ba (b L s) fun y h=>match g x y with
 | some (.bl true)=>ba (c L h) fun z n=>(e y z).map fun v=>(v,n)
 | some (.bl false)=>some (.bl false,h)
 | _=>none:=rfl
@[simp] theorem L3 (a:EV):Jp a L S=ba (a L S) fun v h=>match v with | .lst b=>some (em 0 b,h) | .ro b=>some (em 0 b,h) | _=>none:=rfl
@[simp] theorem Ko (a:EV):jA a L S=ba (a L S) fun x h=>match x with | .int n=>if (decide (n.natAbs < 1000000))=true then some (intsFrom 0 n.toNat,h) else none | _=>none:=by
 unfold jA;cases a L S with
 | none=>rfl
 | some z=>obtain⟨x,h⟩:=z;cases x <;> first | rfl | simp
@[simp] theorem GW (r:EE) (a:EV):eE r a L S=ba (r L S) fun d h=>match cO d h with
 | none=>none
 | some _=>ba (a L h) fun x e=>match cO d e,x with
  | some (i,s),.lst y=>if fM (s.length+y.length)=true then some (.p .non,e.set i (.lst (s++y.map .p))) else none
  | _,_=>none:=rfl
@[simp] theorem JB:bG L S=some ([],S):=rfl
@[simp] theorem Hz (a:EE) (r:pP):aw a r L S=ba (a L S) fun x h=>ba (r L h) fun s e=>some (x::s,e):=rfl
@[simp] theorem Jz (a:pP):pz a L S=ba (a L S) fun x h=>if ku x=true then some (.ref h.length,h++[.lst x]) else none:=rfl
@[simp] theorem Hy (g:GF) (a:pP):k8 g a L S=ba (a L S) fun d h=>g d h:=rfl
@[simp] theorem Hm (g:GF) (a:pP):bu g a L S=ba (a L S) fun s h=>ba (g s h) fun d x=>ba (jx 9 d x) fun v e=>some (v,trunc h.length e):=rfl
@[simp] theorem Kc (T:String) (f:EE):vm T f L S=ba (f L S) fun d h=>(y' T d h).map fun b=>(.bl b,h):=rfl
@[simp] theorem Ki (g:i0) (f:EV):i3 g f L S=ba (f L S) fun v h=>match g v L with | some b=>some (.nx,b,h) | none=>none:=rfl
@[simp] theorem Jv (g:List i0) (v:List P):cP g (.tup v) L=nI g v L:=rfl
@[simp] theorem Jt:nI [] [] L=some L:=rfl
@[simp] theorem Ht (g:i0) (s:List i0) (v:P) (h:List P):nI (g::s) (v::h) L=match g v L with | some b=>nI s h b | none=>none:=rfl
@[simp] theorem L4 (T:String) (v:P):y' T (.p v) S=some (gU T v):=rfl
@[simp] theorem Lp (v:P):sP (.p v) S=vx v:=rfl
@[simp] theorem Kd (b:Bool):vx (.bl b)=some b:=rfl
@[simp] theorem Iq (i:Int):vx (.int i)=some (i != 0):=rfl
@[simp] theorem MB (x y:P):el (.p x) (.p y) S=(zn x y).map .bl:=rfl
@[simp] theorem MA (x y:P):n5 (.p x) (.p y) S=(yZ x y).map .bl:=rfl
end
@[simp] theorem Kt (i j:Int):zn (.int i) (.int j)=some (decide (i=j)):=rfl
@[simp] theorem Ks (i j:Str):zn (.str i) (.str j)=some (decide (i=j)):=rfl
@[simp] theorem L_ (i j:Bool):zn (.bl i) (.bl j)=some (decide (i=j)):=rfl
@[simp] theorem mf (i j:Int):yZ (.int i) (.int j)=some (!decide (i=j)):=rfl
@[simp] theorem Kn (i j:Str):yZ (.str i) (.str j)=some (!decide (i=j)):=rfl
@[simp] theorem LY (i j:Bool):yZ (.bl i) (.bl j)=some (!decide (i=j)):=rfl
@[simp] theorem HF (i j:Int):aB (.int i) (.int j)=some (.int (i+j)):=rfl
@[simp] theorem HD (x y:Str):aB (.str x) (.str y)=lP (.str x) (.str y):=rfl
@[simp] theorem HE (x y:List P):aB (.lst x) (.lst y)=if fM (x.length+y.length)=true then some (.lst (x++y)) else none:=rfl
@[simp] theorem HC (i j:Int):cB (.int i) (.int j)=if hL i j=true then some (.int (i * j)) else none:=rfl
@[simp] theorem HB (x:List P) (n:Int):cB (.lst x) (.int n)=if (fM (x.length * n.toNat) && decide (n.natAbs < 1000000))=true then some (.lst (List.replicate n.toNat x).flatten) else none:=rfl
@[simp] theorem pA (x:Str) (n:Int):cB (.str x) (.int n)=rY (.str x) (.int n):=rfl
theorem BK (h:b8 20 v=true):zn v v=some true:=by
 unfold zn;have e:PyData.eqv (pd v) (pd v)=true:=PySem.SeqAt.eqv_refl _ (fS 20 v h).1;cases q:rZ v v with
 | none=>simp [h,e]
 | some z=>
  cases v with
  | int i=>cases q;simp
  | str i=>cases q;simp
  | bl i=>cases q;simp
  | non=>cases q
  | tup _=>cases q
  | lst _=>cases q
  | ro _=>cases q
  | dct _ _=>cases h
theorem DT (h:b8 20 (.lst b)=true):zn (.lst b) (.lst [])=some b.isEmpty:=by
 unfold zn;have e:b8 20 (.lst [])=true:=rfl;show (if (b8 20 (.lst b) && b8 20 (.lst []))=true then some (PyData.eqv (pd (.lst b)) (pd (.lst []))) else none)=_;rw [h,e];cases b with
 | nil=>rfl
 | cons x r=>simp [pd,u0,PyData.eqv,PyData.eqvAll]
theorem ri (h:b8 20 (.lst b)=true):yZ (.lst b) (.lst [])=some (!b.isEmpty):=by
 unfold yZ;have e:b8 20 (.lst [])=true:=rfl;show (if (b8 20 (.lst b) && b8 20 (.lst []))=true then some (!PyData.eqv (pd (.lst b)) (pd (.lst []))) else none)=_;rw [h,e];cases b with
 | nil=>rfl
 | cons x r=>simp [pd,u0,PyData.eqv,PyData.eqvAll]
section
variable {L:Lc}{S:aR}
@[simp high] theorem NX (d:D) :ac 0 (some d::L) S=some (d,S):=rfl
@[simp high] theorem NW (d:D) (a:Option D):ac 1 (a::some d::L) S=some (d,S):=rfl
@[simp high] theorem NV (d:D) (a h:Option D):ac 2 (a::h::some d::L) S=some (d,S):=rfl
@[simp high] theorem NU (d:D) (a h x:Option D):ac 3 (a::h::x::some d::L) S=some (d,S):=rfl
@[simp high] theorem NT (d:D) (a h x e:Option D):ac 4 (a::h::x::e::some d::L) S=some (d,S):=rfl
@[simp high] theorem NS (d:D) (a h x e s:Option D):ac 5 (a::h::x::e::s::some d::L) S=some (d,S):=rfl
@[simp high] theorem NR (d:D) (a h x e s n:Option D):ac 6 (a::h::x::e::s::n::some d::L) S=some (d,S):=rfl
@[simp high] theorem NQ (d:D) (a h x e s n k:Option D):ac 7 (a::h::x::e::s::n::k::some d::L) S=some (d,S):=rfl
@[simp high] theorem NP (d:D) (a h x e s n k f:Option D):ac 8 (a::h::x::e::s::n::k::f::some d::L) S=some (d,S):=rfl
@[simp high] theorem NO (d:D) (a h x e s n k f b:Option D):ac 9 (a::h::x::e::s::n::k::f::b::some d::L) S=some (d,S):=rfl
@[simp high] theorem ML (d:D) (a h x e s n k f b c:Option D):ac 10 (a::h::x::e::s::n::k::f::b::c::some d::L) S=some (d,S):=rfl
@[simp high] theorem MK (d:D) (h x e s n k f b c m a:Option D):ac 11 (h::x::e::s::n::k::f::b::c::m::a::some d::L) S=some (d,S):=rfl
@[simp high] theorem MJ (d:D) (x e s n k f b c m r a h:Option D):ac 12 (x::e::s::n::k::f::b::c::m::r::a::h::some d::L) S=some (d,S):=rfl
@[simp high] theorem MI (d:D) (e s n k f b c m r t a h x:Option D):ac 13 (e::s::n::k::f::b::c::m::r::t::a::h::x::some d::L) S=some (d,S):=rfl
@[simp high] theorem MH (d:D) (s n k f b c m r t p a h x e:Option D):ac 14 (s::n::k::f::b::c::m::r::t::p::a::h::x::e::some d::L) S=some (d,S):=rfl
@[simp high] theorem MG (d:D) (n k f b c m r t p q a h x e s:Option D):ac 15 (n::k::f::b::c::m::r::t::p::q::a::h::x::e::s::some d::L) S=some (d,S):=rfl
@[simp high] theorem MF (d:D) (k f b c m r t p q v a h x e s n:Option D):ac 16 (k::f::b::c::m::r::t::p::q::v::a::h::x::e::s::n::some d::L) S=some (d,S):=rfl
@[simp high] theorem ME (d:D) (f b c m r t p q v w a h x e s n k:Option D):ac 17 (f::b::c::m::r::t::p::q::v::w::a::h::x::e::s::n::k::some d::L) S=some (d,S):=rfl
@[simp ↓ high] theorem NN  (x y:b):(if ku ([]:List m)=true then x else y)=x:=rfl
@[simp ↓ high] theorem NM (a:m) (x y:b):(if ku ([a]:List m)=true then x else y)=x:=rfl
@[simp ↓ high] theorem NL (a h:m) (x y:b):(if ku ([a,h]:List m)=true then x else y)=x:=rfl
@[simp ↓ high] theorem NK (a h e:m) (x y:b):(if ku ([a,h,e]:List m)=true then x else y)=x:=rfl
@[simp ↓ high] theorem NJ (a h e s:m) (x y:b):(if ku ([a,h,e,s]:List m)=true then x else y)=x:=rfl
@[simp ↓ high] theorem NI (a h e s n:m) (x y:b):(if ku ([a,h,e,s,n]:List m)=true then x else y)=x:=rfl
@[simp ↓ high] theorem NH (a h e s n k:m) (x y:b):(if ku ([a,h,e,s,n,k]:List m)=true then x else y)=x:=rfl
@[simp ↓ high] theorem NG (a h e s n k f:m) (x y:b):(if ku ([a,h,e,s,n,k,f]:List m)=true then x else y)=x:=rfl
@[simp ↓ high] theorem NF (a h e s n k f b:m) (x y:c):(if ku ([a,h,e,s,n,k,f,b]:List m)=true then x else y)=x:=rfl
@[simp ↓ high] theorem NE (a h e s n k f b c:m) (x y:q):(if ku ([a,h,e,s,n,k,f,b,c]:List m)=true then x else y)=x:=rfl
@[simp ↓ high] theorem MD (a h e s n k f b c r:m) (x y:q):(if ku ([a,h,e,s,n,k,f,b,c,r]:List m)=true then x else y)=x:=rfl
@[simp ↓ high] theorem MC (h e s n k f b c r t a:m) (x y:q):(if ku ([h,e,s,n,k,f,b,c,r,t,a]:List m)=true then x else y)=x:=rfl
@[simp high] theorem N2 (v:P) (S:aR):jx 9 (.p v) S=some (v,S):=rfl
@[simp ↓ high] theorem MP (x:Option (m×aR)) (f:m->aR->Option b):ba x f=match x with | some (a,S)=>f a S | none=>none:=rfl
@[simp ↓ high] theorem NA (x y:b):(if true=true then x else y)=x:=rfl
@[simp ↓ high] theorem NB (x y:b):(if false=true then x else y)=y:=rfl
end
end Ev
namespace My
open PySem L2 Ev
noncomputable abbrev qp (x:P):Option D:=some (.p x)
noncomputable abbrev qi (x:Int):Option D:=some (.p (.int x))
noncomputable abbrev qs (x:Str):Option D:=some (.p (.str x))
noncomputable abbrev ql (x:List P):Option D:=some (.p (.lst x))
noncomputable abbrev vv (k:Nat):EV:=vE (ac k)
noncomputable abbrev vi (i:Int):EV:=vC (.int i)
noncomputable abbrev vt (x:Str):EV:=vC (.str x)
noncomputable abbrev v1 (a:EV):f6:=aM a aO
noncomputable abbrev v2 (a b:EV):f6:=aM a (aM b aO)
noncomputable abbrev v3 (a b c:EV):f6:=aM a (aM b (aM c aO))
noncomputable abbrev v4 (a b c d:EV):f6:=aM a (aM b (aM c (aM d aO)))
noncomputable abbrev v5 (a b c d e:EV):f6:=aM a (aM b (aM c (aM d (aM e aO))))
noncomputable abbrev v6 (a b c d e f:EV):f6:=aM a (aM b (aM c (aM d (aM e (aM f aO)))))
noncomputable abbrev v7 (a b c d e f g:EV):f6:=aM a (aM b (aM c (aM d (aM e (aM f (aM g aO))))))
noncomputable abbrev v8 (a b c d e f g h:EV):f6:=aM a (aM b (aM c (aM d (aM e (aM f (aM g (aM h aO)))))))
noncomputable def eU (i:Nat):Stmt:=PySem.Challenge.pw_roadsall_k11_no_plans.main.body.getD i (.Pass ⟨0,0,0,0⟩)
noncomputable def Gv (x:Str):Option P:=if x=("LETTERS":Str) then some (.str "abcdefghijklmnopqrstuvwxyz") else if x=("MOST_CELLS":Str) then some (.int 3) else if x=("MOST_FAMILIES":Str) then some (.int 4) else if x=("MOST_HANDS":Str) then some (.int 5) else if x=("MOST_LETTERS":Str) then some (.int 10) else if x=("MOST_LETTERS_ON_ROAD":Str) then some (.int 3) else if x=("MOST_ROADS":Str) then some (.int 8) else if x=("MOST_ROOMS":Str) then some (.int 8) else if x=("MOST_STEPS":Str) then some (.int 8) else if x=("MOST_WHOS":Str) then some (.int 2) else if x=("MOST_WISHES":Str) then some (.int 6) else if x=("ROAD_KINDS":Str) then some (.tup [.str "row",.str "heap"]) else if x=("WAYS":Str) then some (.tup [.str "who",.str "all",.str "any"]) else if x=("WIDEST_CELL":Str) then some (.int 9) else if x=("WISH_KINDS":Str) then some (.tup [.str "weak",.str "strong"]) else if x=("WORDS":Str) then some (.tup [.str "or",.str "and",.str "not",.str "true"]) else none
noncomputable def uu:Df:=⟨"_law_mix","_law_mix","",(eU 51),["_law_number","_law_place","_law_turn","_law_part"],["_law_number","_law_place"],[],[],["_law_next","_law_cells","_law_first","_law_roads","_law_small","_law_when","_law_sends","_law_step"]⟩
noncomputable def wH:Df:=⟨"_law_at","_law_at","",(eU 50),["_law_script","_law_k"],["_law_script","_law_k"],[],[],["_law_next","_law_cells","_law_first","_law_roads","_law_small","_law_when","_law_sends","_law_step"]⟩
noncomputable def rS:Df:=⟨"_law_next","_law_next","",(eU 53),["_law_script","_law_at_here"],["_law_script","_law_at_here"],["_law_at_here"],[],["_law_next","_law_cells","_law_first","_law_roads","_law_small","_law_when","_law_sends","_law_step"]⟩
noncomputable def oF:Df:=⟨"_law_named","_law_named","",(eU 52),["_law_k","_law_number","_law_place"],["_law_k","_law_number"],[],[],["_law_next","_law_cells","_law_first","_law_roads","_law_small","_law_when","_law_sends","_law_step"]⟩
noncomputable def oH:Df:=⟨"_law_cells","_law_cells","",(eU 57),["_law_script","_law_at_here","_law_cells_here","_law_number","_law_k","_law_drawn","_law_low","_law_high"],["_law_script","_law_at_here"],["_law_cells_here"],[],["_law_next","_law_cells","_law_first","_law_roads","_law_small","_law_when","_law_sends","_law_step"]⟩
noncomputable def oG:Df:=⟨"_law_first","_law_first","",(eU 58),["_law_script","_law_at_here","_law_many","_law_families","_law_left","_law_kinds","_law_k","_law_number","_law_hands","_law_rooms","_law_cells_here","_law_whos"],["_law_script","_law_at_here","_law_many"],["_law_families"],["_law_families"],["_law_next","_law_cells","_law_first","_law_roads","_law_small","_law_when","_law_sends","_law_step"]⟩
noncomputable def oE:Df:=⟨"_law_roads","_law_roads","",(eU 59),["_law_families","_law_script","_law_at_here","_law_roads_here","_law_names","_law_k","_law_number","_law_one","_law_other","_law_road"],["_law_families","_law_script","_law_at_here"],["_law_families","_law_roads_here"],[],["_law_next","_law_cells","_law_first","_law_roads","_law_small","_law_when","_law_sends","_law_step"]⟩
noncomputable def rT:Df:=⟨"_law_leaf","_law_leaf","",(eU 54),["_law_names","_law_number"],["_law_names","_law_number"],[],[],["_law_next","_law_cells","_law_first","_law_roads","_law_small","_law_when","_law_sends","_law_step"]⟩
noncomputable def oC:Df:=⟨"_law_small","_law_small","",(eU 55),["_law_names","_law_script","_law_at_here","_law_number","_law_one"],["_law_names","_law_script","_law_at_here"],[],[],["_law_next","_law_cells","_law_first","_law_roads","_law_small","_law_when","_law_sends","_law_step"]⟩
noncomputable def rO:Df:=⟨"_law_when","_law_when","",(eU 56),["_law_names","_law_script","_law_at_here","_law_number","_law_word","_law_found","_law_other"],["_law_names","_law_script","_law_at_here"],[],[],["_law_next","_law_cells","_law_first","_law_roads","_law_small","_law_when","_law_sends","_law_step"]⟩
noncomputable def oD:Df:=⟨"_law_sends","_law_sends","",(eU 60),["_law_family","_law_roads_here","_law_known","_law_script","_law_at_here","_law_sends_here","_law_goals","_law_k","_law_number","_law_way","_law_name"],["_law_family","_law_roads_here","_law_known","_law_script","_law_at_here"],["_law_family","_law_sends_here"],[],["_law_next","_law_cells","_law_first","_law_roads","_law_small","_law_when","_law_sends","_law_step"]⟩
noncomputable def rQ:Df:=⟨"_law_step","_law_step","",(eU 61),["_law_family","_law_roads_here","_law_k","_law_script","_law_at_here","_law_number","_law_names","_law_take","_law_known","_law_left","_law_senders","_law_cell","_law_who","_law_changes","_law_name","_law_when_here","_law_sends_here","_law_rooms"],["_law_family","_law_roads_here","_law_k","_law_script","_law_at_here"],["_law_changes","_law_family"],[],["_law_next","_law_cells","_law_first","_law_roads","_law_small","_law_when","_law_sends","_law_step"]⟩
noncomputable def rR:Df:=⟨"_law_plan","_law_plan","",(eU 62),["_law_script","_law_counts","_law_at_here","_law_families","_law_roads_here","_law_left","_law_wishes","_law_family","_law_k","_law_number","_law_name"],["_law_script","_law_counts"],["_law_at_here","_law_families","_law_family","_law_wishes"],["_law_families","_law_family"],["_law_next","_law_cells","_law_first","_law_roads","_law_small","_law_when","_law_sends","_law_step"]⟩
noncomputable def jH:Df:=⟨"_law_wrong_list","_law_wrong_list","",(eU 66),["_law_plan_here","_law_number","_law_families","_law_roads_here","_law_wishes","_law_way","_law_name","_law_more","_law_family","_law_step_here","_law_own","_law_road"],["_law_plan_here","_law_number"],[],[],["_law_next","_law_cells","_law_first","_law_roads","_law_small","_law_when","_law_sends","_law_step"]⟩
noncomputable def la:Df:=⟨"_law_bad_name","_law_bad_name","",(eU 64),["_law_number","_law_others","_law_some"],["_law_number","_law_others"],[],[],["_law_next","_law_cells","_law_first","_law_roads","_law_small","_law_when","_law_sends","_law_step"]⟩
noncomputable def ut:Df:=⟨"_law_set","_law_set","",(eU 65),["_law_things","_law_at_here","_law_thing"],["_law_things","_law_at_here","_law_thing"],[],[],["_law_next","_law_cells","_law_first","_law_roads","_law_small","_law_when","_law_sends","_law_step"]⟩
noncomputable def iA:Df:=⟨"_law_wrong_family","_law_wrong_family","",(eU 67),["_law_plan_here","_law_number","_law_families","_law_roads_here","_law_wishes","_law_at_here","_law_name","_law_many","_law_rooms","_law_cells_here","_law_whos","_law_steps","_law_way","_law_bad"],["_law_plan_here","_law_number"],[],[],["_law_next","_law_cells","_law_first","_law_roads","_law_small","_law_when","_law_sends","_law_step"]⟩
noncomputable def k_:Df:=⟨"_law_bad_step","_law_bad_step","",(eU 68),["_law_plan_here","_law_family","_law_number","_law_room","_law_own","_law_tree","_law_free","_law_goal","_law_takes","_law_some","_law_way","_law_odd","_law_found"],["_law_plan_here","_law_family","_law_number"],["_law_some"],[],["_law_next","_law_cells","_law_first","_law_roads","_law_small","_law_when","_law_sends","_law_step"]⟩
noncomputable def kg:Df:=⟨"_law_bent_step","_law_bent_step","",(eU 69),["_law_plan_here","_law_family","_law_step_here","_law_number","_law_name","_law_room","_law_when_here","_law_take","_law_changes","_law_sends_here","_law_go","_law_cells_here","_law_way","_law_bad","_law_tree"],["_law_plan_here","_law_family","_law_step_here","_law_number"],[],[],["_law_next","_law_cells","_law_first","_law_roads","_law_small","_law_when","_law_sends","_law_step"]⟩
noncomputable def oB:Df:=⟨"_law_wrong","_law_wrong","",(eU 70),["_law_plan_here","_law_number","_law_families","_law_roads_here","_law_wishes","_law_at_here","_law_family","_law_steps","_law_place","_law_bad"],["_law_plan_here","_law_number"],["_law_steps"],[],["_law_next","_law_cells","_law_first","_law_roads","_law_small","_law_when","_law_sends","_law_step"]⟩
noncomputable def rV:Df:=⟨"_law_copy","_law_copy","",(eU 63),["_law_plan_here","_law_families","_law_family","_law_steps"],["_law_plan_here"],["_law_families"],[],["_law_next","_law_cells","_law_first","_law_roads","_law_small","_law_when","_law_sends","_law_step"]⟩
noncomputable def nR:Df:=⟨"is_made_of","is_made_of","",(eU 18),["text","signs"],["text","signs"],[],[],["_law_next","_law_cells","_law_first","_law_roads","_law_small","_law_when","_law_sends","_law_step"]⟩
noncomputable def uB:Df:=⟨"is_name","is_name","",(eU 19),["text"],["text"],[],[],["_law_next","_law_cells","_law_first","_law_roads","_law_small","_law_when","_law_sends","_law_step"]⟩
noncomputable def oK:Df:=⟨"are_names","are_names","",(eU 20),["texts"],["texts"],[],[],["_law_next","_law_cells","_law_first","_law_roads","_law_small","_law_when","_law_sends","_law_step"]⟩
noncomputable def iB:Df:=⟨"are_unlike_names","are_unlike_names","",(eU 21),["texts"],["texts"],[],[],["_law_next","_law_cells","_law_first","_law_roads","_law_small","_law_when","_law_sends","_law_step"]⟩
noncomputable def uC:Df:=⟨"is_cell","is_cell","",(eU 39),["cell","name","low","high","start"],["cell"],[],[],["_law_next","_law_cells","_law_first","_law_roads","_law_small","_law_when","_law_sends","_law_step"]⟩
noncomputable def oI:Df:=⟨"is_family","is_family","",(eU 38),["family","name","many","rooms","cells","whos","steps","cell_names"],["family"],[],[],["_law_next","_law_cells","_law_first","_law_roads","_law_small","_law_when","_law_sends","_law_step"]⟩
noncomputable def lb:Df:=⟨"are_families","are_families","",(eU 37),["families"],["families"],[],[],["_law_next","_law_cells","_law_first","_law_roads","_law_small","_law_when","_law_sends","_law_step"]⟩
noncomputable def uz:Df:=⟨"is_road","is_road","",(eU 41),["road","names","one","other","kind","room","loses","doubles"],["road","names"],[],[],["_law_next","_law_cells","_law_first","_law_roads","_law_small","_law_when","_law_sends","_law_step"]⟩
noncomputable def oJ:Df:=⟨"are_roads","are_roads","",(eU 40),["roads","families","names"],["roads","families"],[],[],["_law_next","_law_cells","_law_first","_law_roads","_law_small","_law_when","_law_sends","_law_step"]⟩
noncomputable def uv:Df:=⟨"is_wish","is_wish","",(eU 42),["wish","families","kind","name","step","family"],["wish","families"],[],[],["_law_next","_law_cells","_law_first","_law_roads","_law_small","_law_when","_law_sends","_law_step"]⟩
noncomputable def oM:Df:=⟨"are_among","are_among","",(eU 44),["names","known"],["names","known"],[],[],["_law_next","_law_cells","_law_first","_law_roads","_law_small","_law_when","_law_sends","_law_step"]⟩
noncomputable def rN:Df:=⟨"names_in","names_in","",(eU 23),["tree","names","waiting","part"],["tree"],["names","waiting"],[],["_law_next","_law_cells","_law_first","_law_roads","_law_small","_law_when","_law_sends","_law_step"]⟩
noncomputable def lN:Df:=⟨"are_changes","are_changes","",(eU 46),["changes","take","cells","known","changed"],["changes","take","cells","known"],[],[],["_law_next","_law_cells","_law_first","_law_roads","_law_small","_law_when","_law_sends","_law_step"]⟩
noncomputable def zq:Df:=⟨"leads","leads","",(eU 48),["roads","one","other"],["roads","one","other"],[],[],["_law_next","_law_cells","_law_first","_law_roads","_law_small","_law_when","_law_sends","_law_step"]⟩
noncomputable def uw:Df:=⟨"is_take","is_take","",(eU 45),["take","family","cells","roads","mark","sender","cell","who"],["take","family","cells","roads"],[],[],["_law_next","_law_cells","_law_first","_law_roads","_law_small","_law_when","_law_sends","_law_step"]⟩
noncomputable def uy:Df:=⟨"is_send","is_send","",(eU 47),["send","family","known","roads","mark","amount","way","target"],["send","family","known","roads"],[],[],["_law_next","_law_cells","_law_first","_law_roads","_law_small","_law_when","_law_sends","_law_step"]⟩
noncomputable def ux:Df:=⟨"is_step","is_step","",(eU 43),["step","family","families","roads","name","at","when","take","changes","sends","go","rooms","cells","known"],["step","family","families","roads"],[],[],["_law_next","_law_cells","_law_first","_law_roads","_law_small","_law_when","_law_sends","_law_step"]⟩
noncomputable def uA:Df:=⟨"is_plan","is_plan","",(eU 36),["plan","families","roads","wishes","family"],["plan"],[],[],["_law_next","_law_cells","_law_first","_law_roads","_law_small","_law_when","_law_sends","_law_step"]⟩
noncomputable def nS:Df:=⟨"check_plan","check_plan","",(eU 35),["plan"],["plan"],[],[],["_law_next","_law_cells","_law_first","_law_roads","_law_small","_law_when","_law_sends","_law_step"]⟩
noncomputable def lM:Df:=⟨"_law_refused","_law_refused","",(eU 71),["_law_plan_here","_law_kept","e"],["_law_plan_here"],[],[],["_law_next","_law_cells","_law_first","_law_roads","_law_small","_law_when","_law_sends","_law_step"]⟩
noncomputable def rW:Df:=⟨"law","law","",(eU 72),["_law_script","_law_plan_here","_law_wrong_here","_law_handed"],["_law_script"],[],[],["_law_next","_law_cells","_law_first","_law_roads","_law_small","_law_when","_law_sends","_law_step"]⟩
noncomputable def Att:At:=[]
noncomputable def sF:Ex:=[("RoadError",["RoadError","ValueError"]),("NoText",["NoText","RoadError","ValueError"]),("NoPlan",["NoPlan","RoadError","ValueError"]),("NoLine",["NoLine","RoadError","ValueError"]),("NoDeed",["NoDeed","RoadError","ValueError"]),("NotPossible",["NotPossible","RoadError","ValueError"]),("TooMany",["TooMany","RoadError","ValueError"]),("NoFact",["NoFact","RoadError","ValueError"]),("NoRow",["NoRow","RoadError","ValueError"]),("NoThing",["NoThing","RoadError","ValueError"])]
noncomputable def Rs:LS:=["NoPlan"]
noncomputable def Tb:List Df:=[uu,wH,rS,oF,oH,oG,oE,rT,oC,rO,oD,rQ,rR,jH,la,ut,iA,k_,kg,oB,rV,nR,uB,oK,iB,uC,oI,lb,uz,oJ,uv,oM,rN,lN,zq,uw,uy,ux,uA,nS,lM,rW]
noncomputable abbrev Pa:Nat->Str->GF:=JV Gv Att sF Rs Tb
noncomputable abbrev Xs:Nat->Str->GX:=JU Gv Att sF Rs Tb
noncomputable def fK (a h:Str->GF) (x:Str->GX):ES:=(ay 0 (eV (ag ax (vv 0) (vi 2147483648))))
noncomputable def iD (a h:Str->GF) (x:Str->GX):ES:=(ak (dt (bV (ag Me (vv 0) (ag zu (vi 10) (vi 12)))) (ak (ay 0 (eV (ag lO (ag ax (vv 0) (ag zu (vi 10) (vi 12))) (vi 1))))
  (ak (jX (jA (ag aK (vv 1) (vi 61))) (ah 2) (fK a h x))
  (aQ (eV (ag aK (vv 0) (vi 2147483648)))))) d_)
  (ak (ay 3 (eV (ag aK (ag cB (ag aB (ag aB (ag aK (vv 0) (vi 2147483629)) (vv 1)) (vi 1)) (ag aB (ag cB (ag cB (vi 8) (vv 1)) (vv 1)) (vi 48271))) (vi 2147483647))))
  (ak (ay 3 (eV (ag aK (ag cB (vv 3) (vv 3)) (vi 2147483587))))
  (aQ (eV (ag aK (ag cB (vv 3) (ag aB (vv 3) (vi 2))) (vi 2147483579)))))))
theorem lv (n:Nat):Pa (n+2) "_law_mix"=cq 2 4 (iD (Pa (n+1)) (Pa n) (Xs (n+1))):=by kernel_rfl
noncomputable def jJ (a h:Str->GF) (x:Str->GX):ES:=(ak (dt (bV (ag Ky (vv 1) (ck (ac 0)))) (aQ (eV (ag aA (vv 0) (vv 1)))) d_)
  (aQ (eV (ag aB (ag cB (vi 23) (vv 1)) (vi 6)))))
theorem nN (n:Nat):Pa (n+2) "_law_at"=cq 2 2 (jJ (Pa (n+1)) (Pa n) (Xs (n+1))):=by kernel_rfl
noncomputable def kn (h x:Str->GF) (a:Str->GX):ES:=(ak (mX (ac 1) (vi 0) (ag aB (vE (fI (ac 1) (vi 0))) (vi 1)))
  (aQ (eV (al (pureOf (h "_law_mix")) (v2 (al (pureOf (h "_law_at")) (v2 (vv 0) (ag aB (vi 1) (ag aK (vE (fI (ac 1) (vi 0))) (vi 62))))) (ag aB (vi 1) (ag ax (vE (fI (ac 1) (vi 0))) (vi 62))))))))
theorem rK (n:Nat):Pa (n+2) "_law_next"=cq 2 2 (kn (Pa (n+1)) (Pa n) (Xs (n+1))):=by kernel_rfl
noncomputable def gm (a h:Str->GF) (x:Str->GX):ES:=(ak (dt (bV (aG el (eV (ag aK (vv 1) (vi 2))) (eV (vi 0)))) (aQ (eV (ag aB (ag cB (ag aA (vt "abcdefgh") (vv 0)) (ag aB (vi 1) (ag aK (ag ax (vv 1) (vi 2)) (vi 9)))) (ag aA (vt "xvz") (ag aK (ag ax (vv 1) (vi 18)) (vi 3)))))) d_)
  (ak (ay 2 (eV (ag aK (ag ax (vv 1) (vi 2)) (vi 10))))
  (aQ (eV (ag aB (ag aB (ag cB (vt "m") (vv 2)) (ag aA (vt "abcdefgh") (vv 0))) (ag cB (vt "m") (ag lO (vi 9) (vv 2))))))))
theorem ou (n:Nat):Pa (n+2) "_law_named"=cq 2 3 (gm (Pa (n+1)) (Pa n) (Xs (n+1))):=by kernel_rfl
noncomputable def dh (h x:Str->GF) (a:Str->GX):ES:=(ak (ay 5 (eV (bu (h "_law_next") (aw (ac 0) (aw (ac 1) bG)))))
  (ak (ay 6 (eV (ag aA (ar (v2 (ag lO (ag aK (ag ax (vv 5) (vi 100)) (vi 13)) (vi 6)) (ag lO (ag aK (ag ax (vv 5) (vi 100)) (vi 1980)) (vi 990)))) (ag ax (ag aK (vv 5) (vi 4)) (vi 3)))))
  (ak (ay 7 (eV (ag aB (vv 6) (ag aK (ag ax (vv 5) (vi 4)) (vi 10)))))
  (cM (da (ac 2) (eV (aj (v4 (al (pureOf (h "_law_named")) (v2 (vv 4) (ag ax (vv 3) (vi 4)))) (vv 6) (vv 7) (ag aB (vv 6) (ag aK (ag aK (ag ax (vv 5) (vi 40)) (vi 1000)) (ag aB (ag lO (vv 7) (vv 6)) (vi 1))))))))))))
noncomputable def gp (h x:Str->GF) (a:Str->GX):ES:=(ak (ay 2 (gA aO))
  (ak (ay 3 (eV (bu (h "_law_next") (aw (ac 0) (aw (ac 1) bG)))))
  (ak (jX (jA (ag aK (vv 3) (vi 4))) (ah 4) (dh h x a))
  (aQ (ac 2)))))
theorem ow (n:Nat):Pa (n+2) "_law_cells"=cq 2 8 (gp (Pa (n+1)) (Pa n) (Xs (n+1))):=by kernel_rfl
noncomputable def dg (h x:Str->GF) (a:Str->GX):ES:=(ak (ay 7 (eV (bu (h "_law_next") (aw (ac 0) (aw (ac 1) bG)))))
  (ak (ay 8 (eV (ag aB (vi 1) (ag aK (vv 7) (vi 3)))))
  (ak (ay 8 (eV (al lA (v2 (vv 8) (ag lO (vv 4) (ag lO (ag aK (vv 2) (vi 4)) (vv 6)))))))
  (ak (ay 4 (eV (ag lO (vv 4) (vv 8))))
  (ak (ay 9 (eV (au (jA (ag aB (vi 1) (ag aK (ag ax (vv 7) (vi 64)) (vi 8)))) [] 1 (ah 12) aZ (al (pureOf (h "_law_named")) (v2 (vv 12) (ag ax (vv 7) (vi 4)))))))
  (ak (ay 10 (eV (bu (h "_law_cells") (aw (ac 0) (aw (ac 1) bG)))))
  (ak (ay 11 (eV (bK (ag aA (ar (v4 (ar (v2 (vt "it") (vt "first"))) (ar (v2 (vt "by") (vt "who"))) (ar (v2 (vt "to") (vt "from"))) (ar (v2 (vt "at") (vt "go"))))) (ag aK (ag ax (vv 7) (vi 512)) (vi 4))) aE (aD (ag aK (ag ax (vv 7) (vi 2048)) (vi 3))))))
  (cM (da (ac 3) (pz (aw (k8 (h "_law_named") (aw (ac 6) (aw (ac 5) bG))) (aw (ac 8) (aw (ac 9) (aw (ac 10) (aw (ac 11) (aw (pz bG) bG))))))))))))))))
noncomputable def gn (h x:Str->GF) (a:Str->GX):ES:=(ak (ay 3 (pz bG))
  (ak (ay 4 (eV (vi 5)))
  (ak (ay 5 (eV (bu (h "_law_next") (aw (ac 0) (aw (ac 1) bG)))))
  (ak (jX (jA (ag aB (vi 1) (ag aK (vv 2) (vi 4)))) (ah 6) (dg h x a))
  (aQ (ac 3))))))
theorem ov (n:Nat):Pa (n+2) "_law_first"=cq 3 12 (gn (Pa (n+1)) (Pa n) (Xs (n+1))):=by kernel_rfl
noncomputable def cC (h x:Str->GF) (a:Str->GX):ES:=(ak (ay 6 (eV (bu (h "_law_next") (aw (ac 1) (aw (ac 2) bG)))))
  (ak (ay 7 (eV (ag aA (vv 4) (ag aK (vv 6) (ck (ac 4))))))
  (ak (ay 8 (eV (ag aA (vv 4) (ag aK (ag ax (vv 6) (vi 4)) (ck (ac 4))))))
  (ak (ay 9 (eV (aj (v4 (vv 7) (vv 8) (ag aA (ar (v2 (vt "row") (vt "heap"))) (ag aK (ag ax (vv 6) (vi 16)) (vi 2))) (ag aB (vi 1) (ag aK (ag ax (vv 6) (vi 32)) (vi 3)))))))
  (ak (ay 9 (eV (ag aB (vv 9) (aj (v2 (aG el (eV (ag aK (ag ax (vv 6) (vi 128)) (vi 2))) (eV (vi 1))) (aG el (eV (ag aK (ag ax (vv 6) (vi 256)) (vi 2))) (eV (vi 1))))))))
  (dt (bV (aG bv (eV (aj (v2 (vv 7) (vv 8)))) (eV (cW (ac 3) [] 1 10 aZ (bK (vv 10) aE (aD (vi 2))))))) (cM (da (ac 3) (ac 9))) d_))))))
noncomputable def gk (h x:Str->GF) (a:Str->GX):ES:=(ak (ay 3 (gA aO))
  (ak (ay 4 (eV (cW (ac 0) [] 1 10 aZ (vE (fI (ac 10) (vi 0))))))
  (ak (jX (jA (ag aK (bu (h "_law_next") (aw (ac 1) (aw (ac 2) bG))) (vi 9))) (ah 5) (cC h x a))
  (aQ (ac 3)))))
theorem ot (n:Nat):Pa (n+2) "_law_roads"=cq 3 10 (gk (Pa (n+1)) (Pa n) (Xs (n+1))):=by kernel_rfl
noncomputable def eY (a h:Str->GF) (x:Str->GX):ES:=(ak (dt (c9 (bV (ag u2 (ag aK (vv 1) (vi 3)) (vi 0))) (bV (ag u2 (ck (ac 0)) (vi 0)))) (aQ (eV (aj (v2 (vt "name") (ag aA (vv 0) (ag aK (ag ax (vv 1) (vi 3)) (ck (ac 0)))))))) d_)
  (aQ (eV (aj (v2 (vt "number") (ag aA (ar (v2 (ag aK (ag ax (vv 1) (vi 3)) (vi 10)) (ag aK (ag ax (vv 1) (vi 30)) (vi 1000)))) (ag ax (ag aK (ag ax (vv 1) (vi 3)) (vi 4)) (vi 3))))))))
theorem ke (n:Nat):Pa (n+2) "_law_leaf"=cq 2 2 (eY (Pa (n+1)) (Pa n) (Xs (n+1))):=by kernel_rfl
noncomputable def eF (h x:Str->GF) (a:Str->GX):ES:=(ak (ay 3 (eV (bu (h "_law_next") (aw (ac 1) (aw (ac 2) bG)))))
  (ak (ay 4 (eV (al (pureOf (h "_law_leaf")) (v2 (vv 0) (ag ax (vv 3) (vi 8))))))
  (ak (dt (bV (ag u2 (ag aK (vv 3) (vi 8)) (vi 2))) (aQ (ac 4)) d_)
  (aQ (eV (aj (v3 (ag aA (ar (v3 (vt "plus") (vt "minus") (vt "times"))) (ag aK (vv 3) (vi 8))) (vv 4) (al (pureOf (h "_law_leaf")) (v2 (vv 0) (ag ax (vv 3) (vi 32768)))))))))))
theorem op (n:Nat):Pa (n+2) "_law_small"=cq 3 5 (eF (Pa (n+1)) (Pa n) (Xs (n+1))):=by kernel_rfl
noncomputable def de (h x:Str->GF) (a:Str->GX):ES:=(ak (ay 3 (eV (bu (h "_law_next") (aw (ac 1) (aw (ac 2) bG)))))
  (ak (dt (bV (aG el (eV (ag aK (vv 3) (vi 3))) (eV (vi 0)))) (aQ (eV (aj (v1 (vt "true"))))) d_)
  (ak (ay 4 (eV (ag aA (ar (v6 (vt "=") (vt "!=") (vt "<") (vt "<=") (vt ">") (vt ">="))) (ag aK (ag ax (vv 3) (vi 3)) (vi 6)))))
  (ak (ay 5 (eV (aj (v4 (vt "is") (vv 4) (bu (h "_law_small") (aw (ac 0) (aw (ac 1) (aw (ac 2) bG)))) (bu (h "_law_small") (aw (ac 0) (aw (ac 1) (aw (ac 2) bG))))))))
  (ak (dt (bV (aG el (eV (ag aK (ag ax (vv 3) (vi 18)) (vi 4))) (eV (vi 0)))) (ay 5 (eV (aj (v2 (vt "not") (vv 5))))) d_)
  (ak (dt (bV (aG el (eV (ag aK (ag ax (vv 3) (vi 18)) (vi 4))) (eV (vi 1)))) (ak (ay 6 (eV (aj (v4 (vt "is") (vt "=") (al (pureOf (h "_law_leaf")) (v2 (vv 0) (ag ax (vv 3) (vi 72)))) (aj (v2 (vt "number") (ag aK (ag ax (vv 3) (vi 720)) (vi 10))))))))
  (ay 5 (eV (aj (v3 (ag aA (ar (v2 (vt "and") (vt "or"))) (ag aK (ag ax (vv 3) (vi 7200)) (vi 2))) (vv 5) (vv 6)))))) d_)
  (aQ (ac 5))))))))
theorem rG (n:Nat):Pa (n+2) "_law_when"=cq 3 7 (de (Pa (n+1)) (Pa n) (Xs (n+1))):=by kernel_rfl
noncomputable def bQ (h x:Str->GF) (a:Str->GX):ES:=(ak (ay 8 (eV (bu (h "_law_next") (aw (ac 3) (aw (ac 4) bG)))))
  (ak (ay 9 (eV (ag aA (ar (v2 (vt "all") (vt "any"))) (ag aK (vv 8) (vi 2)))))
  (ak (ay 10 (eV (ag aA (ag aB (vv 6) (ar (v1 (vt "")))) (ag aK (ag ax (vv 8) (vi 4)) (al lB (v2 (vi 1) (ck (ac 6))))))))
  (ak (dt (c9 (bV (aG n5 (fI (ac 0) (vi 4)) (eV (ar aO)))) (nW (bV (aG el (eV (ag aK (vv 8) (vi 3))) (eV (vi 0)))) (bV (aG el (ac 6) (eV (ar aO)))))) (ak (ay 9 (eV (vt "who")))
  (ay 10 (fI (fI (ac 0) (vi 4)) (ag aK (ag ax (vv 8) (vi 4)) (ck (fI (ac 0) (vi 4))))))) d_)
  (dt (bV (aG n5 (ac 10) (eV (vt "")))) (cM (da (ac 5) (eV (aj (v4 (al (pureOf (h "_law_named")) (v2 (vi 0) (ag ax (vv 8) (vi 64)))) (bu (h "_law_small") (aw (ac 2) (aw (ac 3) (aw (ac 4) bG)))) (vv 9) (vv 10)))))) d_)))))
noncomputable def gj (h x:Str->GF) (a:Str->GX):ES:=(ak (ay 5 (gA aO))
  (ak (ay 6 (eV (au (eM (vv 1)) [] 1 (ah 11) (bV (aG el (eV (ag aA (vv 11) (vi 0))) (fI (ac 0) (vi 0)))) (ag aA (vv 11) (vi 1)))))
  (ak (jX (jA (ag aK (bu (h "_law_next") (aw (ac 3) (aw (ac 4) bG))) (vi 3))) (ah 7) (bQ h x a))
  (aQ (ac 5)))))
theorem oq (n:Nat):Pa (n+2) "_law_sends"=cq 5 11 (gj (Pa (n+1)) (Pa n) (Xs (n+1))):=by kernel_rfl
noncomputable def cQ (h x:Str->GF) (a:Str->GX):ES:=(dt (bV (aG el (eV (ag aK (bu (h "_law_next") (aw (ac 3) (aw (ac 4) bG))) (vi 2))) (eV (vi 0)))) (cM (da (ac 13) (eV (aj (v2 (vv 14) (bu (h "_law_small") (aw (ac 8) (aw (ac 3) (aw (ac 4) bG))))))))) d_)
noncomputable def qT (h x:Str->GF) (a:Str->GX):ES:=(ak (ay 13 (gA aO))
  (ak (jX (eM (vv 9)) (ah 14) (cQ h x a))
  (ak (ay 15 (eV (bu (h "_law_when") (aw (ac 6) (aw (ac 3) (aw (ac 4) bG))))))
  (ak (ay 16 (eV (bu (h "_law_sends") (aw (ac 0) (aw (ac 1) (aw (ac 8) (aw (ac 3) (aw (ac 4) bG))))))))
  (ak (ay 17 (eV (ar (v2 (vE (fI (fI (ac 0) (vi 2)) (ag aK (ag ax (vv 5) (vi 1024)) (ck (fI (ac 0) (vi 2)))))) (vE (fI (fI (ac 0) (vi 2)) (ag aK (ag ax (vv 5) (vi 8192)) (ck (fI (ac 0) (vi 2))))))))))
  (aQ (eV (aj (v7 (al (pureOf (h "_law_named")) (v2 (vv 2) (vi 7))) (ag aA (vv 17) (vi 0)) (vv 15) (vv 7) (CC (vv 13) aE aE (aD (ag aA (ar (v2 (vi 1) (CB rX (vi 1)))) (ag aK (ag ax (vv 5) (vi 65536)) (vi 2))))) (vv 16) (ag aA (vv 17) (vi 1)))))))))))
noncomputable def df (h x:Str->GF) (a:Str->GX):ES:=(ak (ay 5 (eV (bu (h "_law_next") (aw (ac 3) (aw (ac 4) bG)))))
  (ak (ay 6 (eV (au (eM (vE (fI (ac 0) (vi 3)))) [11] 0 (ah 11) aZ (ag aA (vv 11) (vi 0)))))
  (ak (ay 7 (eV (vC (.non))))
  (ak (ay 8 (ac 6))
  (ak (ay 9 (eV (al bW (v1 (vv 6)))))
  (ak (ay 10 (eV (au (eM (vv 1)) [] 1 (ah 18) (bV (aG el (eV (ag aA (vv 18) (vi 1))) (fI (ac 0) (vi 0)))) (ag aA (vv 18) (vi 0)))))
  (ak (dt (c9 (bV (aG n5 (ac 10) (eV (ar aO)))) (bV (aG el (eV (ag aK (vv 5) (vi 2))) (eV (vi 0))))) (ak (ay 8 (eV (ag aB (vv 6) (ar (v1 (vt "it"))))))
  (ak (ay 11 (eV (ag aA (ag aB (vv 6) (ar (v1 (vt "")))) (ag aK (ag ax (vv 5) (vi 2)) (ag aB (ck (ac 6)) (vi 1))))))
  (ak (ay 12 (eV (ag aA (ag aB (vE (fI (ac 0) (vi 4))) (ar (v1 (vt "")))) (ag aK (ag ax (vv 5) (vi 8)) (ag aB (ck (fI (ac 0) (vi 4))) (vi 1))))))
  (ak (ay 7 (eV (aj (v4 (al (pureOf (h "_law_named")) (v2 (vi 1) (ag ax (vv 5) (vi 32)))) (ag aA (vv 10) (ag aK (ag ax (vv 5) (vi 24)) (ck (ac 10)))) (vv 11) (vv 12)))))
  (ay 9 (eV (au (eM (vv 6)) [14] 0 (ah 14) (bV (aG n5 (ac 14) (ac 11))) (vv 14)))))))) d_)
  (qT h x a))))))))
theorem rH (n:Nat):Pa (n+2) "_law_step"=cq 5 18 (df (Pa (n+1)) (Pa n) (Xs (n+1))):=by kernel_rfl
noncomputable def dF (h x:Str->GF) (a:Str->GX):ES:=(ak (cM (da (fI (ac 7) (vi 5)) (eV (bu (h "_law_step") (aw (ac 7) (aw (ac 4) (aw (ac 8) (aw (ac 0) (aw (ac 2) bG)))))))))
  (ay 5 (eV (ag lO (vv 5) (vi 1)))))
noncomputable def dE (h x:Str->GF) (a:Str->GX):ES:=(jX (jA (al lA (v2 (vv 5) (ag aK (bu (h "_law_next") (aw (ac 0) (aw (ac 2) bG))) (vi 9))))) (ah 8) (dF h x a))
noncomputable def cR (h x:Str->GF) (a:Str->GX):ES:=(ak (ay 9 (eV (bu (h "_law_next") (aw (ac 0) (aw (ac 2) bG)))))
  (ak (ay 7 (fI (ac 3) (ag aK (vv 9) (ck (ac 3)))))
  (dt (bV (aG n5 (fI (ac 7) (vi 5)) (eV (ar aO)))) (ak (ay 10 (fI (fI (fI (ac 7) (vi 5)) (ag aK (ag ax (vv 9) (vi 4)) (ck (fI (ac 7) (vi 5))))) (vi 0)))
  (cM (da (ac 6) (eV (aj (v3 (ag aA (ar (v2 (vt "weak") (vt "strong"))) (ag aK (ag ax (vv 9) (vi 64)) (vi 2))) (vE (fI (ac 7) (vi 0))) (vv 10))))))) d_)))
noncomputable def eX (h x:Str->GF) (a:Str->GX):ES:=(ak (ay 2 (gA (v1 (vi 0))))
  (ak (ay 3 (k8 (h "_law_first") (aw (ac 0) (aw (ac 2) (aw (ac 1) bG)))))
  (ak (ay 4 (eV (bu (h "_law_roads") (aw (ac 3) (aw (ac 0) (aw (ac 2) bG))))))
  (ak (ay 5 (eV (vi 9)))
  (ak (ay 6 (gA aO))
  (ak (xx (ac 3) 7 (dE h x a))
  (ak (jX (jA (ag aK (bu (h "_law_next") (aw (ac 0) (aw (ac 2) bG))) (vi 7))) (ah 8) (cR h x a))
  (aQ (eV (aj (v3 (cW (ac 3) [7] 0 7 aZ (al hG (v1 (vv 7)))) (vv 4) (vv 6))))))))))))
theorem rJ (n:Nat):Pa (n+2) "_law_plan"=cq 2 11 (eX (Pa (n+1)) (Pa n) (Xs (n+1))):=by kernel_rfl
noncomputable def aC (a h:Str->GF) (x:Str->GX):ES:=(ak (i3 (cP [ah 2,ah 3,ah 4]) (vv 0))
  (ak (ay 5 (eV (ag aK (vv 1) (vi 6))))
  (ak (ay 6 (eV (vt "zzzzzzzzzz")))
  (ak (dt (bV (aG el (ac 5) (eV (vi 0)))) (ak (ay 7 (eV (au (jA (vi 4)) [] 1 (ah 12) aZ (aj (v6 (bK (vv 6) aE (aD (ag aB (vv 12) (vi 1)))) (vi 1) (ar (v1 (vt "a"))) (ar aO) (ar aO) (ar aO))))))
  (aQ (eV (aj (v3 (ag aA (ar (v2 (ar aO) (ag aB (vv 2) (vv 7)))) (ag aK (ag ax (vv 1) (vi 6)) (vi 2))) (ag aA (ar (v2 (ar aO) (vv 3))) (ag aK (ag ax (vv 1) (vi 6)) (vi 2))) (ag aA (ar (v2 (ar aO) (vv 4))) (ag aK (ag ax (vv 1) (vi 6)) (vi 2)))))))) d_)
  (ak (dt (bV (aG el (ac 5) (eV (vi 1)))) (ak (ay 8 (eV (ag aA (vv 2) (vi 0))))
  (aQ (eV (aj (v3 (ag aB (ar (v1 (ag aB (aj (v2 (ag aA (vv 8) (vi 0)) (ag aA (ar (v4 (vi 6) (vi 0) (CB rX (vi 1)) (ag zu (vi 10) (vi 2)))) (ag aK (ag ax (vv 1) (vi 6)) (vi 4))))) (bK (vv 8) (aD (vi 2)) aE)))) (bK (vv 2) (aD (vi 1)) aE)) (vv 3) (vv 4)))))) d_)
  (ak (dt (bV (aG el (ac 5) (eV (vi 2)))) (aQ (eV (aj (v3 (vv 2) (ag aB (ag cB (ar (v1 (aj (v6 (ag aA (ag aA (vv 2) (vi 0)) (vi 0)) (ag aA (ag aA (vv 2) (vi 0)) (vi 0)) (vt "row") (vi 1) (vC (.bl true)) (vC (.bl true)))))) (vi 2)) (vv 3)) (vv 4))))) d_)
  (ak (dt (bV (aG el (ac 5) (eV (vi 3)))) (ak (ay 9 (eV (aj (v7 (vv 6) (ag aA (ag aA (ag aA (vv 2) (vi 0)) (vi 2)) (vi 0)) (aj (v1 (vt "true"))) (vC (.non)) (ar aO) (ar aO) (ag aA (ag aA (ag aA (vv 2) (vi 0)) (vi 2)) (vi 0))))))
  (ak (ay 8 (eV (ag aB (bK (ag aA (vv 2) (vi 0)) aE (aD (vi 5))) (aj (v1 (ar (v1 (vv 9))))))))
  (aQ (eV (aj (v3 (ag aB (ar (v1 (vv 8))) (bK (vv 2) (aD (vi 1)) aE)) (vv 3) (ag cB (ar (v1 (aj (v3 (vt "weak") (ag aA (vv 8) (vi 0)) (vv 6))))) (vi 7)))))))) d_)
  (ak (dt (bV (aG el (ac 5) (eV (vi 4)))) (aQ (eV (aj (v3 (vv 2) (vv 3) (ag aB (bK (vv 4) aE (aD (vi 5))) (ar (v1 (ag aA (ar (v2 (aj (v3 (vt "fair") (ag aA (ag aA (vv 2) (vi 0)) (vi 0)) (vv 6))) (aj (v3 (vt "weak") (vv 6) (vv 6))))) (ag aK (ag ax (vv 1) (vi 6)) (vi 2)))))))))) d_)
  (ak (ay 10 (eV (ag aA (ag aA (vv 2) (vi 0)) (vi 0))))
  (ak (ay 11 (eV (ag aA (ar (v3 (aj (v4 (vv 6) (vv 6) (vt "row") (vi 1))) (aj (v4 (vv 10) (vv 6) (vt "heap") (vi 1))) (aj (v4 (vv 6) (vv 10) (vt "row") (vi 2))))) (ag aK (ag ax (vv 1) (vi 6)) (vi 3)))))
  (aQ (eV (aj (v3 (vv 2) (ag aB (bK (vv 3) aE (aD (vi 7))) (ar (v1 (ag aB (vv 11) (aj (v2 (vC (.bl false)) (vC (.bl false)))))))) (vv 4)))))))))))))))
theorem jG (n:Nat):Pa (n+2) "_law_wrong_list"=cq 2 12 (aC (Pa (n+1)) (Pa n) (Xs (n+1))):=by kernel_rfl
noncomputable def dm (a h:Str->GF) (x:Str->GX):ES:=(ak (ay 2 (eV (ar (aM (vt "") (aM (vt "A") (aM (vt "abcdefghijk") (aM (vt "a1") (v8 (vt "a b") (vt "or") (vt "and") (vt "not") (vt "true") (vt "a-") (vt "abcdefghijklmnopqrst") (vt " a")))))))))
  (ak (dt (c9 (bV (aG el (eV (ag aK (vv 0) (vi 2))) (eV (vi 0)))) (bV (ag u2 (ck (ac 1)) (vi 0)))) (aQ (eV (ag aA (vv 1) (ag aK (ag ax (vv 0) (vi 2)) (ck (ac 1)))))) d_)
  (aQ (eV (ag aA (vv 2) (ag aK (ag ax (vv 0) (vi 2)) (vi 12)))))))
theorem gz (n:Nat):Pa (n+2) "_law_bad_name"=cq 2 3 (dm (Pa (n+1)) (Pa n) (Xs (n+1))):=by kernel_rfl
noncomputable def lC (a h:Str->GF) (x:Str->GX):ES:=(aQ (eV (ag aB (ag aB (bK (vv 0) aE (aD (vv 1))) (ar (v1 (vv 2)))) (bK (vv 0) (aD (ag aB (vv 1) (vi 1))) aE))))
theorem uh (n:Nat):Pa (n+2) "_law_set"=cq 3 3 (lC (Pa (n+1)) (Pa n) (Xs (n+1))):=by kernel_rfl
noncomputable def jL (h x:Str->GF) (a:Str->GX):ES:=(dt (bV (aG el (ac 12) (eV (vi 0)))) (ay 6 (eV (al (pureOf (h "_law_bad_name")) (v2 (vv 1) (au (Jp (vv 2)) [] 2 (cP [ah 14,ah 15]) (bV (aG n5 (ac 14) (ac 5))) (ag aA (vv 15) (vi 0))))))) (dt (bV (aG el (ac 12) (eV (vi 1)))) (ay 8 (eV (ag aA (ar (v2 (ar aO) (ar (aM (vt "a") (v8 (vt "b") (vt "c") (vt "d") (vt "e") (vt "f") (vt "g") (vt "h") (vt "i")))))) (ag aK (vv 1) (vi 2))))) (dt (bV (aG el (ac 12) (eV (vi 2)))) (ay 8 (eV (ag aB (bK (vv 8) aE (aD (vi 7))) (ar (v1 (al (pureOf (h "_law_bad_name")) (v2 (vv 1) (bK (vv 8) aE (aD (vi 7)))))))))) (dt (bV (aG el (ac 12) (eV (vi 3)))) (ay 9 (eV (ag aB (bK (vv 9) aE (aD (vi 2))) (ar (v1 (aj (v4 (al (pureOf (h "_law_bad_name")) (v2 (vv 1) (ag aB (au (eM (bK (vv 9) aE (aD (vi 2)))) [] 1 (ah 14) aZ (ag aA (vv 14) (vi 0))) (vv 10)))) (vi 0) (vi 1) (vi 0)))))))) (dt (bV (aG el (ac 12) (eV (vi 4)))) (ay 9 (eV (ag aA (ar (v2 (ar (v1 (aj (v4 (vt "it") (vi 0) (vi 1) (vi 0))))) (au (jA (vi 4)) [] 1 (ah 14) aZ (aj (v4 (ag cB (vt "q") (ag aB (vv 14) (vi 1))) (vi 0) (vi 1) (vi 0)))))) (ag aK (vv 1) (vi 2))))) (dt (bV (aG el (ac 12) (eV (vi 5)))) (ak (ay 13 (eV (ag aA (ar (v6 (aj (v3 (vi 5) (vi 4) (vi 4))) (aj (v3 (vi 0) (vi 10) (vi 3))) (aj (v3 (vi 0) (vi 9) (vi 10))) (aj (v3 (vi 0) (vi 9) (CB rX (vi 1)))) (aj (v3 (CB rX (vi 3)) (CB rX (vi 4)) (CB rX (vi 3)))) (aj (v3 (vi 1) (vi 3) (vi 0))))) (ag aK (vv 1) (vi 6)))))
  (ay 9 (eV (ag aB (bK (vv 9) aE (aD (vi 2))) (ar (v1 (ag aB (aj (v1 (vt "qq"))) (vv 13)))))))) (dt (bV (aG el (ac 12) (eV (vi 6)))) (ay 10 (eV (ag aB (bK (vv 10) aE (aD (vi 1))) (ar (v1 (al (pureOf (h "_law_bad_name")) (v2 (vv 1) (ag aB (au (eM (vv 9)) [] 1 (ah 14) aZ (ag aA (vv 14) (vi 0))) (bK (vv 10) aE (aD (vi 1))))))))))) (dt (bV (aG el (ac 12) (eV (vi 7)))) (ay 10 (eV (ar (v3 (vt "qa") (vt "qb") (vt "qc"))))) (dt (bV (aG el (ac 12) (eV (vi 8)))) (ay 11 (eV (au (jA (vi 9)) [] 1 (ah 14) aZ (aj (v7 (ag cB (vt "q") (ag aB (vv 14) (vi 1))) (ag aA (vv 8) (vi 0)) (aj (v1 (vt "true"))) (vC (.non)) (ar aO) (ar aO) (ag aA (vv 8) (vi 0))))))) (ak (ay 13 (eV (al (pureOf (h "_law_bad_name")) (v2 (vv 1) (au (eM (bK (vv 11) aE (aD (vi 7)))) [] 1 (ah 14) aZ (ag aA (vv 14) (vi 0)))))))
  (ay 11 (eV (ag aB (bK (vv 11) aE (aD (vi 7))) (ar (v1 (aj (v7 (vv 13) (ag aA (vv 8) (vi 0)) (aj (v1 (vt "true"))) (vC (.non)) (ar aO) (ar aO) (ag aA (vv 8) (vi 0)))))))))))))))))))
noncomputable def cd (h x:Str->GF) (a:Str->GX):ES:=(ak (i3 (cP [ah 2,ah 3,ah 4]) (vv 0))
  (ak (ay 5 (eV (ag aK (vv 1) (ck (ac 2)))))
  (ak (i3 (cP [ah 6,ah 7,ah 8,ah 9,ah 10,ah 11]) (ag aA (vv 2) (vv 5)))
  (ak (ay 12 (eV (ag aK (ag ax (vv 1) (vi 4)) (vi 10))))
  (ak (ay 1 (eV (ag ax (vv 1) (vi 40))))
  (ak (jL h x a)
  (aQ (eV (aj (v3 (al (pureOf (h "_law_set")) (v3 (vv 2) (vv 5) (aj (v6 (vv 6) (vv 7) (vv 8) (vv 9) (vv 10) (vv 11))))) (vv 3) (vv 4)))))))))))
theorem iy (n:Nat):Pa (n+2) "_law_wrong_family"=cq 2 14 (cd (Pa (n+1)) (Pa n) (Xs (n+1))):=by kernel_rfl
noncomputable def di (a h:Str->GF) (x:Str->GX):ES:=(ak (ay 3 (eV (ag aA (ag aA (vv 1) (vi 2)) (vi 0))))
  (ak (ay 4 (eV (ag aA (vv 1) (vi 0))))
  (ak (ay 5 (eV (aj (v3 (vt "plus") (aj (v2 (vt "number") (vi 1))) (aj (v2 (vt "name") (ag aA (ar (v2 (vt "qqq") (vt "it"))) (ag aK (ag ax (vv 2) (vi 16)) (vi 2)))))))))
  (ak (ay 6 (eV (ag aB (ar (v1 (vt "zzzzzzzzzz"))) (au (eM (ag aA (vv 0) (vi 0))) [] 1 (ah 13) (bV (aG bv (eV (aj (v2 (ag aA (vv 13) (vi 0)) (vv 4)))) (eV (au (eM (ag aA (vv 0) (vi 1))) [] 1 (ah 14) aZ (bK (vv 14) aE (aD (vi 2))))))) (ag aA (vv 13) (vi 0))))))
  (ak (ay 7 (eV (ag aB (ar (v1 (vt "zzzzzzzzzz"))) (au (eM (ag aA (vv 0) (vi 0))) [] 1 (ah 13) (bV (aG bv (eV (aj (v2 (vv 4) (ag aA (vv 13) (vi 0))))) (eV (au (eM (ag aA (vv 0) (vi 1))) [] 1 (ah 14) aZ (bK (vv 14) aE (aD (vi 2))))))) (ag aA (vv 13) (vi 0))))))
  (ak (ay 8 (eV (ar (v2 (aj (v4 (vt "a") (ag aA (vv 6) (ag aK (ag ax (vv 2) (vi 16)) (ck (ac 6)))) (vt "") (vt ""))) (aj (v4 (vt "A") (ag aA (vv 6) (vi 0)) (vt "") (vt "")))))))
  (ak (ay 9 (gA (v2 (aj (v7 (vt "qqq") (vt "") (aj (v1 (vt "true"))) (vC (.non)) (ar aO) (ar aO) (vv 3))) (aj (v7 (vv 3) (vt "") (aj (v1 (vt "true"))) (vC (.non)) (ar aO) (ar aO) (vt "qqq"))))))
  (ak (cM (eE (ac 9) (ar (v1 (aj (v7 (vv 3) (vt "") (aj (v4 (vt "is") (vt "=") (vv 5) (aj (v2 (vt "number") (vi 1))))) (vC (.non)) (ar aO) (ar aO) (vv 3)))))))
  (ak (cM (eE (ac 9) (ar (v1 (aj (v7 (vv 3) (vt "") (aj (v2 (vt "not") (aj (v3 (vt "and") (aj (v1 (vt "true"))) (aj (v4 (vt "is") (vt "<") (aj (v2 (vt "number") (vi 1))) (vv 5))))))) (vC (.non)) (ar aO) (ar aO) (vv 3)))))))
  (ak (cM (eE (ac 9) (ar (v1 (aj (v7 (vv 3) (vt "") (aj (v1 (vt "true"))) (ag aA (vv 8) (ag aK (ag ax (vv 2) (vi 32)) (vi 2))) (ar aO) (ar aO) (vv 3)))))))
  (ak (cM (eE (ac 9) (ar (v1 (aj (v7 (vv 3) (vt "") (aj (v1 (vt "true"))) (vC (.non)) (ar (v1 (aj (v2 (vt "qqq") (aj (v2 (vt "number") (vi 1))))))) (ar aO) (vv 3)))))))
  (ak (ay 10 (eV (ag aA (ar (v2 (vt "all") (vt "any"))) (ag aK (ag ax (vv 2) (vi 64)) (vi 2)))))
  (ak (cM (eE (ac 9) (ar (v1 (aj (v7 (vv 3) (vt "") (aj (v1 (vt "true"))) (vC (.non)) (ar aO) (ar (v1 (aj (v4 (vt "a") (aj (v2 (vt "number") (vi 1))) (vv 10) (ag aA (vv 7) (ag aK (ag ax (vv 2) (vi 16)) (ck (ac 7)))))))) (vv 3)))))))
  (ak (ay 11 (eV (ag aA (ar (v2 (vt "who") (vt "one"))) (ag aK (ag ax (vv 2) (vi 64)) (vi 2)))))
  (ak (cM (eE (ac 9) (ar (v1 (aj (v7 (vv 3) (vt "") (aj (v1 (vt "true"))) (vC (.non)) (ar aO) (ar (v1 (aj (v4 (vt "a") (aj (v2 (vt "number") (vi 1))) (vv 11) (vt "qqq"))))) (vv 3)))))))
  (ak (ay 12 (fI (ac 9) (ag aK (vv 2) (vi 8))))
  (aQ (eV (ag aB (aj (v2 (vt "zzzzzzzzzz") (ag aA (vv 12) (vi 0)))) (bK (vv 12) (aD (vi 2)) aE))))))))))))))))))))
theorem k6 (n:Nat):Pa (n+2) "_law_bad_step"=cq 3 13 (di (Pa (n+1)) (Pa n) (Xs (n+1))):=by kernel_rfl
noncomputable def dZ (h x:Str->GF) (a:Str->GX):ES:=(ak (i3 (cP [ah 4,ah 5,ah 6,ah 7,ah 8,ah 9,ah 10]) (vv 2))
  (ak (ay 11 (eV (au (eM (ag aA (vv 1) (vi 3))) [] 1 (ah 15) aZ (ag aA (vv 15) (vi 0)))))
  (ak (ay 12 (eV (ag aK (vv 3) (vi 6))))
  (ak (dt (c9 (bV (aG el (ac 12) (eV (vi 0)))) (bV (ag u2 (ck (ac 8)) (vi 0)))) (aQ (eV (aj (v7 (vv 4) (vv 5) (vv 6) (vv 7) (ag aB (vv 8) (ar (v1 (aj (v2 (ag aA (ag aA (vv 8) (vi 0)) (vi 0)) (aj (v2 (vt "number") (vi 0)))))))) (vv 9) (vv 10))))) d_)
  (ak (dt (c9 (bV (aG el (ac 12) (eV (vi 1)))) (c9 (bV (aG gX (ac 7) (eV (vC (.non))))) (bV (aG n5 (eV (ag aA (vv 7) (vi 2))) (eV (vt "")))))) (aQ (eV (aj (v7 (vv 4) (vv 5) (vv 6) (vv 7) (ag aB (vv 8) (ar (v1 (aj (v2 (ag aA (vv 7) (vi 2)) (aj (v2 (vt "number") (vi 0)))))))) (vv 9) (vv 10))))) d_)
  (ak (dt (c9 (bV (aG el (ac 12) (eV (vi 2)))) (bV (aG gX (ac 7) (eV (vC (.non)))))) (aQ (eV (aj (v7 (vv 4) (vv 5) (vv 6) (aj (v4 (ag aA (vv 7) (vi 0)) (ag aA (vv 7) (vi 1)) (vt "qqq") (ag aA (vv 7) (vi 3)))) (vv 8) (vv 9) (vv 10))))) d_)
  (ak (dt (c9 (bV (aG el (ac 12) (eV (vi 3)))) (bV (aG gX (ac 7) (eV (vC (.non)))))) (aQ (eV (aj (v7 (vv 4) (vv 5) (vv 6) (aj (v4 (ag aA (vv 7) (vi 0)) (ag aA (vv 7) (vi 1)) (ag aA (vv 7) (vi 2)) (vt "qqq"))) (vv 8) (vv 9) (vv 10))))) d_)
  (ak (dt (c9 (bV (aG el (ac 12) (eV (vi 4)))) (bV (ag u2 (ck (ac 9)) (vi 0)))) (ak (ay 13 (eV (ag aB (aj (v1 (ag aA (ar (v4 (vt "A") (vt "") (vt "or") (vt "abcdefghijk"))) (ag aK (ag ax (vv 3) (vi 6)) (vi 4))))) (bK (ag aA (vv 9) (vi 0)) (aD (vi 1)) aE))))
  (aQ (eV (aj (v7 (vv 4) (vv 5) (vv 6) (vv 7) (vv 8) (ag aB (ar (v1 (vv 13))) (bK (vv 9) (aD (vi 1)) aE)) (vv 10)))))) d_)
  (ak (dt (c9 (bV (aG el (ac 12) (eV (vi 5)))) (bV (ag u2 (ck (ac 9)) (vi 0)))) (ak (ay 13 (eV (ag aB (aj (v2 (vt "a") (aj (v3 (vt "times") (aj (v2 (vt "name") (vt "qqq"))) (ag aA (ag aA (vv 9) (vi 0)) (vi 1)))))) (bK (ag aA (vv 9) (vi 0)) (aD (vi 2)) aE))))
  (aQ (eV (aj (v7 (vv 4) (vv 5) (vv 6) (vv 7) (vv 8) (ag aB (bK (vv 9) (aD (vi 1)) aE) (ar (v1 (vv 13)))) (vv 10)))))) d_)
  (ak (dt (c9 (bV (aG Hx (ac 7) (eV (vC (.non))))) (bV (ag u2 (ck (ac 11)) (vi 0)))) (ak (ay 14 (eV (aj (v3 (vt "minus") (aj (v2 (vt "name") (vt "it"))) (aj (v2 (vt "number") (vi 1)))))))
  (aQ (eV (aj (v7 (vv 4) (vv 5) (vv 6) (vv 7) (ar (v1 (aj (v2 (ag aA (vv 11) (vi 0)) (vv 14))))) (ar aO) (vv 10)))))) d_)
  (aQ (eV (al (pureOf (h "_law_bad_step")) (v3 (vv 0) (vv 1) (ag ax (vv 3) (vi 6))))))))))))))))
theorem kf (n:Nat):Pa (n+2) "_law_bent_step"=cq 4 15 (dZ (Pa (n+1)) (Pa n) (Xs (n+1))):=by kernel_rfl
noncomputable def vj (h x:Str->GF) (a:Str->GX):ES:=(ak (ay 4 (eV (au (eM (vv 4)) [] 1 (ah 10) (nW (bV (aG kX (eV (ag aA (vv 10) (vi 2))) (eV (cW (ac 7) [] 1 11 aZ (vE (fI (ac 11) (vi 0))))))) (bV (aG n5 (eV (ag aA (vv 10) (vi 1))) (eV (ag aA (vv 6) (vi 0)))))) (vv 10))))
  (ak (dt (c9 (bV (aG el (eV (ag aK (ag ax (vv 1) (vi 4096)) (vi 16))) (eV (vi 0)))) (bV (ag u2 (ck (ac 3)) (vi 0)))) (ak (ay 9 (eV (ag aB (ag aB (bK (ag aA (vv 3) (vi 0)) aE (aD (vi 2))) (ag aA (ar (v4 (aj (v2 (vt "pile") (vi 1))) (aj (v2 (vt "row") (vi 0))) (aj (v2 (vt "heap") (vi 4))) (aj (v2 (vt "") (vi 1))))) (ag aK (ag ax (vv 1) (vi 65536)) (vi 4)))) (bK (ag aA (vv 3) (vi 0)) (aD (vi 4)) aE))))
  (aQ (eV (aj (v3 (vv 2) (ag aB (ar (v1 (vv 9))) (bK (vv 3) (aD (vi 1)) aE)) (ag aA (vv 0) (vi 2))))))) d_)
  (aQ (eV (aj (v3 (al (pureOf (h "_law_set")) (v3 (vv 2) (vv 5) (ag aB (bK (vv 6) aE (aD (vi 5))) (aj (v1 (vv 7)))))) (vv 3) (vv 4)))))))
noncomputable def cg (h x:Str->GF) (a:Str->GX):ES:=(ak (dt (bV (aG el (eV (ag aK (vv 1) (vi 4))) (eV (vi 0)))) (aQ (eV (al (pureOf (h "_law_wrong_list")) (v2 (vv 0) (ag ax (vv 1) (vi 4)))))) d_)
  (ak (dt (bV (aG el (eV (ag aK (vv 1) (vi 4))) (eV (vi 1)))) (aQ (eV (al (pureOf (h "_law_wrong_family")) (v2 (vv 0) (ag ax (vv 1) (vi 4)))))) d_)
  (ak (i3 (cP [ah 2,ah 3,ah 4]) (vv 0))
  (ak (ay 5 (eV (ag aK (ag ax (vv 1) (vi 4)) (ck (ac 2)))))
  (ak (ay 6 (eV (ag aA (vv 2) (vv 5))))
  (ak (ay 7 (x3 (ag aA (vv 6) (vi 5))))
  (ak (dt (c9 (bV (ag u2 (ck (ac 7)) (vi 0))) (bV (aG el (eV (ag aK (vv 1) (vi 4))) (eV (vi 2))))) (ak (ay 8 (eV (ag aK (ag ax (vv 1) (vi 16)) (ck (ac 7)))))
  (mX (ac 7) (vv 8) (al (pureOf (h "_law_bent_step")) (v4 (vv 0) (vv 6) (vE (fI (ac 7) (vv 8))) (ag ax (vv 1) (vi 128)))))) (ay 7 (eV (ag aB (bK (vv 7) aE (aD (vi 7))) (ar (v1 (al (pureOf (h "_law_bad_step")) (v3 (vv 0) (vv 6) (ag ax (vv 1) (vi 16))))))))))
  (vj h x a))))))))
theorem oo (n:Nat):Pa (n+2) "_law_wrong"=cq 2 10 (cg (Pa (n+1)) (Pa n) (Xs (n+1))):=by kernel_rfl
noncomputable def dG (a h:Str->GF) (x:Str->GX):ES:=(ak (ay 3 (eV (au (eM (ag aA (vv 2) (vi 5))) [] 1 (ah 4) aZ (ag aB (bK (vv 4) aE (aD (vi 4))) (aj (v3 (al bW (v1 (ag aA (vv 4) (vi 4)))) (al bW (v1 (ag aA (vv 4) (vi 5)))) (ag aA (vv 4) (vi 6))))))))
  (cM (da (ac 1) (eV (aj (v6 (ag aA (vv 2) (vi 0)) (ag aA (vv 2) (vi 1)) (al bW (v1 (ag aA (vv 2) (vi 2)))) (al bW (v1 (ag aA (vv 2) (vi 3)))) (al bW (v1 (ag aA (vv 2) (vi 4)))) (vv 3)))))))
noncomputable def ko (a h:Str->GF) (x:Str->GX):ES:=(ak (ay 1 (gA aO))
  (ak (jX (eM (ag aA (vv 0) (vi 0))) (ah 2) (dG a h x))
  (aQ (eV (aj (v3 (vv 1) (al bW (v1 (ag aA (vv 0) (vi 1)))) (al bW (v1 (ag aA (vv 0) (vi 2))))))))))
theorem rL (n:Nat):Pa (n+2) "_law_copy"=cq 1 4 (ko (Pa (n+1)) (Pa n) (Xs (n+1))):=by kernel_rfl
noncomputable def iH (a h:Str->GF) (x:Str->GX):ES:=(aQ (eV (al fJ (v1 (au (eM (vv 0)) [] 1 (ah 2) aZ (aG kX (ac 2) (ac 1)))))))
theorem nO (n:Nat):Pa (n+2) "is_made_of"=cq 2 2 (iH (Pa (n+1)) (Pa n) (Xs (n+1))):=by kernel_rfl
noncomputable def fY (h x:Str->GF) (a:Str->GX):ES:=(aQ (eV (vB (c9 (bV (fA u1 u1 (vi 1) (ck (ac 0)) (vi 10))) (c9 (bV (al (pureOf (h "is_made_of")) (v2 (vv 0) (vt "abcdefghijklmnopqrstuvwxyz")))) (bV (aG bv (ac 0) (eV (vC (.tup [.str "or",.str "and",.str "not",.str "true"]))))))))))
theorem uq (n:Nat):Pa (n+2) "is_name"=cq 1 1 (fY (Pa (n+1)) (Pa n) (Xs (n+1))):=by kernel_rfl
noncomputable def je (h x:Str->GF) (a:Str->GX):ES:=(aQ (eV (al fJ (v1 (au (eM (vv 0)) [] 1 (ah 1) aZ (al (pureOf (h "is_name")) (v1 (vv 1))))))))
theorem oz (n:Nat):Pa (n+2) "are_names"=cq 1 1 (je (Pa (n+1)) (Pa n) (Xs (n+1))):=by kernel_rfl
noncomputable def eL (h x:Str->GF) (a:Str->GX):ES:=(aQ (eV (vB (c9 (bV (al (pureOf (h "are_names")) (v1 (vv 0)))) (bV (ju (vv 0) (ck (ac 0))))))))
theorem iz (n:Nat):Pa (n+2) "are_unlike_names"=cq 1 1 (eL (Pa (n+1)) (Pa n) (Xs (n+1))):=by kernel_rfl
noncomputable def eK (a h:Str->GF) (x:Str->GX):ES:=(ak (i3 (cP [ah 1,ah 2,ah 3,ah 4]) (vv 0))
  (aQ (eV (vB (c9 (bV (fA u1 u1 (vi 0) (ag lO (vv 3) (vv 2)) (vi 9))) (bV (fA u1 u1 (vv 2) (vv 4) (vv 3))))))))
theorem ur (n:Nat):Pa (n+2) "is_cell"=cq 1 5 (eK (Pa (n+1)) (Pa n) (Xs (n+1))):=by kernel_rfl
noncomputable def eG (h x:Str->GF) (a:Str->GX):ES:=(ak (i3 (cP [ah 1,ah 2,ah 3,ah 4,ah 5,ah 6]) (vv 0))
  (ak (ay 7 (eV (au (eM (vv 4)) [] 1 (ah 8) aZ (ag aA (vv 8) (vi 0)))))
  (ak (dt (nW (bV (ag Ky (vv 2) (vi 1))) (ec (bV (fA u1 u1 (vi 1) (ck (ac 3)) (vi 8))))) (aQ (eV (vC (.bl false)))) d_)
  (ak (dt (nW (bV (ag u2 (ck (ac 4)) (vi 3))) (nW (bV (ag u2 (ck (ac 5)) (vi 2))) (bV (ag u2 (ck (ac 6)) (vi 8))))) (aQ (eV (vC (.bl false)))) d_)
  (ak (dt (nW (ec (bT (eV (al (pureOf (h "are_unlike_names")) (v1 (vv 3)))))) (ec (bT (eV (al (pureOf (h "are_unlike_names")) (v1 (ag aB (vv 7) (vv 5)))))))) (aQ (eV (vC (.bl false)))) d_)
  (ak (dt (nW (bV (aG kX (eV (vt "it")) (ac 7))) (ec (bT (eV (al (pureOf (h "are_unlike_names")) (v1 (au (eM (vv 6)) [] 1 (ah 8) aZ (ag aA (vv 8) (vi 0))))))))) (aQ (eV (vC (.bl false)))) d_)
  (aQ (eV (al fJ (v1 (au (eM (vv 4)) [] 1 (ah 8) aZ (al (pureOf (h "is_cell")) (v1 (vv 8))))))))))))))
theorem ox (n:Nat):Pa (n+2) "is_family"=cq 1 8 (eG (Pa (n+1)) (Pa n) (Xs (n+1))):=by kernel_rfl
noncomputable def dq (h x:Str->GF) (a:Str->GX):ES:=(ak (dt (ec (bV (fA u1 u1 (vi 1) (ck (ac 0)) (vi 4)))) (aQ (eV (vC (.bl false)))) d_)
  (ak (dt (ec (bT (eV (al (pureOf (h "are_unlike_names")) (v1 (au (eM (vv 0)) [] 1 (ah 1) aZ (ag aA (vv 1) (vi 0)))))))) (aQ (eV (vC (.bl false)))) d_)
  (ak (dt (ec (bT (eV (al fJ (v1 (au (eM (vv 0)) [] 1 (ah 1) aZ (al (pureOf (h "is_family")) (v1 (vv 1))))))))) (aQ (eV (vC (.bl false)))) d_)
  (aQ (eV (ag u1 (al pF (v1 (au (eM (vv 0)) [] 1 (ah 1) aZ (ag aA (vv 1) (vi 1))))) (vi 5)))))))
theorem k7 (n:Nat):Pa (n+2) "are_families"=cq 1 1 (dq (Pa (n+1)) (Pa n) (Xs (n+1))):=by kernel_rfl
noncomputable def iG (a h:Str->GF) (x:Str->GX):ES:=(ak (i3 (cP [ah 2,ah 3,ah 4,ah 5,ah 6,ah 7]) (vv 0))
  (aQ (eV (vB (c9 (bV (aG kX (ac 2) (ac 1))) (c9 (bV (aG kX (ac 3) (ac 1))) (c9 (bV (aG kX (ac 4) (eV (vC (.tup [.str "row",.str "heap"]))))) (bV (fA u1 u1 (vi 1) (vv 5) (vi 3))))))))))
theorem um (n:Nat):Pa (n+2) "is_road"=cq 2 8 (iG (Pa (n+1)) (Pa n) (Xs (n+1))):=by kernel_rfl
noncomputable def dD (h x:Str->GF) (a:Str->GX):ES:=(ak (ay 2 (eV (au (eM (vv 1)) [] 1 (ah 3) aZ (ag aA (vv 3) (vi 0)))))
  (ak (dt (nW (bV (ag u2 (ck (ac 0)) (vi 8))) (ec (bT (eV (al fJ (v1 (au (eM (vv 0)) [] 1 (ah 3) aZ (al (pureOf (h "is_road")) (v2 (vv 3) (vv 2)))))))))) (aQ (eV (vC (.bl false)))) d_)
  (aQ (eV (ju (au (eM (vv 0)) [] 1 (ah 3) aZ (bK (vv 3) aE (aD (vi 2)))) (ck (ac 0)))))))
theorem oy (n:Nat):Pa (n+2) "are_roads"=cq 2 3 (dD (Pa (n+1)) (Pa n) (Xs (n+1))):=by kernel_rfl
noncomputable def cD (a h:Str->GF) (x:Str->GX):ES:=(dt (bV (aG el (eV (ag aA (vv 5) (vi 0))) (ac 3))) (aQ (eV (aG kX (ac 4) (eV (au (eM (ag aA (vv 5) (vi 5))) [] 1 (ah 6) aZ (ag aA (vv 6) (vi 0))))))) d_)
noncomputable def fX (a h:Str->GF) (x:Str->GX):ES:=(ak (i3 (cP [ah 2,ah 3,ah 4]) (vv 0))
  (ak (dt (bV (aG bv (ac 2) (eV (vC (.tup [.str "weak",.str "strong"]))))) (aQ (eV (vC (.bl false)))) d_)
  (ak (jX (eM (vv 1)) (ah 5) (cD a h x))
  (aQ (eV (vC (.bl false)))))))
theorem ui (n:Nat):Pa (n+2) "is_wish"=cq 2 6 (fX (Pa (n+1)) (Pa n) (Xs (n+1))):=by kernel_rfl
noncomputable def jf (a h:Str->GF) (x:Str->GX):ES:=(aQ (eV (al fJ (v1 (au (eM (vv 0)) [] 1 (ah 2) aZ (aG kX (ac 2) (ac 1)))))))
theorem oA (n:Nat):Pa (n+2) "are_among"=cq 2 2 (jf (Pa (n+1)) (Pa n) (Xs (n+1))):=by kernel_rfl
noncomputable def bH (a h:Str->GF) (x:Str->GX):ES:=(ak (ay 3 (BL (ac 2)))
  (dt (bV (aG el (eV (ag aA (vv 3) (vi 0))) (eV (vt "name")))) (cM (da (ac 1) (eV (ag aA (vv 3) (vi 1))))) (cM (eE (ac 2) (au (eM (vv 3)) [] 1 (ah 4) (bT (eV (vm "tuple" (ac 4)))) (vv 4))))))
noncomputable def km (a h:Str->GF) (x:Str->GX):ES:=(ak (ay 1 (gA aO))
  (ak (ay 2 (gA (v1 (vv 0))))
  (ak (qY 1000 (bT (ac 2)) (bH a h x))
  (aQ (ac 1)))))
theorem rF (n:Nat):Pa (n+2) "names_in"=cq 1 4 (km (Pa (n+1)) (Pa n) (Xs (n+1))):=by kernel_rfl
noncomputable def bI (h x:Str->GF) (a:Str->GX):ES:=(ak (ay 4 (eV (au (eM (vv 0)) [] 1 (ah 5) aZ (ag aA (vv 5) (vi 0)))))
  (ak (dt (nW (ec (bT (eV (al (pureOf (h "are_among")) (v2 (vv 4) (vv 2)))))) (bV (aG n5 (eV (jN (vv 4))) (eV (ck (ac 4)))))) (aQ (eV (vC (.bl false)))) d_)
  (ak (dt (c9 (bV (aG gX (ac 1) (eV (vC (.non))))) (bV (aG kX (eV (ag aA (vv 1) (vi 2))) (ac 4)))) (aQ (eV (vC (.bl false)))) d_)
  (aQ (eV (al fJ (v1 (au (eM (vv 0)) [] 1 (ah 5) aZ (al (pureOf (h "are_among")) (v2 (al (pureOf (h "names_in")) (v1 (ag aA (vv 5) (vi 1)))) (vv 3)))))))))))
theorem lL (n:Nat):Pa (n+2) "are_changes"=cq 4 5 (bI (Pa (n+1)) (Pa n) (Xs (n+1))):=by kernel_rfl
noncomputable def pN (a h:Str->GF) (x:Str->GX):ES:=(aQ (eV (al pG (v1 (au (eM (vv 0)) [] 1 (ah 3) aZ (vB (c9 (bV (aG el (eV (ag aA (vv 3) (vi 0))) (ac 1))) (bV (aG el (eV (ag aA (vv 3) (vi 1))) (ac 2))))))))))
theorem zo (n:Nat):Pa (n+2) "leads"=cq 3 3 (pN (Pa (n+1)) (Pa n) (Xs (n+1))):=by kernel_rfl
noncomputable def dM (h x:Str->GF) (a:Str->GX):ES:=(ak (i3 (cP [ah 4,ah 5,ah 6,ah 7]) (vv 0))
  (ak (dt (nW (ec (bT (eV (al (pureOf (h "is_name")) (v1 (vv 4)))))) (ec (bT (eV (al (pureOf (h "leads")) (v3 (vv 3) (vv 5) (ag aA (vv 1) (vi 0)))))))) (aQ (eV (vC (.bl false)))) d_)
  (aQ (eV (vB (c9 (nW (bV (aG el (ac 6) (eV (vt "")))) (bV (aG kX (ac 6) (ac 2)))) (nW (bV (aG el (ac 7) (eV (vt "")))) (bV (aG kX (ac 7) (eV (ag aA (vv 1) (vi 4))))))))))))
theorem uj (n:Nat):Pa (n+2) "is_take"=cq 4 8 (dM (Pa (n+1)) (Pa n) (Xs (n+1))):=by kernel_rfl
noncomputable def dN (h x:Str->GF) (a:Str->GX):ES:=(ak (i3 (cP [ah 4,ah 5,ah 6,ah 7]) (vv 0))
  (ak (dt (nW (ec (bT (eV (al (pureOf (h "is_name")) (v1 (vv 4)))))) (nW (bV (aG bv (ac 6) (eV (vC (.tup [.str "who",.str "all",.str "any"]))))) (ec (bT (eV (al (pureOf (h "are_among")) (v2 (al (pureOf (h "names_in")) (v1 (vv 5))) (vv 2)))))))) (aQ (eV (vC (.bl false)))) d_)
  (ak (dt (bV (aG el (ac 6) (eV (vt "who")))) (aQ (eV (aG kX (ac 7) (eV (ag aA (vv 1) (vi 4)))))) d_)
  (aQ (eV (al (pureOf (h "leads")) (v3 (vv 3) (ag aA (vv 1) (vi 0)) (vv 7))))))))
theorem ul (n:Nat):Pa (n+2) "is_send"=cq 4 8 (dN (Pa (n+1)) (Pa n) (Xs (n+1))):=by kernel_rfl
noncomputable def iF (h x:Str->GF) (a:Str->GX):ES:=(ak (i3 (cP [ah 4,ah 5,ah 6,ah 7,ah 8,ah 9,ah 10]) (vv 0))
  (ak (ay 11 (eV (ag aA (vv 1) (vi 2))))
  (ak (ay 12 (eV (au (eM (ag aA (vv 1) (vi 3))) [] 1 (ah 14) aZ (ag aA (vv 14) (vi 0)))))
  (ak (dt (nW (bV (aG bv (ac 5) (ac 11))) (nW (bV (aG bv (ac 10) (ac 11))) (ec (bT (eV (al (pureOf (h "are_among")) (v2 (al (pureOf (h "names_in")) (v1 (vv 6))) (vv 12)))))))) (aQ (eV (vC (.bl false)))) d_)
  (ak (dt (c9 (bV (aG gX (ac 7) (eV (vC (.non))))) (ec (bT (eV (al (pureOf (h "is_take")) (v4 (vv 7) (vv 1) (vv 12) (vv 3))))))) (aQ (eV (vC (.bl false)))) d_)
  (ak (ay 13 (eV (Io (bV (aG Hx (ac 7) (eV (vC (.non))))) (vv 12) (ag aB (vv 12) (ar (v1 (vt "it")))))))
  (ak (dt (ec (bT (eV (al (pureOf (h "are_changes")) (v4 (vv 8) (vv 7) (vv 12) (vv 13)))))) (aQ (eV (vC (.bl false)))) d_)
  (aQ (eV (al fJ (v1 (au (eM (vv 9)) [] 1 (ah 14) aZ (al (pureOf (h "is_send")) (v4 (vv 14) (vv 1) (vv 13) (vv 3)))))))))))))))
theorem uk (n:Nat):Pa (n+2) "is_step"=cq 4 14 (iF (Pa (n+1)) (Pa n) (Xs (n+1))):=by kernel_rfl
noncomputable def d6 (h x:Str->GF) (a:Str->GX):ES:=(dt (ec (bT (eV (al fJ (v1 (au (eM (ag aA (vv 4) (vi 5))) [] 1 (ah 5) aZ (al (pureOf (h "is_step")) (v4 (vv 5) (vv 4) (vv 1) (vv 2))))))))) (aQ (eV (vC (.bl false)))) d_)
noncomputable def dO (h x:Str->GF) (a:Str->GX):ES:=(ak (i3 (cP [ah 1,ah 2,ah 3]) (vv 0))
  (ak (dt (ec (c9 (bT (eV (al (pureOf (h "are_families")) (v1 (vv 1))))) (bT (eV (al (pureOf (h "are_roads")) (v2 (vv 2) (vv 1))))))) (aQ (eV (vC (.bl false)))) d_)
  (ak (jX (eM (vv 1)) (ah 4) (d6 h x a))
  (aQ (eV (vB (c9 (bV (ag u1 (ck (ac 3)) (vi 6))) (bV (al fJ (v1 (au (eM (vv 3)) [] 1 (ah 5) aZ (al (pureOf (h "is_wish")) (v2 (vv 5) (vv 1))))))))))))))
theorem uo (n:Nat):Pa (n+2) "is_plan"=cq 1 5 (dO (Pa (n+1)) (Pa n) (Xs (n+1))):=by kernel_rfl
noncomputable def iI (h x:Str->GF) (a:Str->GX):ES:=(dt (ec (bT (eV (al (pureOf (h "is_plan")) (v1 (vv 0)))))) mY d_)
theorem nP (n:Nat):Pa (n+2) "check_plan"=cq 1 1 (iI (Pa (n+1)) (Pa n) (Xs (n+1))):=by kernel_rfl
noncomputable def eP (h x:Str->GF) (a:Str->GX):EX:=(zV (ec (bT (eV (al (pureOf (h "is_plan")) (v1 (vv 0)))))) (mE "NoPlan") zM)
theorem lF (n:Nat):Xs (n+2) "check_plan"=iw Rs (fnX 1 1 (eP (Pa (n+1)) (Pa n) (Xs (n+1)))):=by kernel_rfl
noncomputable def eQ (x e:Str->GF) (h:Str->GX):ES:=(ak (ay 1 (eV (vC (.non))))
  (ak (yR (cM (eV (al (pureOf (x "check_plan")) (v1 (vv 0))))) (gL (h "check_plan") (aw (ac 0) bG)) (fun c=>Rs.contains c && (sF.lookup c).any fun a=>a.contains "RoadError") 2 (ay 1 (ac 2)))
  (ak (dt (nW (ec (bT (eV (ie (hR sF Rs ["NoPlan"]) (ac 1))))) (ec (bT (eV (ie (hR sF Rs ["ValueError"]) (ac 1)))))) (aQ (eV (vC (.bl false)))) d_)
  (aQ (eV (vB (ec (bV (ie (hR sF Rs ["NoDeed","NoFact","NoLine","NoRow","NoText","NoThing","NotPossible","TooMany"]) (ac 1))))))))))
theorem lK (n:Nat):Pa (n+2) "_law_refused"=cq 1 3 (eQ (Pa (n+1)) (Pa n) (Xs (n+1))):=by kernel_rfl
noncomputable def yj (h x:Str->GF) (a:Str->GX):ES:=(ak (ay 1 (eV (al (pureOf (h "_law_plan")) (v2 (vv 0) (al (pureOf (h "_law_mix")) (v2 (al (pureOf (h "_law_at")) (v2 (vv 0) (vi 0))) (vi 1)))))))
  (ak (ay 2 (eV (al (pureOf (h "_law_wrong")) (v2 (vv 1) (al (pureOf (h "_law_mix")) (v2 (al (pureOf (h "_law_at")) (v2 (vv 0) (vi 0))) (vi 2)))))))
  (ak (ay 3 (eV (al (pureOf (h "_law_copy")) (v1 (vv 2)))))
  (aQ (eV (vB (c9 (bV (al (pureOf (h "_law_refused")) (v1 (vv 3)))) (c9 (bV (al (pureOf (h "_law_refused")) (v1 (vv 3)))) (bV (aG el (ac 3) (ac 2)))))))))))
theorem DU (n:Nat):Pa (n+2) "law"=cq 1 4 (yj (Pa (n+1)) (Pa n) (Xs (n+1))):=by kernel_rfl
variable {h:Type}{m:List h}
theorem Dx (h:m.length=1):∃a,m=[a]:=by
 match m,h with
 | [a],_=>exact⟨a,rfl⟩
theorem EC (h:m.length=2):∃a b,m=[a,b]:=by
 match m,h with
 | [a,b],_=>exact⟨a,b,rfl⟩
theorem Nz (h:m.length=3):∃a b c,m=[a,b,c]:=by
 match m,h with
 | [a,b,c],_=>exact⟨a,b,c,rfl⟩
theorem Ny (h:m.length=4):∃a b c d,m=[a,b,c,d]:=by
 match m,h with
 | [a,b,c,d],_=>exact⟨a,b,c,d,rfl⟩
theorem Nx (h:m.length=5):∃a b c d e,m=[a,b,c,d,e]:=by
 match m,h with
 | [a,b,c,d,e],_=>exact⟨a,b,c,d,e,rfl⟩
theorem sc:Tb.all Kh=true:=by decide +kernel
theorem un:(Tb.map (·.name)).Nodup:=by decide +kernel
theorem GV {K:FG}{h:Heap}{mg:SV} (X:K.In h) (G:h.Ns mainGlobals mg) {E0 n E f b m p q v d:Addr}
  (ea0:PySem.W.nsIn K mainGlobals "RoadError"=some (some (.ref E0))) (en0:PySem.W.kitOne K (.type "NoneType") (.ref E0)=some false)
  (ea1:PySem.W.nsIn K mainGlobals "NoText"=some (some (.ref n))) (en1:PySem.W.kitOne K (.type "NoneType") (.ref n)=some false)
  (a:PySem.W.nsIn K mainGlobals "NoPlan"=some (some (.ref E))) (en2:PySem.W.kitOne K (.type "NoneType") (.ref E)=some false)
  (ea3:PySem.W.nsIn K mainGlobals "NoLine"=some (some (.ref f))) (en3:PySem.W.kitOne K (.type "NoneType") (.ref f)=some false)
  (ea4:PySem.W.nsIn K mainGlobals "NoDeed"=some (some (.ref b))) (en4:PySem.W.kitOne K (.type "NoneType") (.ref b)=some false)
  (ea5:PySem.W.nsIn K mainGlobals "NotPossible"=some (some (.ref m))) (en5:PySem.W.kitOne K (.type "NoneType") (.ref m)=some false)
  (ea6:PySem.W.nsIn K mainGlobals "TooMany"=some (some (.ref p))) (en6:PySem.W.kitOne K (.type "NoneType") (.ref p)=some false)
  (ea7:PySem.W.nsIn K mainGlobals "NoFact"=some (some (.ref q))) (en7:PySem.W.kitOne K (.type "NoneType") (.ref q)=some false)
  (ea8:PySem.W.nsIn K mainGlobals "NoRow"=some (some (.ref v))) (en8:PySem.W.kitOne K (.type "NoneType") (.ref v)=some false)
  (ea9:PySem.W.nsIn K mainGlobals "NoThing"=some (some (.ref d))) (en9:PySem.W.kitOne K (.type "NoneType") (.ref d)=some false)
  (ev:PySem.W.nsIn K mainGlobals "ValueError"=some none) (u:PySem.W.kitOne K (.type "NoneType") (.type "ValueError")=some false)
  (H:PySem.W.findIn K (.ref E) "__getattribute__"=some (some (.builtin "BaseException.__getattribute__"))) (S:PySem.W.findIn K (.ref E) "__getattr__"=some none) (o:PySem.W.mroIn K E (.type "BaseException")=some true) (l:PySem.W.findIn K (.ref E) "__class__"=some (some (.builtin "object.__class__"))) (j:PySem.W.specialIn K (.builtin "object.__class__") "__get__"=some (some (.builtin "getset_descriptor.__get__"))) (y:PySem.W.takesIn K (.builtin "object.__class__")=some true) (V:PySem.W.mroIn K E (.type "object")=some true) (F:(PySem.W.clsIn K E).isSome=true) (Y:PySem.W.kitCls K (.ref E) (.ref E)=some true) (Z:PySem.W.kitOne K (.ref E) (.type "ValueError")=some true) (W:PySem.W.excIn K E Go "ValueError.__new__"=true)
  (P:PySem.W.kitOne K (.ref E) (.ref E0)=some true)
  (Q:PySem.W.exmOne K (.ref E) (.ref E0)=some true)
  (A:PySem.W.kitOne K (.ref E) (.ref n)=some false)
  (B:PySem.W.kitOne K (.ref E) (.ref E)=some true)
  (U:PySem.W.exmOne K (.ref E) (.ref E)=some true)
  (D:PySem.W.kitOne K (.ref E) (.ref f)=some false)
  (I:PySem.W.kitOne K (.ref E) (.ref b)=some false)
  (J:PySem.W.kitOne K (.ref E) (.ref m)=some false)
  (L:PySem.W.kitOne K (.ref E) (.ref p)=some false)
  (M:PySem.W.kitOne K (.ref E) (.ref q)=some false)
  (N:PySem.W.kitOne K (.ref E) (.ref v)=some false)
  (O:PySem.W.kitOne K (.ref E) (.ref d)=some false)
  : ExsOk K mg sF Rs:=by
 have k:∀c:Str,(sF.any fun x=>decide (x.1=c))=true->c=("RoadError":Str)\/c=("NoText":Str)\/c=("NoPlan":Str)\/c=("NoLine":Str)\/c=("NoDeed":Str)\/c=("NotPossible":Str)\/c=("TooMany":Str)\/c=("NoFact":Str)\/c=("NoRow":Str)\/c=("NoThing":Str):=fun c s=>by simp only [sF,f8,List.any_nil,Bool.or_false,pR,decide_eq_true_eq] at s;rcases s with rfl | rfl | rfl | rfl | rfl | rfl | rfl | rfl | rfl | rfl <;> simp
 have r:∀c:Str,Rs.contains c=true->c=("NoPlan":Str):=fun c s=>by simpa [Rs] using s
 refine⟨fun c s=>?_,PySem.W.mg_none_of X G ev,fun t C g e=>?_,u,fun c w C R ea i=>?_,fun c R=>?_,fun c C R i=>?_⟩
 .rcases k c s with rfl | rfl | rfl | rfl | rfl | rfl | rfl | rfl | rfl | rfl <;> exact⟨_,by assumption,jj X G (by assumption)⟩
 .rcases k t g with rfl | rfl | rfl | rfl | rfl | rfl | rfl | rfl | rfl | rfl <;> (cases (jj X G (by assumption)).symm.trans e;assumption)
 .rcases r c R with rfl
  .cases a.symm.trans i;cases (show some (["NoPlan","RoadError","ValueError"]:LS)=some w from ea);refine⟨⟨H,S,l,j,y,V,o,F⟩,Y,Z,fun t T g e=>?_⟩;rcases k t g with rfl | rfl | rfl | rfl | rfl | rfl | rfl | rfl | rfl | rfl <;> (cases (jj X G (by assumption)).symm.trans e;exact⟨by assumption,fun z=>by first | assumption | exact nomatch z⟩)
 .rcases r c R with rfl <;> decide +kernel
 .rcases r c R with rfl
  .cases a.symm.trans i;exact⟨jj X G a,W⟩
noncomputable def Fn (K:FG) (t:Nat) (x:Str):Prop:=∃(f:Addr) (o:Value) (e:Option Addr) (kV d p:Value) (a:Option Addr) (c h:Value) (s:Array (OV)),PySem.W.nsIn K mainGlobals x=some (some (.ref f))/\K.lookup f=some ⟨o,e,.func (PySem.W.fnOf x x (iY (eU t)) (dc (eU t)) (aP (eU t)) .none kV d p a c h),s⟩/\PySem.W.codeIn K c x=true/\PySem.W.keepIn K (.ref f)=true
variable {x:Str}
theorem dk (X:K.In e) (G:e.Ns mainGlobals g) (H:Fn K t x)
  (r:∀(kV o p:Value) (n:Option Addr) (d h:Value) (m:LV),m.length=b.length->bindArgs (PySem.W.fnOf x x (iY (eU t)) (dc (eU t)) (aP (eU t)) .none kV o p n d h) ⟨m,[]⟩=pure (b.zip m)):∃f s,DOk K g ⟨x,x,"",eU t,N,b,j,w,y⟩ f s:=by
 obtain⟨f,u,i,kV,v,p,n,q,h,z,a,l,c,k⟩:=H;exact⟨_,_,⟨BF l c k,(BF l c k).binds r,fun _=>jj X G a,fun e=>absurd (show ("":Str).cps.isEmpty=false from e) (by decide +kernel)⟩⟩
theorem eh [Decidable c] (h:(if c then a else b)=v):(c/\a=v)\/(¬c/\b=v):=by
 by_cases e:c
 .exact .inl ⟨e,by rwa [if_pos e] at h⟩
 .exact .inr ⟨e,by rwa [if_neg e] at h⟩
noncomputable def Gi (K:FG) (x:Str) (i:Int):Prop:=∃t,PySem.W.nsIn K mainGlobals x=some (some (.int i t))
noncomputable def Gs (K:FG) (x i:Str):Prop:=∃t,PySem.W.nsIn K mainGlobals x=some (some (.str i t))
variable {i:Int}
theorem Ju (X:K.In e) (G:e.Ns mainGlobals g) (H:Gi K x i):i1 w K g x (.int i):=by obtain⟨t,a⟩:=H;exact .plain ⟨_,.int i,jj X G a,⟨_,rfl⟩,fun _ _=>rfl⟩ rfl
theorem Js {w:World}{K:FG}{h:Heap}{m:SV} (X:K.In h) (G:h.Ns mainGlobals m) {x i:Str} (H:Gs K x i):i1 w K m x (.str i):=by obtain⟨t,a⟩:=H;exact .plain ⟨_,.str i,jj X G a,⟨_,rfl⟩,fun _ _=>rfl⟩ rfl
open PySem.W in
theorem G7 {w:World}{K:Frag}{h:Heap}{Z:SV} (X:K.In h) (G:h.Ns mainGlobals Z)
  (h0:Fn K 51 "_law_mix") (h1:Fn K 50 "_law_at") (h2:Fn K 53 "_law_next") (h3:Fn K 52 "_law_named") (h4:Fn K 57 "_law_cells") (h5:Fn K 58 "_law_first") (h6:Fn K 59 "_law_roads") (h7:Fn K 54 "_law_leaf") (h8:Fn K 55 "_law_small") (h9:Fn K 56 "_law_when") (h10:Fn K 60 "_law_sends") (h11:Fn K 61 "_law_step") (h12:Fn K 62 "_law_plan") (h13:Fn K 66 "_law_wrong_list") (h14:Fn K 64 "_law_bad_name") (h15:Fn K 65 "_law_set") (h16:Fn K 67 "_law_wrong_family") (h17:Fn K 68 "_law_bad_step") (h18:Fn K 69 "_law_bent_step") (h19:Fn K 70 "_law_wrong") (h20:Fn K 63 "_law_copy") (h21:Fn K 18 "is_made_of") (h22:Fn K 19 "is_name") (h23:Fn K 20 "are_names") (h24:Fn K 21 "are_unlike_names") (h25:Fn K 39 "is_cell") (h26:Fn K 38 "is_family") (h27:Fn K 37 "are_families") (h28:Fn K 41 "is_road") (h29:Fn K 40 "are_roads") (h30:Fn K 42 "is_wish") (h31:Fn K 44 "are_among") (h32:Fn K 23 "names_in") (h33:Fn K 46 "are_changes") (h34:Fn K 48 "leads") (h35:Fn K 45 "is_take") (h36:Fn K 47 "is_send") (h37:Fn K 43 "is_step") (h38:Fn K 36 "is_plan") (h39:Fn K 35 "check_plan") (h40:Fn K 71 "_law_refused") (h41:Fn K 72 "law")
  (g0:Gs K "LETTERS" "abcdefghijklmnopqrstuvwxyz") (g1:Gi K "MOST_CELLS" 3) (g2:Gi K "MOST_FAMILIES" 4) (g3:Gi K "MOST_HANDS" 5) (g4:Gi K "MOST_LETTERS" 10) (g5:Gi K "MOST_LETTERS_ON_ROAD" 3) (g6:Gi K "MOST_ROADS" 8) (g7:Gi K "MOST_ROOMS" 8) (g8:Gi K "MOST_STEPS" 8) (g9:Gi K "MOST_WHOS" 2) (g10:Gi K "MOST_WISHES" 6) (g13:Gi K "WIDEST_CELL" 9) 
  {i:Addr}{M:Option Addr}{E:Nat}{R:Array (OV)}{g t:Tok} (o:nsIn K mainGlobals "ROAD_KINDS"=some (some (.ref i))) (P:K.lookup i=some ⟨.type "tuple",M,.seq #[.str "row" g,.str "heap" t] E,R⟩)
  {j:Addr}{N:Option Addr}{I:Nat}{T:Array (OV)}{a s n:Tok} (H:nsIn K mainGlobals "WAYS"=some (some (.ref j))) (A:K.lookup j=some ⟨.type "tuple",N,.seq #[.str "who" a,.str "all" s,.str "any" n] I,T⟩)
  {l:Addr}{O:Option Addr}{J:Nat}{U:Array (OV)}{k b:Tok} (S:nsIn K mainGlobals "WISH_KINDS"=some (some (.ref l))) (B:K.lookup l=some ⟨.type "tuple",O,.seq #[.str "weak" k,.str "strong" b] J,U⟩)
  {y:Addr}{Q:Option Addr}{L:Nat}{V:Array (OV)}{r p q u:Tok} (F:nsIn K mainGlobals "WORDS"=some (some (.ref y))) (C:K.lookup y=some ⟨.type "tuple",Q,.seq #[.str "or" r,.str "and" p,.str "not" q,.str "true" u] L,V⟩)
  (z:∀x ∈ D',nsIn K mainGlobals x=some none)
  (hex:ExsOk K Z sF Rs)
  : TOk w Gv Att sF Rs Tb K Z:=by
 refine⟨hex,fun d hd=>?_,sc,un,fun x Y=>mg_none_of X G (z x Y),fun x v D=>?_,fun c f hc=>?_⟩
 .simp only [Tb,List.mem_cons,List.not_mem_nil,or_false] at hd;rcases hd with rfl | rfl | rfl | rfl | rfl | rfl | rfl | rfl | rfl | rfl | rfl | rfl | rfl | rfl | rfl | rfl | rfl | rfl | rfl | rfl | rfl | rfl | rfl | rfl | rfl | rfl | rfl | rfl | rfl | rfl | rfl | rfl | rfl | rfl | rfl | rfl | rfl | rfl | rfl | rfl | rfl | rfl;all_goals exact dk X G (by assumption) fun _ _ _ _ _ _ m W=>by first | (obtain⟨_,rfl⟩:=Dx W;rfl) | (obtain⟨_,_,rfl⟩:=EC W;rfl) | (obtain⟨_,_,_,rfl⟩:=Nz W;rfl) | (obtain⟨_,_,_,_,rfl⟩:=Ny W;rfl) | (obtain⟨_,_,_,_,_,rfl⟩:=Nx W;rfl)
 .unfold Gv at D;repeat
   rcases eh D with ⟨e,D⟩ | ⟨_,D⟩
   .cases D;subst e;first | exact Ju X G (by assumption) | exact Js X G (by assumption) | exact .plain (iX ["row","heap"] (mg_of X G o) P (by show 2≤sizeLine;decide) (.cons ⟨_,rfl⟩ (.cons ⟨_,rfl⟩ .nil))) rfl | exact .plain (iX ["who","all","any"] (mg_of X G H) A (by show 3≤sizeLine;decide) (.cons ⟨_,rfl⟩ (.cons ⟨_,rfl⟩ (.cons ⟨_,rfl⟩ .nil)))) rfl | exact .plain (iX ["weak","strong"] (mg_of X G S) B (by show 2≤sizeLine;decide) (.cons ⟨_,rfl⟩ (.cons ⟨_,rfl⟩ .nil))) rfl | exact .plain (iX ["or","and","not","true"] (mg_of X G F) C (by show 4≤sizeLine;decide) (.cons ⟨_,rfl⟩ (.cons ⟨_,rfl⟩ (.cons ⟨_,rfl⟩ (.cons ⟨_,rfl⟩ .nil))))) rfl
  cases D
 .obtain⟨x,Y,e⟩:=jm.mp hc;cases Y
theorem rD (a b:Str):PyData.eqv (.str a) (.str b)=decide (a=b):=by rw [Bool.eq_iff_iff];simp [PyData.eqv]
theorem BJ (a b c d:PyData):PyData.eqv (.tuple [a,b]) (.tuple [c,d])=(PyData.eqv a c && PyData.eqv b d):=by simp [PyData.eqv,PyData.eqvAll]
theorem log2_small (h:i.natAbs < 2 ^ 60):i.natAbs.log2 < 60:=by
 by_cases e:i.natAbs=0
 .rw [e];decide
 .exact (Nat.log2_lt e).mpr h
theorem dJ {j:Int} (h:i.natAbs < 2 ^ 60) (x:j.natAbs < 2 ^ 60):hL i j=true:=by unfold hL;have a:=log2_small h;have b:=log2_small x;exact dH (by lia)
theorem Gh:∀(n:Nat) (v:P),b8 n v=true->b8 (n+1) v=true:=by
 intro n;induction n with
 | zero=>intro v h;cases v <;> first | rfl | exact h | cases h
 | succ n i=>
  intro v h;cases v with
  | tup s=>exact aW.mpr fun x a=>i x (aW.mp h x a)
  | lst s=>exact aW.mpr fun x a=>i x (aW.mp h x a)
  | ro s=>exact aW.mpr fun x a=>i x (aW.mp h x a)
  | non=>rfl
  | bl _=>rfl
  | int _=>rfl
  | str _=>exact h
  | dct _ _=>cases h
variable {n:Nat}
theorem na (h:b8 n v=true) (m:n≤a):b8 a v=true:=by
 obtain⟨k,rfl⟩:=Nat.exists_eq_add_of_le m;clear m;induction k with
 | zero=>exact h
 | succ k i=>exact Gh _ _ i
noncomputable def strOk (x:Str):Prop:=PyData.strOk x=true
@[simp] theorem Do (n:Nat) (i:Int):b8 n (.int i)=true:=by cases n <;> rfl
@[simp] theorem LX (n:Nat) (i:Bool):b8 n (.bl i)=true:=by cases n <;> rfl
@[simp] theorem Kl (n:Nat):b8 n .non=true:=by cases n <;> rfl
@[simp] theorem iU (n:Nat) (x:Str):b8 n (.str x)=PyData.strOk x:=by cases n <;> rfl
@[simp] theorem md (n:Nat) (s:List P):b8 (n+1) (.tup s)=s.all (b8 n):=rfl
@[simp] theorem Km (n:Nat) (s:List P):b8 (n+1) (.lst s)=s.all (b8 n):=rfl
theorem Ba (h:∀x ∈ s,b8 n x=true):b8 (n+1) (.lst s)=true:=aW.mpr h
@[simp] theorem mh (c:Nat):Str.length ⟨#[c]⟩=1:=rfl
theorem Dz (x y:Str):(x++y).length=x.length+y.length:=by show (x.cps++y.cps).size=_;rw [Array.size_append];rfl
theorem lg (h:x.length+y.length≤1000000):lP (.str x) (.str y)=some (.str (x++y)):=by show (if fM (x.length+y.length)=true then some (P.str (x++y)) else none)=_;rw [if_pos (by rw [yi];exact h)]
variable {s:List h}
theorem B7 (h:s≠[]) (a:Int):∃x ∈ s,L2.atI s (a % (s.length:Int))=some x:=by
 have l:(0:Int) < (s.length:Int):=by cases s with | nil=>exact absurd rfl h | cons _ _=>simp
 have e:=fj a (mn l);have n:=fv a l;have k:(a % (s.length:Int)).toNat < s.length:=by lia
 exact⟨s[(a % (s.length:Int)).toNat],jn _,aI e (by simp [k])⟩
variable {k:Int}
theorem su (h:0≤k) (e:k < (s.length:Int)):∃x ∈ s,L2.atI s k=some x:=by
 have a:k.toNat < s.length:=by lia
 exact⟨s[k.toNat],jn _,aI h (by simp [a])⟩
theorem atI_last (h:s≠[]):∃x ∈ s,L2.atI s (-1)=some x:=by
 have l:0 < s.length:=ia.mpr h;refine⟨s[s.length-1],jn _,?_⟩;unfold L2.atI L2.wq;rw [if_neg (by lia),if_pos (by lia)];have e:(-1+(s.length:Int)).toNat=s.length-1:=by lia
 simp [e,l]
theorem dA (lo:Int) (n:Nat):(intsFrom lo n).length=n:=by simp [Ev.intsFrom]
theorem Bi (f n:Str->GF) (k:Str->GX) (s:List P):∀(a:Int) (p t q:Option D),∃(r:Int) (e:Option D),cA (ah 2) (fK f n k) s [qi a,p,t,q] []=some (.nx,[qi r,p,e,q],[]):=by
 induction s with
 | nil=>intro a p t q;exact⟨a,t,rfl⟩
 | cons x s i=>intro a p t q;obtain⟨r,e,h⟩:=i (a / 2147483648) p (qp x) q;exact⟨r,e,by simpa [cA,fK] using h⟩
theorem Gp (n:Nat) (a:Int) {p:Int} (s:0≤p) (k:p < 1000):∃r:Int,0≤r/\r < 2147483648/\pureOf (Pa (n+2) "_law_mix") [.int a,.int p]=some (.int r):=by
 by_cases h:(1000000000000:Int)≤a
 .obtain⟨r,i,e⟩:=Bi (Pa (n+1)) (Pa n) (Xs (n+1)) (intsFrom 0 (p % 61).toNat) (a / 1000000000000-1) (qi p) none none;refine⟨r % 2147483648,fj _ (by decide),fv _ (by decide),?_⟩;have c:(p % 61).natAbs < 1000000:=by lia
  rw [lv,ap];simp [iD,h,c,e]
 .have m:0≤8 * p * p/\8 * p * p≤8000000:=by
   have:0≤p * p/\p * p≤1000000:=⟨Int.mul_nonneg s s,Int.le_trans (Int.mul_le_mul (Int.le_of_lt k) (Int.le_of_lt k) s (by decide)) (by decide)⟩;rw [Int.mul_assoc];lia
  have v:hL 8 p=true:=dJ (by decide) (by lia);have d:hL (8 * p) p=true:=dJ (by lia) (by lia);have w:hL (a % 2147483629+p+1) (8 * p * p+48271)=true:=dJ (by lia) (by lia);generalize f:(a % 2147483629+p+1) * (8 * p * p+48271) % 2147483647=x;have t:0≤x/\x < 2147483647:=by subst f;exact⟨fj _ (by decide),fv _ (by decide)⟩
  have u:hL x x=true:=dJ (by lia) (by lia);generalize b:x * x % 2147483587=y;have q:0≤y/\y < 2147483587:=by subst b;exact⟨fj _ (by decide),fv _ (by decide)⟩
  have g:hL y (y+2)=true:=dJ (by lia) (by lia);refine⟨y * (y+2) % 2147483579,fj _ (by decide),Int.lt_trans (fv _ (by decide)) (by decide),?_⟩;rw [lv,ap];simp [iD,h,v,d,w,f,u,b,g]
noncomputable def cE (n:List Int):P:=.ro (n.map .int)
theorem JM (n:Nat) (s:List Int) (x:0≤k) (f:k < 1000):∃r:Int,pureOf (Pa (n+2) "_law_at") [cE s,.int k]=some (.int r):=by
 by_cases h:k < (s.length:Int)
 .have a:k.toNat < s.length:=by lia
  refine⟨s[k.toNat],?_⟩;have e:L2.atI (s.map P.int) k=some (.int s[k.toNat]):=aI x (by simp [a]);rw [nN,ap];simp [jJ,cE,bC,bF,h,e]
 .refine⟨23 * k+6,?_⟩;have m:hL 23 k=true:=dJ (by decide) (by lia);rw [nN,ap];simp [jJ,cE,bC,bF,h,m]
theorem rM (n:Nat) (s:List Int) {p:Int} (a:0≤k) (m:k < 1000) (f:0≤p) (b:p < 1000):∃c r:Int,0≤r/\r < 2147483648/\pureOf (Pa (n+2) "_law_at") [cE s,.int k]=some (.int c)/\pureOf (Pa (n+2) "_law_mix") [.int c,.int p]=some (.int r):=by obtain⟨c,e⟩:=JM n s a m;obtain⟨r,t,h,x⟩:=Gp n c f b;exact⟨c,r,t,h,e,x⟩
noncomputable def cnt (c:Int):SO:=.lst [.p (.int c)]
@[simp] theorem kE (S:aR) (j:Nat) (x:SO):trunc S.length (S.set j x)=S.set j x:=by
 unfold trunc;have:(S.set j x).take S.length=S.set j x:=qa (by simp)
 rw [this];split <;> rfl
variable {S:aR}
theorem bz (h:S.length=n):trunc n S=S:=by unfold trunc;rw [qa (by lia)];split <;> rfl
theorem Ds (n:Nat) (s:List Int){c:Int} (x:S[j]? = some (cnt c)) (u:0≤c) (g:c < 50000) :
  ∃r:Int,0≤r/\r < 2147483648/\Pa (n+4) "_law_next" [.p (cE s),.ref j] S=some (.p (.int r),S.set j (cnt (c+1))):=by
 obtain⟨a,r,v,d,b,m⟩:=rM (n+1) s (k:=1+(c+1) % 62) (p:=1+(c+1) / 62) (by lia) (by lia) (by lia) (by lia);refine⟨r,v,d,?_⟩;have l:j < S.length:=(bw.mp x).1;have t:(S.set j (cnt (c+1)))[j]? = some (cnt (c+1)):=by rw [et l]
 have q:mX (ac 1) (vi 0) (ag aB (vE (fI (ac 1) (vi 0))) (vi 1)) [qp (cE s),some (.ref j)] S=some (.nx,[qp (cE s),some (.ref j)],S.set j (cnt (c+1))):=by simp [mX,IU,cO,x,cnt,fU,L2.wq]
 have f:(S.set j (cnt (c+1)))[j]? = some (.lst [.p (.int (c+1))]):=t;have e:pureOf (Pa (n+2+1) "_law_at") [cE s,.int (1+(c+1) % 62)]=some (.int a):=b;have h:pureOf (Pa (n+2+1) "_law_mix") [.int a,.int (1+(c+1) / 62)]=some (.int r):=m;clear t x b m;generalize S.set j (cnt (c+1))=w at *
 rw [rK];simp only [cq,kn,bo,List.length_nil,List.map_cons,eO,List.cons_append,pT,Nat.reduceAdd,Nat.reduceSub,List.replicate_zero,gK];simp only [aa,q];simp [f,e,h]
noncomputable def bJ (ψ:Str->GF) (ns:List Int):Prop:=∀{S:aR}{j:Nat}{c:Int},S[j]? = some (cnt c)->0≤c->c < 50000 ->
  ∃r:Int,0≤r/\r < 2147483648/\ψ "_law_next" [.p (cE ns),.ref j] S=some (.p (.int r),S.set j (cnt (c+1)))
theorem eI (n:Nat) (s:List Int):bJ (Pa (n+4)) s:=fun j h x=>Ds n s j h x
theorem gY {c x:Int} (h:S[j]? = some (cnt c)):(S.set j (cnt x))[j]? = some (cnt x):=by rw [et (bw.mp h).1]
end My
namespace My
open PySem L2 Ev
noncomputable def xv (i:Nat):Nat:=[120,118,122].getD i 0
noncomputable def EA (k a b:Nat):Str:=b7 ⟨#[97+k]⟩ (1+a)++⟨#[xv b]⟩
noncomputable def Ez (k d:Nat):Str:=b7 ⟨#[109]⟩ d++⟨#[97+k]⟩++b7 ⟨#[109]⟩ (9-d)
noncomputable def nm (k:Nat) (s:Int):Str:=if s % 2=0 then EA k (s / 2 % 9).toNat (s / 18 % 3).toNat else Ez k (s / 2 % 10).toNat
noncomputable def aH (x:Str):Bool:=decide (1≤x.length) && decide (x.length≤10) && x.cps.all (fun c=>decide (97≤c) && decide (c≤122)) && !(([("or":Str),"and","not","true"]).any fun y=>decide (y=x))
noncomputable def fy:LS:=["it","first","by","who","to","from","at","go"]
noncomputable def ud (x:Str):Bool:=!(fy.any fun y=>decide (y=x))
noncomputable def CF (a b:Nat):Bool:=(List.range 8).all fun k=>(List.range 8).all fun h=>decide (k=h) || !decide (EA k a b=EA h a b)
noncomputable def CD (d:Nat):Bool:=(List.range 8).all fun k=>(List.range 8).all fun h=>decide (k=h) || !decide (Ez k d=Ez h d)
theorem xM:((List.range 9).all fun a=>(List.range 3).all fun b=>CF a b && (List.range 8).all fun k=>aH (EA k a b) && ud (EA k a b))=true:=by decide +kernel
theorem xL:((List.range 10).all fun d=>CD d && (List.range 8).all fun k=>aH (Ez k d) && ud (Ez k d))=true:=by decide +kernel
theorem Cy:(fy.all fun x=>aH x)=true:=by decide +kernel
variable {k:Nat}
theorem iV (s:Int) (h:k < 8):aH (nm k s)=true/\ud (nm k s)=true:=by
 unfold nm;split
 .have:=aW.mp xM (s / 2 % 9).toNat (bt.mpr (by lia));have:=aW.mp this (s / 18 % 3).toNat (bt.mpr (by lia))
  have:=aW.mp (Bool.and_eq_true _ _ ▸ this).2 k (bt.mpr h);simpa using this
 .have:=aW.mp xL (s / 2 % 10).toNat (bt.mpr (by lia));have:=aW.mp (Bool.and_eq_true _ _ ▸ this).2 k (bt.mpr h)
  simpa using this
theorem Gm {s:Int} (a:k < 8) (x:e < 8) (h:nm k s=nm e s):k=e:=by
 unfold nm at h;split at h
 .have:=aW.mp xM (s / 2 % 9).toNat (bt.mpr (by lia));have:=aW.mp this (s / 18 % 3).toNat (bt.mpr (by lia))
  have:=(Bool.and_eq_true _ _ ▸ this).1;have:=aW.mp (aW.mp this k (bt.mpr a)) e (bt.mpr x)
  simpa [h] using this
 .have:=aW.mp xL (s / 2 % 10).toNat (bt.mpr (by lia));have:=(Bool.and_eq_true _ _ ▸ this).1
  have:=aW.mp (aW.mp this k (bt.mpr a)) e (bt.mpr x);simpa [h] using this
variable {x:Str}
theorem bf (h:aH x=true):strOk x:=by
 unfold aH at h;simp only [Bool.and_eq_true] at h;refine jp.mpr fun i a=>?_
 have:=jp.mp h.1.2 i a;simp only [Bool.and_eq_true,decide_eq_true_eq] at this;exact dH (by lia)
theorem xN (h:aH x=true):x≠"":=by rintro rfl;revert h;decide +kernel
theorem G8:∀k:Nat,k < 8->aA (.str "abcdefgh") (.int (k:Int))=some (.str ⟨#[97+k]⟩):=by
 intro k h;have e:∀k:Nat,k < 8->L2.atI ((("abcdefgh":Str)).cps.toList) (k:Int)=some (97+k):=by decide +kernel
 show (if fM (("abcdefgh":Str)).length=true then (L2.atI ((("abcdefgh":Str)).cps.toList) (k:Int)).map fun c=>P.str ⟨#[c]⟩ else none)=_;rw [e k h,if_pos (by decide +kernel)];rfl
theorem E9 {i:Int} (h:0≤i) (x:i < 3):aA (.str "xvz") (.int i)=some (.str ⟨#[xv i.toNat]⟩):=by
 have e:∀k:Nat,k < 3->L2.atI ((("xvz":Str)).cps.toList) (k:Int)=some (xv k):=by decide +kernel
 have e:=e i.toNat (by lia);rw [Int.toNat_of_nonneg h] at e;show (if fM (("xvz":Str)).length=true then (L2.atI ((("xvz":Str)).cps.toList) i).map fun c=>P.str ⟨#[c]⟩ else none)=_;rw [e,if_pos (by decide +kernel)];rfl
theorem mul_str {m:Int} (a:0≤m) (e:m≤100) (h:x.length=1):rY (.str x) (.int m)=some (.str (b7 x m.toNat)):=by show (if (fM (m.toNat * x.length) && decide (m.natAbs < 1000000))=true then some (P.str (b7 x m.toNat)) else none)=_;rw [if_pos (by rw [Bool.and_eq_true,yi,h];exact⟨by lia,dH (by lia)⟩)]
theorem Dv (n:Nat) (v:k < 8) (s:Int) (S:aR):Pa (n+2) "_law_named" [.p (.int (k:Int)),.p (.int s)] S=some (.p (.str (nm k s)),S):=by
 have f:=G8 k v;rw [ou];unfold nm;by_cases h:s % 2=0
 .have b:0≤s / 2 % 9/\s / 2 % 9 < 9:=by lia
  have c:0≤s / 18 % 3/\s / 18 % 3 < 3:=by lia
  have r:=E9 c.1 c.2;have a:rY (.str ⟨#[97+k]⟩) (.int (1+s / 2 % 9))=some (.str (b7 ⟨#[97+k]⟩ (1+s / 2 % 9).toNat)):=mul_str (by lia) (by lia) rfl;have e:lP (.str (b7 ⟨#[97+k]⟩ (1+s / 2 % 9).toNat)) (.str ⟨#[xv (s / 18 % 3).toNat]⟩)=some (.str (EA k (s / 2 % 9).toNat (s / 18 % 3).toNat)):=by rw [lg (by rw [dw,mh,mh];lia)];unfold EA;rw [show (1+s / 2 % 9).toNat=1+(s / 2 % 9).toNat by lia]
  simp only [if_pos h];simp [cq,gm,h,f,r,a,e]
 .have b:0≤s / 2 % 10/\s / 2 % 10 < 10:=by lia
  have l:(("m":Str)).length=1:=by decide +kernel
  have q:("m":Str)=⟨#[109]⟩:=by decide +kernel
  have a:=mul_str (x:="m") b.1 (by lia) l;have e:=mul_str (x:="m") (m:=9-s / 2 % 10) (by lia) (by lia) l;have t:lP (.str (b7 "m" (s / 2 % 10).toNat)) (.str ⟨#[97+k]⟩)=some (.str (b7 "m" (s / 2 % 10).toNat++⟨#[97+k]⟩)):=lg (by rw [dw,l,mh];lia);have p:lP (.str (b7 "m" (s / 2 % 10).toNat++⟨#[97+k]⟩)) (.str (b7 "m" (9-s / 2 % 10).toNat))=some (.str (Ez k (s / 2 % 10).toNat)):=by rw [lg (by rw [Dz,dw,dw,l,mh];lia)];unfold Ez;rw [show (9-s / 2 % 10).toNat=9-(s / 2 % 10).toNat by lia,q]
  simp only [if_neg h];simp [cq,gm,h,f,a,e,t,p]
noncomputable def cL (l:Str->GF):Prop:=∀(k:Nat) (s:Int) (S:aR),k < 8->l "_law_named" [.p (.int (k:Int)),.p (.int s)] S=some (.p (.str (nm k s)),S)
variable {l:Str->GF}
theorem cL.pure (h:cL l) (s:Int) (x:k < 8):pureOf (l "_law_named") [.int (k:Int),.int s]=some (.str (nm k s)):=tv (h k s [] x)
theorem iW (n:Nat):cL (Pa (n+2)):=fun _ s S h=>Dv n h s S
noncomputable def oa (x:Str):Bool:=decide (x="qqq") || decide (x="zzzzzzzzzz")
theorem Bc:((List.range 9).all fun a=>(List.range 3).all fun b=>(List.range 8).all fun k=>!oa (EA k a b))=true:=by decide +kernel
theorem Bb:((List.range 10).all fun d=>(List.range 8).all fun k=>!oa (Ez k d))=true:=by decide +kernel
theorem Dq:(fy.all fun x=>!oa x)=true:=by decide +kernel
theorem wj (s:Int) (h:k < 8):oa (nm k s)=false:=by
 unfold nm;split
 .have:=aW.mp Bc (s / 2 % 9).toNat (bt.mpr (by lia));have:=aW.mp this (s / 18 % 3).toNat (bt.mpr (by lia))
  have:=aW.mp this k (bt.mpr h);simpa using this
 .have:=aW.mp Bb (s / 2 % 10).toNat (bt.mpr (by lia));have:=aW.mp this k (bt.mpr h)
  simpa using this
noncomputable def aq (K:LS):List P:=K.map .str
@[simp] theorem iP (K:LS):(aq K).length=K.length:=by simp [aq]
variable {K:LS}
theorem i9 (h:K≠[]) (a:Int):∃x ∈ K,L2.atI (aq K) (a % (K.length:Int))=some (.str x):=by obtain⟨v,s,e⟩:=B7 (s:=aq K) (by simpa [aq] using h) a;obtain⟨x,n,rfl⟩:=bb.mp s;rw [iP] at e;exact⟨x,n,e⟩
noncomputable def jD (K:LS) (v:P):Prop:=(∃x ∈ K,v=.tup [.str "name",.str x])\/∃i:Int,v=.tup [.str "number",.int i]
noncomputable def cX (K:LS) (v:P):Prop:=jD K v\/∃(o:Str) (a b:P),(o="plus"\/o="minus"\/o="times")/\jD K a/\jD K b/\v=.tup [.str o,a,b]
noncomputable def nE (K:LS) (v:P):Prop:=∃(w:Str) (a b:P),strOk w/\cX K a/\cX K b/\v=.tup [.str "is",.str w,a,b]
noncomputable def kT (K:LS) (v:P):Prop:=v=.tup [.str "true"]\/nE K v\/(∃a,nE K a/\v=.tup [.str "not",a])\/∃(o:Str) (a b:P),(o="and"\/o="or")/\nE K a/\nE K b/\v=.tup [.str o,a,b]
variable {o:Type}
theorem HJ (x y:o) {i:Int} (h:0≤i) (a:i < 2):∃z ∈ [x,y],L2.atI [x,y] i=some z:=su h (by simpa using a)
theorem DA (n:Nat) (K:LS) (s:Int):∃v,jD K v/\pureOf (Pa (n+2) "_law_leaf") [.lst (aq K),.int s]=some v:=by
 by_cases h:0 < s % 3/\K≠[]
 .obtain⟨x,b,e⟩:=i9 h.2 (s / 3);have f:0 < K.length:=ia.mpr h.2;refine⟨_,.inl ⟨x,b,rfl⟩,?_⟩;have a:=h.1;have l:(0:Int) < K.length:=by lia
  rw [ke,ap];simp [eY,a,bC,bF,f,l,e]
 .obtain⟨z,k,e⟩:=HJ (P.int (s / 3 % 10)) (.int (s / 30 % 1000)) (i:=s / 3 % 4 / 3) (by lia) (by lia);have:∃i:Int,z=.int i:=by
   simp only [List.mem_cons,List.not_mem_nil,or_false] at k;rcases k with rfl | rfl <;> exact⟨_,rfl⟩
  obtain⟨i,rfl⟩:=this;refine⟨_,.inr ⟨i,rfl⟩,?_⟩;rw [ke,ap];by_cases a:0 < s % 3
  .have:K=[]:=u_ fun z=>h ⟨a,z⟩;subst this;simp [eY,a,bC,bF,aq,e]
  .simp [eY,a,e]
noncomputable def wW (l:Str->GF):Prop:=∀(K:LS) (s:Int),∃v,jD K v/\pureOf (l "_law_leaf") [.lst (aq K),.int s]=some v
theorem tS (n:Nat):wW (Pa (n+2)):=DA n
noncomputable def e_ (l:Str->GF) (u:List Int):Prop:=∀(K:LS) {S:aR}{j:Nat}{c:Int},S[j]? = some (cnt c)->0≤c->c < 50000 ->
  ∃v,cX K v/\l "_law_small" [.p (.lst (aq K)),.p (cE u),.ref j] S=some (.p v,S.set j (cnt (c+1)))
variable {u:List Int}{S:aR}{j:Nat}{c:Int}
theorem vL (y:Str->GF) (H:Str->GX) (g:bJ l u) (f:wW l) (K:LS) (w:S[j]? = some (cnt c)) (p:0≤c) (q:c < 50000) :
  ∃v,cX K v/\cq 3 5 (eF l y H) [.p (.lst (aq K)),.p (cE u),.ref j] S=some (.p v,S.set j (cnt (c+1))):=by
 obtain⟨r,F,_,e⟩:=g w p q;obtain⟨a,s,x⟩:=f K (r / 8);obtain⟨b,d,m⟩:=f K (r / 32768);by_cases h:2 < r % 8
 .exact⟨a,.inl s,by simp [cq,eF,e,x,h]⟩
 .obtain⟨z,n,t⟩:=su (s:=[P.str "plus",.str "minus",.str "times"]) (k:=r % 8) (by lia) (by simp;lia);have:∃o:Str,(o="plus"\/o="minus"\/o="times")/\z=.str o:=by
   simp only [List.mem_cons,List.not_mem_nil,or_false] at n;rcases n with rfl | rfl | rfl
   .exact⟨_,.inl rfl,rfl⟩
   .exact⟨_,.inr (.inl rfl),rfl⟩
   .exact⟨_,.inr (.inr rfl),rfl⟩
  obtain⟨o,i,rfl⟩:=this;exact⟨_,.inr ⟨o,a,b,i,s,d,rfl⟩,by simp [cq,eF,e,x,m,t,h]⟩
theorem kJ (n:Nat) (u:List Int):e_ (Pa (n+6)) u:=fun K {S j c} a h x=>by obtain⟨v,s,e⟩:=vL (l:=Pa (n+4+1)) (Pa (n+4)) (Xs (n+4+1)) (eI (n+1) u) (tS (n+3)) K a h x;exact⟨v,s,by rw [<- e];exact dP (dP (op (n+4)) _) _⟩
noncomputable def wT (l:Str->GF) (u:List Int):Prop:=∀(K:LS) {S:aR}{j:Nat}{c:Int},S[j]? = some (cnt c)->0≤c->c < 49000 ->
  ∃v h,kT K v/\c≤h/\h≤c+3/\l "_law_when" [.p (.lst (aq K)),.p (cE u),.ref j] S=some (.p v,S.set j (cnt h))
theorem yA (L:Str->GF) (M:Str->GX) (G:bJ l u) (E:wW l) (H:e_ l u) (K:LS) (g:S[j]? = some (cnt c)) (B:0≤c) (N:c < 49000) :
  ∃v m,kT K v/\c≤m/\m≤c+3/\cq 3 7 (de l L M) [.p (.lst (aq K)),.p (cE u),.ref j] S=some (.p v,S.set j (cnt m)):=by
 obtain⟨r,Q,_,e⟩:=G g B (by lia);by_cases h:r % 3=0
 .exact⟨_,c+1,.inl rfl,by lia,by lia,by simp [cq,de,e,h]⟩
 obtain⟨a,C,s⟩:=H K (gY (x:=c+1) g) (by lia) (by lia);obtain⟨b,D,n⟩:=H K (gY (x:=c+1+1) g) (by lia) (by lia);rw [List.set_set] at s n;obtain⟨z,x,t⟩:=su (s:=[P.str "=",.str "!=",.str "<",.str "<=",.str ">",.str ">="]) (k:=r / 3 % 6) (by lia) (by simp;lia);have:∃w:Str,strOk w/\z=.str w:=by simp only [List.mem_cons,List.not_mem_nil,or_false] at x;rcases x with rfl | rfl | rfl | rfl | rfl | rfl <;> exact⟨_,by unfold strOk;decide +kernel,rfl⟩
 obtain⟨w,J,rfl⟩:=this;clear x;have p:nE K (.tup [.str "is",.str w,a,b]):=⟨w,a,b,J,C,D,rfl⟩;have O:(S.set j (cnt (c+1))).length=S.length:=by simp
 have R:trunc S.length (S.set j (cnt (c+1+1)))=S.set j (cnt (c+1+1)):=kE ..;have T:trunc S.length (S.set j (cnt (c+1+1+1)))=S.set j (cnt (c+1+1+1)):=kE ..;by_cases q:r / 18 % 4=0
 .exact⟨_,c+1+1+1,.inr (.inr (.inl ⟨_,p,rfl⟩)),by lia,by lia,by simp [cq,de,e,h,s,n,t,q]⟩
 by_cases y:r / 18 % 4=1
 .obtain⟨f,d,F⟩:=E K (r / 72);obtain⟨z,x,A⟩:=HJ (P.str "and") (.str "or") (i:=r / 7200 % 2) (by lia) (by lia);have:∃o:Str,(o="and"\/o="or")/\z=.str o:=by
   simp only [List.mem_cons,List.not_mem_nil,or_false] at x;rcases x with rfl | rfl
   .exact⟨_,.inl rfl,rfl⟩
   .exact⟨_,.inr rfl,rfl⟩
  obtain⟨o,I,rfl⟩:=this;clear x;exact⟨_,c+1+1+1,.inr (.inr (.inr ⟨o,_,_,I,p,⟨"=",f,.tup [.str "number",.int (r / 720 % 10)],by unfold strOk;decide +kernel,.inl d,.inl (.inr ⟨_,rfl⟩),rfl⟩,rfl⟩)),by lia,by lia,by simp [cq,de,e,h,s,n,t,q,y,F,A]⟩
 .exact⟨_,c+1+1+1,.inr (.inl p),by lia,by lia,by simp [cq,de,e,h,s,n,t,q,y]⟩
theorem z4 (n:Nat) (u:List Int):wT (Pa (n+8)) u:=fun K {S j c} k x s=>by obtain⟨v,h,f,a,b,e⟩:=yA (l:=Pa (n+6+1)) (Pa (n+6)) (Xs (n+6+1)) (eI (n+3) u) (tS (n+5)) (kJ (n+1) u) K k x s;exact⟨v,h,f,a,b,by rw [<- e];exact dP (dP (rG (n+6)) _) _⟩
variable {N:Nat}
theorem io (h:S.length=N):cO (.ref N) (S++[.lst d])=some (N,d):=by subst h;simp [cO]
theorem dU {S:aR}{x y:SO}{N:Nat} (h:S.length=N):(S++[x]).set N y=S++[y]:=by subst h;simp
theorem jV {S T:aR}{j:Nat}{x y:SO} (h:S[j]? = some y):(S++T).set j x=S.set j x++T:=List.set_append_left _ _ (bw.mp h).1
variable {T:aR}
theorem eC (h:S[j]? = some y):(S++T)[j]? = some y:=by rw [List.getElem?_append_left (bw.mp h).1];exact h
theorem bJ.app (h:bJ l u) (T:aR) (x:S[j]? = some (cnt c)) (s:0≤c) (n:c < 50000) :
  ∃r:Int,0≤r/\r < 2147483648/\l "_law_next" [.p (cE u),.ref j] (S++T)=some (.p (.int r),S.set j (cnt (c+1))++T):=by
 obtain⟨r,a,b,e⟩:=h (eC (T:=T) x) s n;exact⟨r,a,b,by rw [e,jV x]⟩
theorem yF (S:aR) (j:Nat) (x:SO) (T:aR):trunc (S++T).length (S.set j x++T)=S.set j x++T:=bz (by simp)
noncomputable def zP (n:Nat) (T:aR):Prop:=∀o ∈ T,Bk n o=true
variable {n:Nat}
theorem zP.set (h:zP n T) (j:Nat) (c:Int):zP n (T.set j (cnt c)):=fun o x=>by
 rcases List.mem_or_eq_of_mem_set x with q | q
 .exact h o q
 .rw [q];rfl
theorem iN (h:zP n T) (x:T.length=n):trunc n (T++X)=T:=by unfold trunc;rw [List.take_append_of_le_length (by lia),qa (by lia),if_pos (aW.mpr h)]
theorem nG (n:Nat):intsFrom 0 n=(List.range' 0 n).map fun i:Nat=>P.int (i:Int):=by
 unfold Ev.intsFrom;rw [List.range_eq_range'];refine List.map_congr_left fun i _=>?_
 rw [Int.zero_add]
theorem comp_map (L:Option D->Lc) (h:∀q v,tgt v (L q)=some (L (qp v))):∀{xs:List o},(∀x ∈ xs,e (L (qp (f x))) S=some (g x,S))->∀q,aJ tgt aZ e (xs.map f) (L q) S=some (xs.map g,S)
 | [],_,q=>rfl
 | x::xs,a,q=>by have s:=a x List.mem_cons_self;have n:=comp_map L h (xs:=xs) (fun y k=>a y (bE _ k)) (qp (f x));simp [aJ,h,s,n]
structure Cel where
 name:Str
 low:Int
 high:Int
 start:Int
noncomputable def a_ (c:Cel):P:=.tup [.str c.name,.int c.low,.int c.high,.int c.start]
noncomputable def pQ (c:Cel):Prop:=c.low≤c.start/\c.start≤c.high/\c.high-c.low≤9
theorem wN (J:Str->GF) (L:Str->GX) (g:bJ l u) (w:cL l) {r:Int} (q:S[j]? = some (cnt c)) (m:0≤c) (t:c < 50000) (n:S.length=N) (v:k < 8) (s:List D) (R:s.length≤100) (K A B:Option D) :
  ∃(x:Cel) (C E G:Option D),pQ x/\x.name=nm k (r / 4)/\dh l J L [qp (cE u),some (.ref j),some (.ref N),qi r,qi (k:Int),K,A,B] (S++[.lst s]) =
   some (.nx,[qp (cE u),some (.ref j),some (.ref N),qi r,qi (k:Int),C,E,G],S.set j (cnt (c+1))++[.lst (s++[.p (a_ x)])]):=by
 obtain⟨d,Q,_,e⟩:=g.app [.lst s] q m t;have f:=w.pure (r / 4) v;obtain⟨z,a,b⟩:=HJ (P.int (d / 100 % 13-6)) (.int (d / 100 % 1980-990)) (i:=d % 4 / 3) (by lia) (by lia);have:∃i:Int,z=.int i:=by simp only [List.mem_cons,List.not_mem_nil,or_false] at a;rcases a with rfl | rfl <;> exact⟨_,rfl⟩
 obtain⟨lo,rfl⟩:=this;clear a;have p:0 < lo+d / 4 % 10-lo+1:=by lia
 have T:=fj (d / 40 % 1000) (mn p);have U:=fv (d / 40 % 1000) p;have I:=yF S j (cnt (c+1)) [.lst s];have H:cO (.ref N) (S.set j (cnt (c+1))++[.lst s])=some (N,s):=io (by simpa using n);have F:∀y,(S.set j (cnt (c+1))++[SO.lst s]).set N y=S.set j (cnt (c+1))++[y]:=fun y=>dU (by simpa using n);have h:s.length≤1000000:=by lia
 generalize o:d / 40 % 1000 % (lo+d / 4 % 10-lo+1)=x at *
 generalize S.set j (cnt (c+1))++[.lst s]=O at *
 generalize S++[.lst s]=M at *
 refine⟨⟨nm k (r / 4),lo,lo+d / 4 % 10,lo+x⟩,qi d,qi lo,qi (lo+d / 4 % 10),⟨?_,?_,?_⟩,rfl,?_⟩
 .show lo≤lo+x;lia
 .show lo+x≤lo+d / 4 % 10;lia
 .show lo+d / 4 % 10-lo≤9;lia
 .simp only [dh];simp [e,f,b,I,H,F,p,o,h,a_]
noncomputable def li (s:List Cel):List D:=s.map fun c=>.p (a_ c)
theorem nU (G:Str->GF) (I:Str->GX) (O:bJ l u) (M:cL l){r:Int}:∀(m k:Nat) {S:aR}{c:Int} (s:List Cel) (w p t v:Option D),S[j]? = some (cnt c)->0≤c->c+m < 50000->S.length=N->k+m≤8->s.map Cel.name=(List.range k).map (nm · (r / 4))->(∀x ∈ s,pQ x) ->
  ∃(h:List Cel) (X F A C:Option D),h.map Cel.name=(List.range (k+m)).map (nm · (r / 4))/\(∀x ∈ h,pQ x)/\cA (ah 4) (dh l G I) ((List.range' k m).map fun i:Nat=>P.int (i:Int)) [qp (cE u),some (.ref j),some (.ref N),qi r,w,p,t,v] (S++[.lst (li s)]) =
   some (.nx,[qp (cE u),some (.ref j),some (.ref N),qi r,X,F,A,C],S.set j (cnt (c+m))++[.lst (li h)])
 | 0,k,S,c,s,w,p,t,v,d,J,T,g,U,n,o=>by
  refine⟨s,w,p,t,v,n,o,?_⟩;have:S.set j (cnt (c+(0:Nat)))=S:=by obtain⟨L,e⟩:=bw.mp d;rw [show c+((0:Nat):Int)=c by lia,<- e];exact my L
  rw [this];rfl
 | m+1,k,S,c,s,w,p,t,v,d,J,T,g,U,n,o=>by
  have L:s.length=k:=by have:=congrArg List.length n;simpa using this
  obtain⟨x,F,A,C,V,z,Q⟩:=wN G I O M (r:=r) d J (by lia) g (k:=k) (by lia) (li s) (by simp [li];lia) p t v;obtain⟨h,H,K,B,E,a,b,R⟩:=nU G I O M (r:=r) m (k+1) (S:=S.set j (cnt (c+1))) (c:=c+1) (s++[x]) (qi (k:Int)) F A C (gY d) (by lia) (by lia) (by simpa using g) (by lia)
   (by rw [List.map_append,n,pU,List.map_append];simp [z])
   (fun y W=>by
    rcases bi.mp W with q | q
    .exact o y q
    .rw [bP.mp q];exact V)
  refine⟨h,H,K,B,E,by rw [a,show k+1+m=k+(m+1) by lia],b,?_⟩;have f:=R;rw [List.set_set,show li (s++[x])=li s++[.p (a_ x)] by simp [li],show c+1+(m:Int)=c+((m+1:Nat):Int) by lia] at f;rw [qh,List.map_cons];exact (dB rfl Q).trans f
noncomputable def CellsOk (l:Str->GF) (u:List Int):Prop:=∀{S:aR}{j:Nat}{c:Int},S[j]? = some (cnt c)->0≤c->c < 49000 ->
  ∃(h:List Cel) (s a:Int),c≤a/\a≤c+4/\h.length≤3/\h.map Cel.name=(List.range h.length).map (nm · s)/\(∀x ∈ h,pQ x)/\l "_law_cells" [.p (cE u),.ref j] S=some (.ref S.length,S.set j (cnt a)++[.lst (li h)])
theorem wO (d:Str->GF) (w:Str->GX) (v:bJ l u) (i:cL l) (p:S[j]? = some (cnt c)) (g:0≤c) (o:c < 49000) :
  ∃(n:List Cel) (s t:Int),c≤t/\t≤c+4/\n.length≤3/\n.map Cel.name=(List.range n.length).map (nm · s)/\(∀x ∈ n,pQ x)/\cq 2 8 (gp l d w) [.p (cE u),.ref j] S=some (.ref S.length,S.set j (cnt t)++[.lst (li n)]):=by
 obtain⟨r,A,_,e⟩:=v.app [.lst []] p g (by lia);obtain⟨n,H,F,K,P,a,b,f⟩:=nU d w v i (r:=r) (N:=S.length) (r % 4).toNat 0 [] none none none none (gY (x:=c+1) p) (by lia) (by lia) (by simp) (by lia) rfl (fun _ h=>by cases h);have q:n.length=(r % 4).toNat:=by have:=congrArg List.length a;simpa using this
 rw [<- nG,List.set_set] at f;obtain⟨m,k⟩:∃m,(r % 4).toNat=m:=⟨_,rfl⟩;rw [k] at f a q;refine⟨n,r / 4,c+1+(m:Int),by lia,by lia,by lia,by rw [a,q,lY],b,?_⟩;have z:trunc (S.length+1) (S.set j (cnt (c+1))++[SO.lst []])=S.set j (cnt (c+1))++[SO.lst []]:=bz (by simp);have y:(r % 4).natAbs < 1000000:=by lia
 rw [show li []=[] from rfl] at f;simp [cq,gp,e,z,y,k,f]
theorem zA (n:Nat) (u:List Int):CellsOk (Pa (n+6)) u:=fun {S j c} p r t=>by obtain⟨m,s,b,a,h,x,k,f,e⟩:=wO (l:=Pa (n+4+1)) (Pa (n+4)) (Xs (n+4+1)) (eI (n+1) u) (iW (n+3)) p r t;exact⟨m,s,b,a,h,x,k,f,by rw [<- e];exact dP (dP (ow (n+4)) _) _⟩
theorem mj {o:Type}{f:o->P}{nm:o->Str} (d:∀x,aA (f x) (.int 0)=some (.str (nm x))) {j:Nat}{S:aR} (s:List o) {L:Lc} (h:j < L.length):aJ (ah j) aZ (ag aA (vv j) (vi 0)) (s.map f) L S=some (aq (s.map nm),S):=by have:=comp_map (f:=f) (g:=fun c=>P.str (nm c)) (S:=S) (tgt:=ah j) (e:=ag aA (vv j) (vi 0)) (fun q=>L.set j q) (fun q v=>by simp) (xs:=s) (fun c _=>by simp [d,h]) L[j];rw [my] at this;rw [this];simp [aq]
theorem ki {j:Nat}{S:aR} (c:List Cel) {L:Lc} (h:j < L.length):aJ (ah j) aZ (ag aA (vv j) (vi 0)) (c.map a_) L S=some (aq (c.map Cel.name),S):=mj (fun _=>rfl) c h
theorem ce (h:f L S=some (.nx,e,s)):ak f g L S=g e s:=by simp [h]
structure Fam where
 name:Str
 hands:Int
 rooms:LS
 cells:List Cel
 whos:LS
 steps:List P
noncomputable def eJ (i:Nat) (f:Fam):List D:=[.p (.str f.name),.p (.int f.hands),.p (.lst (aq f.rooms)),.p (.lst (f.cells.map a_)),.p (.lst (aq f.whos)),.ref i]
noncomputable def dL:Nat->List Fam->aR
 | _,[]=>[]
 | i,f::r=>.lst (f.steps.map .p)::.lst (eJ i f)::dL (i+2) r
noncomputable def cN (n:Nat):List D:=(List.range n).map fun k=>.ref (3+2 * k)
noncomputable def bh (c:Int) (p:List Fam):aR:=cnt c::.lst (cN p.length)::dL 2 p
theorem pk:∀(i:Nat) (p:List Fam),(dL i p).length=2 * p.length
 | _,[]=>rfl
 | i,f::r=>by show (dL (i+2) r).length+1+1=2 * (r.length+1);rw [pk];lia
theorem pq:∀(i:Nat) (p:List Fam) (f:Fam),dL i (p++[f])=dL i p++[.lst (f.steps.map .p),.lst (eJ (i+2 * p.length) f)]
 | i,[],f=>rfl
 | i,g::r,f=>by show _::_::dL (i+2) (r++[f])=_::_::(dL (i+2) r++_);rw [pq,bo,show i+2+2 * r.length=i+2 * (r.length+1) by lia]
theorem kY:∀(i:Nat) (p:List Fam),i+2 * p.length≤n->zP n (dL i p)
 | _,[],_=>fun _ h=>by cases h
 | i,f::r,h=>fun o x=>by
  simp only [bo] at h;rcases List.mem_cons.mp x with rfl | x
  .show (f.steps.map D.p).all (lI n)=true;rw [ji];exact aW.mpr fun _ _=>rfl
  rcases List.mem_cons.mp x with rfl | x
  .show (eJ i f).all (lI n)=true;simp [eJ,lI];lia
  .exact kY (i+2) r (by lia) o x
theorem aN (c:Int) (p:List Fam):(bh c p).length=2+2 * p.length:=by show (dL 2 p).length+1+1=_;rw [pk];lia
theorem tu (h:2+2 * k≤n):Bk n (.lst (cN k))=true:=by
 show (cN k).all (lI n)=true;unfold cN;rw [ji];refine aW.mpr fun i x=>dH ?_
 have:=bt.mp x;lia
theorem sV (c:Int) (p:List Fam):zP (2+2 * p.length) (bh c p):=fun o h=>by
 rcases List.mem_cons.mp h with rfl | h
 .rfl
 rcases List.mem_cons.mp h with rfl | h
 .exact tu (Nat.le_refl _)
 .exact kY 2 p (by lia) o h
theorem mQ (c:Int) (p:List Fam):(bh c p)[0]? = some (cnt c):=rfl
theorem FA (c:Int) (p:List Fam):cO (.ref 1) (bh c p)=some (1,cN p.length):=rfl
theorem ii (c h:Int) (p:List Fam):(bh c p).set 0 (cnt h)=bh h p:=rfl
theorem Aw (c:Int) (p:List Fam) (f:Fam) (h:f.steps=[]):(bh c p++[SO.lst [],SO.lst (eJ (2+2 * p.length) f)]).set 1 (SO.lst (cN p.length++[D.ref (3+2 * p.length)]))=bh c (p++[f]):=by show cnt c::.lst _::(dL 2 p++_)=cnt c::.lst _::dL 2 (p++[f]);rw [pq,h,bN,p0];unfold cN;rw [pU,List.map_append];rfl
noncomputable def bp (f:Fam):Prop:=1≤f.hands/\1≤f.rooms.length/\f.rooms.length≤8/\f.rooms.Nodup/\(∀x ∈ f.rooms,aH x=true)/\f.cells.length≤3/\(f.cells.map Cel.name++f.whos).Nodup/\(∀x ∈ f.cells.map Cel.name++f.whos,aH x=true)/\("it":Str) ∉ f.cells.map Cel.name/\(∀c ∈ f.cells,pQ c)/\f.whos.length≤2/\∀x ∈ f.rooms++(f.cells.map Cel.name++f.whos),oa x=false
variable {m:Nat}
theorem ni (s:Int) (h:m≤8):((List.range m).map (nm · s)).Nodup:=by
 refine mu.mpr ((List.nodup_range (n:=m)).imp_of_mem fun {a b} k f x e=>x ?_);have:=bt.mp k
 have:=bt.mp f;exact Gm (by lia) (by lia) e
theorem j3 {s:Int} (h:m≤8) (e:x ∈ (List.range m).map (nm · s)):aH x=true/\ud x=true:=by obtain⟨k,a,rfl⟩:=bb.mp e;exact iV s (by have:=bt.mp a;lia)
theorem z0 {i:Int} (h:0≤i) (x:i < 4):∃a b:Str,a ∈ fy/\b ∈ fy/\a≠b/\L2.atI [P.lst [.str "it",.str "first"],.lst [.str "by",.str "who"],.lst [.str "to",.str "from"],.lst [.str "at",.str "go"]] i=some (.lst [.str a,.str b]):=by
 have:i=0\/i=1\/i=2\/i=3:=by lia
 rcases this with rfl | rfl | rfl | rfl
 .exact⟨"it","first",by simp [fy],by simp [fy],by decide +kernel,rfl⟩
 .exact⟨"by","who",by simp [fy],by simp [fy],by decide +kernel,rfl⟩
 .exact⟨"to","from",by simp [fy],by simp [fy],by decide +kernel,rfl⟩
 .exact⟨"at","go",by simp [fy],by simp [fy],by decide +kernel,rfl⟩
theorem Cw (n:h≠b) {k:Int} (x:0≤k) (a:k < 3):∃s:LS,cT (.lst [.str h,.str b]) none (some k)=some (.lst (aq s))/\s.length≤2/\s.Nodup/\∀w ∈ s,w=h\/w=b:=by
 have:k=0\/k=1\/k=2:=by lia
 rcases this with rfl | rfl | rfl
 .exact⟨[],rfl,by simp,by simp,by simp⟩
 .exact⟨[h],rfl,by simp,by simp,by simp⟩
 .exact⟨[h,b],rfl,by simp,by simpa using n,by simp⟩
theorem vU (j:cL l) (r:Int) (y:m≤8) (x s n k b c t p d a h q:Option D) (S:aR) :
  aJ (ah 12) aZ (al (pureOf (l "_law_named")) (v2 (vv 12) (ag ax (vv 7) (vi 4)))) (intsFrom 0 m) [x,s,n,k,b,c,t,qi r,p,d,a,h,q] S=some (aq ((List.range m).map (nm · (r / 4))),S):=by
 rw [nG];have:=comp_map (f:=fun i:Nat=>P.int (i:Int)) (g:=fun i=>P.str (nm i (r / 4))) (S:=S) (tgt:=ah 12) (e:=al (pureOf (l "_law_named")) (v2 (vv 12) (ag ax (vv 7) (vi 4))))
  (fun q=>[x,s,n,k,b,c,t,qi r,p,d,a,h,q]) (fun q v=>rfl) (xs:=List.range' 0 m) (fun i u=>by
   have w:i < 8:=by have:=List.mem_range'_1.mp u;lia
   have e:=j.pure (r / 4) w;simp [e]) q
 rw [this,<- List.range_eq_range'];simp [aq]
variable {p:List Fam}
theorem wC (ι:Str->GF) (υ:Str->GX) (hn:bJ l u) (O:cL l) (hc:CellsOk l u) {t left d:Int} (h0:0≤c) (h1:c < 40000) (F:p.length < 4) (hl:1≤left-(t % 4-(p.length:Int))) (p7 p8 p9 E G:Option D) :
  ∃(f:Fam) (w:Int) (q7 q8 q9 I J:Option D),bp f/\f.name=nm p.length d/\f.steps=[]/\t % 4-p.length≤left-f.hands/\c≤w/\w≤c+5 /\
   dg l ι υ [qp (cE u),some (.ref 0),qi t,some (.ref 1),qi left,qi d,qi (p.length:Int),p7,p8,p9,E,G] (bh c p) =
   some (.nx,[qp (cE u),some (.ref 0),qi t,some (.ref 1),qi (left-f.hands),qi d,qi (p.length:Int),q7,q8,q9,I,J],bh w (p++[f])):=by
 obtain⟨r,r0,_,e⟩:=hn (mQ c p) h0 (by lia);rw [ii] at e;obtain⟨v,s,w,c1,c2,cl,H,co,M⟩:=hc (mQ (c+1) p) (by lia) (by lia);rw [ii,aN] at M;obtain⟨a,b,ha,hb,A,ew⟩:=z0 (i:=r / 512 % 4) (by lia) (by lia);obtain⟨z,es,wl,wn,L⟩:=Cw A (k:=r / 2048 % 3) (by lia) (by lia);obtain⟨m,C⟩:∃m,(1+r / 64 % 8).toNat=m:=⟨_,rfl⟩;obtain⟨n,N⟩:∃h:Int,(if left-(t % 4-(p.length:Int)) < 1+r % 3 then left-(t % 4-(p.length:Int)) else 1+r % 3)=h:=⟨_,rfl⟩;have B:1≤n/\n≤left-(t % 4-(p.length:Int)):=by subst N;split <;> lia
 have t1:trunc (2+2 * p.length) (bh (c+1) p)=bh (c+1) p:=bz (aN _ _);have tp:jx 9 (.ref (2+2 * p.length)) (bh w p++[.lst (li v)])=some (.lst (v.map a_),bh w p++[.fz (.lst (v.map a_))]):=by
  have hg:(bh w p++[SO.lst (li v)])[2+2 * p.length]? = some (.lst ((v.map a_).map .p)):=by rw [c7 (by rw [aN];lia),aN,lX];simp [li]
  rw [eA hg,dU (aN _ _)]
 have t2:trunc (2+2 * p.length) (bh w p++[.fz (.lst (v.map a_))])=bh w p:=iN (sV _ _) (aN _ _);have j:m≤8:=by lia
 have er:=fun S Q R U V W X Y Z a9 K P q=>vU O r j Q R U V W X Y Z a9 K P q S;have nr:(1+r / 64 % 8).natAbs < 1000000:=by lia
 have il:(intsFrom 0 m).length≤1000000:=by rw [dA];lia
 refine⟨⟨nm p.length d,n,(List.range m).map (nm · (r / 4)),v,z,[]⟩,w,qi r,qi n,ql (aq ((List.range m).map (nm · (r / 4)))),ql (v.map a_),ql (aq z),⟨B.1,by simp;lia,by simpa using j,ni _ j,fun x g=>(j3 j g).1,cl,?_,?_,?_,co,wl,?_⟩,rfl,rfl,by show _≤left-n;lia,by lia,by lia,?_⟩
 .show (v.map Cel.name++z).Nodup;rw [H];refine jq.mpr ⟨ni _ (by lia),wn,fun x g y hy e=>?_⟩;subst e;have o:=(j3 (m:=v.length) (by lia) g).2;have:x ∈ fy:=by rcases L x hy with rfl | rfl <;> assumption
  unfold ud at o;have f2:(fy.any fun y=>decide (y=x))=true:=jm.mpr ⟨x,this,by simp⟩;rw [f2] at o;cases o
 .show ∀x ∈ v.map Cel.name++z,aH x=true;intro x g;rcases bi.mp g with q | q
  .rw [H] at q;exact (j3 (m:=v.length) (by lia) q).1
  .exact aW.mp Cy x (by rcases L x q with rfl | rfl <;> assumption)
 .show ("it":Str) ∉ v.map Cel.name;intro g;rw [H] at g;have o:=(j3 (m:=v.length) (by lia) g).2;revert o;decide +kernel
 .show ∀x ∈ (List.range m).map (nm · (r / 4))++(v.map Cel.name++z),oa x=false;intro x g;rcases bi.mp g with q | q
  .obtain⟨k,F,rfl⟩:=bb.mp q;exact wj _ (by have:=bt.mp F;lia)
  .rcases bi.mp q with q | q
   .rw [H] at q;obtain⟨k,F,rfl⟩:=bb.mp q;exact wj _ (by have:=bt.mp F;lia)
   .simpa using aW.mp Dq x (by rcases L x q with rfl | rfl <;> assumption)
 .have en:=fun S=>O p.length d S (by lia);unfold dg;rw [aa];simp [e,aN,t1,-aa];rw [aa];simp [-aa];rw [aa];simp [lA,N,-aa];rw [aa];simp [-aa];rw [aa];simp [au,nr,C,il,c_,er,-aa];rw [aa];simp [M,tp,aN,t2,-aa];rw [aa];simp [ew,aE,aD,es,-aa];have rl:(cN p.length).length≤1000000:=by simp [cN];lia
  have o1:=FA w p;have o2:∀T,cO (.ref 1) (bh w p++T)=some (1,cN p.length):=fun _=>rfl;have hf:=Aw w p ⟨nm p.length d,n,(List.range m).map (nm · (r / 4)),v,z,[]⟩ rfl;rw [<- hf];have ln:=aN w p;generalize bh w p=S' at *
  simp [en,o1,o2,ln,rl,eJ];rw [show 2+2 * p.length+1=3+2 * p.length by lia]
theorem nK (K:Str->GF) (A:Str->GX) (I:bJ l u) (G:cL l) (E:CellsOk l u) {a k:Int}:∀(m:Nat) {c left:Int} (p:List Fam) (j v d w h x:Option D),0≤c->c+5 * m < 40000->a % 4+1=p.length+m->(m:Int)≤left->(∀f ∈ p,bp f/\f.steps=[])->p.map Fam.name=(List.range p.length).map (nm · k) ->
  ∃(s:List Fam) (t e:Int) (q6 z o H b r:Option D),0≤e/\(s.map Fam.hands).sum+e=(p.map Fam.hands).sum+left/\c≤t/\t≤c+5 * m/\s.length=p.length+m/\(∀f ∈ s,bp f/\f.steps=[])/\s.map Fam.name=(List.range s.length).map (nm · k) /\
   cA (ah 6) (dg l K A) ((List.range' p.length m).map fun i:Nat=>P.int (i:Int)) [qp (cE u),some (.ref 0),qi a,some (.ref 1),qi left,qi k,j,v,d,w,h,x] (bh c p) =
   some (.nx,[qp (cE u),some (.ref 0),qi a,some (.ref 1),qi e,qi k,q6,z,o,H,b,r],bh t s)
 | 0,c,left,p,j,v,d,w,h,x,C,W,Y,Z,y,n=>⟨p,c,left,j,v,d,w,h,x,by lia,rfl,by lia,by lia,rfl,y,n,rfl⟩
 | m+1,c,left,p,j,v,d,w,h,x,C,W,Y,Z,y,n=>by
  obtain⟨f,Q,z,o,H,b,r,T,U,V,f4,c2,c3,R⟩:=wC K A I G E (c:=c) (t:=a) (left:=left) (d:=k) (p:=p) C (by lia) (by lia) (by lia) v d w h x;obtain⟨s,t,e,r6,r7,r8,r9,S,F,J,L,a3,a4,M,N,O,B⟩:=nK K A I G E (a:=a) (k:=k) m (c:=Q) (left:=left-f.hands) (p++[f]) (qi (p.length:Int)) z o H b r (by lia) (by lia) (by simp;lia) (by lia)
   (fun g X=>by
    rcases bi.mp X with q | q
    .exact y g q
    .rw [bP.mp q];exact⟨T,V⟩)
   (by rw [List.map_append,n,bN,p0,pU,List.map_append];simp [U])
  refine⟨s,t,e,r6,r7,r8,r9,S,F,J,by rw [L];simp;lia,by lia,by lia,by rw [M];simp;lia,N,O,?_⟩;rw [qh,List.map_cons];refine (dB rfl R).trans ?_;rw [bN,p0] at B;exact B
structure Fams (kinds:Int) (fs:List Fam):Prop where
 l1:1≤fs.length
 l2:fs.length≤4
 ok:∀f ∈ fs,bp f
 nms:fs.map Fam.name=(List.range fs.length).map (nm · kinds)
 sum:(fs.map Fam.hands).sum≤5
noncomputable def yt (ψ:Str->GF) (ns:List Int):Prop:=∀{c:Int} (many:Int),0≤c->c < 20000->∃(fs:List Fam) (kinds c':Int),Fams kinds fs/\(∀f ∈ fs,f.steps=[])/\c≤c'/\c'≤c+21/\ψ "_law_first" [.p (cE ns),.ref 0,.p (.int many)] [cnt c]=some (.ref 1,bh c' fs)
theorem wD (v:Str->GF) (d:Str->GX) (q:bJ l u) (y:cL l) (j:CellsOk l u) (a:Int) (i:0≤c) (B:c < 20000) :
  ∃(p:List Fam) (k x:Int),Fams k p/\(∀f ∈ p,f.steps=[])/\c≤x/\x≤c+21/\cq 3 12 (gn l v d) [.p (cE u),.ref 0,.p (.int a)] [cnt c]=some (.ref 1,bh x p):=by
 obtain⟨r,I,_,e⟩:=q (S:=bh c []) (mQ c []) i (by lia);rw [ii] at e;obtain⟨m,s⟩:∃m,(1+a % 4).toNat=m:=⟨_,rfl⟩;obtain⟨p,x,left,C,D,E,G,o,H,K,w,P,A,n,b,g,t⟩:=nK v d q y j (a:=a) (k:=r) m (c:=c+1) (left:=5) [] none none none none none none (by lia) (by lia) (by simp;lia) (by lia) (fun _ h=>by cases h) rfl;refine⟨p,r,x,⟨by rw [n];simp;lia,by rw [n];simp;lia,fun f h=>(b f h).1,g,by simp at w;lia⟩,fun f h=>(b f h).2,by lia,by lia,?_⟩;have F:trunc 2 (bh (c+1) [])=bh (c+1) []:=bz rfl;have z:(1+a % 4).natAbs < 1000000:=by lia
 rw [show ([]:List Fam).length=0 from rfl,<- nG] at t;rw [show bh c []=[cnt c,.lst []] from rfl] at e;simp [cq,gn,e,F,z,s,t]
theorem zk (n:Nat) (u:List Int):yt (Pa (n+8)) u:=fun {c} m b r=>by obtain⟨p,k,f,a,h,x,s,e⟩:=wD (l:=Pa (n+6+1)) (Pa (n+6)) (Xs (n+6+1)) (eI (n+3) u) (iW (n+5)) (zA (n+1) u) m b r;exact⟨p,k,f,a,h,x,s,by rw [<- e];exact dP (dP (ov (n+6)) _) _⟩
theorem kZ:∀(i:Nat) (p:List Fam) {k:Nat}{f:Fam},p[k]? = some f->(dL i p)[2 * k]? = some (.lst (f.steps.map .p))/\(dL i p)[2 * k+1]? = some (.lst (eJ (i+2 * k) f))
 | _,[],_,_,h=>by simp at h
 | i,g::r,0,f,h=>by simp at h;subst h;exact⟨rfl,rfl⟩
 | i,g::r,k+1,f,h=>by obtain⟨a,b⟩:=kZ (i+2) r (k:=k) (f:=f) (by simpa using h);rw [show i+2 * (k+1)=i+2+2 * k by lia,show 2 * (k+1)=2 * k+1+1 by lia];exact⟨a,b⟩
variable {f:Fam}
theorem sW (h:p[k]? = some f):(bh c p)[3+2 * k]? = some (.lst (eJ (2+2 * k) f)):=by rw [show 3+2 * k=2 * k+1+1+1 by lia];exact (kZ 2 p h).2
theorem Au (h:p[k]? = some f):(bh c p)[2+2 * k]? = some (.lst (f.steps.map .p)):=by rw [show 2+2 * k=2 * k+1+1 by lia];exact (kZ 2 p h).1
theorem jY (h:k < n):(cN n)[k]? = some (.ref (3+2 * k)):=by unfold cN;rw [List.getElem?_map,List.getElem?_range h];rfl
theorem iZ {j b:Nat}{e:EV}{S:aR}{x:List D} (n:S[j]? = some (.lst x)) (L:Option D->Lc) (T:∀q d,(L q).set b (some d)=L (some d)) {s:List P} (l:s.length=x.length) (k:∀(i:Nat) d y,x[i]? = some d->s[i]? = some y->e (L (some d)) S=some (y,S)) :
  ∀(f i:Nat) (q:Option D),x.length-i < f->gC j b aZ e f i (L q) S=some (s.drop i,S)
 | 0,i,q,h=>absurd h (gF _)
 | f+1,i,q,h=>by
  unfold gC;rw [n];dsimp only;cases a:x[i]? with
  | none=>have:=mz.mp a;rw [List.drop_eq_nil_of_le (by lia)]
  | some d=>have t:=(bw.mp a).1;have r:s[i]? = some s[i]:=List.getElem?_eq_getElem (by lia);have c:=k i d _ a r;have m:=iZ n L T l k f (i+1) (some d) (by lia);rw [List.drop_eq_getElem_cons (by lia:i < s.length)];simp [T,c,m]
structure Road where
 one:Str
 other:Str
 kind:Str
 room:Int
 lo:Bool
 db:Bool
noncomputable def af (r:Road):P:=.tup [.str r.one,.str r.other,.str r.kind,.int r.room,.bl r.lo,.bl r.db]
noncomputable def cj (r:Road):P:=.tup [.str r.one,.str r.other]
noncomputable def Hb (N:LS) (r:Road):Prop:=r.one ∈ N/\r.other ∈ N/\(r.kind="row"\/r.kind="heap")/\1≤r.room/\r.room≤3
noncomputable def i8 (t:List Road):List D:=t.map fun r=>.p (af r)
structure Rds (Ns:LS) (rds:List Road):Prop where
 ok:∀r ∈ rds,Hb Ns r
 nd:(rds.map fun r=>(r.one,r.other)).Nodup
variable {t:List Road}
theorem kW (a:strOk e) (s:strOk b) (h:∀r ∈ t,strOk r.one/\strOk r.other):DH (.tup [.str e,.str b]) (.lst (t.map cj))=some (t.any fun r=>decide (r.one=e) && decide (r.other=b)):=by
 have x:((t.map cj).all (b8 19) && b8 19 (.tup [.str e,.str b]))=true:=by
  rw [Bool.and_eq_true];refine⟨?_,?_⟩
  .rw [ji];refine aW.mpr fun r n=>?_;have:=h r n
   show b8 19 (.tup [.str r.one,.str r.other])=true;simp [show PyData.strOk r.one=true from this.1,show PyData.strOk r.other=true from this.2]
  .simp [show PyData.strOk e=true from a,show PyData.strOk b=true from s]
 show (if ((t.map cj).all (b8 19) && b8 19 (.tup [.str e,.str b]))=true then some ((t.map cj).any fun y=>PyData.eqv (pd y) (pd (.tup [.str e,.str b]))) else none)=_;rw [if_pos x,List.any_map];congr 2;funext r;show PyData.eqv (.tuple [.str r.one,.str r.other]) (.tuple [.str e,.str b])=_;rw [BJ,rD,rD]
theorem v_ {S:aR}{N:Nat}{t:List Road} (u:S[N]? = some (.lst (i8 t))) (l:t.length < 1000) (a s n k f b c m p v q:Option D) :
  gC N 10 aZ (bK (vv 10) aE (aD (vi 2))) 1000 0 [a,s,n,k,f,b,c,m,p,v,q] S=some (t.map cj,S):=by
 have:=iZ (e:=bK (vv 10) aE (aD (vi 2))) u (b:=10) (fun q=>[a,s,n,k,f,b,c,m,p,v,q]) (fun _ _=>rfl) (s:=t.map cj) (by simp [i8]) (fun i d y h x=>by
  unfold i8 at h;rw [List.getElem?_map] at h x;cases w:t[i]? with
  | none=>rw [w] at h;cases h
  | some r=>rw [w] at h x;cases h;cases x;have:cT (af r) none (some 2)=some (cj r):=rfl;simp [aE,aD,this]) 1000 0 q (by simp [i8];lia)
 simpa using this
theorem wk {c:Int}{p:List Fam} (l:p.length≤4) (T:aR) (a s n k f b m r t v q:Option D) :
  gC 1 10 aZ (vE (fI (ac 10) (vi 0))) 1000 0 [a,s,n,k,f,b,m,r,t,v,q] (bh c p++T)=some (aq (p.map Fam.name),bh c p++T):=by
 have S:(bh c p++T)[1]? = some (.lst (cN p.length)):=rfl;have:=iZ (e:=vE (fI (ac 10) (vi 0))) S (b:=10) (fun q=>[a,s,n,k,f,b,m,r,t,v,q]) (fun _ _=>rfl) (s:=aq (p.map Fam.name)) (by simp [cN]) (fun i d y h x=>by
  have u:i < p.length:=by have:=(bw.mp h).1;simpa [cN] using this
  have w:p[i]? = some p[i]:=List.getElem?_eq_getElem u;rw [jY u] at h;cases h;unfold aq at x;rw [List.getElem?_map,List.getElem?_map,w] at x;cases x;have g:=eC (T:=T) (sW (c:=c) w);simp [g,eJ]) 1000 0 q (by simp [cN];lia)
 simpa using this
theorem vW (ι:Str->GF) (υ:Str->GX) (hn:bJ l u) (o:s≠[]) (N:∀x ∈ s,strOk x) (v:Rds s t) (hl:t.length≤20) (h0:0≤c) (j:c < 50000) (Q p6 p7 p8 p9:Option D) :
  ∃(d:List Road) (q6 q7 q8 q9:Option D),Rds s d/\d.length≤t.length+1/\cC l ι υ [some (.ref 1),qp (cE u),some (.ref 0),some (.ref (2+2 * p.length)),ql (aq s),Q,p6,p7,p8,p9] (bh c p++[.lst (i8 t)]) =
   some (.nx,[some (.ref 1),qp (cE u),some (.ref 0),some (.ref (2+2 * p.length)),ql (aq s),Q,q6,q7,q8,q9],bh (c+1) p++[.lst (i8 d)]):=by
 obtain⟨r,r0,_,e⟩:=hn.app [.lst (i8 t)] (mQ c p) h0 (by lia);rw [ii] at e;obtain⟨a,M,I⟩:=i9 o r;obtain⟨b,O,J⟩:=i9 o (r / 4);have f:0 < s.length:=ia.mpr o;obtain⟨z,G,L⟩:=HJ (P.str "row") (.str "heap") (i:=r / 16 % 2) (by lia) (by lia);have:∃k:Str,(k="row"\/k="heap")/\z=.str k:=by
  simp only [List.mem_cons,List.not_mem_nil,or_false] at G;rcases G with rfl | rfl
  .exact⟨_,.inl rfl,rfl⟩
  .exact⟨_,.inr rfl,rfl⟩
 obtain⟨n,A,rfl⟩:=this;clear G;have U:trunc (2+2 * p.length+1) (bh (c+1) p++[.lst (i8 t)])=bh (c+1) p++[.lst (i8 t)]:=bz (by simp [aN]);have B:∀r ∈ t,strOk r.one/\strOk r.other:=fun r h=>⟨N _ (v.ok r h).1,N _ (v.ok r h).2.1⟩;have F:(bh (c+1) p++[.lst (i8 t)])[2+2 * p.length]? = some (.lst (i8 t)):=by rw [c7 (by rw [aN];lia),aN,lX];rfl
 have o1:cO (.ref (2+2 * p.length)) (bh (c+1) p++[.lst (i8 t)])=some (2+2 * p.length,i8 t):=io (aN _ _);have o2:∀y,(bh (c+1) p++[SO.lst (i8 t)]).set (2+2 * p.length) y=bh (c+1) p++[y]:=fun y=>dU (aN _ _);have R:=fun X Y Z a3 a4 a5 a6 a7 a8 a9 q=>v_ F (by lia) X Y Z a3 a4 a5 a6 a7 a8 a9 q;have ip:=kW (N a M) (N b O) B;have g:∀S,bv (.p (.tup [.str a,.str b])) (.p (.lst (t.map cj))) S=some (.bl (!t.any fun r=>decide (r.one=a) && decide (r.other=b))):=fun S=>by simp [bv,zO,gB,ip]
 have H:(i8 t).length≤1000000:=by simp [i8];lia
 have ad:aB (.tup [.str a,.str b,.str n,.int (1+r / 32 % 3)]) (.tup [.bl (decide (r / 128 % 2=1)),.bl (decide (r / 256 % 2=1))])=some (af ⟨a,b,n,1+r / 32 % 3,decide (r / 128 % 2=1),decide (r / 256 % 2=1)⟩):=rfl;have T:(aq s).length=s.length:=iP _;have m:(bh c p++[SO.lst (i8 t)]).length=2+2 * p.length+1:=by simp [aN]
 cases K:t.any fun r=>decide (r.one=a) && decide (r.other=b) with
 | true=>
  refine⟨t,qi r,qs a,qs b,qp (af ⟨a,b,n,1+r / 32 % 3,decide (r / 128 % 2=1),decide (r / 256 % 2=1)⟩),v,by lia,?_⟩;rw [K] at g;generalize bh (c+1) p++[SO.lst (i8 t)]=W at *
  generalize bh c p++[SO.lst (i8 t)]=V at *
  simp [cC,e,m,U,bC,bF,T,f,I,J,L,ad,F,R,c_,g]
 | false=>
  refine⟨t++[⟨a,b,n,1+r / 32 % 3,decide (r / 128 % 2=1),decide (r / 256 % 2=1)⟩],qi r,qs a,qs b,qp (af ⟨a,b,n,1+r / 32 % 3,decide (r / 128 % 2=1),decide (r / 256 % 2=1)⟩),⟨?_,?_⟩,by simp,?_⟩
  .intro x C;rcases bi.mp C with q | q
   .exact v.ok x q
   .rw [bP.mp q];exact⟨M,O,A,by show 1≤1+r / 32 % 3;lia,by show 1+r / 32 % 3≤3;lia⟩
  .rw [List.map_append];refine jq.mpr ⟨v.nd,by simp,fun x C y E e=>?_⟩;subst e;rw [List.map_singleton,bP] at E;obtain⟨w,hw,rfl⟩:=bb.mp C;have j:(t.any fun r=>decide (r.one=a) && decide (r.other=b))=true:=jm.mpr ⟨w,hw,by
    have p1:w.one=a:=congrArg Prod.fst E;have p2:w.other=b:=congrArg Prod.snd E;simp [p1,p2]⟩
   rw [K] at j;cases j
  .rw [K] at g;rw [show i8 (t++[⟨a,b,n,1+r / 32 % 3,decide (r / 128 % 2=1),decide (r / 256 % 2=1)⟩])=i8 t++[.p (af ⟨a,b,n,1+r / 32 % 3,decide (r / 128 % 2=1),decide (r / 256 % 2=1)⟩)] by simp [i8]];generalize bh (c+1) p++[SO.lst (i8 t)]=W at *
   generalize bh c p++[SO.lst (i8 t)]=V at *
   simp [cC,e,m,U,bC,bF,T,f,I,J,L,ad,F,R,c_,g,o1,o2,H]
theorem mZ {l:Str->GF} (i:Str->GF) (j:Str->GX) {u:List Int} (S:bJ l u) {p:List Fam}{N:LS} (o:N≠[]) (h:∀x ∈ N,strOk x):∀(s:List P) {c:Int} (t:List Road) (b a e n k:Option D),Rds N t->t.length+s.length≤20->0≤c->c+s.length < 50000 ->
  ∃(r:List Road) (B q v w g:Option D),Rds N r/\r.length≤t.length+s.length/\cA (ah 5) (cC l i j) s [some (.ref 1),qp (cE u),some (.ref 0),some (.ref (2+2 * p.length)),ql (aq N),b,a,e,n,k] (bh c p++[.lst (i8 t)]) =
   some (.nx,[some (.ref 1),qp (cE u),some (.ref 0),some (.ref (2+2 * p.length)),ql (aq N),B,q,v,w,g],bh (c+s.length) p++[.lst (i8 r)])
 | [],c,t,b,a,e,n,k,m,H,y,z=>⟨t,b,a,e,n,k,m,by simp,by simp [cA]⟩
 | x::s,c,t,b,a,e,n,k,m,H,y,z=>by simp only [bo] at H z;obtain⟨d,q,v,w,g,F,L,K⟩:=vW i j S (p:=p) o h m (by lia) y (by lia) (qp x) a e n k;obtain⟨f,C,E,G,I,J,b1,b2,A⟩:=mZ i j S (p:=p) o h s (c:=c+1) d (qp x) q v w g F (by lia) (by lia) (by lia);refine⟨f,C,E,G,I,J,b1,by simp;lia,?_⟩;refine (dB rfl K).trans ?_;rw [A,bo,show c+1+(s.length:Int)=c+((s.length+1:Nat):Int) by lia]
noncomputable def yr (ψ:Str->GF) (ns:List Int):Prop:=∀{c:Int}{fs:List Fam},fs≠[]->fs.length≤4->(∀f ∈ fs,strOk f.name)->0≤c->c < 40000->∃(rds:List Road) (c':Int),Rds (fs.map Fam.name) rds/\rds.length≤8/\c≤c'/\c'≤c+9 /\
  ψ "_law_roads" [.ref 1,.p (cE ns),.ref 0] (bh c fs)=some (.ref (2+2 * fs.length),bh c' fs++[.lst (i8 rds)])
theorem vX (g:Str->GF) (i:Str->GX) (w:bJ l u) (b:p≠[]) (C:p.length≤4) (E:∀f ∈ p,strOk f.name) (A:0≤c) (Q:c < 40000):∃(t:List Road) (k:Int),Rds (p.map Fam.name) t/\t.length≤8/\c≤k/\k≤c+9 /\
  cq 3 10 (gk l g i) [.ref 1,.p (cE u),.ref 0] (bh c p)=some (.ref (2+2 * p.length),bh k p++[.lst (i8 t)]):=by
 obtain⟨r,X,_,e⟩:=w.app [.lst []] (mQ c p) A (by lia);rw [ii] at e;obtain⟨t,R,T,U,V,W,n,a,s⟩:=mZ g i w (p:=p) (N:=p.map Fam.name) (by simpa using b) (fun x G=>by obtain⟨f,b,rfl⟩:=bb.mp G;exact E f b) (intsFrom 0 (r % 9).toNat) (c:=c+1) [] none none none none none ⟨(fun _ h=>by cases h),by simp⟩ (by rw [dA];simp;lia) (by lia) (by rw [dA];lia);rw [dA] at a s;obtain⟨m,d⟩:∃m,(r % 9).toNat=m:=⟨_,rfl⟩;rw [d] at a s;refine⟨t,c+1+(m:Int),n,by simp at a;lia,by lia,by lia,?_⟩;have J:=fun j n a y z o H F K P q=>wk (c:=c) C [.lst []] j n a y z o H F K P q;have L:trunc (2+2 * p.length+1) (bh (c+1) p++[.lst []])=bh (c+1) p++[.lst []]:=bz (by simp [aN]);have B:(bh c p++[SO.lst []])[1]? = some (.lst (cN p.length)):=rfl;have D:(r % 9).natAbs < 1000000:=by lia
 have v:(bh c p++[SO.lst []]).length=2+2 * p.length+1:=by simp [aN]
 have I:=aN c p;rw [show i8 []=[] from rfl] at s;generalize S:bh c p++[SO.lst []]=M at *
 generalize bh c p=O at *
 generalize bh (c+1) p++[SO.lst []]=N at *
 simp [cq,gk,I,S,B,c_,J,e,v,L,D,d,s]
theorem yS (n:Nat) (u:List Int):yr (Pa (n+6)) u:=fun {c p} m r q f b=>by obtain⟨t,k,a,h,x,s,e⟩:=vX (l:=Pa (n+4+1)) (Pa (n+4)) (Xs (n+4+1)) (eI (n+1) u) m r q f b;exact⟨t,k,a,h,x,s,by rw [<- e];exact dP (dP (ot (n+4)) _) _⟩
theorem cG {o:Type}{f g:o->P}{t:i0}{c:EB}{e:EV}{S:aR}{p:o->Bool} (L:Option D->Lc) (T:∀q v,t v (L q)=some (L (qp v))):∀{s:List o},(∀x ∈ s,c (L (qp (f x))) S=some (p x,S)/\e (L (qp (f x))) S=some (g x,S))->∀q,aJ t c e (s.map f) (L q) S=some ((s.filter p).map g,S)
 | [],_,q=>rfl
 | x::s,k,q=>by
  obtain⟨h,b⟩:=k x List.mem_cons_self;have n:=cG L T (s:=s) (fun y m=>k y (bE _ m)) (qp (f x));cases a:p x with
  | true=>rw [a] at h;simp [aJ,T,h,b,n,a]
  | false=>rw [a] at h;simp [aJ,T,h,n,a]
theorem jQ (h:∀x ∈ K,strOk x) (n:Nat):b8 (n+1) (.lst (aq K))=true:=by refine Ba fun v a=>?_;obtain⟨x,e,rfl⟩:=bb.mp a;rw [iU];exact h x e
theorem kF (K:LS):(aq K).isEmpty=K.isEmpty:=by cases K <;> rfl
theorem l_ (K M:LS):aq K++aq M=aq (K++M):=by simp [aq]
noncomputable def bg (x:Str) (t:List Road):LS:=(t.filter fun r=>decide (r.one=x)).map Road.other
noncomputable def bn (x:Str) (t:List Road):LS:=(t.filter fun r=>decide (r.other=x)).map Road.one
theorem wz {S:aR}{a i:Nat}{f:Fam} (w:S[a]? = some (.lst (eJ i f))) (t:List Road) (x s n k b c m v d h q:Option D) :
  aJ (ah 11) (bV (aG el (eV (ag aA (vv 11) (vi 0))) (fI (ac 0) (vi 0)))) (ag aA (vv 11) (vi 1)) (t.map af) [some (.ref a),x,s,n,k,b,c,m,v,d,h,q] S=some (aq (bg f.name t),S):=by
 have:=cG (f:=af) (g:=fun r=>P.str r.other) (p:=fun r=>decide (r.one=f.name)) (S:=S) (t:=ah 11) (c:=bV (aG el (eV (ag aA (vv 11) (vi 0))) (fI (ac 0) (vi 0)))) (e:=ag aA (vv 11) (vi 1))
  (fun q=>[some (.ref a),x,s,n,k,b,c,m,v,d,h,q]) (fun _ _=>rfl) (s:=t) (fun r _=>by
   constructor
   .simp [af,w,eJ]
   .simp [af]) q
 rw [this];simp [aq,bg]
theorem qX {S:aR}{a i:Nat}{f:Fam} (H:S[a]? = some (.lst (eJ i f))) (t:List Road) (v d w u j l y z o h x s n k b c m q:Option D) :
  aJ (ah 18) (bV (aG el (eV (ag aA (vv 18) (vi 1))) (fI (ac 0) (vi 0)))) (ag aA (vv 18) (vi 0)) (t.map af) [some (.ref a),v,d,w,u,j,l,y,z,o,h,x,s,n,k,b,c,m,q] S=some (aq (bn f.name t),S):=by
 have:=cG (f:=af) (g:=fun r=>P.str r.one) (p:=fun r=>decide (r.other=f.name)) (S:=S) (t:=ah 18) (c:=bV (aG el (eV (ag aA (vv 18) (vi 1))) (fI (ac 0) (vi 0)))) (e:=ag aA (vv 18) (vi 0))
  (fun q=>[some (.ref a),v,d,w,u,j,l,y,z,o,h,x,s,n,k,b,c,m,q]) (fun _ _=>rfl) (s:=t) (fun r _=>by
   constructor
   .simp [af,H,eJ]
   .simp [af]) q
 rw [this];simp [aq,bn]
noncomputable def sB (t:List Road) (a b:Str):Prop:=∃r ∈ t,r.one=a/\r.other=b
noncomputable def iK (f:Fam) (t:List Road) (K:LS) (v:P):Prop:=∃(m:Str) (a:P) (w g:Str),v=.tup [.str m,a,.str w,.str g]/\aH m=true/\cX K a/\strOk g/\((w="who"/\g ∈ f.whos)\/((w="all"\/w="any")/\sB t f.name g))
theorem nJ (h:g ∈ bg x t):sB t x g:=by
 obtain⟨r,a,rfl⟩:=bb.mp h;have:=fk.mp a
 exact⟨r,this.1,by simpa using this.2,rfl⟩
theorem jW (h:g ∈ bn x t):sB t g x:=by
 obtain⟨r,a,rfl⟩:=bb.mp h;have:=fk.mp a
 exact⟨r,this.1,rfl,by simpa using this.2⟩
noncomputable def br (x:List P):List D:=x.map .p
@[simp] theorem xB (s:List P) (x:P):br (s++[x])=br s++[.p x]:=by simp [br]
@[simp] theorem Db (x:List P):(br x).length=x.length:=by simp [br]
theorem HI (a b c d e:o) (r:List o):L2.atI (a::b::c::d::e::r) 4=some e:=aI (by decide) rfl
structure Lies (S:aR) (c:Int) (fi i:Nat) (f:Fam):Prop where
 cn:S[0]? = some (cnt c)
 fm:S[fi]? = some (.lst (eJ i f))
 ne:fi≠0
variable {a:Nat}{i:Nat}
theorem Lies.set (h:Lies S c a i f) (x:Int):Lies (S.set 0 (cnt x)) x a i f:=⟨gY h.cn,by rw [cU (bS h.ne)];exact h.fm,h.ne⟩
theorem Lies.app (h:Lies S c a i f) (T:aR):Lies (S++T) c a i f:=⟨eC h.cn,eC h.fm,h.ne⟩
theorem zf (x:Str) (t:List Road):(bg x t).length≤t.length:=by unfold bg;rw [List.length_map];exact mx _ _
theorem zg (G:LS) (a:Int) {M:Int} (e:(if (G.length:Int) > 1 then (G.length:Int) else 1)=M):0 < M/\∃x:Str,L2.atI (aq G++[.str ""]) (a % M)=some (.str x)/\(G≠[]->x ∈ G)/\(G=[]->x=""):=by
 have p:0 < M:=by subst e;split <;> lia
 refine⟨p,?_⟩;have m:=fj a (mn p);have n:=fv a p;by_cases h:G=[]
 .subst h;have:M=1:=by subst e;rfl
  subst this;have:a % 1=0:=by lia
  rw [this];exact⟨"",rfl,fun z=>absurd rfl z,fun _=>rfl⟩
 .have s:0 < G.length:=ia.mpr h;have l:M≤(G.length:Int):=by subst e;split <;> lia
  have k:(a % M).toNat < G.length:=by lia
  refine⟨G[(a % M).toNat],aI m ?_,fun _=>jn _,fun z=>absurd z h⟩;rw [List.getElem?_append_left (by simpa using k)];simp [aq,k]
theorem vO (ι:Str->GF) (υ:Str->GX) (hn:bJ l u) (hm:cL l) (J:e_ l u) (hS:Lies S c a i f) (hN:S.length=N) (hg:∀g ∈ bg f.name t,aH g=true) (hw:∀w ∈ f.whos,aH w=true) (h0:0≤c) (h1:c < 40000) (d:List P) (j:∀s ∈ d,iK f t K s) (hl:d.length≤20) (hr8:t.length≤8) (W p7 p8 p9 p10:Option D) :
  ∃(F:List P) (b:Int) (q8 q9 q10:Option D),(∀s ∈ F,iK f t K s)/\F.length≤d.length+1/\c≤b/\b≤c+2/\bQ l ι υ [some (.ref a),W,ql (aq K),qp (cE u),some (.ref 0),some (.ref N),ql (aq (bg f.name t)),p7,p8,p9,p10] (S++[.lst (br d)]) =
   some (.nx,[some (.ref a),W,ql (aq K),qp (cE u),some (.ref 0),some (.ref N),ql (aq (bg f.name t)),p7,q8,q9,q10],S.set 0 (cnt b)++[.lst (br F)]):=by
 obtain⟨r,r0,_,e⟩:=hn.app [.lst (br d)] hS.cn h0 (by lia);have m:=hS.set (c+1);have B:=eC (T:=[SO.lst (br d)]) m.fm;obtain⟨X,E,e1⟩:=J K (eC (T:=[SO.lst (br d)]) m.cn) (by lia) (by lia);rw [jV m.cn,List.set_set] at e1;have e2:=hm.pure (r / 64) (k:=0) (by lia);rw [show ((0:Nat):Int)=0 from rfl] at e2;have I:=(iV (r / 64) (k:=0) (by lia)).1;obtain⟨z,hz,e3⟩:=HJ (P.str "all") (.str "any") (i:=r % 2) (by lia) (by lia);have:∃k:Str,(k="all"\/k="any")/\z=.str k:=by
  simp only [List.mem_cons,List.not_mem_nil,or_false] at hz;rcases hz with rfl | rfl
  .exact⟨_,.inl rfl,rfl⟩
  .exact⟨_,.inr rfl,rfl⟩
 obtain⟨V,hwy,rfl⟩:=this;clear hz;have t1:trunc (S.length+1) (S.set 0 (cnt (c+1))++[.lst (br d)])=S.set 0 (cnt (c+1))++[.lst (br d)]:=bz (by simp);have t2:trunc (S.length+1) (S.set 0 (cnt (c+1+1))++[.lst (br d)])=S.set 0 (cnt (c+1+1))++[.lst (br d)]:=bz (by simp);have o1:∀b,cO (.ref N) (S.set 0 (cnt b)++[.lst (br d)])=some (N,br d):=fun _=>io (by simpa using hN);have o2:∀b y,(S.set 0 (cnt b)++[SO.lst (br d)]).set N y=S.set 0 (cnt b)++[y]:=fun _ _=>dU (by simpa using hN);have hln:(S++[SO.lst (br d)]).length=S.length+1:=by simp
 have hln1:(S.set 0 (cnt (c+1))++[SO.lst (br d)]).length=S.length+1:=by simp
 have R:yZ (.lst (aq f.whos)) (.lst [])=some (!f.whos.isEmpty):=by rw [ri (jQ (fun x Q=>bf (hw x Q)) 19),kF]
 have ng:zn (.lst (aq (bg f.name t))) (.lst [])=some (bg f.name t).isEmpty:=by rw [DT (jQ (fun x Q=>bf (hg x Q)) 19),kF]
 have G:d.length≤1000000:=by lia
 have v:(bg f.name t).length+1≤1000000:=by have:=zf f.name t;lia
 obtain⟨M,Z⟩:∃M:Int,(if ((bg f.name t).length:Int) > 1 then ((bg f.name t).length:Int) else 1)=M:=⟨_,rfl⟩;obtain⟨p,x,ex,hx1,hx2⟩:=zg _ (r / 4) Z;have U:L2.atI (eJ i f) 4=ql (aq f.whos):=HI _ _ _ _ _ _;have q44:∀T,∃y,L2.atI (eJ i f) T=y:=fun T=>⟨_,rfl⟩;by_cases A:f.whos≠[]/\(r % 3=0\/bg f.name t=[])
 .obtain⟨w,o,ew⟩:=i9 A.1 (r / 4);have L:0 < f.whos.length:=ia.mpr A.1;have n:f.whos.isEmpty=false:=by cases h:f.whos with | nil=>exact absurd h A.1 | cons _ _=>rfl
  have O:w≠"":=xN (hw w o);refine⟨d++[.tup [.str (nm 0 (r / 64)),X,.str "who",.str w]],c+1+1,qi r,qs "who",qs w,?_,by simp,by lia,by lia,?_⟩
  .intro s J;rcases bi.mp J with q | q
   .exact j s q
   .rw [bP.mp q];exact⟨_,X,"who",w,rfl,I,E,bf (hw w o),.inl ⟨rfl,o⟩⟩
  unfold bQ;rw [aa];simp [e,t1,-aa];rw [aa];simp [e3,-aa];rw [aa];simp [v,bC,bF,lB,Z,p,ex,-aa];refine (ce (e:=[some (.ref a),W,ql (aq K),qp (cE u),some (.ref 0),some (.ref N),ql (aq (bg f.name t)),p7,qi r,qs "who",qs w]) (s:=S.set 0 (cnt (c+1))++[.lst (br d)]) (by
   rcases A.2 with C | C
   .simp [B,U,R,n,C,bC,bF,L,ew]
   .have ng':zn (.lst (aq (bg f.name t))) (.lst [])=some true:=by rw [ng,C];rfl
    by_cases h4:r % 3=0 <;> simp [B,U,R,n,h4,ng',bC,bF,L,ew])).trans ?_
  simp [O,o1,o2,e1,e2,t2,G]
 .by_cases Y:bg f.name t=[]
  .have hw0:f.whos=[]:=u_ fun z=>A ⟨z,.inr Y⟩;have n:f.whos.isEmpty=true:=by rw [hw0];rfl
   have Q:=hx2 Y;refine⟨d,c+1,qi r,qs V,qs x,j,by lia,by lia,by lia,?_⟩;unfold bQ;rw [aa];simp [e,t1,-aa];rw [aa];simp [e3,-aa];rw [aa];simp [v,bC,bF,lB,Z,p,ex,-aa];rw [aa];simp [B,U,R,n,-aa];simp [Q]
  .have H:=hx1 Y;have hxn:x≠"":=xN (hg x H);have hGe:(bg f.name t).isEmpty=false:=by cases h:bg f.name t with | nil=>exact absurd h Y | cons _ _=>rfl
   refine⟨d++[.tup [.str (nm 0 (r / 64)),X,.str V,.str x]],c+1+1,qi r,qs V,qs x,?_,by simp,by lia,by lia,?_⟩
   .intro s J;rcases bi.mp J with q | q
    .exact j s q
    .rw [bP.mp q];exact⟨_,X,V,x,rfl,I,E,bf (hg x H),.inr ⟨hwy,nJ H⟩⟩
   unfold bQ;rw [aa];simp [e,t1,-aa];rw [aa];simp [e3,-aa];rw [aa];simp [v,bC,bF,lB,Z,p,ex,-aa];refine (ce (e:=[some (.ref a),W,ql (aq K),qp (cE u),some (.ref 0),some (.ref N),ql (aq (bg f.name t)),p7,qi r,qs V,qs x]) (s:=S.set 0 (cnt (c+1))++[.lst (br d)]) (by
    by_cases n:f.whos.isEmpty=true
    .simp [B,U,R,n]
    .have n:f.whos.isEmpty=false:=by simpa using n
     have C:¬r % 3=0:=fun z=>A ⟨fun y=>(by rw [y] at n;cases n),.inl z⟩;simp [B,U,R,n,C,ng,hGe])).trans ?_
   simp [hxn,o1,o2,e1,e2,t2,G]
theorem mW (I:Str->GF) (J:Str->GX) (T:bJ l u) (R:cL l) (U:e_ l u) (Q:∀g ∈ bg f.name t,aH g=true) (V:∀w ∈ f.whos,aH w=true) (r:t.length≤8) (v:Option D):∀(k:List P) {S:aR}{c:Int} (d:List P) (z b m p:Option D),Lies S c a i f->S.length=N->0≤c->c+2 * k.length < 40000->(∀s ∈ d,iK f t K s)->d.length+k.length≤20 ->
  ∃(n:List P) (o:Int) (Z A B q:Option D),(∀s ∈ n,iK f t K s)/\n.length≤d.length+k.length/\c≤o/\o≤c+2 * k.length/\cA (ah 7) (bQ l I J) k [some (.ref a),v,ql (aq K),qp (cE u),some (.ref 0),some (.ref N),ql (aq (bg f.name t)),z,b,m,p] (S++[.lst (br d)]) =
   some (.nx,[some (.ref a),v,ql (aq K),qp (cE u),some (.ref 0),some (.ref N),ql (aq (bg f.name t)),Z,A,B,q],S.set 0 (cnt o)++[.lst (br n)])
 | [],S,c,d,z,b,m,p,j,F,M,O,h,y=>by
  refine⟨d,c,z,b,m,p,h,by simp,by lia,by simp,?_⟩;have:S.set 0 (cnt c)=S:=by obtain⟨y,e⟩:=bw.mp j.cn;rw [<- e];exact my y
  rw [this];rfl
 | x::k,S,c,d,z,b,m,p,j,F,M,O,h,y=>by simp only [bo] at y O;obtain⟨E,H,A,B,q,W,a3,a4,a5,Y⟩:=vO I J T R U j F Q V M (by lia) d h (by lia) r v (qp x) b m p;obtain⟨G,X,r7,r8,r9,C,b2,b3,b4,b5,L⟩:=mW I J T R U Q V r v k (S:=S.set 0 (cnt H)) (c:=H) E (qp x) A B q (j.set H) (by simpa using F) (by lia) (by lia) W (by lia);refine⟨G,X,r7,r8,r9,C,b2,by simp;lia,by lia,by simp;lia,?_⟩;rw [List.set_set] at L;exact (dB rfl Y).trans L
noncomputable def sw (ψ:Str->GF) (ns:List Int):Prop:=∀{S:aR}{c:Int}{fi i:Nat}{f:Fam}{rds:List Road} (K:LS),Lies S c fi i f->(∀g ∈ bg f.name rds,aH g=true)->(∀w ∈ f.whos,aH w=true)->rds.length≤8->0≤c->c < 30000 ->
  ∃(sd:List P) (c':Int),(∀s ∈ sd,iK f rds K s)/\sd.length≤2/\c≤c'/\c'≤c+5/\ψ "_law_sends" [.ref fi,.p (.lst (rds.map af)),.p (.lst (aq K)),.p (cE ns),.ref 0] S=some (.ref S.length,S.set 0 (cnt c')++[.lst (br sd)])
theorem vP (F:Str->GF) (A:Str->GX) (H:bJ l u) (M:cL l) (Q:e_ l u) (K:LS) (j:Lies S c a i f) (L:∀g ∈ bg f.name t,aH g=true) (R:∀w ∈ f.whos,aH w=true) (z:t.length≤8) (J:0≤c) (X:c < 30000) :
  ∃(d:List P) (x:Int),(∀s ∈ d,iK f t K s)/\d.length≤2/\c≤x/\x≤c+5/\cq 5 11 (gj l F A) [.ref a,.p (.lst (t.map af)),.p (.lst (aq K)),.p (cE u),.ref 0] S=some (.ref S.length,S.set 0 (cnt x)++[.lst (br d)]):=by
 obtain⟨r,r0,_,e⟩:=H.app [.lst []] j.cn J (by lia);obtain⟨m,y⟩:∃m,(r % 3).toNat=m:=⟨_,rfl⟩;obtain⟨d,x,Y,Z,q9,U,k,n,o,p,v⟩:=mW F A H M Q (K:=K) (N:=S.length) L R z (ql (t.map af)) (intsFrom 0 m) (S:=S.set 0 (cnt (c+1))) (c:=c+1) [] none none none none (j.set _) (by simp) (by lia) (by rw [dA];lia) (fun _ h=>by cases h) (by rw [dA];simp;lia);rw [dA] at n p;rw [List.set_set] at v;refine⟨d,x,k,by simp at n;lia,by lia,by lia,?_⟩;have W:trunc (S.length+1) (S.set 0 (cnt (c+1))++[.lst []])=S.set 0 (cnt (c+1))++[.lst []]:=bz (by simp);have O:(r % 3).natAbs < 1000000:=by lia
 have I:=fun k n o p B C D E G b q=>wz (eC (T:=[SO.lst []]) j.fm) t k n o p B C D E G b q;have V:t.length≤1000000:=by lia
 rw [show br []=[] from rfl] at v;simp [cq,gj,au,V,c_,I,e,W,O,y,v]
theorem yO (n:Nat) (u:List Int):sw (Pa (n+8)) u:=fun {S c a i f t} K q g w h r p=>by obtain⟨d,m,x,s,k,b,e⟩:=vP (l:=Pa (n+6+1)) (Pa (n+6)) (Xs (n+6+1)) (eI (n+3) u) (iW (n+5)) (kJ (n+1) u) K q g w h r p;exact⟨d,m,x,s,k,b,by rw [<- e];exact dP (dP (oq (n+6)) _) _⟩
end My
namespace My
open PySem L2 Ev
structure Take where
 mark:Str
 sender:Str
 cell:Str
 who:Str
noncomputable def aL:Option Take->P
 | none=>.non
 | some t=>.tup [.str t.mark,.str t.sender,.str t.cell,.str t.who]
noncomputable def Cb (f:Fam) (b:List Road) (t:Take):Prop:=aH t.mark=true/\sB b t.sender f.name/\(t.cell=""\/t.cell ∈ f.cells.map Cel.name)/\(t.who=""\/t.who ∈ f.whos)
noncomputable def bD (C:LS):Option Take->LS
 | none=>C
 | some _=>C++[("it":Str)]
noncomputable def yh (x:Str×P):P:=.tup [.str x.1,x.2]
noncomputable def fL (f:Fam) (b:List Road) (k:Nat) (v:P):Prop:=∃(a:Str) (w:P) (t:Option Take) (c:List (Str×P)) (d:List P) (g:Str),
 v=.tup [.str (nm k 7),.str a,w,aL t,.lst (c.map yh),.lst d,.str g]/\a ∈ f.rooms/\g ∈ f.rooms/\kT (f.cells.map Cel.name) w/\(∀x,t=some x->Cb f b x/\∀h ∈ c,h.1≠x.cell) /\
 (c.map Prod.fst).Nodup/\(∀h ∈ c,h.1 ∈ f.cells.map Cel.name/\cX (bD (f.cells.map Cel.name) t) h.2)/\c.length≤3/\(∀s ∈ d,iK f b (bD (f.cells.map Cel.name) t) s)/\d.length≤2
noncomputable def gb (c:List (Str×P)):List D:=c.map fun x=>.p (yh x)
variable {l:Str->GF}{u:List Int}{S:aR}{c:Int}
theorem BV (R:Str->GF) (U:Str->GX) (J:bJ l u) (L:e_ l u) (E:S[0]? = some (cnt c)) (C:S.length=N) (I:0≤c) (V:c < 40000) (x:Str) (a:List (Str×P)) (W:a.length≤20) (g i z o H F A f b m t p q:Option D) :
  ∃(n:List (Str×P)) (k:Int),(n=a\/∃s,cX K s/\n=a++[(x,s)])/\c≤k/\k≤c+2/\cQ l R U [g,i,z,qp (cE u),some (.ref 0),o,H,F,ql (aq K),A,f,b,m,some (.ref N),qs x,t,p,q] (S++[.lst (gb a)]) =
   some (.nx,[g,i,z,qp (cE u),some (.ref 0),o,H,F,ql (aq K),A,f,b,m,some (.ref N),qs x,t,p,q],S.set 0 (cnt k)++[.lst (gb n)]):=by
 obtain⟨r,X,_,e⟩:=J.app [.lst (gb a)] E I (by lia);have j:(S.set 0 (cnt (c+1)))[0]? = some (cnt (c+1)):=gY E;obtain⟨v,d,B⟩:=L K (eC (T:=[SO.lst (gb a)]) j) (by lia) (by lia);rw [jV j,List.set_set] at B;have G:trunc (S.length+1) (S.set 0 (cnt (c+1))++[.lst (gb a)])=S.set 0 (cnt (c+1))++[.lst (gb a)]:=bz (by simp);have Q:trunc (S.length+1) (S.set 0 (cnt (c+1+1))++[.lst (gb a)])=S.set 0 (cnt (c+1+1))++[.lst (gb a)]:=bz (by simp);have M:∀k,cO (.ref N) (S.set 0 (cnt k)++[.lst (gb a)])=some (N,gb a):=fun _=>io (by simpa using C);have O:∀k y,(S.set 0 (cnt k)++[SO.lst (gb a)]).set N y=S.set 0 (cnt k)++[y]:=fun _ _=>dU (by simpa using C);have w:(gb a).length≤1000000:=by simp [gb];lia
 by_cases h:r % 2=0
 .refine⟨a++[(x,v)],c+1+1,.inr ⟨v,d,rfl⟩,by lia,by lia,?_⟩;rw [show gb (a++[(x,v)])=gb a++[.p (.tup [.str x,v])] by simp [gb,yh]];simp [cQ,e,G,h,M,B,Q,O,w]
 .refine⟨a,c+1,.inl rfl,by lia,by lia,?_⟩;simp [cQ,e,G,h]
theorem uL {l:Str->GF} (V:Str->GF) (W:Str->GX) {u:List Int} (hn:bJ l u) (Q:e_ l u) {N:Nat}{K L:LS} (F A B C E G I t p v w g i:Option D):∀(n:LS) {S:aR}{c:Int} (k:List (Str×P)) (z:Option D),S[0]? = some (cnt c)->S.length=N->0≤c->c+2 * n.length < 40000->k.length+n.length≤20->(k.map Prod.fst++n).Nodup->(∀r ∈ k,r.1 ∈ L/\cX K r.2)->(∀x ∈ n,x ∈ L) ->
  ∃(f:List (Str×P)) (R:Int) (o:Option D),(f.map Prod.fst).Nodup/\(∀r ∈ f,r.1 ∈ L/\cX K r.2)/\f.length≤k.length+n.length/\c≤R/\R≤c+2 * n.length/\cA (ah 14) (cQ l V W) (aq n) [F,A,B,qp (cE u),some (.ref 0),C,E,G,ql (aq K),I,t,p,v,some (.ref N),z,w,g,i] (S++[.lst (gb k)]) =
   some (.nx,[F,A,B,qp (cE u),some (.ref 0),C,E,G,ql (aq K),I,t,p,v,some (.ref N),o,w,g,i],S.set 0 (cnt R)++[.lst (gb f)])
 | [],S,c,k,z,M,T,Z,h1,O,j,J,U=>by
  refine⟨k,c,z,by simpa using j,J,by simp,by lia,by simp,?_⟩;have:S.set 0 (cnt c)=S:=by obtain⟨O,e⟩:=bw.mp M;rw [<- e];exact my O
  rw [this];rfl
 | x::n,S,c,k,z,M,T,Z,h1,O,j,J,U=>by
  simp only [bo] at O h1;obtain⟨m,X,a,b,d,e1⟩:=BV V W hn Q (K:=K) M T Z (by lia) x k (by lia) F A B C E G I t p v w g i;have h2:(m.map Prod.fst++n).Nodup/\(∀r ∈ m,r.1 ∈ L/\cX K r.2)/\m.length≤k.length+1:=by
   rcases a with rfl | ⟨s,Q,rfl⟩
   .exact⟨j.sublist (List.Sublist.append_left (List.sublist_cons_self x n) _),J,by lia⟩
   .refine⟨by rw [List.map_append,dQ];exact j,fun r h=>?_,by simp⟩;rcases bi.mp h with q | q
    .exact J r q
    .rw [bP.mp q];exact⟨U x List.mem_cons_self,Q⟩
  obtain⟨H,c2,o,b1,b2,b3,b4,b5,Y⟩:=uL V W hn Q F A B C E G I t p v w g i n (S:=S.set 0 (cnt X)) (c:=X) m (qs x) (gY M) (by simpa using T) (by lia) (by lia) (by lia) h2.1 h2.2.1 (fun y hy=>U y (bE _ hy));refine⟨H,c2,o,b1,b2,by simp;lia,by lia,by simp;lia,?_⟩;rw [List.set_set] at Y;exact (dB rfl e1).trans Y
theorem Nu:∀n,n < 4->sliceRange (sliceBounds none none (some 1) n).1 (sliceBounds none none (some 1) n).2.1 (sliceBounds none none (some 1) n).2.2=List.range n:=by decide +kernel
theorem Nt:∀n,n < 4->sliceRange (sliceBounds none none (some (-1)) n).1 (sliceBounds none none (some (-1)) n).2.1 (sliceBounds none none (some (-1)) n).2.2=(List.range n).reverse:=by decide +kernel
theorem AW (h:n.length≤3):hJ n none none (some 1)=n:=by
 unfold hJ;rw [Nu _ (by lia)];match n,h with
 | [],_=>rfl
 | [a],_=>rfl
 | [a,b],_=>rfl
 | [a,b,c],_=>rfl
 | _::_::_::_::_,h=>exact absurd h (by simp)
theorem AX (h:n.length≤3):hJ n none none (some (-1))=n.reverse:=by
 unfold hJ;rw [Nt _ (by lia)];match n,h with
 | [],_=>rfl
 | [a],_=>rfl
 | [a,b],_=>rfl
 | [a,b,c],_=>rfl
 | _::_::_::_::_,h=>exact absurd h (by simp)
theorem IQ (c:List (Str×P)) (h:c.length≤3) (i:Int) (x:0≤i) (a:i < 2):∃(d:Int) (z:List (Str×P)),L2.atI [P.int 1,.int (-1)] i=some (.int d)/\d≠0/\hJ (c.map yh) none none (some d)=z.map yh/\(z=c\/z=c.reverse):=by
 have:i=0\/i=1:=by lia
 rcases this with rfl | rfl
 .exact⟨1,c,rfl,by decide,AW (by simpa using h),.inl rfl⟩
 .exact⟨-1,c.reverse,rfl,by decide,by rw [AX (by simpa using h),List.map_reverse],.inr rfl⟩
theorem xk {l:Str->GF} (ι:Str->GF) (υ:Str->GX) {u:List Int} (hn:bJ l u) (hm:cL l) (hs:e_ l u) (hwn:wT l u) (hsd:sw l u) {S:aR}{c r:Int}{B i k:Nat}{f:Fam} (M:Lies S c B i f) (R:zP (S.length+1) S) (hf:bp f) {b:List Road} (hr:∀r ∈ b,aH r.one=true/\aH r.other=true) (hr8:b.length≤8) (hk:k < 8) (h0:0≤c) (h1:c < 20000) (t:Option Take) (K left:LS) (hK:K=bD (f.cells.map Cel.name) t) (ht:∀O,t=some O->Cb f b O/\O.cell ∉ left) (hnd:left.Nodup) (hlc:∀x ∈ left,x ∈ f.cells.map Cel.name) (hll:left.length≤3) (n m p p13 W G I H:Option D) :
  ∃(v:P) (c':Int) (L':Lc) (T:SO),fL f b k v/\c≤c'/\c'≤c+14/\qT l ι υ [some (.ref B),ql (b.map af),qi (k:Int),qp (cE u),some (.ref 0),qi r,ql (aq (f.cells.map Cel.name)),qp (aL t),ql (aq K),ql (aq left),n,m,p,p13,W,G,I,H] S=some (.rt (.p v),L',S.set 0 (cnt c')++[T]):=by
 obtain⟨s,c1,F,b1,b2,b3,b4,b5,e1⟩:=uL ι υ hn hs (N:=S.length) (K:=K) (L:=left) (some (.ref B)) (ql (b.map af)) (qi (k:Int)) (qi r) (ql (aq (f.cells.map Cel.name))) (qp (aL t)) (ql (aq left)) n m p G I H left (S:=S) (c:=c) [] W M.cn rfl h0 (by lia) (by simp;lia) (by simpa using hnd) (fun _ h=>by cases h) (fun _ h=>h);have hS1:=(M.set c1).app [.lst (gb s)];obtain⟨X,J,w1,w2,w3,e2⟩:=hwn (f.cells.map Cel.name) hS1.cn (by lia) (by lia);rw [jV (M.set c1).cn,List.set_set] at e2;have hS2:=(M.set J).app [.lst (gb s)];have Q:∀g ∈ bg f.name b,aH g=true:=fun g h=>by obtain⟨r,hr1,_,rfl⟩:=nJ h;exact (hr r hr1).2
 have hw:∀w ∈ f.whos,aH w=true:=fun w h=>hf.2.2.2.2.2.2.2.1 w (List.mem_append_right _ h);obtain⟨y,a,s1,s2,s3,s4,e3⟩:=hsd (rds:=b) K hS2 Q hw hr8 (by lia) (by lia);rw [jV (M.set J).cn,List.set_set] at e3;have hS3:=(M.set a).app [.lst (gb s)];have E:f.rooms≠[]:=fun z=>by have:=hf.2.1;rw [z] at this;simp at this
 have U:0 < f.rooms.length:=ia.mpr E;obtain⟨Z,hra,e4⟩:=i9 E (r / 1024);obtain⟨rb,hrb,e5⟩:=i9 E (r / 8192);obtain⟨d,zs,e6,hd,e7,Y⟩:=IQ s (by simp at b3;lia) (r / 65536 % 2) (by lia) (by lia);have e8:=hm.pure 7 hk;have q2:L2.atI (eJ i f) 2=ql (aq f.rooms):=rfl;have t1:trunc (S.length+1) (S.set 0 (cnt J)++[.lst (gb s)])=S.set 0 (cnt J)++[.lst (gb s)]:=bz (by simp);have A:(S.set 0 (cnt J)++[SO.lst (gb s)]).length=S.length+1:=by simp
 have C:zP (S.length+1) (S.set 0 (cnt a)++[.lst (gb s)]):=fun o ho=>by
  rcases bi.mp ho with q | q
  .exact (R.set 0 a) o q
  .rw [bP.mp q];show (gb s).all (lI _)=true;unfold gb;rw [ji];exact aW.mpr fun _ _=>rfl
 have tp:jx 9 (.ref (S.length+1)) (S.set 0 (cnt a)++[.lst (gb s)]++[.lst (br y)])=some (.lst y,S.set 0 (cnt a)++[.lst (gb s)]++[.fz (.lst y)]):=by
  have Q:(S.set 0 (cnt a)++[.lst (gb s)]++[SO.lst (br y)])[S.length+1]? = some (.lst (y.map .p)):=by rw [c7 (by simp)];simp [br]
  rw [eA Q,dU (by simp)]
 have t2:trunc (S.length+1) (S.set 0 (cnt a)++[.lst (gb s)]++[.fz (.lst y)])=S.set 0 (cnt a)++[.lst (gb s)]:=iN C (by simp);have tq:jx 9 (.ref S.length) (S.set 0 (cnt a)++[.lst (gb s)])=some (.lst (s.map yh),S.set 0 (cnt a)++[.fz (.lst (s.map yh))]):=by
  have Q:(S.set 0 (cnt a)++[SO.lst (gb s)])[S.length]? = some (.lst ((s.map yh).map .p)):=by rw [c7 (by simp)];simp [gb]
  rw [eA Q,dU (by simp)]
 have g3:=hS3.fm;refine⟨.tup [.str (nm k 7),.str Z,X,aL t,.lst (zs.map yh),.lst y,.str rb],a,[some (.ref B),ql (b.map af),qi (k:Int),qp (cE u),some (.ref 0),qi r,ql (aq (f.cells.map Cel.name)),qp (aL t),ql (aq K),ql (aq left),n,m,p,some (.ref S.length),F,qp X,ql y,ql [.str Z,.str rb]],.fz (.lst (s.map yh)),⟨Z,X,t,zs,y,rb,rfl,hra,hrb,w1,?_,?_,?_,?_,by rw [<- hK];exact s1,s2⟩,by lia,by lia,?_⟩
 .intro O V;refine⟨(ht O V).1,fun L j e=>(ht O V).2 ?_⟩;rw [<- e];have:L ∈ s:=by rcases Y with rfl | rfl;exact j;exact ms.mp j
  exact (b2 L this).1
 .rcases Y with rfl | rfl
  .exact b1
  .rw [List.map_reverse];exact qF.mpr (b1.imp bS)
 .intro L j;have:L ∈ s:=by rcases Y with rfl | rfl;exact j;exact ms.mp j
  exact⟨hlc _ (b2 L this).1,by rw [<- hK];exact (b2 L this).2⟩
 .have:zs.length=s.length:=by rcases Y with rfl | rfl <;> simp
  simp at b3;lia
 .unfold qT;rw [aa];simp [-aa];refine (ce (e:=[some (.ref B),ql (b.map af),qi (k:Int),qp (cE u),some (.ref 0),qi r,ql (aq (f.cells.map Cel.name)),qp (aL t),ql (aq K),ql (aq left),n,m,p,some (.ref S.length),F,G,I,H]) (s:=S.set 0 (cnt c1)++[.lst (gb s)]) (by
   rw [show gb []=[] from rfl] at e1;simp [e1])).trans ?_
  rw [aa];simp [e2,t1,-aa];refine (ce (e:=[some (.ref B),ql (b.map af),qi (k:Int),qp (cE u),some (.ref 0),qi r,ql (aq (f.cells.map Cel.name)),qp (aL t),ql (aq K),ql (aq left),n,m,p,some (.ref S.length),F,qp X,ql y,H]) (s:=S.set 0 (cnt a)++[.lst (gb s)]) (by
   rw [A] at e3;generalize S.set 0 (cnt a)++[SO.lst (gb s)]=S3 at *
   generalize S.set 0 (cnt J)++[SO.lst (gb s)]=S2 at *
   simp [e3,tp,A,t2])).trans ?_
  refine (ce (e:=[some (.ref B),ql (b.map af),qi (k:Int),qp (cE u),some (.ref 0),qi r,ql (aq (f.cells.map Cel.name)),qp (aL t),ql (aq K),ql (aq left),n,m,p,some (.ref S.length),F,qp X,ql y,ql [.str Z,.str rb]]) (s:=S.set 0 (cnt a)++[.lst (gb s)]) (by
   generalize S.set 0 (cnt a)++[SO.lst (gb s)]=S3 at *
   simp [g3,q2,bC,bF,U,e4,e5])).trans ?_
  generalize S.set 0 (cnt a)++[SO.lst (gb s)]=S3 at *
  simp [e8,tq,aE,aD,e6,hd,e7]
theorem y8 (C:LS) (l:Str) (r t v d w u i j y z a h s k b m q:Option D) :
  aJ (ah 14) (bV (aG n5 (ac 14) (ac 11))) (vv 14) (aq C) [r,t,v,d,w,u,i,j,y,z,a,qs l,h,s,q,k,b,m] S=some (aq (C.filter fun x=>!decide (x=l)),S):=
 cG (f:=P.str) (g:=P.str) (p:=fun x=>!decide (x=l)) (S:=S) (t:=ah 14) (c:=bV (aG n5 (ac 14) (ac 11))) (e:=vv 14) (fun q=>[r,t,v,d,w,u,i,j,y,z,a,qs l,h,s,q,k,b,m]) (fun _ _=>rfl) (s:=C) (fun c _=>⟨by simp,by simp⟩) q
theorem o7 (G:LS) (a:Int):∃x:Str,L2.atI (aq G++[.str ""]) (a % ((G.length:Int)+1))=some (.str x)/\(x=""\/x ∈ G):=by
 have p:(0:Int) < (G.length:Int)+1:=by lia
 have m:=fj a (mn p);have s:=fv a p;by_cases h:(a % ((G.length:Int)+1)).toNat < G.length
 .refine⟨G[(a % ((G.length:Int)+1)).toNat],aI m ?_,.inr (jn _)⟩;rw [List.getElem?_append_left (by simpa using h)];simp [aq,h]
 .have e:(a % ((G.length:Int)+1)).toNat=G.length:=by lia
  refine⟨"",aI m ?_,.inl rfl⟩;rw [e,c7 (by simp)];simp
noncomputable def nZ (l:Str->GF) (u:List Int):Prop:=∀{S:aR}{c:Int}{x i k:Nat}{f:Fam}{b:List Road},Lies S c x i f->zP (S.length+1) S->bp f->(∀r ∈ b,aH r.one=true/\aH r.other=true)->b.length≤8->k < 8->0≤c->c < 19000 ->
  ∃(v:P) (h:Int) (T:SO),fL f b k v/\c≤h/\h≤c+15/\l "_law_step" [.ref x,.p (.lst (b.map af)),.p (.int (k:Int)),.p (cE u),.ref 0] S=some (.p v,S.set 0 (cnt h)++[T])
variable {k:Nat}{f:Fam}{b:List Road}
theorem yM (Y:Str->GF) (Z:Str->GX) (hn:bJ l u) (hm:cL l) (hs:e_ l u) (V:wT l u) (R:sw l u) (hS:Lies S c E i f) (O:zP (S.length+1) S) (D:bp f) (hr:∀r ∈ b,aH r.one=true/\aH r.other=true) (Q:b.length≤8) (hk:k < 8) (h0:0≤c) (h1:c < 19000) :
  ∃(v:P) (t:Int) (T:SO),fL f b k v/\c≤t/\t≤c+15/\cq 5 18 (df l Y Z) [.ref E,.p (.lst (b.map af)),.p (.int (k:Int)),.p (cE u),.ref 0] S=some (.p v,S.set 0 (cnt t)++[T]):=by
 obtain⟨r,r0,_,e⟩:=hn hS.cn h0 (by lia);have B:=hS.set (c+1);have o:zP ((S.set 0 (cnt (c+1))).length+1) (S.set 0 (cnt (c+1))):=by rw [cv];exact O.set 0 _
 have g1:=B.fm;have q3:L2.atI (eJ i f) 3=ql (f.cells.map a_):=rfl;have q4:L2.atI (eJ i f) 4=ql (aq f.whos):=HI _ _ _ _ _ _;have L:f.cells.length≤3:=D.2.2.2.2.2.1;have C:f.cells.length≤1000000:=by lia
 have M:(f.cells.map Cel.name).Nodup:=(jq.mp D.2.2.2.2.2.2.1).1;have hCo:∀x ∈ f.cells.map Cel.name,aH x=true:=fun x h=>D.2.2.2.2.2.2.2.1 x (dv _ h);have sc:=fun p G I n a5 a6 a7 a8 a9 d a11 j H a14 F K A q=>qX g1 b p G I n a5 a6 a7 a8 a9 d a11 j H a14 F K A q;have rl:b.length≤1000000:=by lia
 have hsn:∀g ∈ bn f.name b,aH g=true:=fun g h=>by obtain⟨r,hr1,rfl,_⟩:=jW h;exact (hr r hr1).1
 have ng:yZ (.lst (aq (bn f.name b))) (.lst [])=some (!(bn f.name b).isEmpty):=by rw [ri (jQ (fun x W=>bf (hsn x W)) 19),kF]
 have X:trunc S.length (S.set 0 (cnt (c+1)))=S.set 0 (cnt (c+1)):=kE ..;by_cases N:bn f.name b≠[]/\r % 2=0
 .obtain⟨a,J,hcl⟩:=o7 (f.cells.map Cel.name) (r / 2);obtain⟨w,ewh,hwh⟩:=o7 f.whos (r / 8);obtain⟨sn,U,esn⟩:=i9 N.1 (r / 24);have hsl:0 < (bn f.name b).length:=ia.mpr N.1;have s:(bn f.name b).isEmpty=false:=by cases h:bn f.name b with | nil=>exact absurd h N.1 | cons _ _=>rfl
  have e1:=hm.pure (r / 32) (k:=1) (by lia);rw [show ((1:Nat):Int)=1 from rfl] at e1;have hT2:=N.2;have hmk:=(iV (r / 32) (k:=1) (by lia)).1;have lc:=fun a0 p G I n a5 a6 a7 a8 a9 d j H F K A q=>y8 (S:=S.set 0 (cnt (c+1))) (f.cells.map Cel.name) a a0 p G I n a5 a6 a7 a8 a9 d j H F K A q;have cl1:f.cells.length+1≤1000000:=by lia
  have Li:f.whos.length+1≤1000000:=by have:=D.2.2.2.2.2.2.2.2.2.2.1;lia
  have hp1:(0:Int) < (f.cells.length:Int)+1:=by lia
  have hp2:(0:Int) < (f.whos.length:Int)+1:=by lia
  rw [List.length_map] at J;have it1:[P.str "it"]=aq [("it":Str)]:=rfl;obtain⟨v,t,L',T,p,G,I,n⟩:=xk Y Z hn hm hs V R (r:=r) B o D hr Q hk (by lia) (by lia) (some ⟨nm 1 (r / 32),sn,a,w⟩) (f.cells.map Cel.name++[("it":Str)]) ((f.cells.map Cel.name).filter fun x=>!decide (x=a)) rfl
   (fun tk h=>by
    cases h;refine⟨⟨hmk,jW U,hcl,hwh⟩,fun z=>?_⟩;have:=(fk.mp z).2
    simp at this) (M.sublist List.filter_sublist) (fun x W=>(fk.mp W).1) (bL (mx _ _) (by simpa using L)) (ql (aq (bn f.name b))) (qs a) (qs w) none none none none none
  rw [List.set_set] at n;refine⟨v,t,T,p,by lia,by lia,?_⟩;have m:df l Y Z [some (.ref E),ql (b.map af),qi (k:Int),qp (cE u),some (.ref 0),none,none,none,none,none,none,none,none,none,none,none,none,none] S=some (.rt (.p v),L',S.set 0 (cnt t)++[T]):=by
   unfold df;rw [aa];simp [e,X,-aa];rw [aa];simp [g1,q3,au,C,c_,ki,-aa];rw [aa];simp [-aa];rw [aa];simp [-aa];rw [aa];simp [bW,-aa];rw [aa];simp [au,rl,c_,sc,-aa];refine (ce (e:=[some (.ref E),ql (b.map af),qi (k:Int),qp (cE u),some (.ref 0),qi r,ql (aq (f.cells.map Cel.name)),qp (aL (some ⟨nm 1 (r / 32),sn,a,w⟩)),ql (aq (f.cells.map Cel.name++[("it":Str)])),ql (aq ((f.cells.map Cel.name).filter fun x=>!decide (x=a))),ql (aq (bn f.name b)),qs a,qs w,none,none,none,none,none]) (s:=S.set 0 (cnt (c+1))) (by simp only [FH];rw [show c9 (bV (aG n5 (ac 10) (eV (ar aO)))) (bV (aG el (eV (ag aK (vv 5) (vi 2))) (eV (vi 0)))) [some (.ref E),ql (b.map af),qi (k:Int),qp (cE u),some (.ref 0),qi r,ql (aq (f.cells.map Cel.name)),qp .non,ql (aq (f.cells.map Cel.name)),ql (aq (f.cells.map Cel.name)),ql (aq (bn f.name b)),none,none,none,none,none,none,none] (S.set 0 (cnt (c+1)))=some (true,S.set 0 (cnt (c+1))) by simp [ng,s,hT2]];simp [cl1,Li,bC,bF,hp1,hp2,J,ewh,g1,q4,e1,esn,hsl,au,C,c_,lc,aL,it1,l_])).trans ?_
   exact n
  simp [cq,m]
 .obtain⟨v,t,L',T,p,G,I,n⟩:=xk Y Z hn hm hs V R (r:=r) B o D hr Q hk (by lia) (by lia) none (f.cells.map Cel.name) (f.cells.map Cel.name) rfl (fun tk h=>by cases h) M (fun x W=>W) (by simpa using L) (ql (aq (bn f.name b))) none none none none none none none;rw [List.set_set] at n;refine⟨v,t,T,p,by lia,by lia,?_⟩;have m:df l Y Z [some (.ref E),ql (b.map af),qi (k:Int),qp (cE u),some (.ref 0),none,none,none,none,none,none,none,none,none,none,none,none,none] S=some (.rt (.p v),L',S.set 0 (cnt t)++[T]):=by
   unfold df;rw [aa];simp [e,X,-aa];rw [aa];simp [g1,q3,au,C,c_,ki,-aa];rw [aa];simp [-aa];rw [aa];simp [-aa];rw [aa];simp [bW,-aa];rw [aa];simp [au,rl,c_,sc,-aa];refine (ce (e:=[some (.ref E),ql (b.map af),qi (k:Int),qp (cE u),some (.ref 0),qi r,ql (aq (f.cells.map Cel.name)),qp .non,ql (aq (f.cells.map Cel.name)),ql (aq (f.cells.map Cel.name)),ql (aq (bn f.name b)),none,none,none,none,none,none,none]) (s:=S.set 0 (cnt (c+1))) (by
    by_cases s:(bn f.name b).isEmpty=true
    .simp [ng,s]
    .have s:(bn f.name b).isEmpty=false:=by simpa using s
     have h2:¬r % 2=0:=fun z=>N ⟨fun y=>(by rw [y] at s;cases s),z⟩;simp [ng,s,h2])).trans ?_
   exact n
  simp [cq,m]
theorem Ay (n:Nat) (u:List Int):nZ (Pa (n+10)) u:=fun {S c j i k f b} p w q g h d r t=>by obtain⟨v,m,T,a,x,s,e⟩:=yM (l:=Pa (n+8+1)) (Pa (n+8)) (Xs (n+8+1)) (eI (n+5) u) (iW (n+7)) (kJ (n+3) u) (z4 (n+1) u) (yO (n+1) u) p w q g h d r t;exact⟨v,m,T,a,x,s,by rw [<- e];exact dP (dP (rH (n+8)) _) _⟩
@[simp] theorem Oa:PyData.strOk ("name":Str)=true:=by decide +kernel
@[simp] theorem N_:PyData.strOk ("number":Str)=true:=by decide +kernel
@[simp] theorem N9:PyData.strOk ("is":Str)=true:=by decide +kernel
@[simp] theorem N8:PyData.strOk ("not":Str)=true:=by decide +kernel
@[simp] theorem N7:PyData.strOk ("true":Str)=true:=by decide +kernel
theorem Jm {o:Str} (h:o="plus"\/o="minus"\/o="times"):PyData.strOk o=true:=by rcases h with rfl | rfl | rfl <;> decide +kernel
theorem Jn {o:Str} (h:o="and"\/o="or"):PyData.strOk o=true:=by rcases h with rfl | rfl <;> decide +kernel
theorem xU:strOk "it":=by unfold strOk;decide +kernel
theorem kR {K:LS} (a:∀x ∈ K,strOk x) {v:P} (h:jD K v) (n:Nat):b8 (n+1) v=true:=by
 rcases h with ⟨x,e,rfl⟩ | ⟨i,rfl⟩
 .simp [show PyData.strOk x=true from a x e]
 .simp
theorem dI {K:LS} (e:∀x ∈ K,strOk x) {v:P} (h:cX K v) (n:Nat):b8 (n+2) v=true:=by
 rcases h with h | ⟨o,a,b,f,s,k,rfl⟩
 .exact kR e h (n+1)
 .simp [Jm f,kR e s n,kR e k n]
theorem kh {K:LS} (e:∀x ∈ K,strOk x) {v:P} (h:nE K v) (n:Nat):b8 (n+3) v=true:=by obtain⟨w,a,b,f,s,k,rfl⟩:=h;simp [show PyData.strOk w=true from f,dI e s n,dI e k n]
theorem oQ {K:LS} (e:∀x ∈ K,strOk x) {v:P} (h:kT K v) (n:Nat):b8 (n+4) v=true:=by
 rcases h with rfl | h | ⟨a,s,rfl⟩ | ⟨o,a,b,f,s,k,rfl⟩
 .simp
 .exact kh e h (n+1)
 .simp [kh e s n]
 .simp [Jn f,kh e s n,kh e k n]
variable {v:P}
theorem yP (c:∀x ∈ K,strOk x) (h:iK f b K v) (n:Nat):b8 (n+3) v=true:=by
 obtain⟨mk,m,w,t,rfl,a,e,s,k⟩:=h;have:PyData.strOk w=true:=by rcases k with ⟨rfl,_⟩ | ⟨rfl | rfl,_⟩ <;> decide +kernel
 simp [show PyData.strOk mk=true from bf a,dI c e n,this,show PyData.strOk t=true from s]
theorem j7 (h:∀x ∈ C,strOk x) (t:Option Take):∀x ∈ bD C t,strOk x:=by
 intro x a;cases t with
 | none=>exact h x a
 | some _=>
  rcases bi.mp a with q | q
  .exact h x q
  .rw [bP.mp q];exact xU
theorem bp.cs (h:bp f):∀x ∈ f.cells.map Cel.name,aH x=true:=fun x a=>h.2.2.2.2.2.2.2.1 x (dv _ a)
theorem bp.ws (h:bp f):∀x ∈ f.whos,aH x=true:=fun x a=>h.2.2.2.2.2.2.2.1 x (List.mem_append_right _ a)
theorem yL (p:bp f) (A:∀r ∈ b,aH r.one=true/\aH r.other=true) (P:k < 8) (h:fL f b k v) (n:Nat):b8 (n+6) v=true:=by
 obtain⟨a,U,t,c,J,g,rfl,y,o,H,S,O,F,Q,K,T⟩:=h;have C:∀x ∈ f.cells.map Cel.name,strOk x:=fun x e=>bf (p.cs x e);have R:∀x ∈ f.rooms,strOk x:=fun x e=>bf (p.2.2.2.2.1 x e);have u:PyData.strOk (nm k 7)=true:=bf (iV 7 P).1;have i:b8 (n+5) (aL t)=true:=by
  cases t with
  | none=>simp [aL]
  | some s=>
   obtain⟨⟨L,⟨r,q,d,B⟩,M,N⟩,_⟩:=S s rfl;have D:PyData.strOk s.mark=true:=bf L;have E:PyData.strOk s.sender=true:=by rw [<- d];exact bf (A r q).1
   have G:PyData.strOk s.cell=true:=by
    rcases M with z | z
    .rw [z];decide +kernel
    .exact C _ z
   have I:PyData.strOk s.who=true:=by
    rcases N with z | z
    .rw [z];decide +kernel
    .exact bf (p.ws _ z)
   simp [aL,D,E,G,I]
 have j:b8 (n+5) (.lst (c.map yh))=true:=Ba fun x e=>by
  obtain⟨w,m,rfl⟩:=bb.mp e;have:=F w m
  simp [yh,show PyData.strOk w.1=true from C _ this.1,dI (j7 C t) this.2 (n+1)]
 have l:b8 (n+5) (.lst J)=true:=Ba fun x e=>yP (j7 C t) (K x e) (n+1);rw [md];simp only [mq,lU,lZ,iU,u,show PyData.strOk a=true from R a y,show PyData.strOk g=true from R g o,oQ C H (n+1),i,j,l]
structure Stps (rds:List Road) (f:Fam):Prop where
 ln:f.steps.length≤8
 ok:∀(k:Nat) v,f.steps[k]? = some v->fL f rds k v
theorem Stps.data (h:Stps b f) (s:bp f) (m:∀r ∈ b,aH r.one=true/\aH r.other=true) (n:Nat):b8 (n+7) (.lst f.steps)=true:=Ba fun x t=>by
 obtain⟨k,c,e⟩:=qC.mp t;have a:f.steps[k]? = some x:=by rw [List.getElem?_eq_getElem c,e]
 exact yL s m (by have:=h.ln;lia) (h.ok k x a) n
noncomputable def iJ (f:Fam) (v:P):Fam:=⟨f.name,f.hands,f.rooms,f.cells,f.whos,f.steps++[v]⟩
theorem pj:∀(i:Nat) (s:List Fam) {k:Nat}{f:Fam} (v:P),s[k]? = some f->(dL i s).set (2 * k) (.lst (f.steps.map .p++[.p v]))=dL i (s.set k (iJ f v))
 | _,[],_,_,_,h=>by simp at h
 | i,g::r,0,f,v,h=>by simp at h;subst h;show _::_::_=_;simp [dL,iJ,eJ]
 | i,g::r,k+1,f,v,h=>by have:=pj (i+2) r (k:=k) (f:=f) v (by simpa using h);rw [show 2 * (k+1)=2 * k+1+1 by lia];show _::_::(dL (i+2) r).set (2 * k) _=_::_::dL (i+2) (r.set k (iJ f v));rw [this]
variable {s:List Fam}
theorem Av (v:P) (h:s[k]? = some f):(bh c s).set (2+2 * k) (.lst (f.steps.map .p++[.p v]))=bh c (s.set k (iJ f v)):=by rw [show 2+2 * k=2 * k+1+1 by lia];show cnt c::_::(dL 2 s).set (2 * k) _=cnt c::.lst (cN (s.set k (iJ f v)).length)::_;rw [pj 2 s v h,cv]
variable {h:Type}{n:List h}
theorem j5 (h:n[k]? = some x) (e:g y=g x):(n.set k y).map g=n.map g:=by
 rw [lV,e];have s:(n.map g)[k]? = some (g x):=by rw [List.getElem?_map,h];rfl
 obtain⟨l,a⟩:=bw.mp s;rw [<- a];exact my l
theorem fF (h:z ∈ n.set k y):z ∈ n\/z=y:=List.mem_or_eq_of_mem_set h
variable {kinds:Int}
theorem Fams.put (h:Fams kinds s) (v:P) (x:s[k]? = some f):Fams kinds (s.set k (iJ f v)) where
 l1:=by rw [cv];exact h.l1
 l2:=by rw [cv];exact h.l2
 ok:=fun g a=>by
  rcases fF a with q | rfl
  .exact h.ok g q
  .exact (h.ok f (cV x):bp f)
 nms:=by rw [cv,j5 (g:=Fam.name) x (by rfl)];exact h.nms
 sum:=by rw [j5 (g:=Fam.hands) x (by rfl)];exact h.sum
theorem Aq (h:∀g ∈ s,Stps b g) (m:s[k]? = some f) (l:f.steps.length < 8) (r:fL f b f.steps.length v):∀g ∈ s.set k (iJ f v),Stps b g:=fun g n=>by
 rcases fF n with q | rfl
 .exact h g q
 .have e:=h f (cV m);refine⟨by simp [iJ];lia,fun j w x=>?_⟩;unfold iJ at x;simp only at x;by_cases c:j < f.steps.length
  .rw [List.getElem?_append_left c] at x;exact (e.ok j w x:fL f b j w)
  .rw [c7 (by lia)] at x;have a:j-f.steps.length=0:=by have:=(bw.mp x).1;simp at this;lia
   rw [a] at x;cases x;have:j=f.steps.length:=by lia
   subst this;exact (r:fL f b f.steps.length v)
noncomputable def bA (c:Int) (s:List Fam) (p:List P):aR:=bh c s++[.lst (br p)]
theorem dS (c:Int) (s:List Fam) (p:List P):(bA c s p).length=2+2 * s.length+1:=by unfold bA;rw [bN,aN];rfl
theorem vJ (c:Int) (s:List Fam) (p:List P):(bA c s p)[0]? = some (cnt c):=rfl
theorem kG (c:Int) (s:List Fam) (p:List P):(bA c s p)[1]? = some (.lst (cN s.length)):=rfl
theorem jR (c h:Int) (s:List Fam) (p:List P):(bA c s p).set 0 (cnt h)=bA h s p:=rfl
variable {p:List P}
theorem jS (h:s[k]? = some f):(bA c s p)[3+2 * k]? = some (.lst (eJ (2+2 * k) f)):=eC (sW h)
theorem mP (h:s[k]? = some f):(bA c s p)[2+2 * k]? = some (.lst (br f.steps)):=eC (Au h)
theorem Ar (c:Int) (s:List Fam) (p:List P):(bA c s p)[2+2 * s.length]? = some (.lst (br p)):=by unfold bA;rw [c7 (by rw [aN];lia),aN,lX];rfl
theorem sU (c:Int) (s:List Fam) (p:List P) (n:2+2 * s.length+1≤x):zP x (bA c s p):=fun o h=>by
 rcases bi.mp h with q | q
 .rcases List.mem_cons.mp q with rfl | q
  .rfl
  rcases List.mem_cons.mp q with rfl | q
  .exact tu (by lia)
  .exact kY 2 s (by lia) o q
 .rw [bP.mp q];show (br p).all (lI _)=true;unfold br;rw [ji];exact aW.mpr fun _ _=>rfl
theorem As (v:P) (h:s[k]? = some f):(bA c s p).set (2+2 * k) (.lst (br f.steps++[.p v]))=bA c (s.set k (iJ f v)) p:=by unfold bA;have x:=(bw.mp h).1;rw [List.set_append_left _ _ (by rw [aN];lia)];rw [show br f.steps=f.steps.map .p from rfl,Av v h]
theorem Gr (h:s[k]? = some f):Lies (bA c s p) c (3+2 * k) (2+2 * k) f:=⟨rfl,jS h,by lia⟩
theorem G4 (a b c d e f:h) (r:List h):L2.atI (a::b::c::d::e::f::r) 5=some f:=aI (by decide) rfl
noncomputable def Du (b:List Road):Prop:=∀r ∈ b,aH r.one=true/\aH r.other=true
theorem yK (E:Str->GF) (G:Str->GX) (t:nZ l u) {left:Int} (F:Fams kinds s) (x:s[k]? = some f) (H:f.steps.length < 8) (S:Du b) (r:b.length≤8) (w:0≤c) (i:c < 19000) (q d a:Option D) (N:D) :
  ∃(v:P) (h:Int),fL f b f.steps.length v/\c≤h/\h≤c+15/\dF l E G [qp (cE u),q,some (.ref 0),some (.ref 1),ql (b.map af),qi left,some N,some (.ref (3+2 * k)),qi (f.steps.length:Int),d,a] (bA c s p) =
   some (.nx,[qp (cE u),q,some (.ref 0),some (.ref 1),ql (b.map af),qi (left-1),some N,some (.ref (3+2 * k)),qi (f.steps.length:Int),d,a],bA h (s.set k (iJ f v)) p):=by
 obtain⟨v,h,T,j,y,z,e⟩:=t (Gr (p:=p) x) (by rw [dS];exact sU c s p (by lia)) (F.ok f (cV x)) S r H w i;rw [jR] at e;refine⟨v,h,j,y,z,?_⟩;have g:=jS (c:=c) (p:=p) x;have B:L2.atI (eJ (2+2 * k) f) 5=some (.ref (2+2 * k)):=G4 _ _ _ _ _ _ _;have o:∀c,cO (.ref (2+2 * k)) (bA c s p)=some (2+2 * k,br f.steps):=fun c=>by simp [cO,mP (c:=c) (p:=p) x]
 have tr:trunc (2+2 * s.length+1) (bA h s p++[T])=bA h s p:=iN (sU h s p (Nat.le_refl _)) (dS ..);have C:f.steps.length≤1000000:=by lia
 have A:=As (c:=h) (p:=p) v x;have K:=dS c s p;have n:=o c;have m:=o h;clear o;generalize bA c s p=I at *
 generalize bA h s p=J at *
 simp [dF,g,B,n,e,K,tr,m,C,A]
theorem m9 {l:Str->GF} (K:Str->GF) (A:Str->GX) {u:List Int} (t:nZ l u) {kinds:Int}{p:List P}{b:List Road}{k:Nat} (E:Du b) (r:b.length≤8) (q d a:Option D) (N:D):∀(m:Nat) {s:List Fam}{f:Fam}{c left:Int} (w:Option D),Fams kinds s->(∀g ∈ s,Stps b g)->s[k]? = some f->f.steps.length+m≤8->0≤c->c+15 * m < 19000 ->
  ∃(h:List Fam) (j:Int) (H:Option D),Fams kinds h/\(∀g ∈ h,Stps b g)/\h.length=s.length/\(∀e,e≠k->h[e]? = s[e]?)/\c≤j/\j≤c+15 * m/\cA (ah 8) (dF l K A) ((List.range' f.steps.length m).map fun i:Nat=>P.int (i:Int)) [qp (cE u),q,some (.ref 0),some (.ref 1),ql (b.map af),qi left,some N,some (.ref (3+2 * k)),w,d,a] (bA c s p) =
   some (.nx,[qp (cE u),q,some (.ref 0),some (.ref 1),ql (b.map af),qi (left-m),some N,some (.ref (3+2 * k)),H,d,a],bA j h p)
 | 0,s,f,c,left,w,F,S,x,Q,C,M=>⟨s,c,w,F,S,rfl,fun _ _=>rfl,by lia,by lia,by simp [cA]⟩
 | m+1,s,f,c,left,w,F,S,x,Q,C,M=>by
  obtain⟨v,I,O,R,T,L⟩:=yK K A t (left:=left) (p:=p) F x (by lia) E r C (by lia) q d a N;have z:=(bw.mp x).1;have y:(s.set k (iJ f v))[k]? = some (iJ f v):=by rw [et z]
  have o:(iJ f v).steps.length=f.steps.length+1:=by simp [iJ]
  obtain⟨h,J,H,b1,b2,G,b4,b5,b6,B⟩:=m9 K A t (k:=k) (p:=p) E r q d a N m (s:=s.set k (iJ f v)) (f:=iJ f v) (c:=I) (left:=left-1) (qi (f.steps.length:Int)) (F.put v x) (Aq S x (by lia) O) y (by lia) (by lia) (by lia);refine⟨h,J,H,b1,b2,by rw [G,cv],fun e n=>by rw [b4 e n,cU (bS n)],by lia,by lia,?_⟩;rw [qh,List.map_cons];refine (dB rfl L).trans ?_;rw [o] at B;rw [B,show left-1-(m:Int)=left-((m+1:Nat):Int) by lia]
theorem m7 {l:Str->GF} (B:Str->GF) (C:Str->GX) {u:List Int} (Z:bJ l u) (S:nZ l u) {kinds:Int}{p:List P}{b:List Road} (hr:Du b) (H:b.length≤8) (t q a:Option D) (N:D):∀(m i h:Nat) {s:List Fam}{c left:Int} (j n:Option D),Fams kinds s->(∀g ∈ s,Stps b g)->(∀k f,i≤k->s[k]? = some f->f.steps=[])->s.length=i+m->m < h->0≤left->left≤9->0≤c->c+200 * m < 18000 ->
  ∃(x:List Fam) (G d:Int) (q7 A:Option D),Fams kinds x/\(∀g ∈ x,Stps b g)/\x.length=s.length/\c≤G/\G≤c+200 * m/\oh 1 7 (dE l B C) h i [qp (cE u),t,some (.ref 0),some (.ref 1),ql (b.map af),qi left,some N,j,n,q,a] (bA c s p) =
   some (.nx,[qp (cE u),t,some (.ref 0),some (.ref 1),ql (b.map af),qi d,some N,q7,A,q,a],bA G x p)
 | m,i,0,s,c,left,j,n,F,K,E,Y,O,z,o,J,U=>absurd O (gF _)
 | 0,i,h+1,s,c,left,j,n,F,K,E,Y,O,z,o,J,U=>by refine⟨s,c,left,j,n,F,K,rfl,by lia,by lia,?_⟩;unfold oh;rw [kG];dsimp only;rw [List.getElem?_eq_none (by simp [cN];lia)]
 | m+1,i,h+1,s,c,left,j,n,F,K,E,Y,O,z,o,J,U=>by
  have W:i < s.length:=by lia
  have X:s[i]? = some s[i]:=List.getElem?_eq_getElem W;have v:=E i _ (Nat.le_refl _) X;obtain⟨r,r0,_,e⟩:=Z (vJ c s p) J (by lia);rw [jR] at e;obtain⟨M,V⟩:∃M:Int,(if r % 9 < left then r % 9 else left)=M:=⟨_,rfl⟩;have hM1:0≤M/\M≤8/\M≤left:=by subst V;split <;> lia
  obtain⟨y,R,A,b1,b2,Q,b4,b5,b6,T⟩:=m9 B C S (p:=p) (k:=i) hr H t q a N M.toNat (s:=s) (c:=c+1) (left:=left) n F K X (by rw [v];simp;lia) (by lia) (by lia);obtain⟨I,c2,w,r7,r8,d1,d2,d3,d4,d5,e2⟩:=m7 B C Z S (p:=p) hr H t q a N m (i+1) h (s:=y) (c:=R) (left:=left-M) (some (.ref (3+2 * i))) A b1 b2 (fun k f hki hf=>E k f (by lia) (by rw [<- b4 k (by lia)];exact hf)) (by rw [Q];lia) (by lia) (by lia) (by lia) (by lia) (by lia);refine⟨I,c2,w,r7,r8,d1,d2,by rw [d3,Q],by lia,by lia,?_⟩;rw [v,show ([]:List P).length=0 from rfl,<- nG,show ((M.toNat:Nat):Int)=M by lia] at T;have L:dE l B C [qp (cE u),t,some (.ref 0),some (.ref 1),ql (b.map af),qi left,some N,some (.ref (3+2 * i)),n,q,a] (bA c s p)=some (.nx,[qp (cE u),t,some (.ref 0),some (.ref 1),ql (b.map af),qi (left-M),some N,some (.ref (3+2 * i)),A,q,a],bA R y p):=by
   have tr:trunc (2+2 * s.length+1) (bA (c+1) s p)=bA (c+1) s p:=bz (dS ..);have ln:=dS c s p;have nM:M.natAbs < 1000000:=by lia
   generalize bA c s p=S0 at *
   generalize bA (c+1) s p=S1 at *
   simp [dE,e,ln,tr,lA,V,nM,T]
  unfold oh;rw [kG];dsimp only;rw [jY W];dsimp only;rw [show ([some (D.p (cE u)),t,some (D.ref 0),some (D.ref 1),some (D.p (P.lst (b.map af))),some (D.p (P.int left)),some N,j,n,q,a]:Lc).set 7 (some (D.ref (3+2 * i)))=[some (D.p (cE u)),t,some (D.ref 0),some (D.ref 1),some (D.p (P.lst (b.map af))),some (D.p (P.int left)),some N,some (D.ref (3+2 * i)),n,q,a] from rfl,L];exact e2
noncomputable def nX (s:List Fam) (w:P):Prop:=∃(d:Str) (k j:Nat) (f:Fam),w=.tup [.str d,.str f.name,.str (nm j 7)]/\(d="weak"\/d="strong")/\s[k]? = some f/\j < f.steps.length
theorem tz (h:0 < x) (a:Int):∃k:Nat,k < x/\a % (x:Int)=(k:Int):=by have e:=fj a (mn (show (0:Int) < x by lia));have s:=fv a (show (0:Int) < x by lia);exact⟨(a % (x:Int)).toNat,by lia,by lia⟩
theorem atI_get (h:n[k]? = some x):L2.atI n (k:Int)=some x:=aI (by lia) (by simpa using h)
theorem yz (ι:Str->GF) (υ:Str->GX) (hn:bJ l u) (T:Fams kinds s) (U:∀g ∈ s,Stps b g) (hr:Du b) (X:∀w ∈ p,nX s w) (hwl:p.length≤20) (h0:0≤c) (h1:c < 40000) (J L M p7 Z p9 H:Option D) :
  ∃(x:List P) (q7 q9 I:Option D),(∀w ∈ x,nX s w)/\x.length≤p.length+1/\cR l ι υ [qp (cE u),J,some (.ref 0),some (.ref 1),L,M,some (.ref (2+2 * s.length)),p7,Z,p9,H] (bA c s p) =
   some (.nx,[qp (cE u),J,some (.ref 0),some (.ref 1),L,M,some (.ref (2+2 * s.length)),q7,Z,q9,I],bA (c+1) s x):=by
 obtain⟨r,r0,_,e⟩:=hn (vJ c s p) h0 (by lia);rw [jR] at e;obtain⟨k,W,N⟩:=tz (x:=s.length) (by have:=T.l1;lia) r;have m:s[k]? = some s[k]:=List.getElem?_eq_getElem W;generalize s[k]=f at m;have h:=cV m;have tr:trunc (2+2 * s.length+1) (bA (c+1) s p)=bA (c+1) s p:=bz (dS ..);have Y:=dS c s p;have O:=kG (c+1) s p;have rl:(cN s.length).length=s.length:=by simp [cN]
 have ra:L2.atI (cN s.length) (k:Int)=some (.ref (3+2 * k)):=atI_get (jY W);have Q:=jS (c:=c+1) (p:=p) m;have R:=mP (c:=c+1) (p:=p) m;have q5:L2.atI (eJ (2+2 * k) f) 5=some (.ref (2+2 * k)):=G4 _ _ _ _ _ _ _;have q0:L2.atI (eJ (2+2 * k) f) 0=qs f.name:=rfl;have sn:cY (bA (c+1) s p) 9 (.ref (2+2 * k))=some (.lst f.steps):=by unfold cY;rw [R];show (kQ (cY (bA (c+1) s p) 8) (f.steps.map .p)).map P.lst=_;rw [xQ];rfl
 have nn:yZ (.lst f.steps) (.lst [])=some (!f.steps.isEmpty):=ri ((U f h).data (T.ok f h) hr 13);have S:n5 (.ref (2+2 * k)) (.p (.lst [])) (bA (c+1) s p)=some (.bl (!f.steps.isEmpty)):=by unfold n5;rw [sn,qU];simp [nn]
 have o1:cO (.ref (2+2 * s.length)) (bA (c+1) s p)=some (2+2 * s.length,br p):=io (aN _ _);have o2:∀w:P,(bA (c+1) s p).set (2+2 * s.length) (.lst (br p++[.p w]))=bA (c+1) s (p++[w]):=fun w=>by unfold bA;rw [dU (aN _ _),xB]
 have y:0 < s.length:=by lia
 cases F:f.steps.isEmpty with
 | true=>
  refine⟨p,some (.ref (3+2 * k)),qi r,H,X,by lia,?_⟩;rw [F] at S;generalize bA (c+1) s p=S1 at *
  generalize bA c s p=S0 at *
  simp [cR,e,Y,tr,bC,O,rl,y,N,ra,Q,q5,S]
 | false=>
  have A:f.steps≠[]:=fun z=>by rw [z] at F;cases F
  have o:0 < f.steps.length:=ia.mpr A;obtain⟨j,V,ej⟩:=tz (x:=f.steps.length) o (r / 4);have B:f.steps[j]? = some f.steps[j]:=List.getElem?_eq_getElem V;generalize f.steps[j]=v at B;have C:=(U f h).ok j v B;have v0:aA v (.int 0)=some (.str (nm j 7)):=by obtain⟨a,wh,t,chs,sd,go,rfl,_⟩:=C;rfl
  have va:L2.atI (br f.steps) (j:Int)=qp v:=atI_get (by unfold br;rw [List.getElem?_map,B];rfl);obtain⟨z,G,e3⟩:=HJ (P.str "weak") (.str "strong") (i:=r / 64 % 2) (by lia) (by lia);have:∃d:Str,(d="weak"\/d="strong")/\z=.str d:=by
   simp only [List.mem_cons,List.not_mem_nil,or_false] at G;rcases G with rfl | rfl
   .exact⟨_,.inl rfl,rfl⟩
   .exact⟨_,.inr rfl,rfl⟩
  obtain⟨d,K,rfl⟩:=this;clear G;refine⟨p++[.tup [.str d,.str f.name,.str (nm j 7)]],some (.ref (3+2 * k)),qi r,qs (nm j 7),?_,by simp,?_⟩
  .intro w E;rcases bi.mp E with q | q
   .exact X w q
   .rw [bP.mp q];exact⟨d,k,j,f,rfl,K,m,V⟩
  rw [F] at S;have wl:p.length≤1000000:=by lia
  have sl:(br f.steps).length=f.steps.length:=Db _;generalize bA (c+1) s p=S1 at *
  generalize bA c s p=S0 at *
  simp [cR,e,Y,tr,bC,O,rl,y,N,ra,Q,R,q5,q0,S,o,ej,va,v0,e3,o1,o2,wl]
theorem oP (o:Str->GF) (H:Str->GX) (C:bJ l u) (K:Fams kinds s) (A:∀g ∈ s,Stps b g) (E:Du b) (f m r:Option D):∀(n:List P) {c:Int} (p:List P) (e t k h:Option D),(∀w ∈ p,nX s w)->p.length+n.length≤20->0≤c->c+n.length < 40000 ->
  ∃(a:List P) (G:Int) (d N i q:Option D),(∀w ∈ a,nX s w)/\a.length≤p.length+n.length/\cA (ah 8) (cR l o H) n [qp (cE u),f,some (.ref 0),some (.ref 1),m,r,some (.ref (2+2 * s.length)),e,t,k,h] (bA c s p) =
   some (.nx,[qp (cE u),f,some (.ref 0),some (.ref 1),m,r,some (.ref (2+2 * s.length)),d,N,i,q],bA G s a)
 | [],c,p,e,t,k,h,v,B,S,F=>⟨p,c,e,t,k,h,v,by simp,rfl⟩
 | x::n,c,p,e,t,k,h,v,B,S,F=>by simp only [bo] at B F;obtain⟨y,d,i,q,b1,b2,L⟩:=yz o H C K A E v (by lia) S (by lia) f m r e (qp x) k h;obtain⟨z,I,O,Q,R,j,J,T,M⟩:=oP o H C K A E f m r n (c:=c+1) y d (qp x) i q b1 (by lia) (by lia) (by lia);exact⟨z,I,O,Q,R,j,J,by simp;lia,(dB rfl L).trans M⟩
noncomputable def ae (f:Fam):P:=.tup [.str f.name,.int f.hands,.lst (aq f.rooms),.lst (f.cells.map a_),.lst (aq f.whos),.lst f.steps]
structure Fz (fs:List Fam) (ws:List P) (i:Nat) (S:aR):Prop where
 rf:S[1]? = some (.lst (cN fs.length))
 fm:∀(k:Nat) f,i≤k->fs[k]? = some f->S[3+2 * k]? = some (.lst (eJ (2+2 * k) f))
 st:∀(k:Nat) f,i≤k->fs[k]? = some f->S[2+2 * k]? = some (.lst (br f.steps))
 wi:S[2+2 * fs.length]? = some (.lst (br ws))
theorem DK (h:Fz s p i S) (x:s[i]? = some f):∃e,jx 9 (.ref (3+2 * i)) S=some (.lst [.str f.name,.int f.hands,.lst (aq f.rooms),.lst (f.cells.map a_),.lst (aq f.whos),.lst f.steps],e)/\Fz s p (i+1) e:=by
 have m:=(bw.mp x).1;have n:=h.fm i f (Nat.le_refl _) x;have b:jx 8 (.ref (2+2 * i)) S=some (.lst f.steps,S.set (2+2 * i) (.fz (.lst f.steps))):=eA (h.st i f (Nat.le_refl _) x);refine⟨(S.set (2+2 * i) (.fz (.lst f.steps))).set (3+2 * i) (.fz (.lst [.str f.name,.int f.hands,.lst (aq f.rooms),.lst (f.cells.map a_),.lst (aq f.whos),.lst f.steps])),?_,?_⟩
 .unfold jx;rw [n];simp [eJ,wo,b]
 .refine⟨?_,fun k g c a=>?_,fun k g c a=>?_,?_⟩
  .rw [cU (by lia),cU (by lia)];exact h.rf
  .rw [cU (by lia),cU (by lia)];exact h.fm k g (by lia) a
  .rw [cU (by lia),cU (by lia)];exact h.st k g (by lia) a
  .rw [cU (by lia),cU (by lia)];exact h.wi
theorem xY (b c r t v d w u g a:Option D):∀(m i f:Nat) {S:aR} (q:Option D),Fz s p i S->s.length=i+m->m < f ->
  ∃k,Fz s p s.length k/\gC 1 7 aZ (al hG (v1 (vv 7))) f i [b,c,r,t,v,d,w,q,u,g,a] S=some ((s.map ae).drop i,k)
 | m,i,0,S,q,h,l,n=>absurd n (gF _)
 | 0,i,f+1,S,q,h,l,n=>by refine⟨S,by rw [show s.length=i by lia];exact h,?_⟩;unfold gC;rw [h.rf];dsimp only;rw [List.getElem?_eq_none (by simp [cN];lia),List.drop_eq_nil_of_le (by simp;lia)]
 | m+1,i,f+1,S,q,h,l,n=>by
  have x:i < s.length:=by lia
  have F:s[i]? = some s[i]:=List.getElem?_eq_getElem x;obtain⟨K,y,o⟩:=DK h F;obtain⟨j,H,z⟩:=xY b c r t v d w u g a m (i+1) f (some (.ref (3+2 * i))) o (by lia) (by lia);refine⟨j,H,?_⟩;unfold gC;rw [h.rf];dsimp only;rw [jY x,List.drop_eq_getElem_cons (by simpa using x),List.getElem_map];have e:=z;generalize (s.map ae).drop (i+1)=P at *
  simp [y,hG,e,ae]
noncomputable def ai (s:List Fam) (b:List Road) (p:List P):P:=.tup [.lst (s.map ae),.lst (b.map af),.lst p]
structure Plan (fs:List Fam) (rds:List Road) (ws:List P):Prop where
 fms:∃kinds,Fams kinds fs
 stp:∀f ∈ fs,Stps rds f
 rok:Rds (fs.map Fam.name) rds
 rl:rds.length≤8
 wok:∀w ∈ ws,nX fs w
 wl:ws.length≤6
theorem Fams.names (h:Fams kinds s):(s.map Fam.name).Nodup/\∀x ∈ s.map Fam.name,aH x=true:=by rw [h.nms];exact⟨ni _ (by have:=h.l2;lia),fun x a=>(j3 (by have:=h.l2;lia) a).1⟩
theorem Rds.nb (h:Rds e b) (N:∀x ∈ e,aH x=true):Du b:=fun r a=>⟨N _ (h.ok r a).1,N _ (h.ok r a).2.1⟩
theorem De (o:Str->GF) (H:Str->GX) (I:bJ l u) (C:yt l u) (J:yr l u) (L:nZ l u) (t:Int):∃s b p,Plan s b p/\pureOf (cq 2 11 (eX l o H)) [cE u,.int t]=some (ai s b p):=by
 obtain⟨s,kinds,Z,F,E,h1,h2,e1⟩:=C (c:=0) t (by lia) (by lia);have d:=F.names;obtain⟨b,e,V,R,h3,h4,e2⟩:=J (c:=Z) (fs:=s) (fun z=>by have:=F.l1;rw [z] at this;simp at this) F.l2 (fun f B=>bf (d.2 _ (gI B))) (by lia) (by lia);have q:=V.nb d.2;obtain⟨x,j,left,q7,q8,a,S,n,h5,h6,e3⟩:=m7 o H I L (p:=[]) (b:=b) q R (qi t) none none (.ref (2+2 * s.length)) s.length 0 1000 (s:=s) (c:=e) (left:=9) none none F (fun g y=>⟨by rw [E g y];simp,fun k v h=>by rw [E g y] at h;simp at h⟩) (fun k f _ B=>E f (cV B)) (by lia) (by have:=F.l2;lia) (by lia) (by lia) (by lia) (by have:=F.l2;lia);obtain⟨r,r0,_,Q⟩:=I (vJ j x []) (by lia) (by have:=F.l2;lia);rw [jR] at Q;obtain⟨m,hm⟩:∃m,(r % 7).toNat=m:=⟨_,rfl⟩;obtain⟨p,A,r7,X,Y,w,hW,W,T⟩:=oP o H I a S q (qi t) (ql (b.map af)) (qi left) (intsFrom 0 m) (c:=j+1) [] q7 q8 none none (fun _ h=>by cases h) (by rw [dA];simp;lia) (by lia) (by rw [dA];have:=F.l2;lia);rw [dA] at W;rw [n] at T;have G:Fz x p 0 (bA A x p):=⟨kG ..,fun k f _ h=>jS h,fun k f _ h=>mP h,Ar ..⟩;obtain⟨K,hz,U⟩:=xY (qp (cE u)) (qi t) (some (.ref 0)) (some (.ref 1)) (ql (b.map af)) (qi left) (some (.ref (2+2 * s.length))) X Y w x.length 0 1000 none G (by lia) (by have:=a.l2;lia);rw [kw] at U;have M:jx 9 (.ref (2+2 * s.length)) K=some (.lst p,K.set (2+2 * s.length) (.fz (.lst p))):=by have:=hz.wi;rw [n] at this;exact eA this
 refine⟨x,b,p,⟨⟨kinds,a⟩,S,?_,R,hW,by simp at W;lia⟩,?_⟩
 .have:x.map Fam.name=s.map Fam.name:=by rw [a.nms,n,F.nms]
  rw [this];exact V
 have tp:jx 9 (.ref (2+2 * s.length)) (bh e s++[.lst (i8 b)])=some (.lst (b.map af),bh e s++[.fz (.lst (b.map af))]):=by
  have y:(bh e s++[SO.lst (i8 b)])[2+2 * s.length]? = some (.lst ((b.map af).map .p)):=by rw [c7 (by rw [aN];lia),aN,lX];simp [i8]
  rw [eA y,dU (aN _ _)]
 have N:trunc (2+2 * s.length) (bh e s++[.fz (.lst (b.map af))])=bh e s:=iN (sV _ _) (aN _ _);have O:trunc (2+2 * x.length+1) (bA (j+1) x [])=bA (j+1) x []:=bz (dS ..);have nr:(r % 7).natAbs < 1000000:=by lia
 have hc0:[cnt 0]=[SO.lst [D.p (P.int 0)]]:=rfl;rw [ap];have i:eX l o H [qp (cE u),qi t,none,none,none,none,none,none,none,none,none] []=some (.rt (.p (ai x b p)),[qp (cE u),qi t,some (.ref 0),some (.ref 1),ql (b.map af),qi left,some (.ref (2+2 * s.length)),r7,X,Y,w],K.set (2+2 * s.length) (.fz (.lst p))):=by
  unfold eX;refine (ce (e:=[qp (cE u),qi t,some (.ref 0),none,none,none,none,none,none,none,none]) (s:=[cnt 0]) (by simp [cnt])).trans ?_;rw [aa];simp [e1,-aa];rw [aa];simp [e2,tp,aN,N,-aa];rw [aa];simp [-aa];refine (ce (e:=[qp (cE u),qi t,some (.ref 0),some (.ref 1),ql (b.map af),qi 9,some (.ref (2+2 * s.length)),none,none,none,none]) (s:=bA e s []) (by simp [aN,bA,br])).trans ?_;rw [aa];simp [kG,e3,-aa];rw [aa];simp [Q,dS,O,nr,hm,T,-aa];have g1:=kG A x p;generalize bA A x p=S5 at *
  simp [g1,c_,U,M,ai]
 simp [i]
noncomputable def Hc (l:Str->GF) (u:List Int):Prop:=∀c:Int,∃s b p,Plan s b p/\pureOf (l "_law_plan") [cE u,.int c]=some (ai s b p)
theorem AV (n:Nat) (u:List Int):Hc (Pa (n+12)) u:=fun c=>by obtain⟨s,b,p,h,e⟩:=De (l:=Pa (n+10+1)) (Pa (n+10)) (Xs (n+10+1)) (eI (n+7) u) (zk (n+3) u) (yS (n+5) u) (Ay (n+1) u) c;exact⟨s,b,p,h,by rw [<- e];exact congrArg (fun g=>pureOf g [cE u,.int c]) (rJ (n+10))⟩
end My
namespace My
open PySem L2 Ev
variable {j:Type}
theorem sk (p:j->Bool):∀s:List j,kj (s.map fun x=>P.bl (p x))=some (s.map p)
 | []=>rfl
 | x::s=>by simp [kj,sk p s]
theorem eH (p:j->Bool) (s:List j):fJ [.lst (s.map fun x=>P.bl (p x))]=some (.bl (s.all p)):=by show (kj _).map _=_;rw [sk];simp [ji]
theorem Ee (p:j->Bool) (s:List j):pG [.lst (s.map fun x=>P.bl (p x))]=some (.bl (s.any p)):=by show (kj _).map _=_;rw [sk];simp [List.any_map]
noncomputable def og (c:Nat):Bool:=decide (97≤c) && decide (c≤122)
theorem ww:∀c,c < 128->DH (.str ⟨#[c]⟩) (.str "abcdefghijklmnopqrstuvwxyz")=some (og c):=by decide +kernel
noncomputable def cK (x:Str):Bool:=x.cps.all (fun c=>decide (c < 128)) && decide (x.length≤1000)
variable {x:Str}
theorem bO (h:cK x=true):strOk x:=by
 unfold cK at h;simp only [Bool.and_eq_true] at h;refine jp.mpr fun i a=>?_
 have:=jp.mp h.1 i a;simp only [decide_eq_true_eq] at this;exact dH (by lia)
theorem Ec (h:cK x=true):∀c ∈ x.cps.toList,c < 128:=by
 unfold cK at h;simp only [Bool.and_eq_true] at h;intro c s;obtain⟨i,n,e⟩:=qC.mp s;have a:i < x.cps.size:=by simpa using n
 have:=jp.mp h.1 i a;rw [<- e];simpa using this
theorem ym (h:cK x=true):x.length≤1000:=by unfold cK at h;simp only [Bool.and_eq_true,decide_eq_true_eq] at h;exact h.2
theorem gw (h:aH x=true):cK x=true:=by
 unfold aH at h;unfold cK;simp only [Bool.and_eq_true,decide_eq_true_eq] at h ⊢;refine⟨jp.mpr fun i a=>?_,by lia⟩;have:=jp.mp h.1.2 i a
 simp only [Bool.and_eq_true,decide_eq_true_eq] at this;exact dH (by lia)
theorem y4 (s:cK x=true) (a q:Option D):aJ (ah 2) aZ (aG kX (ac 2) (ac 1)) (signs x) [a,qs "abcdefghijklmnopqrstuvwxyz",q] []=some (x.cps.toList.map fun c=>P.bl (og c),[]):=
 comp_map (f:=fun c:Nat=>P.str ⟨#[c]⟩) (g:=fun c=>P.bl (og c)) (S:=[]) (tgt:=ah 2) (e:=aG kX (ac 2) (ac 1)) (fun q=>[a,qs "abcdefghijklmnopqrstuvwxyz",q]) (fun _ _=>rfl) (xs:=x.cps.toList) (fun c h=>by have:=ww c (Ec s c h);simp [kX,zO,gB,this]) q
theorem Dw (n:Nat) (h:cK x=true):pureOf (Pa (n+2) "is_made_of") [.str x,.str "abcdefghijklmnopqrstuvwxyz"]=some (.bl (x.cps.toList.all og)):=by
 have s:x.cps.all (fun c=>decide (c < 128))=true:=by unfold cK at h;rw [Bool.and_eq_true] at h;exact h.1
 have k:(signs x).length≤1000000:=by have:=ym h;unfold Str.length at this;simp [signs];lia
 rw [nO,ap];have m:=fun e q=>y4 h e q;have a:=eH og x.cps.toList;generalize (x.cps.toList.map fun c=>P.bl (og c))=y at *
 simp only [iH,List.map_cons,eO,bo,List.length_nil,List.cons_append,pT,Nat.reduceAdd,Nat.reduceSub,List.replicate_zero,gK,C0,Jy,z7,yB,z6,au,GI,Ek,x2,List.getElem?_cons_zero,iC,Ak,s];simp [k,c_,m,a]
variable {K:LS}
theorem j9 (s:strOk x) (e:∀y ∈ K,strOk y):DH (.str x) (.lst (aq K))=some (K.any fun y=>decide (y=x))/\DH (.str x) (.tup (aq K))=some (K.any fun y=>decide (y=x)):=by
 have h:((aq K).all (b8 19) && b8 19 (.str x))=true:=by
  rw [Bool.and_eq_true];refine⟨?_,by rw [iU];exact s⟩;unfold aq;rw [ji];exact aW.mpr fun y n=>by show b8 19 (.str y)=true;rw [iU];exact e y n
 have a:((aq K).any fun y=>PyData.eqv (pd y) (pd (.str x)))=K.any fun y=>decide (y=x):=by unfold aq;rw [List.any_map];exact congrArg (fun p=>K.any p) (funext fun y=>rD y x)
 constructor
 .show (if ((aq K).all (b8 19) && b8 19 (.str x))=true then some ((aq K).any fun y=>PyData.eqv (pd y) (pd (.str x))) else none)=_;rw [if_pos h,a]
 .show (if ((aq K).all (b8 19) && b8 19 (.str x))=true then some ((aq K).any fun y=>PyData.eqv (pd y) (pd (.str x))) else none)=_;rw [if_pos h,a]
noncomputable def aS (K:LS) (x:Str):Bool:=K.any fun y=>decide (y=x)
theorem iu:aS K x=true↔x ∈ K:=by simp [aS]
theorem f_ (a:strOk x) (h:∀y ∈ K,strOk y) (S:aR):kX (.p (.str x)) (.p (.lst (aq K))) S=some (.bl (aS K x)):=by simp [kX,zO,gB,(j9 a h).1,aS]
theorem pi (a:strOk x) (h:∀y ∈ K,strOk y) (S:aR):bv (.p (.str x)) (.p (.lst (aq K))) S=some (.bl (!aS K x)):=by simp [bv,zO,gB,(j9 a h).1,aS]
theorem DJ (a:strOk x) (h:∀y ∈ K,strOk y) (S:aR):kX (.p (.str x)) (.p (.tup (aq K))) S=some (.bl (aS K x)):=by simp [kX,zO,gB,(j9 a h).2,aS]
theorem jE (a:strOk x) (h:∀y ∈ K,strOk y) (S:aR):bv (.p (.str x)) (.p (.tup (aq K))) S=some (.bl (!aS K x)):=by simp [bv,zO,gB,(j9 a h).2,aS]
theorem zZ:∀y ∈ [("or":Str),"and","not","true"],strOk y:=by intro y h;simp only [List.mem_cons,List.not_mem_nil,or_false] at h;unfold strOk;rcases h with rfl | rfl | rfl | rfl <;> decide +kernel
theorem Eg (x:Str):x.cps.all (fun c=>decide (97≤c) && decide (c≤122))=x.cps.toList.all og:=by rw [<- Array.all_toList];rfl
noncomputable def He (o:Str->GF):Prop:=∀x:Str,cK x=true->pureOf (o "is_name") [.str x]=some (.bl (aH x))
theorem jB (n:Nat):He (Pa (n+4)):=fun x h=>by
 have f:pureOf (Pa (n+2+1) "is_made_of") [.str x,.str "abcdefghijklmnopqrstuvwxyz"]=some (.bl (x.cps.toList.all og)):=Dw (n+1) h;have b:∀S,bv (.p (.str x)) (.p (.tup [.str "or",.str "and",.str "not",.str "true"])) S=some (.bl (!aS [("or":Str),"and","not","true"] x)):=fun S=>jE (K:=[("or":Str),"and","not","true"]) (bO h) zZ S;have m:=ym h;have e:x.length≤1000000:=by lia
 have c:aH x=(decide (1≤x.length) && decide (x.length≤10) && x.cps.toList.all og && !aS [("or":Str),"and","not","true"] x):=by unfold aH aS;rw [Eg]
 rw [c,uq,ap];generalize x.cps.toList.all og=b1 at *
 generalize aS [("or":Str),"and","not","true"] x=b2 at *
 by_cases a:1≤x.length
 .by_cases k:x.length≤10
  .have l:(1:Int)≤(x.length:Int):=by lia
   have s:(x.length:Int)≤10:=by lia
   cases b1 <;> simp [fY,bC,bF,e,a,k,l,s,f,b]
  .have l:(1:Int)≤(x.length:Int):=by lia
   have s:¬(x.length:Int)≤10:=by lia
   simp [fY,bC,bF,e,a,k,l,s]
 .have l:¬(1:Int)≤(x.length:Int):=by lia
  simp [fY,bC,bF,e,a,l]
noncomputable def zH (K:LS):Prop:=K.length≤4000/\∀x ∈ K,cK x=true
theorem y2 (n:Nat) (h:zH K):pureOf (Pa (n+6) "are_names") [.lst (aq K)]=some (.bl (K.all aH)):=by
 have a:∀q,aJ (ah 1) aZ (al (pureOf (Pa (n+4+1) "is_name")) (v1 (vv 1))) (aq K) [ql (aq K),q] []=some (K.map fun x=>P.bl (aH x),[]):=
  comp_map (f:=P.str) (g:=fun x=>P.bl (aH x)) (S:=[]) (tgt:=ah 1) (fun q=>[ql (aq K),q]) (fun _ _=>rfl) (xs:=K) (fun x k=>by have e:pureOf (Pa (n+4+1) "is_name") [.str x]=some (.bl (aH x)):=jB (n+1) x (h.2 x k);simp [e])
 have s:=eH aH K;have l:K.length≤1000000:=by have:=h.1;lia
 rw [oz,ap];generalize (K.map fun x=>P.bl (aH x))=y at *
 simp [je,au,l,c_,a,s]
theorem Br (K:LS):ef (aq K)=some (K.map .inr):=by
 induction K with
 | nil=>rfl
 | cons x K i=>show (fU (.str x)).bind (fun k=>(ef (aq K)).map (k::·))=_;rw [i];rfl
theorem x4 [DecidableEq j]:∀k:List j,Ck k≤k.length
 | []=>Nat.le_refl _
 | x::r=>by have:=x4 r;show Ck r+(if x ∈ r then 0 else 1)≤r.length+1;split <;> lia
theorem x5 [DecidableEq j]:∀k:List j,Ck k=k.length↔k.Nodup
 | []=>by simp [Ck]
 | x::r=>by
  have e:=x4 r;have a:=x5 r;rw [List.nodup_cons];show Ck r+(if x ∈ r then 0 else 1)=r.length+1↔_;by_cases h:x ∈ r
  .simp [h];lia
  .simp [h,<- a]
theorem BN [DecidableEq j] (k:List j):dn k=k.length↔k.Nodup:=by
 unfold dn;have:=x5 k.reverse
 rw [List.length_reverse] at this;rw [this];constructor
 .intro h;have:=qF.mp h;exact this.imp bS
 .intro h;exact qF.mpr (h.imp bS)
theorem nodup_inr:(K.map (Sum.inr:Str->cS)).Nodup↔K.Nodup:=by
 constructor
 .intro h;exact (mu.mp h).imp fun n e=>n (by rw [e])
 .intro h;exact mu.mpr (h.imp fun n e=>n (lS e))
theorem xt (h:K.length≤4000):kL (aq K)=some (dn (K.map (Sum.inr:Str->cS))):=by unfold kL;rw [Br];dsimp only;rw [if_pos (by simpa using h)]
theorem yN (l:K.length≤4000):ik (aq K) (K.length:Int)=some (decide K.Nodup):=by unfold ik;rw [xt l];have h:=BN (K.map (Sum.inr:Str->cS));rw [nodup_inr,List.length_map] at h;dsimp only;congr 1;rw [Bool.eq_iff_iff,decide_eq_true_eq,decide_eq_true_eq,<- h];lia
noncomputable def n4 (K:LS):Bool:=K.all aH && decide K.Nodup
noncomputable def nY (o:Str->GF):Prop:=∀K:LS,zH K->pureOf (o "are_unlike_names") [.lst (aq K)]=some (.bl (n4 K))
theorem mI (n:Nat):nY (Pa (n+8)):=fun K h=>by
 have e:pureOf (Pa (n+6+1) "are_names") [.lst (aq K)]=some (.bl (K.all aH)):=y2 (n+1) h;have x:=yN h.1;have s:(aq K).length=K.length:=iP K;unfold n4;rw [iz,ap];generalize decide K.Nodup=b2 at *
 generalize K.all aH=b1 at *
 generalize aq K=k at *
 cases b1 <;> simp [eL,e,x,bC,bF,s]
noncomputable def nV (c:Cel):Bool:=decide (0≤c.high-c.low) && decide (c.high-c.low≤9) && (decide (c.low≤c.start) && decide (c.start≤c.high))
theorem D2 (n:Nat) (c:Cel):pureOf (Pa (n+2) "is_cell") [a_ c]=some (.bl (nV c)):=by
 rw [ur,ap];unfold nV;by_cases x:c.low≤c.high
 .have h:0≤c.high-c.low:=by lia
  by_cases a:c.high-c.low≤9
  .by_cases e:c.low≤c.start
   .simp [eK,a_,x,h,a,e]
   .simp [eK,a_,x,h,a,e]
  .simp [eK,a_,x,h,a]
 .have h:¬0≤c.high-c.low:=by lia
  simp [eK,a_,x,h]
variable {S:aR}
theorem gQ (h:c L S=some (b,S)):ak (dt c (aQ (eV (vC (.bl false)))) d_) r L S=if b=true then some (.rt (.p (.bl false)),L,S) else r L S:=by cases b <;> simp [h]
noncomputable def bc:P->Str
 | .tup (.str x::_)=>x
 | _=>""
noncomputable def nA (v:P):Prop:=∃x r,v=.tup (.str x::r)
variable {v:P}
theorem kH (h:nA v):aA v (.int 0)=some (.str (bc v)):=by obtain⟨x,r,rfl⟩:=h;simp [bc]
theorem kI (h:∀v ∈ s,nA v) (L:Option D->Lc) (T:∀q v,ah a v (L q)=some (L (qp v))) (x:∀q,(L q)[a]? = some q) (q:Option D):aJ (ah a) aZ (ag aA (vv a) (vi 0)) s (L q) S=some (aq (s.map bc),S):=by
 have:=comp_map (f:=id) (g:=fun v=>P.str (bc v)) (S:=S) (tgt:=ah a) (e:=ag aA (vv a) (vi 0)) L T (xs:=s) (fun v n=>by have e:=kH (h v n);have g:=x (qp v);simp only [id,Fp,Ek,x2,g,iC,Ak,Ip,e,pV]) q
 rw [List.map_id] at this;rw [this];simp [aq]
structure WfF (f:Fam):Prop where
 rm:zH f.rooms
 cw:zH (f.cells.map Cel.name++f.whos)
 sn:zH (f.steps.map bc)
 st:∀v ∈ f.steps,nA v
 nm:cK f.name=true
noncomputable def DQ (f:Fam):Bool:=decide (f.hands < 1) || !(decide (1≤f.rooms.length) && decide (f.rooms.length≤8))
noncomputable def DP (f:Fam):Bool:=decide (3 < f.cells.length) || (decide (2 < f.whos.length) || decide (8 < f.steps.length))
noncomputable def DO (f:Fam):Bool:=!n4 f.rooms || !n4 (f.cells.map Cel.name++f.whos)
noncomputable def EI (f:Fam):Bool:=aS (f.cells.map Cel.name) "it" || !n4 (f.steps.map bc)
noncomputable def i4 (f:Fam):Bool:=if DQ f=true then false else if DP f=true then false else if DO f=true then false else if EI f=true then false else f.cells.all nV
variable {o:Str->GF}{f:Fam}
theorem ug (E:Str->GF) (G:Str->GX) (F:nY o) (M:∀c,pureOf (o "is_cell") [a_ c]=some (.bl (nV c))) (h:WfF f):pureOf (cq 1 8 (eG o E G)) [ae f]=some (.bl (i4 f)):=by
 have V:=F f.rooms h.rm;have W:=F (f.cells.map Cel.name++f.whos) h.cw;have X:=F (f.steps.map bc) h.sn;have U:=fun s n k r t p v d q=>kI h.st (a:=8) (S:=[]) (fun q=>[s,n,k,r,t,p,v,d,q]) (fun _ _=>rfl) (fun _=>rfl) q;have I:∀s n k r t p v d q,aJ (ah 8) aZ (al (pureOf (o "is_cell")) (v1 (vv 8))) (f.cells.map a_) [s,n,k,r,t,p,v,d,q] []=some (f.cells.map fun c=>P.bl (nV c),[]):=fun s n k r t p v d q=>
  comp_map (f:=a_) (g:=fun c=>P.bl (nV c)) (S:=[]) (tgt:=ah 8) (fun q=>[s,n,k,r,t,p,v,d,q]) (fun _ _=>rfl) (xs:=f.cells) (fun c _=>by simp [M c]) q
 have i:=eH nV f.cells;have J:=h.cw.1;rw [bN,List.length_map] at J;have B:=h.sn.1;rw [List.length_map] at B;have H:∀y ∈ f.cells.map Cel.name,strOk y:=fun y N=>bO (h.cw.2 y (dv _ N));have A:=f_ (x:="it") (K:=f.cells.map Cel.name) xU H [];have D:f.cells.length≤1000000:=by lia
 have O:f.steps.length≤1000000:=by lia
 have Q:f.cells.length+f.whos.length≤1000000:=by lia
 have T:aq (f.cells.map Cel.name)++aq f.whos=aq (f.cells.map Cel.name++f.whos):=l_ ..;have m:∃L,eG o E G [qp (ae f),none,none,none,none,none,none,none] []=some (.rt (.p (.bl (i4 f))),L,[]):=by
  refine⟨[qp (ae f),qs f.name,qi f.hands,ql (aq f.rooms),ql (f.cells.map a_),ql (aq f.whos),ql f.steps,ql (aq (f.cells.map Cel.name))],?_⟩;unfold eG;refine (ce (e:=[qp (ae f),qs f.name,qi f.hands,ql (aq f.rooms),ql (f.cells.map a_),ql (aq f.whos),ql f.steps,none]) (s:=[]) (by simp [ae])).trans ?_;rw [aa];simp [au,D,c_,ki,-aa];refine (gQ (b:=DQ f) ?_).trans ?_
  .unfold DQ;by_cases a:f.hands < 1
   .simp [a]
   .by_cases w:1≤f.rooms.length
    .have e:(1:Int)≤(f.rooms.length:Int):=by lia
     by_cases C:f.rooms.length≤8
     .have l:(f.rooms.length:Int)≤8:=by lia
      simp [a,bC,bF,w,e,C,l]
     .have l:¬(f.rooms.length:Int)≤8:=by lia
      simp [a,bC,bF,w,e,C,l]
    .have e:¬(1:Int)≤(f.rooms.length:Int):=by lia
     simp [a,bC,bF,w,e]
  refine (congrArg (fun z=>if DQ f=true then _ else z) ((gQ (b:=DP f) ?_).trans (congrArg (fun z=>if DP f=true then _ else z) ((gQ (b:=DO f) ?_).trans (congrArg (fun z=>if DO f=true then _ else z) ((gQ (b:=EI f) ?_).trans (congrArg (fun z=>if EI f=true then _ else z) (?_:_=some (Fl.rt (.p (.bl (f.cells.all nV))),[qp (ae f),qs f.name,qi f.hands,ql (aq f.rooms),ql (f.cells.map a_),ql (aq f.whos),ql f.steps,ql (aq (f.cells.map Cel.name))],[])))))))) ).trans ?_
  .unfold DP;have a:((3:Int) < (f.cells.length:Int))=(3 < f.cells.length):=by apply propext;lia
   have w:((2:Int) < (f.whos.length:Int))=(2 < f.whos.length):=by apply propext;lia
   have e:((8:Int) < (f.steps.length:Int))=(8 < f.steps.length):=by apply propext;lia
   by_cases u:3 < f.cells.length <;> by_cases R:2 < f.whos.length <;> simp [bC,bF,a,w,e,u,R]
  .unfold DO;cases u:n4 f.rooms <;> simp [V,u,Q,T,W]
  .unfold EI;cases u:aS (f.cells.map Cel.name) "it" <;> simp [A,u,au,O,c_,U,X]
  .generalize (f.cells.map fun c=>P.bl (nV c))=Z at *
   simp [au,D,c_,I,i]
  .unfold i4;cases DQ f <;> cases DP f <;> cases DO f <;> cases EI f <;> rfl
 obtain⟨L,m⟩:=m;rw [ap];generalize ae f=Y at *
 simp [m]
noncomputable def uY (o:Str->GF):Prop:=∀f:Fam,WfF f->pureOf (o "is_family") [ae f]=some (.bl (i4 f))
theorem wE (n:Nat):uY (Pa (n+10)):=fun f h=>by have e:=ug (o:=Pa (n+8+1)) (Pa (n+8)) (Xs (n+8+1)) (mI (n+1)) (fun c=>D2 (n+7) c) h;rw [<- e];exact congrArg (fun g=>pureOf g [ae f]) (ox (n+8))
theorem Be (s:List Int):pF [.lst (s.map P.int)]=some (.int s.sum):=by
 have h:∀s:List Int,Ev.numsOf (s.map P.int)=some s:=by
  intro s;induction s with
  | nil=>rfl
  | cons x s i=>simp [Ev.numsOf,i]
 show (Ev.numsOf _).map _=_;rw [h];rfl
structure WfFs (fs:List Fam):Prop where
 ln:fs.length≤100
 ok:∀f ∈ fs,WfF f
variable {i:List Fam}
theorem WfFs.nms (h:WfFs i):zH (i.map Fam.name):=⟨by rw [List.length_map];have:=h.ln;lia,fun x e=>by obtain⟨f,a,rfl⟩:=bb.mp e;exact (h.ok f a).nm⟩
noncomputable def Hu (i:List Fam):Bool:=!(decide (1≤i.length) && decide (i.length≤4))
noncomputable def Cj (i:List Fam):Bool:=if Hu i=true then false else if (!n4 (i.map Fam.name))=true then false else if (!i.all i4)=true then false else decide ((i.map Fam.hands).sum≤5)
theorem om (t:Str->GF) (v:Str->GX) (F:nY o) (n:uY o) (h:WfFs i):pureOf (cq 1 1 (dq o t v)) [.lst (i.map ae)]=some (.bl (Cj i)):=by
 have A:=F (i.map Fam.name) h.nms;have w:=fun L h=>mj (f:=ae) (nm:=Fam.name) (fun _=>rfl) (S:=[]) (j:=1) i (L:=L) h;have u:∀q,aJ (ah 1) aZ (al (pureOf (o "is_family")) (v1 (vv 1))) (i.map ae) [ql (i.map ae),q] []=some (i.map fun f=>P.bl (i4 f),[]):=fun q=>
  comp_map (f:=ae) (g:=fun f=>P.bl (i4 f)) (S:=[]) (tgt:=ah 1) (fun q=>[ql (i.map ae),q]) (fun _ _=>rfl) (xs:=i) (fun f H=>by simp [n f (h.ok f H)]) q
 have y:∀q,aJ (ah 1) aZ (ag aA (vv 1) (vi 1)) (i.map ae) [ql (i.map ae),q] []=some ((i.map Fam.hands).map P.int,[]):=fun q=>by have:=comp_map (f:=ae) (g:=fun f=>P.int f.hands) (S:=[]) (tgt:=ah 1) (e:=ag aA (vv 1) (vi 1)) (fun q=>[ql (i.map ae),q]) (fun _ _=>rfl) (xs:=i) (fun c _=>by simp [ae]) q;rw [this];simp
 have d:=eH i4 i;have K:=Be (i.map Fam.hands);have k:i.length≤1000000:=by have:=h.ln;lia
 have l:(i.map ae).length=i.length:=by simp
 have m:dq o t v [ql (i.map ae)] []=some (.rt (.p (.bl (Cj i))),[ql (i.map ae)],[]):=by
  generalize (i.map fun f=>P.bl (i4 f))=B at *
  generalize ((i.map Fam.hands).map P.int)=C at *
  generalize i.map ae=p at *
  unfold dq;refine (gQ (b:=Hu i) ?_).trans ?_
  .unfold Hu;by_cases a:1≤i.length
   .have x:(1:Int)≤(i.length:Int):=by lia
    by_cases r:i.length≤4
    .have s:(i.length:Int)≤4:=by lia
     simp [bC,bF,l,a,x,r,s]
    .have s:¬(i.length:Int)≤4:=by lia
     simp [bC,bF,l,a,x,r,s]
   .have x:¬(1:Int)≤(i.length:Int):=by lia
    simp [bC,bF,l,a,x]
  refine (congrArg (fun z=>if Hu i=true then _ else z) ((gQ (b:=!n4 (i.map Fam.name)) ?_).trans (congrArg (fun z=>if (!n4 (i.map Fam.name))=true then _ else z) ((gQ (b:=!i.all i4) ?_).trans (congrArg (fun z=>if (!i.all i4)=true then _ else z) (?_:_=some (Fl.rt (.p (.bl (decide ((i.map Fam.hands).sum≤5)))),[ql p],[]))))))).trans ?_
  .simp [au,l,k,c_,w,A]
  .simp [au,l,k,c_,u,d]
  .generalize (i.map Fam.hands).sum=z at *
   simp [au,l,k,c_,y,K]
  .unfold Cj;cases Hu i <;> cases n4 (i.map Fam.name) <;> cases i.all i4 <;> rfl
 rw [ap];generalize i.map ae=p at *
 simp [m]
noncomputable def wX (o:Str->GF):Prop:=∀i:List Fam,WfFs i->pureOf (o "are_families") [.lst (i.map ae)]=some (.bl (Cj i))
theorem rB (n:Nat):wX (Pa (n+12)):=fun i h=>by have e:=om (o:=Pa (n+10+1)) (Pa (n+10)) (Xs (n+10+1)) (mI (n+3)) (wE (n+1)) h;rw [<- e];exact congrArg (fun g=>pureOf g [.lst (i.map ae)]) (k7 (n+10))
theorem tU:∀y ∈ [("row":Str),"heap"],strOk y:=by intro y h;simp only [List.mem_cons,List.not_mem_nil,or_false] at h;unfold strOk;rcases h with rfl | rfl <;> decide +kernel
noncomputable def ed (N:LS) (r:Road):Bool:=aS N r.one && (aS N r.other && (aS [("row":Str),"heap"] r.kind && (decide (1≤r.room) && decide (r.room≤3))))
structure WfR (r:Road):Prop where
 a:strOk r.one
 b:strOk r.other
 k:strOk r.kind
theorem C3 (n:Nat) (k:∀x ∈ N,strOk x) (h:WfR r):pureOf (Pa (n+2) "is_road") [af r,.lst (aq N)]=some (.bl (ed N r)):=by
 have g:=f_ h.a k [];have a:=f_ h.b k [];have e:kX (.p (.str r.kind)) (.p (.tup [.str "row",.str "heap"])) []=some (.bl (aS [("row":Str),"heap"] r.kind)):=DJ (K:=[("row":Str),"heap"]) h.k tU [];unfold ed;rw [um,ap];generalize aS N r.one=b1 at *
 generalize aS N r.other=b2 at *
 generalize aS [("row":Str),"heap"] r.kind=b at *
 by_cases s:1≤r.room
 .cases b1 <;> cases b2 <;> cases b <;> simp [iG,af,g,a,e,s]
 .cases b1 <;> cases b2 <;> cases b <;> simp [iG,af,g,a,e,s]
variable {u:List Road}
theorem AI (K:Str->GF) (A:Str->GX) (t:∀{N:LS}{r:Road},(∀x ∈ N,strOk x)->WfR r->pureOf (o "is_road") [af r,.lst (aq N)]=some (.bl (ed N r))) (F:i.length≤100) (H:∀x ∈ i.map Fam.name,strOk x) (R:∀r ∈ u,WfR r) (C:u.length≤100) (b:Bool)
  (k:(if (decide (8 < u.length) || !u.all (ed (i.map Fam.name)))=true then some false else ik (u.map cj) (u.length:Int))=some b):pureOf (cq 2 3 (dD o K A)) [.lst (u.map af),.lst (i.map ae)]=some (.bl b):=by
 have c:=fun L h=>mj (f:=ae) (nm:=Fam.name) (fun _=>rfl) (S:=[]) (j:=3) i (L:=L) h;have v:∀e a q,aJ (ah 3) aZ (al (pureOf (o "is_road")) (v2 (vv 3) (vv 2))) (u.map af) [e,a,ql (aq (i.map Fam.name)),q] []=some (u.map fun r=>P.bl (ed (i.map Fam.name) r),[]):=fun e a q=>
  comp_map (f:=af) (g:=fun r=>P.bl (ed (i.map Fam.name) r)) (S:=[]) (tgt:=ah 3) (fun q=>[e,a,ql (aq (i.map Fam.name)),q]) (fun _ _=>rfl) (xs:=u) (fun r d=>by simp [t H (R r d)]) q
 have z:∀e a n q,aJ (ah 3) aZ (bK (vv 3) aE (aD (vi 2))) (u.map af) [e,a,n,q] []=some (u.map cj,[]):=fun e a n q=>
  comp_map (f:=af) (g:=cj) (S:=[]) (tgt:=ah 3) (fun q=>[e,a,n,q]) (fun _ _=>rfl) (xs:=u) (fun r d=>by have:cT (af r) none (some 2)=some (cj r):=rfl;simp [aE,aD,this]) q
 have a:=eH (ed (i.map Fam.name)) u;have l:i.length≤1000000:=by lia
 have w:u.length≤1000000:=by lia
 have p:((8:Int) < (u.length:Int))=(8 < u.length):=by apply propext;lia
 have Dx:(i.map ae).length=i.length:=by simp
 have EC:(u.map af).length=u.length:=by simp
 rw [ap];generalize (u.map fun r=>P.bl (ed (i.map Fam.name) r))=E at *
 generalize u.all (ed (i.map Fam.name))=y at *
 generalize u.map af=D at *
 generalize i.map ae=B at *
 by_cases s:8 < u.length
 .have:false=b:=by simpa [s] using k
  subst this;simp [dD,au,Dx,l,c_,c,bC,bF,EC,p,s]
 .cases y with
  | false=>
   have:false=b:=by simpa [s] using k
   subst this;simp [dD,au,Dx,l,c_,c,bC,bF,EC,w,p,s,v,a]
  | true=>
   have m:ik (u.map cj) (u.length:Int)=some b:=by simpa [s] using k
   simp [dD,au,Dx,l,c_,c,bC,bF,EC,w,p,s,v,a,z,m]
noncomputable def B6:P->Prop
 | .str _=>True
 | .int _=>True
 | _=>False
inductive Forest:LS->Nat->List P->Prop
 | nil:Forest [] 0 []
 | nm {ns:LS}{w:Nat}{r:List P} (x:Str):Forest ns w r->Forest (ns++[x]) (w+1) (r++[.tup [.str "name",.str x]])
 | nd {ns ns1:LS}{w w1:Nat}{r as ts:List P}{s:Str}:s≠"name"->(∀a ∈ as,B6 a)->as.length≤5->Forest ns1 w1 ts->Forest ns w r->Forest (ns++ns1) (w1+w+1) (r++[.tup (.str s::(as++ts))])
theorem Forest.append (n:Forest m h a) (k:Forest p e b):Forest (m++p) (h+e) (a++b):=by
 induction k with
 | nil=>simpa using n
 | nm x _ i=>rw [<- dQ,<- dQ,show ∀w,h+(w+1)=h+w+1 from fun _=>rfl];exact .nm x i
 | @nd ns q w e r v d s f t l c _ _ i=>rw [<- dQ,<- dQ,show h+(e+w+1)=e+(h+w)+1 by lia];exact .nd f t l c i
variable {ns:LS}
theorem Forest.len (h:Forest ns w r):r.length≤w:=by
 induction h with
 | nil=>simp
 | nm _ _ i=>simp;lia
 | nd _ _ _ _ _ _ i=>simp;lia
theorem Forest.tup (h:Forest ns w r):∀t ∈ r,∃y,t=.tup y:=by
 induction h with
 | nil=>intro t x;cases x
 | nm _ _ i=>
  intro t x;rcases bi.mp x with q | q
  .exact i t q
  .exact⟨_,bP.mp q⟩
 | nd _ _ _ _ _ _ i=>
  intro t x;rcases bi.mp x with q | q
  .exact i t q
  .exact⟨_,bP.mp q⟩
noncomputable def fb (w:Nat) (v:P) (ns:LS):Prop:=∃h,h≤w/\Forest ns h [v]
theorem qO (x:Str):Forest [x] 1 [.tup [.str "name",.str x]]:=Forest.nm (ns:=[]) x .nil
theorem fD (i:Int):Forest [] 1 [.tup [.str "number",.int i]]:=Forest.nd (ns:=[]) (ns1:=[]) (r:=[]) (as:=[.int i]) (ts:=[]) (s:="number") (by decide +kernel) (fun a h=>by rw [bP.mp h];trivial) (by simp) .nil .nil
theorem qN:Forest [] 1 [.tup [.str "true"]]:=Forest.nd (ns:=[]) (ns1:=[]) (w:=0) (w1:=0) (r:=[]) (as:=[]) (ts:=[]) (s:="true") (by decide +kernel) (fun a h=>by cases h) (by simp) .nil .nil
theorem Em {ns:LS}{w:Nat}{s:Str}{a:P} (x:s≠"name") (f:Forest ns w [a]):Forest ns (w+1) [.tup [.str s,a]]:=by have:=Forest.nd (ns:=[]) (r:=[]) (as:=[]) (ts:=[a]) (s:=s) x (fun a h=>by cases h) (by simp) f .nil;simpa using this
theorem oY {n h:LS}{w x:Nat}{s:Str}{a b:P} (c:s≠"name") (f:Forest n w [a]) (e:Forest h x [b]):Forest (n++h) (w+x+1) [.tup [.str s,a,b]]:=by have:=Forest.nd (ns:=[]) (r:=[]) (as:=[]) (ts:=[a,b]) (s:=s) c (fun a k=>by cases k) (by simp) (f.append e) .nil;simpa using this
theorem Fx {n h:LS}{x e:Nat}{w:Str}{a b:P} (f:Forest n x [a]) (k:Forest h e [b]):Forest (n++h) (x+e+1) [.tup [.str "is",.str w,a,b]]:=by have:=Forest.nd (ns:=[]) (r:=[]) (as:=[.str w]) (ts:=[a,b]) (s:="is") (by decide +kernel) (fun a c=>by rw [bP.mp c];trivial) (by simp) (f.append k) .nil;simpa using this
theorem wF (h:jD K v):∃ns,(∀x ∈ ns,x ∈ K)/\Forest ns 1 [v]:=by
 rcases h with ⟨x,e,rfl⟩ | ⟨i,rfl⟩
 .exact⟨[x],fun y a=>by rw [bP.mp a];exact e,qO x⟩
 .exact⟨[],(fun y a=>by cases a),fD i⟩
theorem qQ {K a b:LS} (h:∀x ∈ a,x ∈ K) (e:∀x ∈ b,x ∈ K):∀x ∈ a++b,x ∈ K:=fun x s=>(bi.mp s).elim (h x) (e x)
theorem ml {K:LS}{v:P} (h:cX K v):∃ns,(∀x ∈ ns,x ∈ K)/\fb 3 v ns:=by
 rcases h with h | ⟨o,a,b,t,c,m,rfl⟩
 .obtain⟨ns,r,f⟩:=wF h;exact⟨ns,r,1,by lia,f⟩
 .obtain⟨p,n,e⟩:=wF c;obtain⟨q,k,s⟩:=wF m;exact⟨p++q,qQ n k,3,by lia,oY (by rcases t with rfl | rfl | rfl <;> decide +kernel) e s⟩
theorem xZ {K:LS}{v:P} (h:nE K v):∃ns,(∀x ∈ ns,x ∈ K)/\fb 7 v ns:=by obtain⟨w,a,b,q,k,c,rfl⟩:=h;obtain⟨m,s,t,l,f⟩:=ml k;obtain⟨r,n,p,d,e⟩:=ml c;exact⟨m++r,qQ s n,t+p+1,by lia,Fx f e⟩
theorem GU {K:LS}{v:P} (h:kT K v):∃ns,(∀x ∈ ns,x ∈ K)/\fb 15 v ns:=by
 rcases h with rfl | h | ⟨a,e,rfl⟩ | ⟨o,a,b,t,e,r,rfl⟩
 .exact⟨[],(fun y p=>by cases p),1,by lia,qN⟩
 .obtain⟨ns,n,w,l,f⟩:=xZ h;exact⟨ns,n,w,by lia,f⟩
 .obtain⟨ns,n,w,l,f⟩:=xZ e;exact⟨ns,n,w+1,by lia,Em (by decide +kernel) f⟩
 .obtain⟨q,c,u,i,s⟩:=xZ e;obtain⟨d,m,g,j,k⟩:=xZ r;exact⟨q++d,qQ c m,u+g+1,by lia,oY (by rcases t with rfl | rfl <;> decide +kernel) s k⟩
noncomputable def qI (v:P):Bool:=gU "tuple" v
theorem DN {s:List P} (h:∀a ∈ s,B6 a):s.filter qI=[]:=by
 refine List.filter_eq_nil_iff.mpr fun a x=>?_;have:=h a x
 cases a with
 | str _=>simp [qI,gU,CH]
 | int _=>simp [qI,gU,CH]
 | _=>exact this.elim
theorem DM {s:List P} (h:∀t ∈ s,∃y,t=.tup y):s.filter qI=s:=by refine List.filter_eq_self.mpr fun a x=>?_;obtain⟨y,rfl⟩:=h a x;rfl
theorem Ac (x:List P) (a h s n q:Option D):aJ (ah 4) (bT (eV (vm "tuple" (ac 4)))) (vv 4) x [a,h,s,n,q] S=some (x.filter qI,S):=by have:=cG (f:=id) (g:=id) (p:=qI) (S:=S) (t:=ah 4) (c:=bT (eV (vm "tuple" (ac 4)))) (e:=vv 4) (fun q=>[a,h,s,n,q]) (fun _ _=>rfl) (s:=x) (fun v _=>⟨by simp [qI],by simp⟩) q;simpa using this
theorem AR (r:List P) (t:P):(br (r++[t]))[(br (r++[t])).length-1]? = qp t:=by simp [br]
theorem AS (r:List P) (t:P):(br (r++[t])).dropLast=br r:=by simp [br]
theorem AT (X:SO) (r:List P) (t:P) (a q:Option D):ay 3 (BL (ac 2)) [a,some (.ref 0),some (.ref 1),q] [X,.lst (br (r++[t]))]=some (.nx,[a,some (.ref 0),some (.ref 1),qp t],[X,.lst (br r)]):=by
 have o:cO (.ref 1) [X,.lst (br (r++[t]))]=some (1,br (r++[t])):=rfl;have l:=AR r t;have d:=AS r t;generalize br (r++[t])=s at *
 simp [o,l,d]
theorem Dr (o e:Str->GF) (n:Str->GX) (N:LS) (k:N.length≤5000) (r:List P) (x:Str) (a q:Option D):bH o e n [a,some (.ref 0),some (.ref 1),q] [.lst (br (aq N)),.lst (br (r++[.tup [.str "name",.str x]]))] =
  some (.nx,[a,some (.ref 0),some (.ref 1),qp (.tup [.str "name",.str x])],[.lst (br (aq (N++[x]))),.lst (br r)]):=by
 unfold bH;refine (ce (AT ..)).trans ?_;have h:cO (.ref 0) [.lst (br (aq N)),.lst (br r)]=some (0,br (aq N)):=rfl;have l:N.length≤1000000:=by lia
 have s:br (aq (N++[x]))=br (aq N)++[.p (.str x)]:=by simp [aq,br]
 rw [s];simp [h,l]
theorem Dt (o i:Str->GF) (j:Str->GX) (X:SO) (r x h:List P) (s:Str) (p:s≠"name") (has:∀a ∈ x,B6 a) (m:x.length≤5) (n:∀t ∈ h,∃y,t=.tup y) (z:r.length+h.length≤5000) (e q:Option D):bH o i j [e,some (.ref 0),some (.ref 1),q] [X,.lst (br (r++[.tup (.str s::(x++h))]))] =
  some (.nx,[e,some (.ref 0),some (.ref 1),qp (.tup (.str s::(x++h)))],[X,.lst (br (r++h))]):=by
 unfold bH;refine (ce (AT ..)).trans ?_;have l:(P.str s::(x++h)).filter qI=h:=by rw [List.filter_cons_of_neg (by simp [qI,gU,CH]),List.filter_append,DN has,DM n];rfl
 have c:=fun e k f b q=>Ac (S:=[X,.lst (br r)]) (.str s::(x++h)) e k f b q;rw [l] at c;have d:aA (.tup (.str s::(x++h))) (.int 0)=some (.str s):=by simp
 have w:(P.str s::(x++h)).length≤1000000:=by simp;lia
 have u:cO (.ref 1) [X,.lst (br r)]=some (1,br r):=rfl;have v:r.length+h.length≤1000000:=by lia
 have g:br (r++h)=br r++h.map .p:=by simp [br]
 rw [g];generalize P.str s::(x++h)=y at *
 simp [d,p,au,w,c_,c,u,v,-dY]
theorem jz (o m:Str->GF) (t:Str->GX) (k:Option D):∀(f w:Nat) {ns:LS}{r:List P} (N:LS) (q:Option D),Forest ns w r->w < f->N.length+w≤1000 ->
  ∃(n:LS) (c:Option D),(∀x,x ∈ n↔x ∈ N\/x ∈ ns)/\n.length≤1000/\dR (bT (ac 2)) (bH o m t) f [k,some (.ref 0),some (.ref 1),q] [.lst (br (aq N)),.lst (br r)]=some (.nx,[k,some (.ref 0),some (.ref 1),c],[.lst (br (aq n)),.lst []])
 | 0,w,ns,r,N,q,h,u,i=>absurd u (gF _)
 | f+1,w,ns,r,N,q,h,u,i=>by
  cases h with
  | nil=>exact⟨N,q,fun x=>by simp,by lia,sH (by simp [sP,br])⟩
  | @nm ns w r x p=>
   obtain⟨n,c,a,b,e⟩:=jz o m t k f w (N++[x]) (qp (.tup [.str "name",.str x])) p (by lia) (by simp;lia);refine⟨n,c,fun y=>?_,b,(mG ?_ (Dr o m t N (by lia) r x k q)).trans e⟩
   .rw [a y,bi,bi];constructor
    .rintro ((z | z) | z)
     .exact .inl z
     .exact .inr (.inr z)
     .exact .inr (.inl z)
    .rintro (z | z | z)
     .exact .inl (.inl z)
     .exact .inr z
     .exact .inl (.inr z)
   .simp [sP]
  | @nd ns F w K r d g s S has l v p=>have H:=v.len;have j:=p.len;obtain⟨n,c,a,b,e⟩:=jz o m t k f (w+K) N (qp (.tup (.str s::(d++g)))) (p.append v) (by lia) (by lia);refine⟨n,c,a,b,(mG ?_ (Dt o m t _ r d g s S has l v.tup (by lia) k q)).trans e⟩;simp [sP]
theorem tJ (n:Nat) (h:fb 40 v ns):∃N:LS,(∀x,x ∈ N↔x ∈ ns)/\N.length≤1000/\pureOf (Pa (n+2) "names_in") [v]=some (.lst (aq N)):=by obtain⟨w,k,F⟩:=h;obtain⟨N,q,a,b,e⟩:=jz (Pa (n+1)) (Pa n) (Xs (n+1)) (qp v) 1000 w [] none F (by lia) (by simp;lia);refine⟨N,fun x=>by rw [a x];simp,b,?_⟩;have s:qY 1000 (bT (ac 2)) (bH (Pa (n+1)) (Pa n) (Xs (n+1))) [qp v,some (.ref 0),some (.ref 1),none] [.lst [],.lst [.p v]]=some (.nx,[qp v,some (.ref 0),some (.ref 1),q],[.lst (br (aq N)),.lst []]):=e;have t:jx 9 (.ref 0) [.lst (br (aq N)),.lst []]=some (.lst (aq N),[.fz (.lst (aq N)),.lst []]):=eA (U:=aq N) rfl;rw [rF,ap];simp [km,s,t]
theorem uU (n:Nat) (s:∀x ∈ N,strOk x) (b:N.length≤1000) (e:∀x ∈ K,strOk x):pureOf (Pa (n+2) "are_among") [.lst (aq N),.lst (aq K)]=some (.bl (N.all (aS K))):=by
 have c:∀a q,aJ (ah 2) aZ (aG kX (ac 2) (ac 1)) (aq N) [a,ql (aq K),q] []=some (N.map fun x=>P.bl (aS K x),[]):=fun a q=>
  comp_map (f:=P.str) (g:=fun x=>P.bl (aS K x)) (S:=[]) (tgt:=ah 2) (fun q=>[a,ql (aq K),q]) (fun _ _=>rfl) (xs:=N) (fun x k=>by have:=f_ (s x k) e [];simp [this]) q
 have h:=eH (aS K) N;have l:N.length≤1000000:=by lia
 rw [oA,ap];generalize (N.map fun x=>P.bl (aS K x))=y at *
 simp [jf,au,l,c_,c,h]
theorem Ef {N ns:LS} (p:Str->Bool) (h:∀x,x ∈ N↔x ∈ ns):N.all p=ns.all p:=by rw [Bool.eq_iff_iff,aW,aW];exact⟨fun z x a=>z x ((h x).mpr a),fun z x a=>z x ((h x).mp a)⟩
structure Tr3 where
 p:P
 ns:LS
structure WfT (t:Tr3):Prop where
 n:fb 40 t.p t.ns
 ok:∀x ∈ t.ns,strOk x
 d:b8 8 t.p=true
noncomputable def wU (o:Str->GF):Prop:=∀(t:Tr3) (K:LS),WfT t->(∀x ∈ K,strOk x)->∃N:LS,pureOf (o "names_in") [t.p]=some (.lst (aq N))/\pureOf (o "are_among") [.lst (aq N),.lst (aq K)]=some (.bl (t.ns.all (aS K)))
theorem mJ (n:Nat):wU (Pa (n+2)):=fun t K h s=>by obtain⟨N,a,b,e⟩:=tJ n h.n;refine⟨N,e,?_⟩;rw [uU n (fun x k=>h.ok x ((a x).mp k)) b s,Ef _ a]
noncomputable def aY (u:List Road) (a b:Str):Bool:=u.any fun r=>decide (r.one=a) && decide (r.other=b)
noncomputable def Ei (o:Str->GF):Prop:=∀(u:List Road) (a b:Str),u.length≤100->pureOf (o "leads") [.lst (u.map af),.str a,.str b]=some (.bl (aY u a b))
theorem o_ (n:Nat):Ei (Pa (n+2)):=fun u a b k=>by
 have c:∀h q,aJ (ah 3) aZ (vB (c9 (bV (aG el (eV (ag aA (vv 3) (vi 0))) (ac 1))) (bV (aG el (eV (ag aA (vv 3) (vi 1))) (ac 2))))) (u.map af) [h,qs a,qs b,q] []=some (u.map fun r=>P.bl (decide (r.one=a) && decide (r.other=b)),[]):=fun h q=>
  comp_map (f:=af) (g:=fun r=>P.bl (decide (r.one=a) && decide (r.other=b))) (S:=[]) (tgt:=ah 3) (fun q=>[h,qs a,qs b,q]) (fun _ _=>rfl) (xs:=u) (fun r _=>by
   by_cases x:r.one=a
   .simp [af,x]
   .simp [af,x]) q
 have e:=Ee (fun r:Road=>decide (r.one=a) && decide (r.other=b)) u;have l:u.length≤1000000:=by lia
 have s:(u.map af).length=u.length:=by simp
 unfold aY;rw [zo,ap];generalize (u.map fun r=>P.bl (decide (r.one=a) && decide (r.other=b)))=y at *
 generalize u.map af=p at *
 simp [pN,au,s,l,c_,c,e]
structure WfTk (t:Take):Prop where
 m:cK t.mark=true
 c:strOk t.cell
 w:strOk t.who
 s:strOk t.sender
noncomputable def fC (f:Fam) (u:List Road) (t:Take):Bool:=if (!aH t.mark || !aY u t.sender f.name)=true then false else (decide (t.cell="") || aS (f.cells.map Cel.name) t.cell) && (decide (t.who="") || aS f.whos t.who)
noncomputable def Cc (o:Str->GF):Prop:=∀(f:Fam) (u:List Road) (t:Take),WfF f->u.length≤100->WfTk t->pureOf (o "is_take") [aL (some t),ae f,.lst (aq (f.cells.map Cel.name)),.lst (u.map af)]=some (.bl (fC f u t))
theorem WfF.cs (h:WfF f):∀x ∈ f.cells.map Cel.name,strOk x:=fun x a=>bO (h.cw.2 x (dv _ a))
theorem WfF.ws (h:WfF f):∀x ∈ f.whos,strOk x:=fun x a=>bO (h.cw.2 x (List.mem_append_right _ a))
theorem Al (n:Nat):Cc (Pa (n+6)):=fun f u t s l h=>by
 have e:pureOf (Pa (n+4+1) "is_name") [.str t.mark]=some (.bl (aH t.mark)):=jB (n+1) _ h.m;have x:pureOf (Pa (n+4+1) "leads") [.lst (u.map af),.str t.sender,.str f.name]=some (.bl (aY u t.sender f.name)):=o_ (n+3) u _ _ l;have d:aA (ae f) (.int 0)=some (.str f.name):=rfl;have a:aA (ae f) (.int 4)=some (.lst (aq f.whos)):=by unfold ae;rw [dY];exact HI _ _ _ _ _ _
 have i:=f_ h.c s.cs [];have k:=f_ h.w s.ws [];unfold fC;rw [uj,ap];generalize aH t.mark=b1 at *
 generalize aY u t.sender f.name=b2 at *
 generalize aS (f.cells.map Cel.name) t.cell=b at *
 generalize aS f.whos t.who=b4 at *
 generalize u.map af=r at *
 generalize ae f=p at *
 generalize P.lst (aq (f.cells.map Cel.name))=m at *
 cases b1
 .simp [dM,aL,e]
 .cases b2
  .simp [dM,aL,e,x,d]
  .by_cases c:t.cell=""
   .by_cases w:t.who="" <;> simp [dM,aL,e,x,d,a,c,w,k]
   .cases b
    .simp [dM,aL,e,x,d,a,c,i]
    .by_cases w:t.who="" <;> simp [dM,aL,e,x,d,a,c,w,i,k]
structure Chg where
 x:Str
 t:Tr3
noncomputable def dC (c:Chg):P:=.tup [.str c.x,c.t.p]
structure WfC (c:Chg):Prop where
 x:strOk c.x
 t:WfT c.t
noncomputable def BW (t:Option Take) (x:LS):Bool:=match t with
 | none=>false
 | some k=>aS x k.cell
noncomputable def wM (t:Option Take) (C K:LS) (h:List Chg):Bool:=if (!(h.map Chg.x).all (aS C) || !decide (h.map Chg.x).Nodup)=true then false else if BW t (h.map Chg.x)=true then false else h.all fun c=>c.t.ns.all (aS K)
theorem jC (t:Option Take) (S:aR):gX (.p (aL t)) (.p .non) S=some (.bl t.isSome):=by cases t <;> rfl
theorem t8 (t:Option Take) (S:aR):Hx (.p (aL t)) (.p .non) S=some (.bl t.isNone):=by cases t <;> rfl
theorem se (W:Str->GF) (X:Str->GX) (U:wU o) (u:∀{N K:LS},(∀x ∈ N,strOk x)->N.length≤1000->(∀x ∈ K,strOk x)->pureOf (o "are_among") [.lst (aq N),.lst (aq K)]=some (.bl (N.all (aS K)))) (Q:∀x ∈ C,strOk x) (R:∀x ∈ K,strOk x) (t:Option Take) (z:∀k,t=some k->strOk k.cell) (s:List Chg) (Z:s.length≤100) (h:∀c ∈ s,WfC c) :
  pureOf (cq 4 5 (bI o W X)) [.lst (s.map dC),aL t,.lst (aq C),.lst (aq K)]=some (.bl (wM t C K s)):=by
 have n:=fun L h=>mj (f:=dC) (nm:=Chg.x) (fun _=>rfl) (S:=[]) (j:=5) s (L:=L) h;have F:∀v a d w q,aJ (ah 5) aZ (al (pureOf (o "are_among")) (v2 (al (pureOf (o "names_in")) (v1 (ag aA (vv 5) (vi 1)))) (vv 3))) (s.map dC) [v,a,d,ql (aq K),w,q] []=some (s.map fun c=>P.bl (c.t.ns.all (aS K)),[]):=fun v a d w q=>
  comp_map (f:=dC) (g:=fun c=>P.bl (c.t.ns.all (aS K))) (S:=[]) (tgt:=ah 5) (fun q=>[v,a,d,ql (aq K),w,q]) (fun _ _=>rfl) (xs:=s) (fun A y=>by obtain⟨N,M,O⟩:=U A.t K (h A y).t R;simp [dC,M,O]) q
 have b:s.length≤1000000:=by lia
 have a:=eH (fun c:Chg=>c.t.ns.all (aS K)) s;have p:∀x ∈ s.map Chg.x,strOk x:=fun x p=>by obtain⟨c,T,rfl⟩:=bb.mp p;exact (h c T).x
 have m:=u (N:=s.map Chg.x) (K:=C) p (by simp;lia) Q;have st:=xt (K:=s.map Chg.x) (by simp;lia);have H:yZ (.int (dn ((s.map Chg.x).map (Sum.inr:Str->cS)):Nat)) (.int (s.length:Nat))=some (!decide (s.map Chg.x).Nodup):=by have B:=BN ((s.map Chg.x).map (Sum.inr:Str->cS));rw [nodup_inr,List.length_map,List.length_map] at B;rw [mf];congr 2;rw [Bool.eq_iff_iff,decide_eq_true_eq,decide_eq_true_eq,<- B];lia
 have r:(s.map dC).length=s.length:=by simp
 have l:(aq (s.map Chg.x)).length=s.length:=by simp
 have gt:=jC t [];rw [ap];have i:∀k,t=some k->kX (.p (.str k.cell)) (.p (.lst (aq (s.map Chg.x)))) []=some (.bl (aS (s.map Chg.x) k.cell)):=fun k e=>f_ (z k e) p [];unfold wM;generalize (dn ((s.map Chg.x).map (Sum.inr:Str->cS)))=J at *
 generalize (s.map fun c=>P.bl (c.t.ns.all (aS K)))=ys at *
 generalize (s.all fun c=>c.t.ns.all (aS K))=E at *
 generalize s.map dC=Y at *
 generalize (s.map Chg.x).all (aS C)=b1 at *
 generalize decide (s.map Chg.x).Nodup=b2 at *
 cases t with
 | none=>
  generalize aL none=V at *
  generalize aq (s.map Chg.x)=G at *
  cases b1
  .simp [bI,au,r,b,c_,n,m]
  .cases b2 <;> simp [bI,au,r,b,c_,n,m,st,bC,bF,l,H,-mf,gt,F,a,BW]
 | some k=>
  have I:aA (aL (some k)) (.int 2)=some (.str k.cell):=rfl;have i:=i k rfl;show _=some (P.bl (if (!b1 || !b2)=true then false else if aS (s.map Chg.x) k.cell=true then false else E));generalize aS (s.map Chg.x) k.cell=D at *
  generalize aL (some k)=V at *
  generalize aq (s.map Chg.x)=G at *
  cases b1
  .simp [bI,au,r,b,c_,n,m]
  .cases b2
   .simp [bI,au,r,b,c_,n,m,st,bC,bF,l,H,-mf]
   .cases D <;> simp [bI,au,r,b,c_,n,m,st,bC,bF,l,H,-mf,gt,I,i,F,a]
structure Snd where
 mark:Str
 t:Tr3
 way:Str
 tg:Str
noncomputable def cx (s:Snd):P:=.tup [.str s.mark,s.t.p,.str s.way,.str s.tg]
structure WfSn (s:Snd):Prop where
 m:cK s.mark=true
 t:WfT s.t
 w:strOk s.way
 g:strOk s.tg
theorem Cz:∀y ∈ [("who":Str),"all","any"],strOk y:=by intro y h;simp only [List.mem_cons,List.not_mem_nil,or_false] at h;unfold strOk;rcases h with rfl | rfl | rfl <;> decide +kernel
noncomputable def dW (f:Fam) (u:List Road) (K:LS) (s:Snd):Bool:=if (!aH s.mark || (!aS [("who":Str),"all","any"] s.way || !s.t.ns.all (aS K)))=true then false else if s.way="who" then aS f.whos s.tg else aY u f.name s.tg
noncomputable def Ce (o:Str->GF):Prop:=∀(f:Fam) (u:List Road) (K:LS) (s:Snd),WfF f->u.length≤100->(∀x ∈ K,strOk x)->WfSn s->pureOf (o "is_send") [cx s,ae f,.lst (aq K),.lst (u.map af)]=some (.bl (dW f u K s))
theorem vQ (n:Nat):Ce (Pa (n+6)):=fun f u K s r p m h=>by
 have e:pureOf (Pa (n+4+1) "is_name") [.str s.mark]=some (.bl (aH s.mark)):=jB (n+1) _ h.m;have c:pureOf (Pa (n+4+1) "leads") [.lst (u.map af),.str f.name,.str s.tg]=some (.bl (aY u f.name s.tg)):=o_ (n+3) u _ _ p;obtain⟨N,v,j⟩:=mJ (n+3) s.t K h.t m;have d:aA (ae f) (.int 0)=some (.str f.name):=rfl;have k:aA (ae f) (.int 4)=some (.lst (aq f.whos)):=by unfold ae;rw [dY];exact HI _ _ _ _ _ _
 have w:∀S,bv (.p (.str s.way)) (.p (.tup [.str "who",.str "all",.str "any"])) S=some (.bl (!aS [("who":Str),"all","any"] s.way)):=fun S=>jE (K:=[("who":Str),"all","any"]) h.w Cz S;have i:=f_ h.g r.ws [];unfold dW cx;rw [ul,ap];obtain⟨mk,⟨o,z⟩,y,g⟩:=s;dsimp only at *
 generalize aH mk=b1 at *
 generalize aY u f.name g=b2 at *
 generalize aS [("who":Str),"all","any"] y=b at *
 generalize aS f.whos g=b4 at *
 generalize z.all (aS K)=b5 at *
 generalize u.map af=F at *
 generalize ae f=H at *
 generalize aq K=q at *
 generalize aq N=l at *
 have t:pureOf (Pa (n+4+1) "names_in") [o]=some (.lst l):=v;have x:pureOf (Pa (n+4+1) "are_among") [.lst l,.lst q]=some (.bl b5):=j;cases b1
 .simp [dN,e]
 .cases b
  .simp [dN,e,w]
  .cases b5
   .simp [dN,e,w,t,x]
   .by_cases a:y="who"
    .subst a;simp [dN,e,w,t,x,k,i]
    .simp [dN,e,w,t,x,a,d,c]
structure Stp where
 name:Str
 at':Str
 wh:Tr3
 tk:Option Take
 chs:List Chg
 sd:List Snd
 go:Str
noncomputable def aX (s:Stp):P:=.tup [.str s.name,.str s.at',s.wh.p,aL s.tk,.lst (s.chs.map dC),.lst (s.sd.map cx),.str s.go]
structure WfS (s:Stp):Prop where
 n:cK s.name=true
 a:strOk s.at'
 w:WfT s.wh
 k:∀tk,s.tk=some tk->WfTk tk
 cl:s.chs.length≤100
 c:∀c ∈ s.chs,WfC c
 sl:s.sd.length≤100
 sv:∀d ∈ s.sd,WfSn d
 g:strOk s.go
noncomputable def El (f:Fam) (u:List Road):Option Take->Bool
 | none=>false
 | some t=>!fC f u t
noncomputable def vS (f:Fam) (s:Stp):Bool:=!aS f.rooms s.at' || (!aS f.rooms s.go || !s.wh.ns.all (aS (f.cells.map Cel.name)))
noncomputable def i6 (f:Fam) (u:List Road) (s:Stp):Bool:=if vS f s=true then false else if El f u s.tk=true then false else if (!wM s.tk (f.cells.map Cel.name) (bD (f.cells.map Cel.name) s.tk) s.chs)=true then false else s.sd.all (dW f u (bD (f.cells.map Cel.name) s.tk))
noncomputable def Cd (o:Str->GF):Prop:=∀(f:Fam) (u:List Road) (s:Stp) (h:P),WfF f->u.length≤100->WfS s->pureOf (o "is_step") [aX s,ae f,h,.lst (u.map af)]=some (.bl (i6 f u s))
noncomputable def EZ (o:Str->GF):Prop:=∀(C K:LS) (t:Option Take) (h:List Chg),(∀x ∈ C,strOk x)->(∀x ∈ K,strOk x)->(∀k,t=some k->strOk k.cell)->h.length≤100->(∀c ∈ h,WfC c)->pureOf (o "are_changes") [.lst (h.map dC),aL t,.lst (aq C),.lst (aq K)]=some (.bl (wM t C K h))
theorem zz (n:Nat):EZ (Pa (n+4)):=fun C K t s x f k l h=>by have e:=se (o:=Pa (n+2+1)) (Pa (n+2)) (Xs (n+2+1)) (mJ (n+1)) (fun a b c=>uU (n+1) a b c) x f t k s l h;rw [<- e];exact congrArg (fun g=>pureOf g [.lst (s.map dC),aL t,.lst (aq C),.lst (aq K)]) (lL (n+2))
theorem sX (ι:Str->GF) (υ:Str->GX) (ht:wU o) (J:Cc o) (G:EZ o) (I:Ce o) (f:Fam) (u:List Road) (s:Stp) (D:P) (p:WfF f) (T:u.length≤100) (h:WfS s):pureOf (cq 4 14 (iF o ι υ)) [aX s,ae f,D,.lst (u.map af)]=some (.bl (i6 f u s)):=by
 have E:=p.cs;have R:∀x ∈ f.rooms,strOk x:=fun x hx=>bO (p.rm.2 x hx);obtain⟨N,Y,Z⟩:=ht s.wh _ h.w E;have O:=pi h.a R [];have g2:=pi h.g R [];have Q:=j7 E s.tk;have r:=G (f.cells.map Cel.name) (bD (f.cells.map Cel.name) s.tk) s.tk s.chs E Q (fun k e=>(h.k k e).c) h.cl h.c;have v:∀k,s.tk=some k->pureOf (o "is_take") [aL s.tk,ae f,.lst (aq (f.cells.map Cel.name)),.lst (u.map af)]=some (.bl (fC f u k)):=fun k e=>by rw [e];exact J f u k p T (h.k k e)
 have sc:∀j y z H F K A B n c m q,aJ (ah 14) aZ (al (pureOf (o "is_send")) (v4 (vv 14) (vv 1) (vv 13) (vv 3))) (s.sd.map cx) [j,qp (ae f),y,ql (u.map af),z,H,F,K,A,B,n,c,m,ql (aq (bD (f.cells.map Cel.name) s.tk)),q] []=some (s.sd.map fun d=>P.bl (dW f u (bD (f.cells.map Cel.name) s.tk) d),[]):=fun j y z H F K A B n c m q=>
  comp_map (f:=cx) (g:=fun d=>P.bl (dW f u (bD (f.cells.map Cel.name) s.tk) d)) (S:=[]) (tgt:=ah 14) (e:=al (pureOf (o "is_send")) (v4 (vv 14) (vv 1) (vv 13) (vv 3))) (fun q=>[j,qp (ae f),y,ql (u.map af),z,H,F,K,A,B,n,c,m,ql (aq (bD (f.cells.map Cel.name) s.tk)),q]) (fun _ _=>rfl) (xs:=s.sd) (fun d hd=>by simp [I f u _ d p T Q (h.sv d hd)]) q
 have a:=eH (dW f u (bD (f.cells.map Cel.name) s.tk)) s.sd;have W:aA (ae f) (.int 2)=some (.lst (aq f.rooms)):=rfl;have X:aA (ae f) (.int 3)=some (.lst (f.cells.map a_)):=rfl;have w:=jC s.tk [];have i:=t8 s.tk [];have V:=p.cw.1;rw [bN,List.length_map] at V;have l1:f.cells.length≤1000000:=by lia
 have U:s.sd.length≤1000000:=by have:=h.sl;lia
 have l3:f.cells.length+1≤1000000:=by lia
 have ln:(f.cells.map a_).length=f.cells.length:=by simp
 have C:(aq (f.cells.map Cel.name)).length=f.cells.length:=by simp
 have un:∀L:Lc,cP [ah 4,ah 5,ah 6,ah 7,ah 8,ah 9,ah 10] (aX s) L=some (((((((L.set 4 (qs s.name)).set 5 (qs s.at')).set 6 (qp s.wh.p)).set 7 (qp (aL s.tk))).set 8 (ql (s.chs.map dC))).set 9 (ql (s.sd.map cx))).set 10 (qs s.go)):=fun L=>by simp [aX]
 have l:(s.sd.map cx).length=s.sd.length:=by simp
 rw [ap];unfold iF i6;rw [aa];simp [un,-aa];rw [aa];simp [W,-aa];rw [aa];simp [X,au,ln,l1,c_,ki,-aa];rw [gQ (b:=vS f s) (by
  unfold vS;generalize s.wh.ns.all (aS (f.cells.map Cel.name))=b3 at *
  generalize aS f.rooms s.at'=b1 at *
  generalize aS f.rooms s.go=b2 at *
  cases b1
  .simp [O]
  .cases b2 <;> simp [O,g2,Y,Z])]
 cases vS f s <;> simp [-aa];rw [gQ (b:=El f u s.tk) (by
  cases t:s.tk with
  | none=>rw [t] at w;simp [w,El]
  | some k=>
   have v:=v k t;rw [t] at w v;generalize aL (some k)=tp at *
   cases q:fC f u k <;> simp [w,v,El,q])]
 cases El f u s.tk <;> simp [-aa];cases t:s.tk with
 | none=>
  rw [t] at i r sc a;simp only [bD] at r sc a ⊢;generalize wM none (f.cells.map Cel.name) (f.cells.map Cel.name) s.chs=b at *
  cases b <;> simp [i,r,au,l,U,c_,sc,a]
 | some k=>
  have M:aq (f.cells.map Cel.name)++[P.str "it"]=aq (bD (f.cells.map Cel.name) (some k)):=by simp [aq,bD]
  rw [t] at i r sc a;generalize aL (some k)=tp at *
  generalize wM (some k) (f.cells.map Cel.name) (bD (f.cells.map Cel.name) (some k)) s.chs=b at *
  cases b <;> simp [i,C,l3,M,r,au,l,U,c_,sc,a]
theorem vK (n:Nat):Cd (Pa (n+8)):=fun f u s P x l h=>by have e:=sX (o:=Pa (n+6+1)) (Pa (n+6)) (Xs (n+6+1)) (mJ (n+5)) (Al (n+1)) (zz (n+3)) (vQ (n+1)) f u s P x l h;rw [<- e];exact congrArg (fun g=>pureOf g [aX s,ae f,P,.lst (u.map af)]) (uk (n+6))
structure Wsh where
 kind:Str
 fam:Str
 stp:Str
noncomputable def gM (w:Wsh):P:=.tup [.str w.kind,.str w.fam,.str w.stp]
structure WfW (w:Wsh):Prop where
 k:strOk w.kind
 s:strOk w.stp
 f:strOk w.fam
theorem kD:∀y ∈ [("weak":Str),"strong"],strOk y:=by intro y h;simp only [List.mem_cons,List.not_mem_nil,or_false] at h;unfold strOk;rcases h with rfl | rfl <;> decide +kernel
noncomputable def hQ (x s:Str):List Fam->Bool
 | []=>false
 | f::r=>if f.name=x then aS (f.steps.map bc) s else hQ x s r
noncomputable def w_ (i:List Fam) (w:Wsh):Bool:=if (!aS [("weak":Str),"strong"] w.kind)=true then false else hQ w.fam w.stp i
theorem w9 (o b:Str->GF) (c:Str->GX) {w:Wsh} (v:strOk w.stp) (a n k:Option D):∀(s:List Fam) (q:Option D),(∀g ∈ s,WfF g) ->
  ∃L,cA (ah 5) (cD o b c) (s.map ae) [a,n,k,qs w.fam,qs w.stp,q] []=some (if (s.any fun g=>decide (g.name=w.fam))=true then .rt (.p (.bl (hQ w.fam w.stp s))) else .nx,L,[])/\((s.any fun g=>decide (g.name=w.fam))=false->hQ w.fam w.stp s=false)
 | [],q,_=>⟨_,rfl,fun _=>rfl⟩
 | g::s,q,h=>by
  have t:=h g List.mem_cons_self;have d:aA (ae g) (.int 0)=some (.str g.name):=rfl;rw [List.map_cons];by_cases f:g.name=w.fam
  .have z:aA (ae g) (.int 5)=some (.lst g.steps):=by unfold ae;rw [dY];exact G4 _ _ _ _ _ _ _
   have C:=fun a n k u i y q=>kI t.st (a:=6) (S:=[]) (fun q=>[a,n,k,u,i,y,q]) (fun _ _=>rfl) (fun _=>rfl) q;have l:=t.sn.1;rw [List.length_map] at l;have B:g.steps.length≤1000000:=by lia
   have F:=f_ (x:=w.stp) (K:=g.steps.map bc) v (fun x p=>bO (t.sn.2 x p)) [];refine⟨[a,n,k,qs w.fam,qs w.stp,qp (ae g)],?_,?_⟩
   .have m:((g::s).any fun g=>decide (g.name=w.fam))=true:=by simp [f]
    have r:hQ w.fam w.stp (g::s)=aS (g.steps.map bc) w.stp:=by simp [hQ,f]
    rw [m,r];refine ue rfl ?_;show cD o b c [a,n,k,qs w.fam,qs w.stp,qp (ae g)] []=_;generalize ae g=P at *
    generalize aq (g.steps.map bc)=E at *
    simp [cD,d,f,z,au,B,c_,C,F]
   .intro A;simp [f] at A
  .obtain⟨L,e,H⟩:=w9 o b c v a n k s (qp (ae g)) (fun x p=>h x (bE _ p));have m:((g::s).any fun g=>decide (g.name=w.fam))=s.any fun g=>decide (g.name=w.fam):=by simp [f]
   have r:hQ w.fam w.stp (g::s)=hQ w.fam w.stp s:=by simp [hQ,f]
   rw [m,r];refine⟨L,(dB rfl ?_).trans e,H⟩;show cD o b c [a,n,k,qs w.fam,qs w.stp,qp (ae g)] []=_;generalize ae g=P at *
   simp [cD,d,f]
noncomputable def Ca (o:Str->GF):Prop:=∀(i:List Fam) (w:Wsh),WfFs i->WfW w->pureOf (o "is_wish") [gM w,.lst (i.map ae)]=some (.bl (w_ i w))
theorem vk (n:Nat):Ca (Pa (n+2)):=fun i w F h=>by
 have x:∀S,bv (.p (.str w.kind)) (.p (.tup [.str "weak",.str "strong"])) S=some (.bl (!aS [("weak":Str),"strong"] w.kind)):=fun S=>jE (K:=[("weak":Str),"strong"]) h.k kD S;obtain⟨s,e,a⟩:=w9 (Pa (n+1)) (Pa n) (Xs (n+1)) h.s (qp (gM w)) (ql (i.map ae)) (qs w.kind) i none F.ok;unfold w_;rw [ui,ap];have un:∀L:Lc,cP [ah 2,ah 3,ah 4] (gM w) L=some (((L.set 2 (qs w.kind)).set 3 (qs w.fam)).set 4 (qs w.stp)):=fun L=>by simp [gM]
 generalize gM w=wp at *
 generalize aS [("weak":Str),"strong"] w.kind=b1 at *
 generalize hQ w.fam w.stp i=b2 at *
 generalize (i.any fun g=>decide (g.name=w.fam))=b at *
 generalize i.map ae=f at *
 cases b1
 .simp [fX,un,x]
 .cases b
  .have:=a rfl;subst this;simp [fX,un,x,e]
  .simp [fX,un,x,e]
noncomputable def jy (s:Fam->P->Bool) (g:Fam):Bool:=g.steps.all (s g)
theorem xD (w:Str->GF) (i:Str->GX) (c m:Option D) (a:P):∀(n:List Fam) (r:Option D),(∀g ∈ n,∀v ∈ g.steps,pureOf (o "is_step") [v,ae g,a,.lst (u.map af)]=some (.bl (B g v)))->(∀g ∈ n,g.steps.length≤4000) ->
  ∃L,cA (ah 4) (d6 o w i) (n.map ae) [c,qp a,ql (u.map af),m,r] []=some (if n.all (jy B)=true then .nx else .rt (.p (.bl false)),L,[])/\(n.all (jy B)=true->∃d,L=[c,qp a,ql (u.map af),m,d])
 | [],r,_,_=>⟨_,rfl,fun _=>⟨r,rfl⟩⟩
 | g::n,r,h,l=>by
  have z:∀q,aJ (ah 5) aZ (al (pureOf (o "is_step")) (v4 (vv 5) (vv 4) (vv 1) (vv 2))) g.steps [c,qp a,ql (u.map af),m,qp (ae g),q] []=some (g.steps.map fun v=>P.bl (B g v),[]):=fun q=>by have:=comp_map (f:=id) (g:=fun v=>P.bl (B g v)) (S:=[]) (tgt:=ah 5) (e:=al (pureOf (o "is_step")) (v4 (vv 5) (vv 4) (vv 1) (vv 2))) (fun q=>[c,qp a,ql (u.map af),m,qp (ae g),q]) (fun _ _=>rfl) (xs:=g.steps) (fun s t=>by simp [h g List.mem_cons_self s t]) q;simpa using this
  have y:=eH (B g) g.steps;have C:g.steps.length≤1000000:=by have:=l g List.mem_cons_self;lia
  have H:aA (ae g) (.int 5)=some (.lst g.steps):=by unfold ae;rw [dY];exact G4 _ _ _ _ _ _ _
  have K:(g::n).all (jy B)=(g.steps.all (B g) && n.all (jy B)):=rfl;have k:d6 o w i [c,qp a,ql (u.map af),m,qp (ae g)] []=some (if g.steps.all (B g)=true then .nx else .rt (.p (.bl false)),[c,qp a,ql (u.map af),m,qp (ae g)],[]):=by
   generalize (g.steps.map fun v=>P.bl (B g v))=I at *
   generalize g.steps.all (B g)=b at *
   generalize u.map af=G at *
   generalize ae g=E at *
   cases b <;> simp [d6,H,au,C,c_,z,y]
  rw [List.map_cons,K];cases j:g.steps.all (B g) with
  | false=>rw [j] at k;exact⟨_,ue rfl k,fun A=>by simp at A⟩
  | true=>rw [j] at k;obtain⟨L,e,F⟩:=xD w i (B:=B) c m a n (qp (ae g)) (fun x p=>h x (bE _ p)) (fun x p=>l x (bE _ p));rw [Bool.true_and];exact⟨L,(dB rfl k).trans e,F⟩
structure Good (fs:List Fam) (rds:List Road) (ws:List P) (b2:Bool):Prop where
 f:Cj fs=true
 r:b2=true
 s:∀g ∈ fs,∀s,WfS s->aX s ∈ g.steps->i6 g rds s=true
 l:ws.length≤6
 w:∀w,WfW w->gM w ∈ ws->w_ fs w=true
structure WfP (fs:List Fam) (rds:List Road) (ws:List P):Prop where
 f:WfFs fs
 r:∀r ∈ rds,WfR r
 rl:rds.length≤100
 s:∀g ∈ fs,∀v ∈ g.steps,∃s,v=aX s/\WfS s
 wl:ws.length≤100
 w:∀v ∈ ws,∃w,v=gM w/\WfW w
noncomputable def fE (i:List Fam) (u:List Road):Option Bool:=if (decide (8 < u.length) || !u.all (ed (i.map Fam.name)))=true then some false else ik (u.map cj) (u.length:Int)
theorem uK {j:Type}{p:j->Prop}{r:j->Bool->Prop} (h:∀v,p v->∃b,r v b):∃B:j->Bool,∀v,p v->r v (B v):=by
 have:∀v,∃b,p v->r v b:=fun v=>by
  by_cases x:p v
  .obtain⟨b,a⟩:=h v x;exact⟨b,fun _=>a⟩
  .exact⟨true,fun q=>absurd q x⟩
 exact Classical.axiomOfChoice this
theorem Dg (n:Nat) {i:List Fam}{u:List Road}{k:List P} (h:WfP i u k) {b2:Bool} (hb:fE i u=some b2):∃b,pureOf (Pa (n+14) "is_plan") [ai i u k]=some (.bl b)/\(b=true->Good i u k b2):=by
 have t:pureOf (Pa (n+12+1) "are_families") [.lst (i.map ae)]=some (.bl (Cj i)):=rB (n+1) i h.f;have A:pureOf (Pa (n+12+1) "are_roads") [.lst (u.map af),.lst (i.map ae)]=some (.bl b2):=by have e:=AI (o:=Pa (n+11+1)) (Pa (n+11)) (Xs (n+11+1)) (fun {Ns r} a b=>C3 (n+10) a b) h.f.ln (fun x hx=>bO (h.f.nms.2 x hx)) h.r h.rl b2 hb;rw [<- e];exact congrArg (fun g=>pureOf g [.lst (u.map af),.lst (i.map ae)]) (oy (n+11))
 have y:Cd (Pa (n+12+1)):=vK (n+5);have K:Ca (Pa (n+12+1)):=vk (n+11);obtain⟨Q,l⟩:=uK (j:=Fam×P) (p:=fun z=>z.1 ∈ i/\z.2 ∈ z.1.steps) (r:=fun z b=>pureOf (Pa (n+12+1) "is_step") [z.2,ae z.1,.lst (i.map ae),.lst (u.map af)]=some (.bl b)) (fun z O=>by obtain⟨s,e,M⟩:=h.s z.1 O.1 z.2 O.2;rw [e];exact⟨_,y z.1 u s _ (h.f.ok z.1 O.1) h.rl M⟩)
 obtain⟨B,F⟩:=uK (j:=P) (p:=fun v=>v ∈ k) (r:=fun v b=>pureOf (Pa (n+12+1) "is_wish") [v,.lst (i.map ae)]=some (.bl b)) (fun v N=>by obtain⟨w,e,H⟩:=h.w v N;rw [e];exact⟨_,K i w h.f H⟩)
 obtain⟨L',I,J⟩:=xD (o:=Pa (n+12+1)) (Pa (n+12)) (Xs (n+12+1)) (u:=u) (B:=fun g v=>Q (g,v)) (qp (ai i u k)) (ql k) (.lst (i.map ae)) i none (fun g m v N=>l (g,v) ⟨m,N⟩) (fun g m=>by have:=(h.f.ok g m).sn.1;rw [List.length_map] at this;exact this);have Y:∀C D E G q,aJ (ah 5) aZ (al (pureOf (Pa (n+12+1) "is_wish")) (v2 (vv 5) (vv 1))) k [C,ql (i.map ae),D,E,G,q] []=some (k.map fun v=>P.bl (B v),[]):=fun C D E G q=>by have:=comp_map (f:=id) (g:=fun v=>P.bl (B v)) (S:=[]) (tgt:=ah 5) (e:=al (pureOf (Pa (n+12+1) "is_wish")) (v2 (vv 5) (vv 1))) (fun q=>[C,ql (i.map ae),D,E,G,q]) (fun _ _=>rfl) (xs:=k) (fun w H=>by simp [F w H]) q;simpa using this
 have W:=eH B k;have l1:k.length≤1000000:=by have:=h.wl;lia
 have U:((k.length:Int)≤6)=(k.length≤6):=by apply propext;lia
 have un:∀L:Lc,cP [ah 1,ah 2,ah 3] (ai i u k) L=some (((L.set 1 (ql (i.map ae))).set 2 (ql (u.map af))).set 3 (ql k)):=fun L=>by simp [ai]
 refine⟨Cj i && b2 && i.all (jy fun g v=>Q (g,v)) && (decide (k.length≤6) && k.all B),?_,?_⟩
 .rw [uo,ap];generalize (k.map fun v=>P.bl (B v))=ys at *
  generalize ai i u k=pp at *
  generalize u.map af=rp at *
  generalize i.map ae=fp at *
  generalize Cj i=b1 at *
  generalize i.all (jy fun g v=>Q (g,v))=X at *
  generalize k.all B=b4 at *
  cases b1
  .simp [dO,un,t]
  .cases b2
   .simp [dO,un,t,A]
   .cases X
    .simp [dO,un,t,A,I]
    .obtain⟨q4',rfl⟩:=J rfl;by_cases V:k.length≤6
     .simp [dO,un,t,A,I,bC,bF,U,V,au,l1,c_,Y,W]
     .simp [dO,un,t,A,I,bC,bF,U,V]
 .intro T;simp only [Bool.and_eq_true,decide_eq_true_eq,aW,jy] at T;obtain⟨⟨⟨Z,g2⟩,g3⟩,g4,g5⟩:=T;refine⟨Z,g2,fun g m s M d=>?_,g4,fun w H d=>?_⟩
  .have c:=l (g,aX s) ⟨m,d⟩;have R:=y g u s (.lst (i.map ae)) (h.f.ok g m) h.rl M;rw [R] at c;injection c with c;injection c with c;rw [c];exact g3 g m _ d
  .have c:=F (gM w) d;have R:=K i w h.f H;rw [R] at c;injection c with c;injection c with c;rw [c];exact g5 _ d
theorem C1:Rs.contains "NoPlan"=true:=by decide +kernel
theorem wL (k:Nat) (e:pureOf (Pa (k+1) "is_plan") [v]=some (.bl false)):pureOf (Pa (k+2) "check_plan") [v]=none:=by rw [nP,ap];simp [iI,e,mY]
theorem uM (k:Nat) (e:pureOf (Pa (k+1) "is_plan") [v]=some (.bl false)) (S:aR):Xs (k+2) "check_plan" [.p v] S=some (("NoPlan":Str),S):=by
 rw [lF];have h:fnX 1 1 (eP (Pa (k+1)) (Pa k) (Xs (k+1))) [.p v] S=some (("NoPlan":Str),S):=by simp [fnX,eP,zV,mE,e]
 unfold iw;rw [h];dsimp only [Option.bind];rw [if_pos C1]
theorem JS:hR sF Rs ["NoPlan"] "NoPlan"=some true:=by decide +kernel
theorem JR:hR sF Rs ["ValueError"] "NoPlan"=some true:=by decide +kernel
theorem JQ:hR sF Rs ["NoDeed","NoFact","NoLine","NoRow","NoText","NoThing","NotPossible","TooMany"] "NoPlan"=some false:=by decide +kernel
theorem IF:(Rs.contains "NoPlan" && (sF.lookup ("NoPlan":Str)).any fun a=>a.contains "RoadError")=true:=by decide +kernel
theorem C4 (k:Nat) (e:pureOf (Pa (k+1) "is_plan") [v]=some (.bl false)):pureOf (Pa (k+3) "_law_refused") [v]=some (.bl true):=by
 have a:=wL k e;have s:=uM k e;have h:pureOf (Pa (k+1+1) "check_plan") [v]=none:=a;have x:∀S,Xs (k+1+1) "check_plan" [.p v] S=some (("NoPlan":Str),S):=s;have m:∃L S,eQ (Pa (k+1+1)) (Pa (k+1)) (Xs (k+1+1)) [qp v,none,none] []=some (.rt (.p (.bl true)),L,S):=by
  refine⟨[qp v,some (.ref 0),none],[.exc "NoPlan"],?_⟩;unfold eQ;refine (ce (e:=[qp v,qp .non,none]) (s:=[]) (by simp)).trans ?_;refine (ce (e:=[qp v,some (.ref 0),none]) (s:=[.exc "NoPlan"]) ?_).trans ?_
  .unfold yR;have t:cM (eV (al (pureOf (Pa (k+1+1) "check_plan")) (v1 (vv 0)))) [qp v,qp .non,none] []=none:=by simp [h]
   have n:gL (Xs (k+1+1) "check_plan") (aw (ac 0) bG) [qp v,qp .non,none] []=some (("NoPlan":Str),[qp v,qp .non,none],[]):=by simp [gL,x]
   rw [t];dsimp only;rw [n];dsimp only;rw [if_pos IF];simp
  .simp [ie,wr,JS,JR,JQ]
 obtain⟨L,S,m⟩:=m;rw [lK,ap];simp [m]
theorem FJ (n:Nat) (h:WfP i u w) (x:fE i u=some b2) (a:¬Good i u w b2):pureOf (Pa (n+16) "_law_refused") [ai i u w]=some (.bl true):=by
 obtain⟨b,e,g⟩:=Dg n h x;cases b with
 | true=>exact absurd (g rfl) a
 | false=>exact C4 (n+13) e
end My
namespace My
open PySem L2 Ev
theorem NY (a b c d e f g:h) (r:List h):L2.atI (a::b::c::d::e::f::g::r) 6=some g:=aI (by decide) rfl
theorem zx (s:Stp) (a h x e:Option D) (S:aR):ag aB (bK (vv 4) aE (aD (vi 4))) (aj (v3 (al bW (v1 (ag aA (vv 4) (vi 4)))) (al bW (v1 (ag aA (vv 4) (vi 5)))) (ag aA (vv 4) (vi 6)))) [a,h,x,e,qp (aX s)] S=some (aX s,S):=by
 have f:cT (aX s) none (some 4)=some (.tup [.str s.name,.str s.at',s.wh.p,aL s.tk]):=rfl;have d:aA (aX s) (.int 4)=some (.lst (s.chs.map dC)):=by unfold aX;rw [dY];exact HI ..
 have n:aA (aX s) (.int 5)=some (.lst (s.sd.map cx)):=by unfold aX;rw [dY];exact G4 ..
 have k:aA (aX s) (.int 6)=some (.str s.go):=by unfold aX;rw [dY];exact NY ..
 have ad:aB (.tup [.str s.name,.str s.at',s.wh.p,aL s.tk]) (.tup [.lst (s.chs.map dC),.lst (s.sd.map cx),.str s.go])=some (aX s):=rfl;generalize aX s=v at *
 simp [aE,aD,f,d,n,k,bW,ad]
variable {f:Fam}
theorem zw (K H:Str->GF) (F:Str->GX) (u:f.steps.length≤4000/\∀v ∈ f.steps,∃s,v=aX s) (a:List P) (B:a.length≤100) (h z:Option D):∃c,dG K H F [h,some (.ref 0),qp (ae f),z] [.lst (br a)]=some (.nx,[h,some (.ref 0),qp (ae f),c],[.lst (br (a++[ae f]))]):=by
 refine⟨ql f.steps,?_⟩;have i:∀h x n k q S,aJ (ah 4) aZ (ag aB (bK (vv 4) aE (aD (vi 4))) (aj (v3 (al bW (v1 (ag aA (vv 4) (vi 4)))) (al bW (v1 (ag aA (vv 4) (vi 5)))) (ag aA (vv 4) (vi 6))))) f.steps [h,x,n,k,q] S=some (f.steps,S):=fun h x n k q S=>by
  have:=comp_map (f:=id) (g:=id) (S:=S) (tgt:=ah 4) (e:=ag aB (bK (vv 4) aE (aD (vi 4))) (aj (v3 (al bW (v1 (ag aA (vv 4) (vi 4)))) (al bW (v1 (ag aA (vv 4) (vi 5)))) (ag aA (vv 4) (vi 6))))) (fun q=>[h,x,n,k,q]) (fun _ _=>rfl) (xs:=f.steps) (fun s b=>by obtain⟨st,rfl⟩:=u.2 s b;exact zx st h x n k S) q
  simpa using this
 have w:aA (ae f) (.int 5)=some (.lst f.steps):=by unfold ae;rw [dY];exact G4 ..
 have p:aA (ae f) (.int 4)=some (.lst (aq f.whos)):=by unfold ae;rw [dY];exact HI ..
 have t:aA (ae f) (.int 3)=some (.lst (f.cells.map a_)):=rfl;have r:aA (ae f) (.int 2)=some (.lst (aq f.rooms)):=rfl;have m:aA (ae f) (.int 1)=some (.int f.hands):=rfl;have d:aA (ae f) (.int 0)=some (.str f.name):=rfl;have j:ae f=.tup [.str f.name,.int f.hands,.lst (aq f.rooms),.lst (f.cells.map a_),.lst (aq f.whos),.lst f.steps]:=rfl;have l:f.steps.length≤1000000:=by have:=u.1;lia
 have y:a.length≤1000000:=by lia
 have o:cO (.ref 0) [.lst (br a)]=some (0,br a):=rfl;rw [xB];rw [show [SO.lst (br a++[.p (ae f)])]=[SO.lst (br a++[.p (.tup [.str f.name,.int f.hands,.lst (aq f.rooms),.lst (f.cells.map a_),.lst (aq f.whos),.lst f.steps])])] from rfl];generalize ae f=A at d m r t p w ⊢;clear j;simp [dG,w,au,l,c_,i,d,m,r,t,p,bW,o,y]
theorem pB (r c:Str->GF) (m:Str->GX) (k:Option D):∀(t:List Fam) (a:List P) (b e:Option D),(∀f ∈ t,f.steps.length≤4000/\∀v ∈ f.steps,∃s,v=aX s)->a.length+t.length≤100 ->
  ∃q x,cA (ah 2) (dG r c m) (t.map ae) [k,some (.ref 0),b,e] [.lst (br a)]=some (.nx,[k,some (.ref 0),q,x],[.lst (br (a++t.map ae))])
 | [],a,b,e,_,_=>⟨b,e,by simp [cA]⟩
 | f::t,a,b,e,h,l=>by simp only [bo] at l;obtain⟨x,p⟩:=zw r c m (h f List.mem_cons_self) a (by lia) k e;obtain⟨q,n,d⟩:=pB r c m k t (a++[ae f]) (qp (ae f)) x (fun g w=>h g (bE _ w)) (by simp;lia);refine⟨q,n,?_⟩;rw [List.map_cons];refine (dB rfl p).trans ?_;rw [d,dQ];rfl
variable {t:List Fam}{u:List Road}{i:List P}
theorem DZ (n:Nat) (h:WfP t u i):pureOf (Pa (n+2) "_law_copy") [ai t u i]=some (ai t u i):=by
 obtain⟨w,g,x⟩:=pB (Pa (n+1)) (Pa n) (Xs (n+1))  (qp (ai t u i)) t [] none none (fun f a=>⟨by have:=(h.f.ok f a).sn.1;rw [List.length_map] at this;exact this,fun v c=>by obtain⟨s,e,_⟩:=h.s f a v c;exact⟨s,e⟩⟩) (by simp;have:=h.f.ln;lia);have d:aA (ai t u i) (.int 0)=some (.lst (t.map ae)):=rfl;have k:aA (ai t u i) (.int 1)=some (.lst (u.map af)):=rfl;have b:aA (ai t u i) (.int 2)=some (.lst i):=rfl;have m:jx 9 (.ref 0) [.lst (br (t.map ae))]=some (.lst (t.map ae),[.fz (.lst (t.map ae))]):=eA (U:=t.map ae) rfl;have p:ai t u i=.tup [.lst (t.map ae),.lst (u.map af),.lst i]:=rfl;rw [pT,show br []=[] from rfl] at x;rw [rL,ap];rw [show some (ai t u i)=some (P.tup [.lst (t.map ae),.lst (u.map af),.lst i]) from rfl];generalize u.map af=j at *
 generalize t.map ae=r at *
 clear p;generalize ai t u i=q at *
 simp [ko,d,k,b,x,m,bW]
variable {s:Stp}
theorem Ax (h:WfS s):b8 16 (aX s)=true:=by
 have n:PyData.strOk s.name=true:=bO h.n;have k:b8 15 (aL s.tk)=true:=by
  cases p:s.tk with
  | none=>simp [aL]
  | some t=>have:=h.k t p;simp [aL,show PyData.strOk t.mark=true from bO this.m,show PyData.strOk t.sender=true from this.s,show PyData.strOk t.cell=true from this.c,show PyData.strOk t.who=true from this.w]
 have f:b8 15 (.lst (s.chs.map dC))=true:=Ba fun x e=>by
  obtain⟨c,a,rfl⟩:=bb.mp e;have:=h.c c a
  have d:=na (a:=13) this.t.d (by lia);simp [dC,show PyData.strOk c.x=true from this.x,d]
 have b:b8 15 (.lst (s.sd.map cx))=true:=Ba fun x e=>by
  obtain⟨c,a,rfl⟩:=bb.mp e;have:=h.sv c a
  have d:=na (a:=13) this.t.d (by lia);simp [cx,show PyData.strOk c.mark=true from bO this.m,show PyData.strOk c.way=true from this.w,show PyData.strOk c.tg=true from this.g,d]
 have r:=na (a:=15) h.w.d (by lia);unfold aX;rw [md];simp only [mq,lU,lZ,iU,n,k,f,b,r,show PyData.strOk s.at'=true from h.a,show PyData.strOk s.go=true from h.g]
theorem AU (h:WfP t u i):b8 20 (ai t u i)=true:=by
 have b:b8 19 (.lst (t.map ae))=true:=Ba fun x a=>by
  obtain⟨f,k,rfl⟩:=bb.mp a;have o:=h.f.ok f k;have g:PyData.strOk f.name=true:=bO o.nm;have j:b8 17 (.lst (aq f.rooms))=true:=jQ (fun x a=>bO (o.rm.2 x a)) 16;have l:b8 17 (.lst (aq f.whos))=true:=jQ o.ws 16;have z:b8 17 (.lst f.steps)=true:=Ba fun y n=>by obtain⟨s,rfl,d⟩:=h.s f k y n;exact Ax d
  have H:b8 17 (.lst (f.cells.map a_))=true:=Ba fun y n=>by obtain⟨c,q,rfl⟩:=bb.mp n;have:PyData.strOk c.name=true:=o.cs _ (gI q);simp [a_,this]
  unfold ae;rw [md];simp only [mq,lU,lZ,iU,Do,g,j,l,z,H]
 have m:b8 19 (.lst (u.map af))=true:=Ba fun x a=>by
  obtain⟨r,v,rfl⟩:=bb.mp a;have:=h.r r v
  simp [af,show PyData.strOk r.one=true from this.a,show PyData.strOk r.other=true from this.b,show PyData.strOk r.kind=true from this.k]
 have p:b8 19 (.lst i)=true:=Ba fun x a=>by obtain⟨w,rfl,e⟩:=h.w x a;simp [gM,show PyData.strOk w.kind=true from e.k,show PyData.strOk w.fam=true from e.f,show PyData.strOk w.stp=true from e.s]
 unfold ai;rw [md];simp only [mq,lU,lZ,b,m,p]
noncomputable def Ci (W:P):Prop:=∃t u i b2,W=ai t u i/\WfP t u i/\fE t u=some b2/\¬Good t u i b2
noncomputable def yo (h:Str->GF):Prop:=∀{t:List Fam}{u:List Road}{i:List P} (m:Int),Plan t u i->∃W,Ci W/\pureOf (h "_law_wrong") [ai t u i,.int m]=some W
theorem Gw (n:Nat) (E:yo (Pa (n+17))) (s:List Int):pureOf (Pa (n+18) "law") [.ro (s.map P.int)]=some (.bl true):=by
 obtain⟨c,r,J,_,o,H⟩:=rM (n+15) s (k:=0) (p:=1) (by lia) (by lia) (by lia) (by lia);obtain⟨a,z,_,_,e,m⟩:=rM (n+15) s (k:=0) (p:=2) (by lia) (by lia) (by lia) (by lia);have y:a=c:=by rw [o] at e;injection e with q;injection q with q;exact q.symm
 subst y;have f:pureOf (Pa (n+16+1) "_law_at") [cE s,.int 0]=some (.int a):=o;have b:pureOf (Pa (n+16+1) "_law_mix") [.int a,.int 1]=some (.int r):=H;have v:pureOf (Pa (n+16+1) "_law_mix") [.int a,.int 2]=some (.int z):=m;obtain⟨t,u,i,h,S⟩:=AV (n+5) s r;have w:pureOf (Pa (n+16+1) "_law_plan") [cE s,.int r]=some (ai t u i):=S;obtain⟨W,⟨g,d,x,b2,rfl,l,C,D⟩,F⟩:=E z h;have j:pureOf (Pa (n+16+1) "_law_wrong") [ai t u i,.int z]=some (ai g d x):=F;have K:pureOf (Pa (n+16+1) "_law_copy") [ai g d x]=some (ai g d x):=DZ (n+15) l;have A:pureOf (Pa (n+16+1) "_law_refused") [ai g d x]=some (.bl true):=FJ (n+1) l C D;have B:=BK (AU l);rw [DU,ap];rw [show (P.ro (s.map P.int))=cE s from rfl];generalize ai t u i=G at *
 generalize ai g d x=I at *
 generalize cE s=sc at *
 simp [yj,f,b,w,v,j,K,A,B]
variable {v:P}
theorem fb.mono (h:fb a v n) (x:a≤b):fb b v n:=by obtain⟨w,e,f⟩:=h;exact⟨w,by lia,f⟩
variable {K:LS}
theorem Ad (a:∀x ∈ K,strOk x) (h:cX K v):∃t:Tr3,t.p=v/\WfT t:=by obtain⟨s,n,f⟩:=ml h;exact⟨⟨v,s⟩,rfl,f.mono (by lia),fun x e=>a x (n x e),dI a h 6⟩
theorem CJ (a:∀x ∈ K,strOk x) (h:kT K v):∃t:Tr3,t.p=v/\WfT t:=by obtain⟨s,n,f⟩:=GU h;exact⟨⟨v,s⟩,rfl,f.mono (by lia),fun x e=>a x (n x e),oQ a h 4⟩
theorem rn {b f:Type}{p:f->b}{q:f->Prop}:∀{s:List b},(∀x ∈ s,∃y,p y=x/\q y)->∃n:List f,n.map p=s/\∀y ∈ n,q y
 | [],_=>⟨[],rfl,fun _ h=>by cases h⟩
 | x::s,h=>by
  obtain⟨y,e,m⟩:=h x List.mem_cons_self;obtain⟨n,c,k⟩:=rn (p:=p) (q:=q) (s:=s) (fun z a=>h z (bE _ a));refine⟨y::n,by rw [List.map_cons,e,c],fun z a=>?_⟩;rcases List.mem_cons.mp a with rfl | a
  .exact m
  .exact k z a
theorem xS {y:List n} (h:y.map a=e):y.length=e.length:=by rw [<- h,List.length_map]
theorem k4:strOk "":=by unfold strOk;decide +kernel
structure Sml (t:Tr3):Prop where
 n:fb 30 t.p t.ns
 ok:∀x ∈ t.ns,strOk x
 d:b8 7 t.p=true
theorem Fu (a:∀x ∈ K,strOk x) (h:cX K v):∃t:Tr3,t.p=v/\WfT t/\Sml t:=by obtain⟨s,n,f⟩:=ml h;exact⟨⟨v,s⟩,rfl,⟨f.mono (by lia),fun x e=>a x (n x e),dI a h 6⟩,f.mono (by lia),fun x e=>a x (n x e),dI a h 5⟩
theorem sY {f:Fam} (j:bp f) {u:List Road} (X:Du u) {k:Nat} (W:k < 8) {v:P} (h:fL f u k v):∃s:Stp,v=aX s/\WfS s/\(∀d ∈ s.sd,Sml d.t)/\s.chs.length≤3:=by
 obtain⟨a,wh,t,c,sd,I,rfl,N,O,Q,T,h5,U,h7,V,h9⟩:=h;have C:∀x ∈ f.cells.map Cel.name,strOk x:=fun x n=>bf (j.cs x n);have R:∀x ∈ f.rooms,strOk x:=fun x n=>bf (j.2.2.2.2.1 x n);have J:=j7 C t;obtain⟨tw,rfl,F⟩:=CJ C Q;obtain⟨L,E,g⟩:=rn (p:=dC) (q:=WfC) (s:=c.map yh) (fun x n=>by obtain⟨D,m,rfl⟩:=bb.mp n;obtain⟨K,A⟩:=U D m;obtain⟨B,e,o⟩:=Ad J A;exact⟨⟨D.1,B⟩,by unfold dC yh;rw [e],⟨C _ K,o⟩⟩)
 obtain⟨M,G,b⟩:=rn (p:=cx) (q:=fun d=>WfSn d/\Sml d.t) (s:=sd) (fun x n=>by
  obtain⟨mk,am,w,tg,rfl,K,A,q3,q4⟩:=V x n;obtain⟨B,e,o,S⟩:=Fu J A;have:strOk w:=by unfold strOk;rcases q4 with ⟨rfl,_⟩ | ⟨rfl | rfl,_⟩ <;> decide +kernel
  exact⟨⟨mk,B,w,tg⟩,by unfold cx;rw [e],⟨gw K,o,this,q3⟩,S⟩)
 have Z:=xS E;have l2:=xS G;rw [List.length_map] at Z;refine⟨⟨nm k 7,a,tw,t,L,M,I⟩,by unfold aX;rw [E,G],⟨gw (iV 7 W).1,R a N,F,fun tk H=>?_,by dsimp only;lia,g,by dsimp only;lia,(fun d i=>(b d i).1),R I O⟩,(fun d i=>(b d i).2),by dsimp only;lia⟩;obtain⟨⟨t1,⟨r,l,y,Y⟩,t3,t4⟩,_⟩:=T tk H;refine⟨gw t1,?_,?_,by rw [<- y];exact bf (X r l).1⟩
 .rcases t3 with z | z
  .rw [z];exact k4
  .exact C _ z
 .rcases t4 with z | z
  .rw [z];exact k4
  .exact bf (j.ws _ z)
variable {k:Nat}
theorem CT (x:bp f) (r:Du u) (a:k < 8) (h:fL f u k v):∃s:Stp,v=aX s/\WfS s:=by obtain⟨s,e,n,_⟩:=sY x r a h;exact⟨s,e,n⟩
theorem iR (h:v=aX s):nA v/\bc v=s.name:=by subst h;exact⟨⟨_,_,rfl⟩,rfl⟩
noncomputable def JO (K:LS):Prop:=K.length≤100/\∀x ∈ K,cK x=true
structure Fst (f:Fam):Prop where
 rm:JO f.rooms
 cw:JO (f.cells.map Cel.name++f.whos)
 nm:cK f.name=true
 sl:f.steps.length≤100
 st:∀v ∈ f.steps,∃s,v=aX s/\WfS s
theorem Fst.wf (h:Fst f):WfF f where
 rm:=⟨by have:=h.rm.1;lia,h.rm.2⟩
 cw:=⟨by have:=h.cw.1;lia,h.cw.2⟩
 nm:=h.nm
 sn:=⟨by rw [List.length_map];have:=h.sl;lia,fun x k=>by obtain⟨v,a,rfl⟩:=bb.mp k;obtain⟨s,e,n⟩:=h.st v a;rw [(iR e).2];exact n.n⟩
 st:=fun v a=>by obtain⟨s,e,n⟩:=h.st v a;exact (iR e).1
theorem GS (h:bp f) (b:aH f.name=true) (r:Du u) (s:Stps u f):Fst f where
 rm:=⟨by have:=h.2.2.1;lia,fun x a=>gw (h.2.2.2.2.1 x a)⟩
 cw:=⟨by rw [bN,List.length_map];have:=h.2.2.2.2.2.1;have:=h.2.2.2.2.2.2.2.2.2.2.1;lia,fun x a=>gw (h.2.2.2.2.2.2.2.1 x a)⟩
 nm:=gw b
 sl:=by have:=s.ln;lia
 st:=fun v c=>by obtain⟨k,n,e⟩:=qC.mp c;exact CT h r (by have:=s.ln;lia) (s.ok k v (by rw [List.getElem?_eq_getElem n,e]))
structure Pst (fs:List Fam) (rds:List Road) (ws:List P):Prop where
 l:fs.length≤100
 f:∀f ∈ fs,Fst f
 r:∀r ∈ rds,WfR r
 rl:rds.length≤18
 wl:ws.length≤100
 w:∀v ∈ ws,∃w,v=gM w/\WfW w
theorem Pst.wf (h:Pst t u i):WfP t u i where
 f:=⟨h.l,fun f x=>(h.f f x).wf⟩
 r:=h.r
 rl:=by have:=h.rl;lia
 s:=fun g a=>(h.f g a).st
 wl:=h.wl
 w:=h.w
theorem Plan.pst (h:Plan t u i):Pst t u i:=by
 obtain⟨d,F⟩:=h.fms;have m:=F.names;have n:=h.rok.nb m.2;refine⟨by have:=F.l2;lia,fun f x=>GS (F.ok f x) (m.2 _ (gI x)) n (h.stp f x),fun r e=>⟨bf (n r e).1,bf (n r e).2,?_⟩,by have:=h.rl;lia,by have:=h.wl;lia,fun v c=>?_⟩
 .rcases (h.rok.ok r e).2.2.1 with q | q <;> rw [q] <;> unfold strOk <;> decide +kernel
 .obtain⟨s,k,j,f,rfl,b,x,p⟩:=h.wok v c;have a:=cV x;refine⟨⟨s,f.name,nm j 7⟩,rfl,?_,bf (iV 7 (by have:=(h.stp f a).ln;lia)).1,bf (m.2 _ (gI a))⟩;show PyData.strOk s=true;rcases b with rfl | rfl <;> decide +kernel
theorem lq:ef ((r::u).map cj)=none:=rfl
theorem jw:∀u:List Road,fB (u.map cj)=some (u.map fun r=>[Sum.inr r.one,Sum.inr r.other])
 | []=>rfl
 | r::u=>by show (tupK (cj r)).bind _=_;rw [jw u];rfl
theorem AH (l:u.length≤18) (h:(u.map fun r=>(r.one,r.other)).Nodup):∃b,fE t u=some b:=by
 unfold fE;split
 .exact⟨_,rfl⟩
 .cases u with
  | nil=>exact⟨_,rfl⟩
  | cons r u=>
   have d:((r::u).map fun r=>[(Sum.inr r.one:cS),Sum.inr r.other]).Nodup:=by refine mu.mpr ((mu.mp h).imp fun {a b} n e=>n ?_);injection e with s x;injection x with x _;rw [lS s,lS x]
   have k:kL ((r::u).map cj)=some (r::u).length:=by unfold kL;rw [lq,jw];dsimp only;rw [if_pos ⟨d,by simpa using l⟩,List.length_map]
   unfold ik;rw [k];exact⟨_,rfl⟩
theorem Plan.nd (h:Plan t u i) (g:List Fam):∃b,fE g u=some b:=AH (by have:=h.rl;lia) h.rok.nd
theorem kc (h:Cj t=true):(1≤t.length/\t.length≤4)/\n4 (t.map Fam.name)=true/\(∀f ∈ t,i4 f=true)/\(t.map Fam.hands).sum≤5:=by
 unfold Cj Hu at h;split at h
 .cases h
 .split at h
  .cases h
  .split at h
   .cases h
   .rename_i a b c;simp only [Bool.not_eq_true,qy,Bool.and_eq_true,decide_eq_true_eq] at a;simp at b c h;exact⟨a,b,c,h⟩
theorem b' (h:i4 f=true):DQ f=false/\DP f=false/\DO f=false/\EI f=false/\∀c ∈ f.cells,nV c=true:=by
 unfold i4 at h;split at h
 .cases h
 .split at h
  .cases h
  .split at h
   .cases h
   .split at h
    .cases h
    .rename_i a b c d;simp at a b c d h;exact⟨a,b,c,d,h⟩
theorem cI (h:i6 f u s=true):vS f s=false/\El f u s.tk=false/\wM s.tk (f.cells.map Cel.name) (bD (f.cells.map Cel.name) s.tk) s.chs=true/\∀d ∈ s.sd,dW f u (bD (f.cells.map Cel.name) s.tk) d=true:=by
 unfold i6 at h;split at h
 .cases h
 .split at h
  .cases h
  .split at h
   .cases h
   .rename_i a b c;simp at a b c h;exact⟨a,b,c,h⟩
theorem o6 (x:r ∈ u) (h:ed (t.map Fam.name) r=false):fE t u=some false:=by
 unfold fE;rw [if_pos];rw [pR];refine .inr ?_;rw [pY];refine fu.mpr fun q=>?_
 have:=aW.mp q r x;rw [h] at this;cases this
noncomputable def Hf (k:Nat):Str:=⟨(List.replicate k 122).toArray⟩
noncomputable def cb (k:Nat):Fam:=⟨Hf k,1,["a"],[],[],[]⟩
theorem Co:∀k,k≤10->cK (Hf k)=true:=by decide +kernel
theorem ib:cK "zzzzzzzzzz"=true:=by decide +kernel
theorem zQ (a:k≤10):Fst (cb k) where
 rm:=⟨by simp [cb],fun x h=>by
  have:x="a":=by simpa [cb] using h
  subst this;decide +kernel⟩
 cw:=⟨by simp [cb],fun x h=>by simp [cb] at h⟩
 nm:=Co k a
 sl:=by simp [cb]
 st:=fun v e=>by simp [cb] at e
theorem zR (x e s n k f b c m a h q:Option D):aJ (ah 12) aZ (aj (v6 (bK (vv 6) aE (aD (ag aB (vv 12) (vi 1)))) (vi 1) (ar (v1 (vt "a"))) (ar aO) (ar aO) (ar aO))) (intsFrom 0 4) [x,e,s,n,k,f,qs "zzzzzzzzzz",b,c,m,a,h,q] []=some ([cb 1,cb 2,cb 3,cb 4].map ae,[]):=by
 have r:cT (.str "zzzzzzzzzz") none (some 1)=some (.str (Hf 1)):=by rfl
 have t:cT (.str "zzzzzzzzzz") none (some 2)=some (.str (Hf 2)):=by rfl
 have p:cT (.str "zzzzzzzzzz") none (some 3)=some (.str (Hf 3)):=by rfl
 have v:cT (.str "zzzzzzzzzz") none (some 4)=some (.str (Hf 4)):=by rfl
 rw [show intsFrom 0 4=[P.int 0,.int 1,.int 2,.int 3] from rfl];simp [aJ,aE,aD,r,t,p,v,ae,cb,aq]
theorem eS (t:List Fam) (u:List Road) (i:List P):∀L:Lc,cP [ah 2,ah 3,ah 4] (ai t u i) L=some (((L.set 2 (ql (t.map ae))).set 3 (ql (u.map af))).set 4 (ql i)):=fun L=>by simp [ai]
theorem tj (n d k:Nat):HT.d9 n d (some (k:Int))=min k n:=by
 have h:¬(k:Int) < 0:=by lia
 simp [HT.d9,h]
theorem jU (x:List P) (k:Nat):cT (.lst x) none (some (k:Int))=some (.lst (x.take k)):=by show some (P.lst (cut x none (some (k:Int))))=_;unfold cut;rw [tj];show some (P.lst ((x.drop 0).take (min k x.length-0)))=_;rw [kw,Nat.sub_zero];congr 2;rw [List.take_eq_take_iff];lia
theorem xq (x:List P) (k:Nat):cT (.lst x) (some (k:Int)) none=some (.lst (x.drop k)):=by
 show some (P.lst (cut x (some (k:Int)) none))=_;unfold cut;rw [tj];show some (P.lst ((x.drop (min k x.length)).take (x.length-min k x.length)))=_;rw [qa (by rw [qg];exact Nat.le_refl _)];congr 2;by_cases h:k≤x.length
 .rw [Nat.min_eq_left h]
 .rw [Nat.min_eq_right (by lia),pW,List.drop_of_length_le (by lia)]
theorem s0 (x:P) (s:List P):cT (.lst (x::s)) (some 1) none=some (.lst s):=xq (x::s) 1
noncomputable def gD (a h:Str->GF) (x:Str->GX) (p:P) (m:Int) (W:P):Prop:=pureOf (cq 2 12 (aC a h x)) [p,.int m]=some W
variable {m:Int}
theorem Lk (k e:Str->GF) (s:Str->GX) (x:m % 6=0) (h:m / 6 % 2=0) (b:t.length≤100):gD k e s (ai t u i) m (.tup [.lst [],.lst [],.lst []]):=by
 have un:=eS t u i;have z:=zR;have l:t.length+4≤1000000:=by lia
 have n:(t.map ae).length=t.length:=by simp
 have a:(intsFrom 0 4).length=4:=rfl;unfold gD;rw [ap];have ad:(([cb 1,cb 2,cb 3,cb 4].map ae)).length=4:=rfl;generalize ([cb 1,cb 2,cb 3,cb 4].map ae)=c at *
 generalize ai t u i=p at *
 generalize t.map ae=f at *
 generalize u.map af=r at *
 simp [aC,un,x,h,au,a,c_,z,n,ad,l]
theorem Lj (k e:Str->GF) (s:Str->GX) (x:m % 6=0) (h:m / 6 % 2=1) (b:t.length≤100):gD k e s (ai t u i) m (ai (t++[cb 1,cb 2,cb 3,cb 4]) u i):=by
 have un:=eS t u i;have z:=zR;have l:t.length+4≤1000000:=by lia
 have n:(t.map ae).length=t.length:=by simp
 have a:(intsFrom 0 4).length=4:=rfl;unfold gD;rw [ap,show ai (t++[cb 1,cb 2,cb 3,cb 4]) u i=.tup [.lst (t.map ae++[cb 1,cb 2,cb 3,cb 4].map ae),.lst (u.map af),.lst i] by unfold ai;rw [List.map_append]];have ad:(([cb 1,cb 2,cb 3,cb 4].map ae)).length=4:=rfl;generalize ([cb 1,cb 2,cb 3,cb 4].map ae)=c at *
 generalize ai t u i=p at *
 generalize t.map ae=f at *
 generalize u.map af=r at *
 simp [aC,un,x,h,au,a,c_,z,n,ad,l]
noncomputable def ti (f:Fam) (x:Int):Fam:=⟨f.name,x,f.rooms,f.cells,f.whos,f.steps⟩
variable {p:List Fam}
theorem Li (q c:Str->GF) (t:Str->GX) (a:m % 6=1) (v:p.length≤100):∃x:Int,(x=6\/x=0\/x=-1\/x=100)/\gD q c t (ai (f::p) u i) m (ai (ti f x::p) u i):=by
 have un:=eS (f::p) u i;rw [List.map_cons] at un;have d:aA (ae f) (.int 0)=some (.str f.name):=rfl;have s:cT (ae f) (some 2) none=some (.tup [.lst (aq f.rooms),.lst (f.cells.map a_),.lst (aq f.whos),.lst f.steps]):=rfl;have ad:∀x,aB (.tup [.str f.name,.int x]) (.tup [.lst (aq f.rooms),.lst (f.cells.map a_),.lst (aq f.whos),.lst f.steps])=some (.tup [.str f.name,.int x,.lst (aq f.rooms),.lst (f.cells.map a_),.lst (aq f.whos),.lst f.steps]):=fun _=>rfl;have pw:zu (.int 10) (.int 2)=some (.int 100):=rfl;have n:(p.map ae).length=p.length:=by simp
 have l:1+p.length≤1000000:=by lia
 have:m / 6 % 4=0\/m / 6 % 4=1\/m / 6 % 4=2\/m / 6 % 4=3:=by lia
 rcases this with h | h | h | h
 .refine⟨6,by lia,?_⟩;unfold gD;rw [ap,show ai (ti f (6)::p) u i=.tup [.lst (.tup [.str f.name,.int (6),.lst (aq f.rooms),.lst (f.cells.map a_),.lst (aq f.whos),.lst f.steps]::p.map ae),.lst (u.map af),.lst i] from rfl];generalize ai (f::p) u i=k at *
  generalize ae f=e at *
  generalize p.map ae=r at *
  generalize u.map af=b at *
  simp [aC,un,a,h,aE,aD,d,s,s0,ad,pw,n,l]
 .refine⟨0,by lia,?_⟩;unfold gD;rw [ap,show ai (ti f (0)::p) u i=.tup [.lst (.tup [.str f.name,.int (0),.lst (aq f.rooms),.lst (f.cells.map a_),.lst (aq f.whos),.lst f.steps]::p.map ae),.lst (u.map af),.lst i] from rfl];generalize ai (f::p) u i=k at *
  generalize ae f=e at *
  generalize p.map ae=r at *
  generalize u.map af=b at *
  simp [aC,un,a,h,aE,aD,d,s,s0,ad,pw,n,l]
 .refine⟨-1,by lia,?_⟩;unfold gD;rw [ap,show ai (ti f (-1)::p) u i=.tup [.lst (.tup [.str f.name,.int (-1),.lst (aq f.rooms),.lst (f.cells.map a_),.lst (aq f.whos),.lst f.steps]::p.map ae),.lst (u.map af),.lst i] from rfl];generalize ai (f::p) u i=k at *
  generalize ae f=e at *
  generalize p.map ae=r at *
  generalize u.map af=b at *
  simp [aC,un,a,h,aE,aD,d,s,s0,ad,pw,n,l]
 .refine⟨100,by lia,?_⟩;unfold gD;rw [ap,show ai (ti f (100)::p) u i=.tup [.lst (.tup [.str f.name,.int (100),.lst (aq f.rooms),.lst (f.cells.map a_),.lst (aq f.whos),.lst f.steps]::p.map ae),.lst (u.map af),.lst i] from rfl];generalize ai (f::p) u i=k at *
  generalize ae f=e at *
  generalize p.map ae=r at *
  generalize u.map af=b at *
  simp [aC,un,a,h,aE,aD,d,s,s0,ad,pw,n,l]
theorem M9 (e x:Str->GF) (a:Str->GX) (h:m % 6=2) (k:u.length≤100):gD e x a (ai (f::p) u i) m (ai (f::p) (⟨f.name,f.name,"row",1,true,true⟩::⟨f.name,f.name,"row",1,true,true⟩::u) i):=by
 have un:=eS (f::p) u i;rw [List.map_cons] at un;have d:aA (ae f) (.int 0)=some (.str f.name):=rfl;have n:(u.map af).length=u.length:=by simp
 have l:2+u.length≤1000000:=by lia
 have c:fM 2=true:=by decide
 unfold gD;rw [ap,show ai (f::p) (⟨f.name,f.name,"row",1,true,true⟩::⟨f.name,f.name,"row",1,true,true⟩::u) i=.tup [.lst (ae f::p.map ae),.lst (.tup [.str f.name,.str f.name,.str "row",.int 1,.bl true,.bl true]::.tup [.str f.name,.str f.name,.str "row",.int 1,.bl true,.bl true]::u.map af),.lst i] from rfl];generalize ai (f::p) u i=b at *
 generalize ae f=s at *
 generalize p.map ae=r at *
 generalize u.map af=t at *
 simp [aC,un,h,d,n,l,List.replicate,c]
noncomputable def eR (x r:Str):Stp:=⟨x,r,⟨.tup [.str "true"],[]⟩,none,[],[],r⟩
noncomputable def ij (f:Fam) (s:List P):Fam:=⟨f.name,f.hands,f.rooms,f.cells,f.whos,s⟩
theorem M8 (w q:Str->GF) (v:Str->GX) (n:f.rooms=r::b) (s:m % 6=3) (j:p.length≤100):gD w q v (ai (f::p) u i) m (ai (ij f [aX (eR "zzzzzzzzzz" r)]::p) u (List.replicate 7 (gM ⟨"weak",f.name,"zzzzzzzzzz"⟩))):=by
 have un:=eS (f::p) u i;rw [List.map_cons] at un;have h:aA (ae f) (.int 0)=some (.str f.name):=rfl;have a:aA (ae f) (.int 2)=some (.lst (.str r::aq b)):=by show some (P.lst (aq f.rooms))=_;rw [n];rfl
 have t:cT (ae f) none (some 5)=some (.tup [.str f.name,.int f.hands,.lst (aq f.rooms),.lst (f.cells.map a_),.lst (aq f.whos)]):=rfl;have ad:∀x,aB (.tup [.str f.name,.int f.hands,.lst (aq f.rooms),.lst (f.cells.map a_),.lst (aq f.whos)]) (.tup [x])=some (.tup [.str f.name,.int f.hands,.lst (aq f.rooms),.lst (f.cells.map a_),.lst (aq f.whos),x]):=fun _=>rfl;have d:∀x,aA (.tup [.str f.name,.int f.hands,.lst (aq f.rooms),.lst (f.cells.map a_),.lst (aq f.whos),x]) (.int 0)=some (.str f.name):=fun _=>rfl;have k:(p.map ae).length=p.length:=by simp
 have l:1+p.length≤1000000:=by lia
 have c:fM 7=true:=by decide
 unfold gD;rw [ap,show ai (ij f [aX (eR "zzzzzzzzzz" r)]::p) u (List.replicate 7 (gM ⟨"weak",f.name,"zzzzzzzzzz"⟩))=.tup [.lst (.tup [.str f.name,.int f.hands,.lst (aq f.rooms),.lst (f.cells.map a_),.lst (aq f.whos),.lst [.tup [.str "zzzzzzzzzz",.str r,.tup [.str "true"],.non,.lst [],.lst [],.str r]]]::p.map ae),.lst (u.map af),.lst (List.replicate 7 (.tup [.str "weak",.str f.name,.str "zzzzzzzzzz"]))] from rfl];generalize ai (f::p) u i=y at *
 generalize ae f=g at *
 generalize p.map ae=e at *
 generalize u.map af=z at *
 simp [aC,un,s,h,a,aE,aD,t,ad,d,s0,k,l,List.replicate,c]
theorem M7 (c k:Str->GF) (b:Str->GX) (x:m % 6=4) (t:i.length≤100):∃w:Wsh,(w=⟨"fair",f.name,"zzzzzzzzzz"⟩\/w=⟨"weak","zzzzzzzzzz","zzzzzzzzzz"⟩)/\gD c k b (ai (f::p) u i) m (ai (f::p) u (i.take 5++[gM w])):=by
 have un:=eS (f::p) u i;rw [List.map_cons] at un;have d:aA (ae f) (.int 0)=some (.str f.name):=rfl;have s:cT (.lst i) none (some 5)=some (.lst (i.take 5)):=jU i 5;have l:min 5 i.length+1≤1000000:=by lia
 have:m / 6 % 2=0\/m / 6 % 2=1:=by lia
 rcases this with h | h
 .refine⟨_,.inl rfl,?_⟩;unfold gD;rw [ap,show ai (f::p) u (i.take 5++[gM ⟨"fair",f.name,"zzzzzzzzzz"⟩])=.tup [.lst (ae f::p.map ae),.lst (u.map af),.lst (i.take 5++[.tup [.str "fair",.str f.name,.str "zzzzzzzzzz"]])] from rfl];generalize ai (f::p) u i=e at *
  generalize ae f=a at *
  generalize p.map ae=r at *
  generalize u.map af=n at *
  simp [aC,un,x,h,d,aE,aD,s,l]
 .refine⟨_,.inr rfl,?_⟩;unfold gD;rw [ap,show ai (f::p) u (i.take 5++[gM ⟨"weak","zzzzzzzzzz","zzzzzzzzzz"⟩])=.tup [.lst (ae f::p.map ae),.lst (u.map af),.lst (i.take 5++[.tup [.str "weak",.str "zzzzzzzzzz",.str "zzzzzzzzzz"]])] from rfl];generalize ai (f::p) u i=e at *
  generalize ae f=a at *
  generalize p.map ae=r at *
  generalize u.map af=n at *
  simp [aC,un,x,h,d,aE,aD,s,l]
theorem M6 (y w:Str->GF) (j:Str->GX) (s:m % 6=5) (o:u.length≤100):∃z:Road,(z.one="zzzzzzzzzz"\/z.other="zzzzzzzzzz")/\(z.one=f.name\/z.one="zzzzzzzzzz")/\(z.other=f.name\/z.other="zzzzzzzzzz")/\(z.kind="row"\/z.kind="heap")/\gD y w j (ai (f::p) u i) m (ai (f::p) (u.take 7++[z]) i):=by
 have un:=eS (f::p) u i;rw [List.map_cons] at un;have x:aA (ae f) (.int 0)=some (.str f.name):=rfl;have k:cT (.lst (u.map af)) none (some 7)=some (.lst ((u.map af).take 7)):=jU (u.map af) 7;have l:min 7 u.length+1≤1000000:=by lia
 have n:(u.map af).length=u.length:=by simp
 have ad:∀(a b c d e g:P),aB (.tup [a,b,c,d]) (.tup [e,g])=some (.tup [a,b,c,d,e,g]):=fun _ _ _ _ _ _=>rfl;have:m / 6 % 3=0\/m / 6 % 3=1\/m / 6 % 3=2:=by lia
 rcases this with h | h | h
 .refine⟨⟨"zzzzzzzzzz","zzzzzzzzzz","row",1,false,false⟩,.inl rfl,.inr rfl,.inr rfl,.inl rfl,?_⟩;unfold gD;rw [ap,show ai (f::p) (u.take 7++[⟨"zzzzzzzzzz","zzzzzzzzzz","row",1,false,false⟩]) i=.tup [.lst (ae f::p.map ae),.lst ((u.map af).take 7++[.tup [.str "zzzzzzzzzz",.str "zzzzzzzzzz",.str "row",.int 1,.bl false,.bl false]]),.lst i] by unfold ai;rw [List.map_append,mr];rfl];generalize ai (f::p) u i=q at *
  generalize ae f=t at *
  generalize p.map ae=r at *
  generalize u.map af=v at *
  simp [aC,un,s,h,x,aE,aD,k,ad,n,l]
 .refine⟨⟨f.name,"zzzzzzzzzz","heap",1,false,false⟩,.inr rfl,.inl rfl,.inr rfl,.inr rfl,?_⟩;unfold gD;rw [ap,show ai (f::p) (u.take 7++[⟨f.name,"zzzzzzzzzz","heap",1,false,false⟩]) i=.tup [.lst (ae f::p.map ae),.lst ((u.map af).take 7++[.tup [.str f.name,.str "zzzzzzzzzz",.str "heap",.int 1,.bl false,.bl false]]),.lst i] by unfold ai;rw [List.map_append,mr];rfl];generalize ai (f::p) u i=q at *
  generalize ae f=t at *
  generalize p.map ae=r at *
  generalize u.map af=v at *
  simp [aC,un,s,h,x,aE,aD,k,ad,n,l]
 .refine⟨⟨"zzzzzzzzzz",f.name,"row",2,false,false⟩,.inl rfl,.inr rfl,.inl rfl,.inl rfl,?_⟩;unfold gD;rw [ap,show ai (f::p) (u.take 7++[⟨"zzzzzzzzzz",f.name,"row",2,false,false⟩]) i=.tup [.lst (ae f::p.map ae),.lst ((u.map af).take 7++[.tup [.str "zzzzzzzzzz",.str f.name,.str "row",.int 2,.bl false,.bl false]]),.lst i] by unfold ai;rw [List.map_append,mr];rfl];generalize ai (f::p) u i=q at *
  generalize ae f=t at *
  generalize p.map ae=r at *
  generalize u.map af=v at *
  simp [aC,un,s,h,x,aE,aD,k,ad,n,l]
theorem gh (h:Pst t u i) (b:fE t u=some b2) (n:¬Good t u i b2):Ci (ai t u i):=⟨t,u,i,b2,rfl,h.wf,b,n⟩
theorem ll:strOk "zzzzzzzzzz":=bO ib
theorem vV (l:u.length≤8):fE t (z::z::u)=some false:=by
 unfold fE;split
 .rfl
 .have h:ef ((z::z::u).map cj)=none:=lq;have x:=jw (z::z::u);have n:¬((z::z::u).map fun r=>[(Sum.inr r.one:cS),Sum.inr r.other]).Nodup:=fun q=>by
   rw [List.map_cons,List.map_cons,List.nodup_cons] at q;exact q.1 List.mem_cons_self
  have s:kL ((z::z::u).map cj)=none:=by unfold kL;rw [h,x];dsimp only;rw [if_neg fun q=>n q.1]
  have w:vq ((z::z::u).map fun r=>[(Sum.inr r.one:cS),Sum.inr r.other])=true:=by rw [List.map_cons,List.map_cons];exact dH rfl
  unfold ik;rw [s,h,x];dsimp only;rw [if_pos];rw [w,List.length_map];simp;lia
variable {x:Str}
theorem mD (s:cK x=true) (e:strOk r):WfS (eR x r) where
 n:=s
 a:=e
 w:=⟨⟨1,by lia,qN⟩,fun y f=>by simp [eR] at f,by simp [eR]⟩
 k:=fun b t=>by simp [eR] at t
 cl:=by simp [eR]
 c:=fun c h=>by simp [eR] at h
 sl:=by simp [eR]
 sv:=fun c h=>by simp [eR] at h
 g:=e
theorem xo:∀{t:List Fam},(∀f ∈ t,bp f)->0≤(t.map Fam.hands).sum
 | [],_=>by simp
 | f::t,h=>by
  have:=xo (t:=t) (fun g x=>h g (bE _ x));have:=(h f List.mem_cons_self).1
  simp;lia
theorem uf {x s:Str}:∀{t:List Fam},(∀f ∈ t,f.name≠x)->hQ x s t=false
 | [],_=>rfl
 | f::t,h=>by unfold hQ;rw [if_neg (h f List.mem_cons_self)];exact uf fun g a=>h g (bE _ a)
theorem Fams.odd {i:Int} (h:Fams i t):∀f ∈ t,oa f.name=false:=fun f x=>by have:f.name ∈ t.map Fam.name:=gI x;rw [h.nms] at this;obtain⟨k,a,e⟩:=bb.mp this;rw [<- e];exact wj _ (by have:=bt.mp a;have:=h.l2;lia)
theorem wc (h:oa x=false):x≠"zzzzzzzzzz":=fun e=>by subst e;revert h;decide +kernel
theorem wd (h:oa x=false):x≠"qqq":=fun e=>by subst e;revert h;decide +kernel
theorem j_ (h:∀y ∈ K,y≠x):aS K x=false:=fu.mpr fun q=>h x (iu.mp q) rfl
theorem yx (S l:Str->GF) (H:Str->GX) (h:Plan t u i) (m:Int):∃W,Ci W/\pureOf (cq 2 12 (aC S l H)) [ai t u i,.int m]=some W:=by
 obtain⟨L,A⟩:=h.fms;have s:=h.pst;have j:=A.odd;have V:=A.l2;have rl:=h.rl;have wl:=h.wl;cases t with
 | nil=>have:=A.l1;simp at this
 | cons f p=>
  have R:=A.ok f List.mem_cons_self;have a:=s.f f List.mem_cons_self;have B:∀g ∈ p,Fst g:=fun g n=>s.f g (bE _ n);simp only [bo] at V;have:m % 6=0\/m % 6=1\/m % 6=2\/m % 6=3\/m % 6=4\/m % 6=5:=by lia
  rcases this with k | k | k | k | k | k
  .have:m / 6 % 2=0\/m / 6 % 2=1:=by lia
   rcases this with K | K
   .refine⟨_,?_,Lk S l H k K (by simp;lia)⟩;refine gh (t:=[]) (u:=[]) (i:=[]) (b2:=true) ⟨by simp,(fun _ q=>by cases q),(fun _ q=>by cases q),by simp,by simp,(fun _ q=>by cases q)⟩ (by rfl) fun g=>?_;have:=(kc g.f).1.1
    simp at this
   .obtain⟨b,F⟩:=h.nd (f::p++[cb 1,cb 2,cb 3,cb 4]);refine⟨_,?_,Lj S l H k K (by simp;lia)⟩;refine gh ⟨by simp;lia,fun g n=>?_,s.r,s.rl,s.wl,s.w⟩ F fun g=>?_
    .rcases bi.mp n with q | q
     .exact s.f g q
     .simp only [List.mem_cons,List.not_mem_nil,or_false] at q;rcases q with rfl | rfl | rfl | rfl <;> exact zQ (by lia)
    .have:=(kc g.f).1.2;simp at this
  .obtain⟨x,hx,e⟩:=Li S l H (f:=f) (p:=p) (u:=u) (i:=i) k (by lia);obtain⟨b,F⟩:=h.nd (ti f x::p);refine⟨_,?_,e⟩;refine gh ⟨by simp;lia,fun g n=>?_,s.r,s.rl,s.wl,s.w⟩ F fun g=>?_
   .rcases List.mem_cons.mp n with rfl | q
    .exact⟨a.rm,a.cw,a.nm,a.sl,a.st⟩
    .exact B g q
   .obtain⟨_,_,O,Q⟩:=kc g.f;have M:=(b' (O _ List.mem_cons_self)).1;have g6:¬x < 1:=fun q=>by
     unfold DQ at M;simp [ti,q] at M
    have g7:=xo (t:=p) fun g n=>A.ok g (bE _ n);have g8:x+(p.map Fam.hands).sum≤5:=by simpa [ti] using Q
    lia
  .refine⟨_,?_,M9 S l H k (by lia)⟩;refine gh (b2:=false) ⟨s.l,s.f,fun r d=>?_,by simp;lia,s.wl,s.w⟩ (vV (by lia)) fun g=>by have:=g.r;cases this
   have o:strOk "row":=by unfold strOk;decide +kernel
   rcases List.mem_cons.mp d with rfl | q
   .exact⟨bO a.nm,bO a.nm,o⟩
   .rcases List.mem_cons.mp q with rfl | q
    .exact⟨bO a.nm,bO a.nm,o⟩
    .exact s.r r q
  .have D:=R.2.1;cases d:f.rooms with
   | nil=>rw [d] at D;simp at D
   | cons r rr=>
    have J:strOk r:=bO (a.rm.2 r (by rw [d];exact List.mem_cons_self));obtain⟨b,F⟩:=h.nd (ij f [aX (eR "zzzzzzzzzz" r)]::p);refine⟨_,?_,M8 S l H d k (by lia)⟩;refine gh ⟨by simp;lia,fun g n=>?_,s.r,s.rl,by simp,fun v P=>?_⟩ F fun g=>?_
    .rcases List.mem_cons.mp n with rfl | q
     .exact⟨a.rm,a.cw,a.nm,by simp [ij],fun v P=>⟨eR "zzzzzzzzzz" r,by simpa [ij] using P,mD ib J⟩⟩
     .exact B g q
    .rw [List.mem_replicate] at P;exact⟨_,P.2,kD _ List.mem_cons_self,ll,bO a.nm⟩
    .have:=g.l;simp at this
  .obtain⟨w,N,e⟩:=M7 S l H (f:=f) (p:=p) (u:=u) (i:=i) k (by lia);obtain⟨b,F⟩:=h.nd (f::p);have c:strOk "fair":=by unfold strOk;decide +kernel
   have E:WfW w:=by
    rcases N with rfl | rfl
    .exact⟨c,ll,bO a.nm⟩
    .exact⟨kD _ List.mem_cons_self,ll,ll⟩
   refine⟨_,?_,e⟩;refine gh ⟨s.l,s.f,s.r,s.rl,by simp;lia,fun v P=>?_⟩ F fun g=>?_
   .rcases bi.mp P with q | q
    .exact s.w v (fw q)
    .exact⟨w,bP.mp q,E⟩
   .have:=g.w w E (List.mem_append_right _ List.mem_cons_self);unfold w_ at this;split at this
    .cases this
    .rename_i T;rcases N with rfl | rfl
     .exact T (show (!aS [("weak":Str),"strong"] "fair")=true by decide +kernel)
     .rw [uf fun g n=>wc (j g n)] at this;cases this
  .obtain⟨z,I,X,Y,Z,e⟩:=M6 S l H (f:=f) (p:=p) (u:=u) (i:=i) k (by lia);have C:aS ((f::p).map Fam.name) "zzzzzzzzzz"=false:=j_ fun y U=>by
    obtain⟨g,n,rfl⟩:=bb.mp U;exact wc (j g n)
   have d:ed ((f::p).map Fam.name) z=false:=by
    unfold ed;rcases I with I | I
    .rw [I,C];rfl
    .rw [I,C,Bool.false_and,Bool.and_false]
   have G:∀{x:Str},(x=f.name\/x="zzzzzzzzzz")->strOk x:=fun {x} q=>by
    rcases q with rfl | rfl
    .exact bO a.nm
    .exact ll
   refine⟨_,?_,e⟩;refine gh (b2:=false) ⟨s.l,s.f,fun r d=>?_,by simp;lia,s.wl,s.w⟩ (o6 (List.mem_append_right _ List.mem_cons_self) d) fun g=>by have:=g.r;cases this
   rcases bi.mp d with q | q
   .exact s.r r (fw q)
   .rw [bP.mp q];exact⟨G X,G Y,tU _ (by rcases Z with q | q <;> rw [q] <;> simp)⟩
theorem yy (n:Nat) (h:Plan t u i) (m:Int):∃W,Ci W/\pureOf (Pa (n+2) "_law_wrong_list") [ai t u i,.int m]=some W:=by rw [jG];exact yx _ _ _ h m
noncomputable def ER:LS:=["","A","abcdefghijk","a1","a b","or","and","not","true","a-","abcdefghijklmnopqrst"," a"]
theorem B5:(ER.all fun x=>!aH x && cK x)=true:=by decide +kernel
noncomputable def E2 (K:LS) (x:Str):Prop:=(x ∈ K\/aH x=false)/\cK x=true
noncomputable def n3 (h:Str->GF):Prop:=∀(K:LS) (m:Int),(∀x ∈ K,cK x=true)->K.length≤4000->∃x,E2 K x/\pureOf (h "_law_bad_name") [.int m,.lst (aq K)]=some (.str x)
theorem Eb (n:Nat):n3 (Pa (n+2)):=fun K m d j=>by
 have i:K.length≤1000000:=by lia
 have r:(aq K).length=K.length:=iP K;by_cases h:m % 2=0/\0 < K.length
 .obtain⟨x,a,e⟩:=i9 (K:=K) (by intro z;rw [z] at h;simp at h) (m / 2);refine⟨x,⟨.inl a,d x a⟩,?_⟩;have s:(0:Int) < (K.length:Int):=by lia
  have p:K.length≠0:=by lia
  have q:¬(K.length:Int)=0:=by lia
  rw [gz,ap];generalize aq K=g at *
  simp [dm,h.1,h.2,s,p,q,bC,bF,r,i,e]
 .obtain⟨v,u,e⟩:=su (s:=aq ER) (k:=m / 2 % 12) (by lia) (by show _ < (12:Int);lia);obtain⟨x,a,rfl⟩:=bb.mp u;have b:=aW.mp B5 x a;simp only [Bool.and_eq_true,pY] at b;refine⟨x,⟨.inr b.1,b.2⟩,?_⟩;have f:L2.atI [P.str "",.str "A",.str "abcdefghijk",.str "a1",.str "a b",.str "or",.str "and",.str "not",.str "true",.str "a-",.str "abcdefghijklmnopqrst",.str " a"] (m / 2 % 12)=some (.str x):=e;rw [gz,ap];generalize aq K=g at *
  generalize w:[P.str "",.str "A",.str "abcdefghijk",.str "a1",.str "a b",.str "or",.str "and",.str "not",.str "true",.str "a-",.str "abcdefghijklmnopqrst",.str " a"]=l at *
  have t:l.length=12:=by rw [<- w];rfl
  by_cases c:m % 2=0
  .have s:K.length=0:=by lia
   simp [dm,c,s,bC,bF,r,w,t,f]
  .simp [dm,c,w,t,f]
noncomputable def yq (h:Str->GF):Prop:=∀(x:List P) (k:Nat) (v:P),k < x.length->x.length≤4000->pureOf (h "_law_set") [.lst x,.int (k:Int),v]=some (.lst (x.set k v))
theorem xu (n:Nat):yq (Pa (n+2)):=fun x k v h m=>by
 have b:=jU x k;have c:cT (.lst x) (some ((k:Int)+1)) none=some (.lst (x.drop (k+1))):=xq x (k+1);have e:x.take k++v::x.drop (k+1)=x.set k v:=(List.set_eq_take_append_cons_drop (a:=v) ▸ by simp [h]);have l:min k x.length+1≤1000000:=by lia
 have s:min k x.length+(x.length-(k+1)+1)≤1000000:=by lia
 have f:min k x.length+1+(x.length-(k+1))≤1000000:=by lia
 rw [uh,ap];simp [lC,aE,aD,b,c,l,s,f,e]
noncomputable def oth (k:Nat):Nat->List Fam->LS
 | _,[]=>[]
 | i,f::r=>if i=k then oth k (i+1) r else f.name::oth k (i+1) r
theorem ma:∀{i:Nat}{t:List Fam},x ∈ oth k i t->∃j,i+j≠k/\(t.map Fam.name)[j]? = some x
 | _,[],h=>by cases h
 | i,f::r,h=>by
  unfold oth at h;split at h
  .obtain⟨j,a,e⟩:=ma h;exact⟨j+1,by lia,by simpa using e⟩
  .rename_i s;rcases List.mem_cons.mp h with rfl | h
   .exact⟨0,by lia,by simp⟩
   .obtain⟨j,a,e⟩:=ma h;exact⟨j+1,by lia,by simpa using e⟩
theorem xI {k:Nat}:∀(i:Nat) (t:List Fam),(oth k i t).length≤t.length
 | _,[]=>Nat.le_refl _
 | i,f::r=>by have:=xI (k:=k) (i+1) r;unfold oth;split <;> simp <;> lia
theorem tB (k:Nat) (b c m p v d w u g a x e s:Option D):∀(t:List Fam) (i:Nat) (q r:Option D),aJ (cP [ah 14,ah 15]) (bV (aG n5 (ac 14) (ac 5))) (ag aA (vv 15) (vi 0)) (em (i:Int) (t.map ae)) [b,c,m,p,v,qi (k:Int),d,w,u,g,a,x,e,s,q,r] S=some (aq (oth k i t),S)
 | [],i,q,r=>rfl
 | f::t,i,q,r=>by
  have n:=tB (S:=S) k b c m p v d w u g a x e s t (i+1) (qi (i:Int)) (qp (ae f));have j:aA (ae f) (.int 0)=some (.str f.name):=rfl;have l:((i+1:Nat):Int)=(i:Int)+1:=by lia
  rw [l] at n;rw [List.map_cons];show aJ _ _ _ (.tup [.int (i:Int),ae f]::em ((i:Int)+1) (t.map ae)) _ _=_;generalize ae f=z at *
  unfold oth;by_cases h:i=k
  .subst h;simp [aJ,n]
  .have y:¬(i:Int)=(k:Int):=by lia
   simp [aJ,n,h,y,j,aq]
noncomputable def iL (t:List Fam) (k:Nat) (g:Fam):Prop:=i4 g=true->n4 ((t.set k g).map Fam.name)=true->False
noncomputable def n2 (a h:Str->GF) (x:Str->GX) (t:List Fam) (u:List Road) (i:List P) (k:Nat) (m:Int) (f g:Fam):Prop:=∃q,jL a h x [qp (ai t u i),qi (m / 40),ql (t.map ae),ql (u.map af),ql i,qi (k:Int),qs f.name,qi f.hands,ql (aq f.rooms),ql (f.cells.map a_),ql (aq f.whos),ql f.steps,qi (m / 4 % 10),none] []=some (.nx,[qp (ai t u i),qi (m / 40),ql (t.map ae),ql (u.map af),ql i,qi (k:Int),qs g.name,qi g.hands,ql (aq g.rooms),ql (g.cells.map a_),ql (aq g.whos),ql g.steps,qi (m / 4 % 10),q],[])
theorem uJ (n:List Cel) (k b m r t p v d w u a h x s q:Option D):aJ (ah 14) aZ (ag aA (vv 14) (vi 0)) (n.map a_) [k,b,m,r,t,p,v,d,w,u,a,h,x,s,q] S=some (aq (n.map Cel.name),S):=by have:=comp_map (f:=a_) (g:=fun c=>P.str c.name) (S:=S) (tgt:=ah 14) (e:=ag aA (vv 14) (vi 0)) (fun q=>[k,b,m,r,t,p,v,d,w,u,a,h,x,s,q]) (fun _ _=>rfl) (xs:=n) (fun c _=>by simp [a_]) q;rw [this];simp [aq]
theorem z8 (a:x ∈ K) (h:aH x=false):n4 K=false:=by
 unfold n4;rw [Bool.and_eq_false_iff];refine .inl (fu.mpr fun q=>?_);have:=aW.mp q x a
 rw [h] at this;cases this
theorem vn (h:¬K.Nodup):n4 K=false:=by unfold n4;rw [Bool.and_eq_false_iff];exact .inr (decide_eq_false h)
theorem vo (h:E2 K x) (r:LS):n4 (K++x::r)=false:=by
 rcases h.1 with q | q
 .refine vn fun z=>?_;have:=(jq.mp z).2.2 x q x List.mem_cons_self
  exact this rfl
 .exact z8 (List.mem_append_right _ List.mem_cons_self) q
theorem Nh (c n:Str->GF) (b:Str->GX) (t:List Fam) (u:List Road) (i:List P) (k:Nat) (m:Int) (h:Fst f) (s:m / 4 % 10=1):∃g,n2 c n b t u i k m f g/\Fst g/\iL t k g:=by
 have:m / 40 % 2=0\/m / 40 % 2=1:=by lia
 rcases this with a | a
 .refine⟨⟨f.name,f.hands,[],f.cells,f.whos,f.steps⟩,⟨none,?_⟩,⟨⟨by simp,fun x e=>by cases e⟩,h.cw,h.nm,h.sl,h.st⟩,fun q _=>?_⟩
  .rw [show aq []=[] from rfl];generalize ai t u i=p at *
   simp [jL,s,a]
  .have:=(b' q).1;simp [DQ] at this
 .refine⟨⟨f.name,f.hands,["a","b","c","d","e","f","g","h","i"],f.cells,f.whos,f.steps⟩,⟨none,?_⟩,⟨⟨by simp,fun x e=>?_⟩,h.cw,h.nm,h.sl,h.st⟩,fun q _=>?_⟩
  .generalize ai t u i=p at *
   simp [jL,s,a,aq]
  .exact aW.mp (show (([("a":Str),"b","c","d","e","f","g","h","i"]).all cK)=true by decide +kernel) x e
  .have:=(b' q).1;simp [DQ] at this
theorem Ng (p:Str->GF) (v:Str->GX) (b:n3 d) (t:List Fam) (u:List Road) (i:List P) (k:Nat) (m:Int) (h:Fst f) (s:m / 4 % 10=2):∃g,n2 d p v t u i k m f g/\Fst g/\iL t k g:=by
 have K:∀x ∈ f.rooms.take 7,cK x=true:=fun x a=>h.rm.2 x (fw a);obtain⟨x,a,e⟩:=b (f.rooms.take 7) (m / 40) K (by simp;lia);have c:cT (.lst (aq f.rooms)) none (some 7)=some (.lst (aq (f.rooms.take 7))):=by rw [show (7:Int)=((7:Nat):Int) from rfl,jU];simp [aq]
 have l:min 7 f.rooms.length+1≤1000000:=by lia
 refine⟨⟨f.name,f.hands,f.rooms.take 7++[x],f.cells,f.whos,f.steps⟩,⟨none,?_⟩,⟨⟨by simp;lia,fun y n=>?_⟩,h.cw,h.nm,h.sl,h.st⟩,fun q _=>?_⟩
 .rw [show aq (f.rooms.take 7++[x])=aq (f.rooms.take 7)++[.str x] by simp [aq]];have r:(aq (f.rooms.take 7)).length=min 7 f.rooms.length:=by simp
  generalize ai t u i=w at *
  generalize aq (f.rooms.take 7)=j at *
  simp [jL,s,aE,aD,c,e,r,l]
 .rcases bi.mp n with z | z
  .exact K y z
  .rw [bP.mp z];exact a.2
 .have:=(b' q).2.2.1;simp [DO,vo a []] at this
theorem Nf (ι:Str->GF) (υ:Str->GX) (Q:n3 ψ) (t:List Fam) (u:List Road) (i:List P) (k:Nat) (m:Int) (h:Fst f) (o:bp f) (T:m / 4 % 10=3):∃g,n2 ψ ι υ t u i k m f g/\Fst g/\iL t k g:=by
 have w:=h.cw.1;rw [bN,List.length_map] at w;have K:∀x ∈ (f.cells.take 2).map Cel.name++f.whos,cK x=true:=fun x a=>h.cw.2 x (by
  rcases bi.mp a with q | q
  .obtain⟨c,R,rfl⟩:=bb.mp q;exact dv _ (gI (fw R))
  .exact List.mem_append_right _ q)
 obtain⟨x,a,e⟩:=Q ((f.cells.take 2).map Cel.name++f.whos) (m / 40) K (by simp;lia);have Y:cT (.lst (f.cells.map a_)) none (some 2)=some (.lst ((f.cells.take 2).map a_)):=by rw [show (2:Int)=((2:Nat):Int) from rfl,jU,mr]
 have N:=fun A B C D E G I J L M s n b r q=>uJ (S:=[]) (f.cells.take 2) A B C D E G I J L M s n b r q;have U:min 2 f.cells.length≤1000000:=by lia
 have V:min 2 f.cells.length+1≤1000000:=by lia
 have W:min 2 f.cells.length+f.whos.length≤1000000:=by lia
 have Z:aq ((f.cells.take 2).map Cel.name)++aq f.whos=aq ((f.cells.take 2).map Cel.name++f.whos):=l_ ..;refine⟨⟨f.name,f.hands,f.rooms,f.cells.take 2++[⟨x,0,1,0⟩],f.whos,f.steps⟩,⟨none,?_⟩,⟨h.rm,⟨by have:=o.2.2.2.2.2.2.2.2.2.2.1;simp;lia,fun y F=>?_⟩,h.nm,h.sl,h.st⟩,fun q _=>?_⟩
 .rw [show (f.cells.take 2++[(⟨x,0,1,0⟩:Cel)]).map a_=(f.cells.take 2).map a_++[.tup [.str x,.int 0,.int 1,.int 0]] by rw [List.map_append];rfl];have sl:((f.cells.take 2).map a_).length=min 2 f.cells.length:=by simp
  have l:(aq ((f.cells.take 2).map Cel.name)).length=min 2 f.cells.length:=by simp
  have H:(aq f.whos).length=f.whos.length:=by simp
  generalize ai t u i=pp at *
  generalize (f.cells.take 2).map a_=cl at *
  generalize aq ((f.cells.take 2).map Cel.name++f.whos)=kl at *
  generalize aq ((f.cells.take 2).map Cel.name)=O at *
  generalize aq f.whos=wsl at *
  simp [jL,T,aE,aD,Y,au,sl,l,H,U,c_,N,W,Z,e,V]
 .rw [List.map_append,dQ] at F;rcases bi.mp F with z | z
  .exact K y (dv _ z)
  .rcases List.mem_cons.mp z with rfl | z
   .exact a.2
   .exact K y (List.mem_append_right _ z)
 .have p:=(b' q).2.2.1;have:n4 (((f.cells.take 2++[(⟨x,0,1,0⟩:Cel)]).map Cel.name)++f.whos)=false:=by
   rw [List.map_append,dQ];show n4 ((f.cells.take 2).map Cel.name++x::f.whos)=false;rcases a.1 with z | z
   .refine vn fun X=>?_;obtain⟨_,d,j⟩:=jq.mp X;rcases bi.mp z with z | z
    .exact j x z x List.mem_cons_self rfl
    .exact (List.nodup_cons.mp d).1 z
   .exact z8 (List.mem_append_right _ List.mem_cons_self) z
  unfold DO at p;rw [Bool.or_eq_false_iff] at p;have v:=p.2;dsimp only at v;rw [this] at v;cases v
end My
namespace My
open PySem L2 Ev
variable {p:Str->GF}{f:Fam}
theorem Ni (X:Str->GF) (Y:Str->GX) (N:n3 p) (s:List Fam) (D:∀g ∈ s,Fst g) (O:s.length≤100) (w:List Road) (t:List P) (I:k < s.length) (m:Int) (d:Fst f) (R:m / 4 % 10=0):∃g,n2 p X Y s w t k m f g/\Fst g/\iL s k g:=by
 have M:∀x ∈ oth k 0 s,cK x=true:=fun x u=>by obtain⟨j,_,e⟩:=ma u;obtain⟨g,Q,rfl⟩:=bb.mp (cV e);exact (D g Q).nm
 have ol:=xI (k:=k) 0 s;obtain⟨x,u,e⟩:=N (oth k 0 s) (m / 40) M (by lia);have W:=fun l y o H F K A B C a h n b q r=>tB (S:=[]) k l y o H F K A B C a h n b s 0 q r;have L:(em 0 (s.map ae)).length≤1000000:=by
  have:∀(v:List P) (i:Int),(em i v).length=v.length:=by
   intro v;induction v with
   | nil=>intro i;rfl
   | cons x v U=>intro i;simp [em,U]
  rw [this];simp;lia
 refine⟨⟨x,f.hands,f.rooms,f.cells,f.whos,f.steps⟩,⟨none,?_⟩,⟨d.rm,d.cw,u.2,d.sl,d.st⟩,fun _ q=>?_⟩
 .have G:∀l y o H F K A B C a h n b q r,aJ (cP [ah 14,ah 15]) (bV (aG n5 (ac 14) (ac 5))) (ag aA (vv 15) (vi 0)) (em 0 (s.map ae)) [l,y,o,H,F,qi (k:Int),K,A,B,C,a,h,n,b,q,r] []=some (aq (oth k 0 s),[]):=W;generalize ai s w t=pp at *
  generalize aq (oth k 0 s)=on at *
  simp [jL,R,au,Jp,L,c_,G,e]
 .have T:n4 ((s.set k ⟨x,f.hands,f.rooms,f.cells,f.whos,f.steps⟩).map Fam.name)=false:=by
   have c:((s.set k ⟨x,f.hands,f.rooms,f.cells,f.whos,f.steps⟩).map Fam.name)[k]? = some x:=by simp [I]
   rcases u.1 with z | z
   .refine vn fun V=>?_;obtain⟨j,Z,J⟩:=ma z;have E:((s.set k ⟨x,f.hands,f.rooms,f.cells,f.whos,f.steps⟩).map Fam.name)[j]? = some x:=by
     rw [List.getElem?_map,cU (by lia),<- List.getElem?_map];exact J
    have:=(List.getElem?_inj (i:=k) (j:=j) (by simpa using I) V).mp (c.trans E.symm);lia
   .exact z8 (cV c) z
  rw [T] at q;cases q
noncomputable def jZ (k:Nat):Str:=⟨(List.replicate k 113).toArray⟩
theorem xy:∀k,k≤10->cK (jZ k)=true:=by decide +kernel
theorem C9 (s n k f b c m r t p a h x e q:Option D):aJ (ah 14) aZ (aj (v4 (ag cB (vt "q") (ag aB (vv 14) (vi 1))) (vi 0) (vi 1) (vi 0))) (intsFrom 0 4) [s,n,k,f,b,c,m,r,t,p,a,h,x,e,q] []=some ([(⟨jZ 1,0,1,0⟩:Cel),⟨jZ 2,0,1,0⟩,⟨jZ 3,0,1,0⟩,⟨jZ 4,0,1,0⟩].map a_,[]):=by
 have v:cB (.str "q") (.int 1)=some (.str (jZ 1)):=by rfl
 have d:cB (.str "q") (.int 2)=some (.str (jZ 2)):=by rfl
 have w:cB (.str "q") (.int 3)=some (.str (jZ 3)):=by rfl
 have u:cB (.str "q") (.int 4)=some (.str (jZ 4)):=by rfl
 rw [show intsFrom 0 4=[P.int 0,.int 1,.int 2,.int 3] from rfl];simp [aJ,v,d,w,u,a_,-pA]
theorem Nd (p d:Str->GF) (u:Str->GX) (s:List Fam) (w:List Road) (t:List P) (k:Nat) (m:Int) (h:Fst f) (o:bp f) (b:m / 4 % 10=4):∃g,n2 p d u s w t k m f g/\Fst g/\iL s k g:=by
 have j:=o.2.2.2.2.2.2.2.2.2.2.1;have a:∀x ∈ f.whos,cK x=true:=fun x e=>h.cw.2 x (List.mem_append_right _ e);have c:=C9;have l:(intsFrom 0 4).length=4:=rfl;have i:(([(⟨jZ 1,0,1,0⟩:Cel),⟨jZ 2,0,1,0⟩,⟨jZ 3,0,1,0⟩,⟨jZ 4,0,1,0⟩].map a_)).length=4:=rfl;have:m / 40 % 2=0\/m / 40 % 2=1:=by lia
 rcases this with n | n
 .refine⟨⟨f.name,f.hands,f.rooms,[⟨"it",0,1,0⟩],f.whos,f.steps⟩,⟨none,?_⟩,⟨h.rm,⟨by simp;lia,fun x e=>?_⟩,h.nm,h.sl,h.st⟩,fun q _=>?_⟩
  .rw [show [(⟨"it",0,1,0⟩:Cel)].map a_=[.tup [.str "it",.int 0,.int 1,.int 0]] from rfl];generalize ai s w t=r at *
   generalize ([(⟨jZ 1,0,1,0⟩:Cel),⟨jZ 2,0,1,0⟩,⟨jZ 3,0,1,0⟩,⟨jZ 4,0,1,0⟩].map a_)=v at *
   simp [jL,b,n,au,l,c_,c]
  .rcases List.mem_cons.mp e with rfl | z
   .decide +kernel
   .exact a x z
  .have:=(b' q).2.2.2.1;simp [EI,aS] at this
 .refine⟨⟨f.name,f.hands,f.rooms,[⟨jZ 1,0,1,0⟩,⟨jZ 2,0,1,0⟩,⟨jZ 3,0,1,0⟩,⟨jZ 4,0,1,0⟩],f.whos,f.steps⟩,⟨none,?_⟩,⟨h.rm,⟨by simp;lia,fun x e=>?_⟩,h.nm,h.sl,h.st⟩,fun q _=>?_⟩
  .dsimp only;generalize ai s w t=r at *
   generalize ([(⟨jZ 1,0,1,0⟩:Cel),⟨jZ 2,0,1,0⟩,⟨jZ 3,0,1,0⟩,⟨jZ 4,0,1,0⟩].map a_)=v at *
   simp [jL,b,n,au,l,c_,c]
  .rcases bi.mp e with z | z
   .simp only [List.map_cons,eO,List.mem_cons,List.not_mem_nil,or_false] at z;rcases z with rfl | rfl | rfl | rfl <;> exact xy _ (by lia)
   .exact a x z
  .have:=(b' q).2.1;simp [DP] at this
theorem FK:cK "qq"=true:=by decide +kernel
theorem Nc (p K:Str->GF) (A:Str->GX) (s:List Fam) (w:List Road) (t:List P) (k:Nat) (m:Int) (n:Fst f) (o:bp f) (i:m / 4 % 10=5):∃g,n2 p K A s w t k m f g/\Fst g/\iL s k g:=by
 have C:=o.2.2.2.2.2.2.2.2.2.2.1;have y:∃a b c:Int,nV ⟨"qq",a,b,c⟩=false/\L2.atI [P.tup [.int 5,.int 4,.int 4],.tup [.int 0,.int 10,.int 3],.tup [.int 0,.int 9,.int 10],.tup [.int 0,.int 9,.int (-1)],.tup [.int (-3),.int (-4),.int (-3)],.tup [.int 1,.int 3,.int 0]] (m / 40 % 6)=some (.tup [.int a,.int b,.int c]):=by
  have:m / 40 % 6=0\/m / 40 % 6=1\/m / 40 % 6=2\/m / 40 % 6=3\/m / 40 % 6=4\/m / 40 % 6=5:=by lia
  rcases this with h | h | h | h | h | h <;> rw [h]
  .exact⟨5,4,4,by decide +kernel,rfl⟩
  .exact⟨0,10,3,by decide +kernel,rfl⟩
  .exact⟨0,9,10,by decide +kernel,rfl⟩
  .exact⟨0,9,-1,by decide +kernel,rfl⟩
  .exact⟨-3,-4,-3,by decide +kernel,aI (by decide) rfl⟩
  .exact⟨1,3,0,by decide +kernel,aI (by decide) rfl⟩
 obtain⟨a,b,c,v,e⟩:=y;have H:cT (.lst (f.cells.map a_)) none (some 2)=some (.lst ((f.cells.take 2).map a_)):=by rw [show (2:Int)=((2:Nat):Int) from rfl,jU,mr]
 have ad:aB (.tup [.str "qq"]) (.tup [.int a,.int b,.int c])=some (.tup [.str "qq",.int a,.int b,.int c]):=rfl;have j:min 2 f.cells.length+1≤1000000:=by lia
 refine⟨⟨f.name,f.hands,f.rooms,f.cells.take 2++[⟨"qq",a,b,c⟩],f.whos,f.steps⟩,⟨qp (.tup [.int a,.int b,.int c]),?_⟩,⟨n.rm,⟨by simp;lia,fun x d=>?_⟩,n.nm,n.sl,n.st⟩,fun q _=>?_⟩
 .rw [show (f.cells.take 2++[(⟨"qq",a,b,c⟩:Cel)]).map a_=(f.cells.take 2).map a_++[.tup [.str "qq",.int a,.int b,.int c]] by rw [List.map_append];rfl];have S:((f.cells.take 2).map a_).length=min 2 f.cells.length:=by simp
  generalize ai s w t=D at *
  generalize (f.cells.take 2).map a_=B at *
  generalize r:[P.tup [.int 5,.int 4,.int 4],.tup [.int 0,.int 10,.int 3],.tup [.int 0,.int 9,.int 10],.tup [.int 0,.int 9,.int (-1)],.tup [.int (-3),.int (-4),.int (-3)],.tup [.int 1,.int 3,.int 0]]=l at *
  have F:l.length=6:=by rw [<- r];rfl
  simp [jL,i,r,F,e,aE,aD,H,ad,S,j]
 .rw [List.map_append,dQ] at d;rcases bi.mp d with z | z
  .obtain⟨c,u,rfl⟩:=bb.mp z;exact n.cw.2 _ (dv _ (gI (fw u)))
  .rcases List.mem_cons.mp z with rfl | z
   .exact FK
   .exact n.cw.2 x (List.mem_append_right _ z)
 .have:=(b' q).2.2.2.2 ⟨"qq",a,b,c⟩ (List.mem_append_right _ List.mem_cons_self);rw [v] at this;cases this
theorem Nb (Z:Str->GF) (υ:Str->GX) (N:n3 p) (s:List Fam) (w:List Road) (t:List P) (k:Nat) (m:Int) (h:Fst f) (o:bp f) (Q:m / 4 % 10=6):∃g,n2 p Z υ s w t k m f g/\Fst g/\iL s k g:=by
 have u:=h.cw.1;rw [bN,List.length_map] at u;have K:∀x ∈ f.cells.map Cel.name++f.whos.take 1,cK x=true:=fun x a=>h.cw.2 x (by
  rcases bi.mp a with q | q
  .exact dv _ q
  .exact List.mem_append_right _ (fw q))
 obtain⟨x,a,e⟩:=N (f.cells.map Cel.name++f.whos.take 1) (m / 40) K (by simp;lia);have V:cT (.lst (aq f.whos)) none (some 1)=some (.lst (aq (f.whos.take 1))):=by rw [show (1:Int)=((1:Nat):Int) from rfl,jU];simp [aq]
 have L:=fun H F A B C D E G I J n b c r q=>uJ (S:=[]) f.cells H F A B C D E G I J n b c r q;have R:f.cells.length≤1000000:=by lia
 have T:min 1 f.whos.length+1≤1000000:=by lia
 have U:f.cells.length+min 1 f.whos.length≤1000000:=by lia
 have W:aq (f.cells.map Cel.name)++aq (f.whos.take 1)=aq (f.cells.map Cel.name++f.whos.take 1):=l_ ..;refine⟨⟨f.name,f.hands,f.rooms,f.cells,f.whos.take 1++[x],f.steps⟩,⟨none,?_⟩,⟨h.rm,?_,h.nm,h.sl,h.st⟩,fun q _=>?_⟩
 .rw [show aq (f.whos.take 1++[x])=aq (f.whos.take 1)++[.str x] by simp [aq]];have X:(f.cells.map a_).length=f.cells.length:=by simp
  have l:(aq (f.cells.map Cel.name)).length=f.cells.length:=by simp
  have i:(aq (f.whos.take 1)).length=min 1 f.whos.length:=by simp
  generalize ai s w t=pp at *
  generalize f.cells.map a_=cl at *
  generalize aq (f.cells.map Cel.name++f.whos.take 1)=kl at *
  generalize aq (f.cells.map Cel.name)=M at *
  generalize aq (f.whos.take 1)=wt at *
  generalize aq f.whos=Y at *
  simp [jL,Q,aE,aD,V,au,X,l,i,R,c_,L,U,W,e,T]
 .have O:=o.2.2.2.2.2.1;refine⟨by simp;lia,fun y j=>?_⟩;rw [<- dQ] at j;rcases bi.mp j with z | z
  .exact K y z
  .rw [bP.mp z];exact a.2
 .have v:=(b' q).2.2.1;have:n4 (f.cells.map Cel.name++(f.whos.take 1++[x]))=false:=by
   rw [<- dQ];exact vo a []
  unfold DO at v;rw [Bool.or_eq_false_iff] at v;have d:=v.2;dsimp only at d;rw [this] at d;cases d
theorem Na (p n:Str->GF) (b:Str->GX) (s:List Fam) (w:List Road) (t:List P) (k:Nat) (m:Int) (h:Fst f) (o:bp f) (a:m / 4 % 10=7):∃g,n2 p n b s w t k m f g/\Fst g/\iL s k g:=by
 have c:=o.2.2.2.2.2.1;refine⟨⟨f.name,f.hands,f.rooms,f.cells,["qa","qb","qc"],f.steps⟩,⟨none,?_⟩,⟨h.rm,⟨by simp;lia,fun x e=>?_⟩,h.nm,h.sl,h.st⟩,fun q _=>?_⟩
 .generalize ai s w t=r at *
  simp [jL,a,aq]
 .rcases bi.mp e with z | z
  .exact h.cw.2 x (dv _ z)
  .exact aW.mp (show (([("qa":Str),"qb","qc"]).all cK)=true by decide +kernel) x z
 .have:=(b' q).2.1;simp [DP] at this
noncomputable def zN (k:Nat) (r:Str):P:=.tup [.str (jZ k),.str r,.tup [.str "true"],.non,.lst [],.lst [],.str r]
noncomputable def yU (r:Str):List P:=[zN 1 r,zN 2 r,zN 3 r,zN 4 r,zN 5 r,zN 6 r,zN 7 r,zN 8 r,zN 9 r]
theorem IM:∀k:Nat,k≤9->cB (.str "q") (.int (k:Int))=some (.str (jZ k)):=by
 intro k h;have:k=0\/k=1\/k=2\/k=3\/k=4\/k=5\/k=6\/k=7\/k=8\/k=9:=by lia
 rcases this with rfl | rfl | rfl | rfl | rfl | rfl | rfl | rfl | rfl | rfl <;> rfl
variable {r:Str}
theorem C8 (n k b m t p v d w a h x s q:Option D):aJ (ah 14) aZ (aj (v7 (ag cB (vt "q") (ag aB (vv 14) (vi 1))) (ag aA (vv 8) (vi 0)) (aj (v1 (vt "true"))) (vC (.non)) (ar aO) (ar aO) (ag aA (vv 8) (vi 0)))) (intsFrom 0 9) [n,k,b,m,t,p,v,d,ql (.str r::c),w,a,h,x,s,q] []=some (yU r,[]):=by
 rw [nG];have:=comp_map (f:=fun i:Nat=>P.int (i:Int)) (g:=fun i=>zN (i+1) r) (S:=[]) (tgt:=ah 14) (e:=aj (v7 (ag cB (vt "q") (ag aB (vv 14) (vi 1))) (ag aA (vv 8) (vi 0)) (aj (v1 (vt "true"))) (vC (.non)) (ar aO) (ar aO) (ag aA (vv 8) (vi 0)))) (fun q=>[n,k,b,m,t,p,v,d,ql (.str r::c),w,a,h,x,s,q]) (fun _ _=>rfl) (xs:=List.range' 0 9) (fun i u=>by have j:=List.mem_range'_1.mp u;have e:cB (.str "q") (.int ((i:Int)+1))=some (.str (jZ (i+1))):=IM (i+1) (by lia);simp [e,zN,-pA]) q
 rw [this];rfl
theorem FL (k:Nat) (r:Str):zN k r=aX (eR (jZ k) r):=rfl
variable {c:LS}
theorem M' (p B:Str->GF) (C:Str->GX) (s:List Fam) (w:List Road) (t:List P) (k:Nat) (m:Int) (h:Fst f) (u:f.rooms=r::c) (K:m / 4 % 10=8):∃g,n2 p B C s w t k m f g/\Fst g/\iL s k g:=by
 have b:strOk r:=bO (h.rm.2 r (by rw [u];exact List.mem_cons_self));have A:(intsFrom 0 9).length=9:=rfl;refine⟨⟨f.name,f.hands,f.rooms,f.cells,f.whos,yU r⟩,⟨none,?_⟩,⟨h.rm,h.cw,h.nm,by simp [yU],fun v d=>?_⟩,fun q _=>?_⟩
 .have qs:=fun i j l y z o H S F a x e n q=>C8 (r:=r) (c:=aq c) i j l y z o H S F a x e n q;rw [u,show aq (r::c)=.str r::aq c from rfl];generalize ai s w t=D at *
  generalize yU r=E at *
  simp [jL,K,au,A,c_,qs]
 .dsimp only [yU] at d;simp only [List.mem_cons,List.not_mem_nil,or_false] at d;rcases d with rfl | rfl | rfl | rfl | rfl | rfl | rfl | rfl | rfl <;> exact⟨_,FL _ _,mD (xy _ (by lia)) b⟩
 .have:=(b' q).2.1;simp [DP,yU] at this
theorem M_ (W:Str->GF) (X:Str->GX) (N:n3 p) (s:List Fam) (w:List Road) (t:List P) (k:Nat) (m:Int) (h:Fst f) (F:f.rooms=r::c) (O:m / 4 % 10=9):∃g,n2 p W X s w t k m f g/\Fst g/\iL s k g:=by
 have H:strOk r:=bO (h.rm.2 r (by rw [F];exact List.mem_cons_self));have n:=h.wf;have M:∀x ∈ (f.steps.take 7).map bc,cK x=true:=fun x b=>by obtain⟨v,a,rfl⟩:=bb.mp b;exact n.sn.2 _ (gI (fw a))
 obtain⟨x,b,e⟩:=N ((f.steps.take 7).map bc) (m / 40) M (by simp;lia);have T:cT (.lst f.steps) none (some 7)=some (.lst (f.steps.take 7)):=jU f.steps 7;have V:=fun K A B C D E G I J L d u i l q=>kI (s:=f.steps.take 7) (fun v a=>n.st v (fw a)) (a:=14) (S:=[]) (fun q=>[K,A,B,C,D,E,G,I,J,L,d,u,i,l,q]) (fun _ _=>rfl) (fun _=>rfl) q;have Q:min 7 f.steps.length≤1000000:=by lia
 have R:min 7 f.steps.length+1≤1000000:=by lia
 refine⟨⟨f.name,f.hands,f.rooms,f.cells,f.whos,f.steps.take 7++[aX (eR x r)]⟩,⟨qs x,?_⟩,⟨h.rm,h.cw,h.nm,by simp;lia,fun v a=>?_⟩,fun q _=>?_⟩
 .rw [F,show aq (r::c)=.str r::aq c from rfl,show aX (eR x r)=.tup [.str x,.str r,.tup [.str "true"],.non,.lst [],.lst [],.str r] from rfl];have U:(f.steps.take 7).length=min 7 f.steps.length:=by simp
  generalize ai s w t=Z at *
  generalize aq ((f.steps.take 7).map bc)=Y at *
  generalize f.steps.take 7=st at *
  simp [jL,O,aE,aD,T,au,U,Q,c_,V,e,R]
 .rcases bi.mp a with z | z
  .exact h.st v (fw z)
  .exact⟨_,bP.mp z,mD b.2 H⟩
 .have y:=(b' q).2.2.2.1;have:n4 ((f.steps.take 7++[aX (eR x r)]).map bc)=false:=by
   rw [List.map_append];exact vo b []
  unfold EI at y;rw [Bool.or_eq_false_iff] at y;have o:=y.2;dsimp only at o;rw [this] at o;cases o
theorem DR (f:Fam):∀L:Lc,cP [ah 6,ah 7,ah 8,ah 9,ah 10,ah 11] (ae f) L=some ((((((L.set 6 (qs f.name)).set 7 (qi f.hands)).set 8 (ql (aq f.rooms))).set 9 (ql (f.cells.map a_))).set 10 (ql (aq f.whos))).set 11 (ql f.steps)):=fun L=>by simp [ae]
variable {s:List Fam}{w:List Road}{t:List P}
theorem Fm (d:Str->GF) (i:Str->GX) (H:n3 p) (O:yq p) (h:Plan s w t) (m:Int):∃W,Ci W/\pureOf (cq 2 14 (cd p d i)) [ai s w t,.int m]=some W:=by
 obtain⟨C,K⟩:=h.fms;have y:=h.pst;obtain⟨k,S,E⟩:=tz (x:=s.length) (by have:=K.l1;lia) m;have Y:=K.l2;have N:s[k]? = some s[k]:=List.getElem?_eq_getElem S;have l:s[k] ∈ s:=jn S;generalize s[k]=f at *
 have o:=K.ok f l;have a:=y.f f l;have B:∃g,n2 p d i s w t k m f g/\Fst g/\iL s k g:=by
  have F:=o.2.1;cases A:f.rooms with
  | nil=>rw [A] at F;simp at F
  | cons r c=>
   have:m / 4 % 10=0\/m / 4 % 10=1\/m / 4 % 10=2\/m / 4 % 10=3\/m / 4 % 10=4\/m / 4 % 10=5\/m / 4 % 10=6\/m / 4 % 10=7\/m / 4 % 10=8\/m / 4 % 10=9:=by lia
   rcases this with q | q | q | q | q | q | q | q | q | q
   .exact Ni d i H s y.f y.l w t S m a q
   .exact Nh p d i s w t k m a q
   .exact Ng d i H s w t k m a q
   .exact Nf d i H s w t k m a o q
   .exact Nd p d i s w t k m a o q
   .exact Nc p d i s w t k m a o q
   .exact Nb d i H s w t k m a o q
   .exact Na p d i s w t k m a o q
   .exact M' p d i s w t k m a A q
   .exact M_ d i H s w t k m a A q
 obtain⟨g,⟨q,e⟩,I,J⟩:=B;obtain⟨b,P⟩:=h.nd (s.set k g);refine⟨ai (s.set k g) w t,gh ⟨by simp;lia,fun x Q=>?_,y.r,y.rl,y.wl,y.w⟩ P fun M=>?_,?_⟩
 .rcases fF Q with z | rfl
  .exact y.f x z
  .exact I
 .obtain⟨_,u,v,_⟩:=kc M.f;exact J (v g (qE.mpr ⟨k,by simp [S]⟩)) u
 .have un:=eS s w t;have V:=DR f;have dk:aA (.lst (s.map ae)) (.int (k:Int))=some (ae f):=by
   rw [cJ];exact atI_get (by rw [List.getElem?_map,N];rfl)
  have T:(s.map ae).length=s.length:=by simp
  have R:¬(s.length:Int)=0:=by lia
  have D:0 < s.length:=by lia
  have st:=O (s.map ae) k (ae g) (by simpa using S) (by simp;lia);rw [show (s.map ae).set k (ae g)=(s.set k g).map ae by rw [lV]] at st;rw [ap];have j:∃L,cd p d i [qp (ai s w t),qi m,none,none,none,none,none,none,none,none,none,none,none,none] []=some (.rt (.p (ai (s.set k g) w t)),L,[]):=by
   refine⟨[qp (ai s w t),qi (m / 40),ql (s.map ae),ql (w.map af),ql t,qi (k:Int),qs g.name,qi g.hands,ql (aq g.rooms),ql (g.cells.map a_),ql (aq g.whos),ql g.steps,qi (m / 4 % 10),q],?_⟩;unfold cd;rw [aa];simp [un,-aa];rw [aa];simp [bC,bF,T,R,D,E,-aa];rw [aa];simp [dk,V,-cJ,-aa];rw [aa];simp [-aa];rw [aa];simp [-aa];refine (ce e).trans ?_;rw [show ai (s.set k g) w t=.tup [.lst ((s.set k g).map ae),.lst (w.map af),.lst t] from rfl];have G:ae g=.tup [.str g.name,.int g.hands,.lst (aq g.rooms),.lst (g.cells.map a_),.lst (aq g.whos),.lst g.steps]:=rfl;rw [G] at st;generalize ai s w t=U at *
   generalize (s.set k g).map ae=X at *
   simp [st]
  obtain⟨L,j⟩:=j;generalize ai s w t=U at *
  generalize ai (s.set k g) w t=Z at *
  simp [j]
theorem Fo (n:Nat) (h:Plan s w t) (m:Int):∃W,Ci W/\pureOf (Pa (n+4) "_law_wrong_family") [ai s w t,.int m]=some W:=by have e:=Fm (p:=Pa (n+2+1)) (Pa (n+2)) (Xs (n+2+1)) (Eb (n+1)) (xu (n+1)) h m;rw [show Pa (n+4) "_law_wrong_family"=_ from iy (n+2)];exact e
noncomputable def lm:Tr3:=⟨.tup [.str "true"],[]⟩
noncomputable def vA:Tr3:=⟨.tup [.str "number",.int 1],[]⟩
noncomputable def En (q:Str):Tr3:=⟨.tup [.str "plus",.tup [.str "number",.int 1],.tup [.str "name",.str q]],[q]⟩
noncomputable def Ly (q:Str):Tr3:=⟨.tup [.str "is",.str "=",(En q).p,.tup [.str "number",.int 1]],[q]⟩
noncomputable def tNot (q:Str):Tr3:=⟨.tup [.str "not",.tup [.str "and",.tup [.str "true"],.tup [.str "is",.str "<",.tup [.str "number",.int 1],(En q).p]]],[q]⟩
@[simp] theorem Mu:PyData.strOk ("plus":Str)=true:=by decide +kernel
@[simp] theorem Mw:PyData.strOk ("=":Str)=true:=by decide +kernel
@[simp] theorem Mv:PyData.strOk ("<":Str)=true:=by decide +kernel
@[simp] theorem Mx:PyData.strOk ("and":Str)=true:=by decide +kernel
theorem Jx (q:Str):Forest [q] 3 [(En q).p]:=oY (n:=[]) (h:=[q]) (s:="plus") (by decide +kernel) (fD 1) (qO q)
theorem jK:WfT lm:=⟨⟨1,by lia,qN⟩,fun x h=>by simp [lm] at h,by simp [lm]⟩
theorem qG:WfT vA:=⟨⟨1,by lia,fD 1⟩,fun x h=>by simp [vA] at h,by simp [vA]⟩
variable {q:Str}
theorem Il (h:strOk q):WfT (Ly q):=⟨⟨5,by lia,Fx (n:=[q]) (h:=[]) (Jx q) (fD 1)⟩,fun x a=>by rw [show x=q by simpa [Ly] using a];exact h,by simp [Ly,En,show PyData.strOk q=true from h]⟩
theorem Fj (h:strOk q):WfT (tNot q):=⟨⟨8,by lia,Em (by decide +kernel) (oY (n:=[]) (h:=[q]) (by decide +kernel) qN (Fx (n:=[]) (h:=[q]) (fD 1) (Jx q)))⟩,fun x a=>by rw [show x=q by simpa [tNot] using a];exact h,by simp [tNot,En,show PyData.strOk q=true from h]⟩
theorem gR:strOk "qqq":=by unfold strOk;decide +kernel
theorem bp.odd (h:bp f):∀x ∈ f.rooms++(f.cells.map Cel.name++f.whos),oa x=false:=h.2.2.2.2.2.2.2.2.2.2.2
theorem bp.qr (h:bp f):aS f.rooms "qqq"=false:=j_ fun y x=>wd (h.odd y (dv _ x))
theorem bp.qc (h:bp f):aS (f.cells.map Cel.name) "qqq"=false:=j_ fun y x=>wd (h.odd y (List.mem_append_right _ (dv _ x)))
theorem bp.qw (h:bp f):aS f.whos "qqq"=false:=j_ fun y x=>wd (h.odd y (List.mem_append_right _ (List.mem_append_right _ x)))
theorem bp.ic (h:bp f):aS (f.cells.map Cel.name) "it"=false:=fu.mpr fun q=>h.2.2.2.2.2.2.2.2.1 (iu.mp q)
structure Bst (f:Fam) (rds:List Road) (s:Stp):Prop where
 wf:WfS s
 no:i6 f rds s=false
theorem D_ (x:WfS h) (n:i6 f w h=true->False):Bst f w h:=⟨x,fu.mpr n⟩
theorem oR (m:cK x=true) (s:strOk a) (k:strOk g) (w:WfT u) (f:∀t,v=some t->WfTk t) (l:h.length≤100) (n:∀c ∈ h,WfC c) (r:e.length≤100) (b:∀d ∈ e,WfSn d):WfS ⟨x,a,u,v,h,e,g⟩:=⟨m,s,w,f,l,n,r,b,k⟩
theorem uW:cK "a"=true:=by decide +kernel
theorem J3:cK "A"=true:=by decide +kernel
theorem Mq:aH "A"=false:=by decide +kernel
theorem b0 (x:bp f) (a:strOk r):Bst f w ⟨"zzzzzzzzzz","qqq",lm,none,[],[],r⟩:=D_ (oR ib gR a jK (fun _ h=>by cases h) (by simp) (fun _ h=>by cases h) (by simp) (fun _ h=>by cases h)) fun h=>by have:=(cI h).1;simp [vS,x.qr] at this
theorem b1 (x:bp f) (a:strOk r):Bst f w ⟨"zzzzzzzzzz",r,lm,none,[],[],"qqq"⟩:=D_ (oR ib a gR jK (fun _ h=>by cases h) (by simp) (fun _ h=>by cases h) (by simp) (fun _ h=>by cases h)) fun h=>by have:=(cI h).1;simp [vS,x.qr] at this
theorem b2 (e:strOk r) (s:strOk q) (n:aS (f.cells.map Cel.name) q=false) (t:WfT x) (m:q ∈ x.ns):Bst f w ⟨"zzzzzzzzzz",r,x,none,[],[],r⟩:=D_ (oR ib e e t (fun _ h=>by cases h) (by simp) (fun _ h=>by cases h) (by simp) (fun _ h=>by cases h)) fun h=>by have:=(cI h).1;unfold vS at this;rw [Bool.or_eq_false_iff,Bool.or_eq_false_iff,qy,qy] at this;have a:=aW.mp this.2.2 q m;rw [n] at a;cases a
theorem b4 (x:strOk r) (t:WfTk k) (n:fC f w k=false):Bst f w ⟨"zzzzzzzzzz",r,lm,some k,[],[],r⟩:=D_ (oR ib x x jK (fun _ h=>by cases h;exact t) (by simp) (fun _ h=>by cases h) (by simp) (fun _ h=>by cases h)) fun h=>by have:=(cI h).2.1;simp [El,n] at this
theorem b5 (a:bp f) (x:strOk r):Bst f w ⟨"zzzzzzzzzz",r,lm,none,[⟨"qqq",vA⟩],[],r⟩:=D_ (oR ib x x jK (fun _ h=>by cases h) (by simp) (fun c h=>by rw [bP.mp h];exact⟨gR,qG⟩) (by simp) (fun _ h=>by cases h)) fun h=>by have:=(cI h).2.2.1;simp [wM,a.qc] at this
variable {d:Snd}
theorem b6 (x:strOk r) (a:WfSn d) (n:∀K,dW f w K d=false):Bst f w ⟨"zzzzzzzzzz",r,lm,none,[],[d],r⟩:=D_ (oR ib x x jK (fun _ h=>by cases h) (by simp) (fun _ h=>by cases h) (by simp) (fun c h=>by rw [bP.mp h];exact a)) fun h=>by have:=(cI h).2.2.2 d List.mem_cons_self;rw [n] at this;cases this
variable {K:LS}
theorem CV (x:d.way≠"who") (h:aY w f.name d.tg=false):dW f w K d=false:=by
 unfold dW;split
 .rfl
 .exact h
theorem CU (x:d.way="who") (h:aS f.whos d.tg=false):dW f w K d=false:=by
 unfold dW;split
 .rfl
 .exact h
theorem CW (h:d.way="one"):dW f w K d=false:=by unfold dW;rw [if_pos];rw [h,show aS [("who":Str),"all","any"] "one"=false by decide +kernel];simp
theorem CP (h:aY w x.sender f.name=false):fC f w x=false:=by unfold fC;rw [if_pos];rw [h];simp
theorem CO (h:aH x.mark=false):fC f w x=false:=by unfold fC;rw [if_pos];rw [h];simp
theorem zi (L:strOk o) (I:∀g ∈ s,strOk g.name) (B:∀r ∈ w,strOk r.one/\strOk r.other) (Q:w.length≤100) (i j l y z H F K n k c q:Option D):aJ (ah 13) (bV (aG bv (eV (aj (v2 (ag aA (vv 13) (vi 0)) (vv 4)))) (eV (au (eM (ag aA (vv 0) (vi 1))) [] 1 (ah 14) aZ (bK (vv 14) aE (aD (vi 2))))))) (ag aA (vv 13) (vi 0)) (s.map ae) [qp (ai s w t),i,j,l,qs o,y,z,H,F,K,n,k,c,q] []=some (aq ((s.filter fun g=>!aY w g.name o).map Fam.name),[]):=by
 have E:aA (ai s w t) (.int 1)=some (.lst (w.map af)):=rfl;have C:∀b0 b1 b2 m b4 b5 b6 v d u b h x a q,aJ (ah 14) aZ (bK (vv 14) aE (aD (vi 2))) (w.map af) [b0,b1,b2,m,b4,b5,b6,v,d,u,b,h,x,a,q] []=some (w.map cj,[]):=fun b0 b1 b2 m b4 b5 b6 v d u b h x a q=>
  comp_map (f:=af) (g:=cj) (S:=[]) (tgt:=ah 14) (fun q=>[b0,b1,b2,m,b4,b5,b6,v,d,u,b,h,x,a,q]) (fun _ _=>rfl) (xs:=w) (fun r B=>by have:cT (af r) none (some 2)=some (cj r):=rfl;simp [aE,aD,this]) q
 have O:(w.map af).length=w.length:=by simp
 have N:w.length≤1000000:=by lia
 have:=cG (f:=ae) (g:=fun g=>P.str g.name) (p:=fun g=>!aY w g.name o) (S:=[]) (t:=ah 13) (c:=(bV (aG bv (eV (aj (v2 (ag aA (vv 13) (vi 0)) (vv 4)))) (eV (au (eM (ag aA (vv 0) (vi 1))) [] 1 (ah 14) aZ (bK (vv 14) aE (aD (vi 2)))))))) (e:=ag aA (vv 13) (vi 0)) (fun q=>[qp (ai s w t),i,j,l,qs o,y,z,H,F,K,n,k,c,q]) (fun _ _=>rfl) (s:=s) (fun g J=>by
  have A:aA (ae g) (.int 0)=some (.str g.name):=rfl;have M:=kW (I g J) (L) B;have G:∀S,bv (.p (.tup [.str g.name,.str o])) (.p (.lst (w.map cj))) S=some (.bl (!aY w g.name o)):=fun S=>by simp [bv,zO,gB,M,aY]
  exact⟨by simp [A,E,au,O,N,c_,C,G],by simp [A]⟩) q
 rw [this];simp [aq]
theorem zh (L:strOk o) (I:∀g ∈ s,strOk g.name) (B:∀r ∈ w,strOk r.one/\strOk r.other) (Q:w.length≤100) (i j l y z H F K n k c q:Option D):aJ (ah 13) (bV (aG bv (eV (aj (v2 (vv 4) (ag aA (vv 13) (vi 0))))) (eV (au (eM (ag aA (vv 0) (vi 1))) [] 1 (ah 14) aZ (bK (vv 14) aE (aD (vi 2))))))) (ag aA (vv 13) (vi 0)) (s.map ae) [qp (ai s w t),i,j,l,qs o,y,z,H,F,K,n,k,c,q] []=some (aq ((s.filter fun g=>!aY w o g.name).map Fam.name),[]):=by
 have E:aA (ai s w t) (.int 1)=some (.lst (w.map af)):=rfl;have C:∀b0 b1 b2 m b4 b5 b6 v d u b h x a q,aJ (ah 14) aZ (bK (vv 14) aE (aD (vi 2))) (w.map af) [b0,b1,b2,m,b4,b5,b6,v,d,u,b,h,x,a,q] []=some (w.map cj,[]):=fun b0 b1 b2 m b4 b5 b6 v d u b h x a q=>
  comp_map (f:=af) (g:=cj) (S:=[]) (tgt:=ah 14) (fun q=>[b0,b1,b2,m,b4,b5,b6,v,d,u,b,h,x,a,q]) (fun _ _=>rfl) (xs:=w) (fun r B=>by have:cT (af r) none (some 2)=some (cj r):=rfl;simp [aE,aD,this]) q
 have O:(w.map af).length=w.length:=by simp
 have N:w.length≤1000000:=by lia
 have:=cG (f:=ae) (g:=fun g=>P.str g.name) (p:=fun g=>!aY w o g.name) (S:=[]) (t:=ah 13) (c:=(bV (aG bv (eV (aj (v2 (vv 4) (ag aA (vv 13) (vi 0))))) (eV (au (eM (ag aA (vv 0) (vi 1))) [] 1 (ah 14) aZ (bK (vv 14) aE (aD (vi 2)))))))) (e:=ag aA (vv 13) (vi 0)) (fun q=>[qp (ai s w t),i,j,l,qs o,y,z,H,F,K,n,k,c,q]) (fun _ _=>rfl) (s:=s) (fun g J=>by
  have A:aA (ae g) (.int 0)=some (.str g.name):=rfl;have M:=kW (L) (I g J) B;have G:∀S,bv (.p (.tup [.str o,.str g.name])) (.p (.lst (w.map cj))) S=some (.bl (!aY w o g.name)):=fun S=>by simp [bv,zO,gB,M,aY]
  exact⟨by simp [A,E,au,O,N,c_,C,G],by simp [A]⟩) q
 rw [this];simp [aq]
theorem B4 (p ι:Str->GF) (υ:Str->GX){m:Int} (hr:f.rooms=r::c) (j:strOk f.name) (z:∀g ∈ s,strOk g.name) (S:∀r ∈ w,strOk r.one/\strOk r.other) (hl:w.length≤100) (i:s.length≤100)
  (hq:L2.atI [P.str "qqq",.str "it"] (m / 16 % 2)=some (.str q)) (e:h=("zzzzzzzzzz":Str)::(s.filter fun g=>!aY w g.name f.name).map Fam.name) (d:l=("zzzzzzzzzz":Str)::(s.filter fun g=>!aY w f.name g.name).map Fam.name)
  (hx:L2.atI (aq h) (m / 16 % (h.length:Int))=some (.str x)) (hy:L2.atI (aq l) (m / 16 % (l.length:Int))=some (.str y)) (W:L2.atI [P.tup [.str "a",.str x,.str "",.str ""],.tup [.str "A",.str "zzzzzzzzzz",.str "",.str ""]] (m / 32 % 2)=some tk)
  (F:L2.atI [P.str "all",.str "any"] (m / 64 % 2)=some (.str way)) (H:L2.atI [P.str "who",.str "one"] (m / 64 % 2)=some (.str odd)) (hv:L2.atI [D.p (.tup [.str "qqq",.str "",.tup [.str "true"],.non,.lst [],.lst [],.str r]),.p (.tup [.str r,.str "",.tup [.str "true"],.non,.lst [],.lst [],.str "qqq"]),.p (.tup [.str r,.str "",.tup [.str "is",.str "=",(En q).p,.tup [.str "number",.int 1]],.non,.lst [],.lst [],.str r]),.p (.tup [.str r,.str "",.tup [.str "not",.tup [.str "and",.tup [.str "true"],.tup [.str "is",.str "<",.tup [.str "number",.int 1],(En q).p]]],.non,.lst [],.lst [],.str r]),.p (.tup [.str r,.str "",.tup [.str "true"],tk,.lst [],.lst [],.str r]),.p (.tup [.str r,.str "",.tup [.str "true"],.non,.lst [.tup [.str "qqq",.tup [.str "number",.int 1]]],.lst [],.str r]),.p (.tup [.str r,.str "",.tup [.str "true"],.non,.lst [],.lst [.tup [.str "a",.tup [.str "number",.int 1],.str way,.str y]],.str r]),.p (.tup [.str r,.str "",.tup [.str "true"],.non,.lst [],.lst [.tup [.str "a",.tup [.str "number",.int 1],.str odd,.str "qqq"]],.str r])] (m % 8)=qp v) (ev:v=.tup [.str a,.str "",A,B,C,E,G]) :
  pureOf (cq 3 13 (di p ι υ)) [ai s w t,ae f,.int m]=some (.tup [.str "zzzzzzzzzz",.str a,A,B,C,E,G]):=by
 have u:aA (ai s w t) (.int 0)=some (.lst (s.map ae)):=rfl;have d0:aA (ae f) (.int 0)=some (.str f.name):=rfl;have d2:aA (ae f) (.int 2)=some (.lst (.str r::aq c)):=by show some (P.lst (aq f.rooms))=_;rw [hr];rfl
 have fc:=fun K I J L M N O Q n k b q=>zi (t:=t) j z S hl K I J L M N O Q n k b q;have gc:=fun K I J L M N O Q n k b q=>zh (t:=t) j z S hl K I J L M N O Q n k b q;have ln:(s.map ae).length=s.length:=by simp
 have l1:s.length≤1000000:=by lia
 have fl:(s.filter fun g=>!aY w g.name f.name).length≤100:=bL (mx ..) i;have gll:(s.filter fun g=>!aY w f.name g.name).length≤100:=bL (mx ..) i;have e6:P.str "zzzzzzzzzz"::aq ((s.filter fun g=>!aY w g.name f.name).map Fam.name)=aq h:=by rw [e];rfl
 have e7:P.str "zzzzzzzzzz"::aq ((s.filter fun g=>!aY w f.name g.name).map Fam.name)=aq l:=by rw [d];rfl
 have R:1+(s.filter fun g=>!aY w g.name f.name).length≤1000000:=by lia
 have U:1+(s.filter fun g=>!aY w f.name g.name).length≤1000000:=by lia
 have T:(aq ((s.filter fun g=>!aY w g.name f.name).map Fam.name)).length=(s.filter fun g=>!aY w g.name f.name).length:=by simp
 have V:(aq ((s.filter fun g=>!aY w f.name g.name).map Fam.name)).length=(s.filter fun g=>!aY w f.name g.name).length:=by simp
 have x0:L2.atI (aq h) 0=some (.str "zzzzzzzzzz"):=by rw [e];exact aI (by decide) rfl
 have Z:(aq h).length=h.length:=iP h;have slg:(aq l).length=l.length:=iP l;have pf:0 < h.length:=by rw [e];simp
 have pg:0 < l.length:=by rw [d];simp
 have X:h.length≤1000000:=by rw [e];simp;lia
 have Y:l.length≤1000000:=by rw [d];simp;lia
 have o:∀ds,cO (.ref 0) [SO.lst ds]=some (0,ds):=fun _=>rfl;have s2:cT v (some 2) none=some (.tup [A,B,C,E,G]):=by rw [ev];rfl
 have v0:aA v (.int 0)=some (.str a):=by rw [ev];rfl
 have ad:aB (.tup [.str "zzzzzzzzzz",.str a]) (.tup [A,B,C,E,G])=some (.tup [.str "zzzzzzzzzz",.str a,A,B,C,E,G]):=rfl;rw [ap];unfold di;rw [aa];simp [d2,-aa];rw [aa];simp [d0,-aa];have tp:P.tup [.str "plus",.tup [.str "number",.int 1],.tup [.str "name",.str q]]=(En q).p:=rfl;rw [aa];simp [hq,tp,-aa];rw [aa];simp [u,au,ln,l1,c_,fc,T,R,e6,-aa];rw [aa];simp [u,au,ln,l1,c_,gc,V,U,e7,-aa];rw [aa];simp [bC,bF,Z,pf,X,hx,x0,-aa];rw [aa];simp [o,-aa];rw [aa];simp [o,-aa];rw [aa];simp [o,-aa];rw [aa];simp [o,W,-aa];rw [aa];simp [o,-aa];rw [aa];simp [o,F,-aa];rw [aa];simp [o,bC,bF,slg,pg,Y,hy,-aa];rw [aa];simp [o,H,-aa];rw [aa];simp [o,-aa];rw [aa];simp [o,hv,-aa];simp [v0,s2,aE,aD,ad]
end My
namespace My
open PySem L2 Ev
noncomputable def yu (x:Str->GF):Prop:=∀{h:List Fam}{r:List Road}{w:List P}{f:Fam} (m:Int),Plan h r w->f ∈ h->∃s,Bst f r s/\pureOf (x "_law_bad_step") [ai h r w,ae f,.int m]=some (aX s)
theorem DB (h:∀r ∈ d,r.one≠a):aY d a b=false:=fu.mpr fun q=>by unfold aY at q;obtain⟨r,x,e⟩:=jm.mp q;simp only [Bool.and_eq_true,decide_eq_true_eq] at e;exact h r x e.1
theorem Bm (h:∀r ∈ d,r.other≠b):aY d a b=false:=fu.mpr fun q=>by unfold aY at q;obtain⟨r,x,e⟩:=jm.mp q;simp only [Bool.and_eq_true,decide_eq_true_eq] at e;exact h r x e.2
theorem z_ {a b:P} (i:Int):∃v,(v=a\/v=b)/\L2.atI [a,b] (i % 2)=some v:=by
 have:i % 2=0\/i % 2=1:=by lia
 rcases this with h | h <;> rw [h]
 .exact⟨a,.inl rfl,rfl⟩
 .exact⟨b,.inr rfl,rfl⟩
theorem vH {a b:Str} (i:Int):∃v,(v=a\/v=b)/\L2.atI [P.str a,.str b] (i % 2)=some (.str v):=by
 obtain⟨v,h,e⟩:=z_ (a:=.str a) (b:=.str b) i;rcases h with rfl | rfl
 .exact⟨a,.inl rfl,e⟩
 .exact⟨b,.inr rfl,e⟩
theorem G6:strOk "all":=by unfold strOk;decide +kernel
theorem G5:strOk "any":=by unfold strOk;decide +kernel
theorem Fh:strOk "who":=by unfold strOk;decide +kernel
theorem Gg:strOk "one":=by unfold strOk;decide +kernel
theorem wR (ψ ι:Str->GF) (υ:Str->GX) {l:List Fam}{n:List Road}{ws:List P}{f:Fam} (m:Int) (h:Plan l n ws) (C:f ∈ l):∃s,Bst f n s/\pureOf (cq 3 13 (di ψ ι υ)) [ai l n ws,ae f,.int m]=some (aX s):=by
 obtain⟨Y,R⟩:=h.fms;have E:=R.names;have I:=R.odd;have D:=h.rok.nb E.2;have j:=R.ok f C;have w:∀g ∈ l,strOk g.name:=fun g H=>bf (E.2 _ (gI H));have U:∀r ∈ n,strOk r.one/\strOk r.other:=fun r p=>⟨bf (D r p).1,bf (D r p).2⟩;have G:∀x ∈ l.map Fam.name,x≠"zzzzzzzzzz":=fun x c=>by obtain⟨g,H,rfl⟩:=bb.mp c;exact wc (I g H)
 have W:aY n "zzzzzzzzzz" f.name=false:=DB fun r p=>G _ (h.rok.ok r p).1;have X:aY n f.name "zzzzzzzzzz"=false:=Bm fun r p=>G _ (h.rok.ok r p).2.1;have L:=j.2.1;cases p:f.rooms with
 | nil=>rw [p] at L;simp at L
 | cons r rr=>
  have o:strOk r:=bf (j.2.2.2.2.1 r (by rw [p];exact List.mem_cons_self));obtain⟨q,hq,eq⟩:=vH (a:="qqq") (b:="it") (m / 16);obtain⟨A,z⟩:∃A,A=("zzzzzzzzzz":Str)::(l.filter fun g=>!aY n g.name f.name).map Fam.name:=⟨_,rfl⟩;obtain⟨B,S⟩:∃B,B=("zzzzzzzzzz":Str)::(l.filter fun g=>!aY n f.name g.name).map Fam.name:=⟨_,rfl⟩;have O:∀x ∈ A,aY n x f.name=false/\strOk x:=fun x c=>by
   rw [z] at c;rcases List.mem_cons.mp c with rfl | c
   .exact⟨W,ll⟩
   .obtain⟨g,H,rfl⟩:=bb.mp c;have:=fk.mp H
    exact⟨by simpa using this.2,w g this.1⟩
  have Q:∀x ∈ B,aY n f.name x=false/\strOk x:=fun x c=>by
   rw [S] at c;rcases List.mem_cons.mp c with rfl | c
   .exact⟨X,ll⟩
   .obtain⟨g,H,rfl⟩:=bb.mp c;have:=fk.mp H
    exact⟨by simpa using this.2,w g this.1⟩
  obtain⟨x,c,ex⟩:=i9 (K:=A) (by rw [z];exact List.cons_ne_nil _ _) (m / 16);obtain⟨y,hy,ey⟩:=i9 (K:=B) (by rw [S];exact List.cons_ne_nil _ _) (m / 16);obtain⟨tk,V,T⟩:=z_ (a:=aL (some ⟨"a",x,"",""⟩)) (b:=aL (some ⟨"A","zzzzzzzzzz","",""⟩)) (m / 32);obtain⟨i,M,ew⟩:=vH (a:="all") (b:="any") (m / 64);obtain⟨Z,F,eo⟩:=vH (a:="who") (b:="one") (m / 64);have t:=fun {v a w2 w3 w4 w5 w6} hv e=>B4 ψ ι υ (t:=ws) (f:=f) (m:=m) (r:=r) (q:=q) (x:=x) (y:=y) (way:=i) (odd:=Z) (c:=rr) (h:=A) (l:=B) (tk:=tk) (v:=v) p (w f C) w U (by have:=h.rl;lia) (by have:=R.l2;lia) eq z S ex ey T ew eo hv (a:=a) (A:=w2) (B:=w3) (C:=w4) (E:=w5) (G:=w6) e;have u:strOk q:=by
   rcases hq with rfl | rfl
   .exact gR
   .exact xU
  have J:aS (f.cells.map Cel.name) q=false:=by
   rcases hq with rfl | rfl
   .exact j.qc
   .exact j.ic
  have:m % 8=0\/m % 8=1\/m % 8=2\/m % 8=3\/m % 8=4\/m % 8=5\/m % 8=6\/m % 8=7:=by lia
  rcases this with k | k | k | k | k | k | k | k
  .exact⟨_,b0 j o,t (by rw [k];exact aI (by decide) rfl) rfl⟩
  .exact⟨_,b1 j o,t (by rw [k];exact aI (by decide) rfl) rfl⟩
  .exact⟨_,b2 o u J (Il u) List.mem_cons_self,t (by rw [k];exact aI (by decide) rfl) rfl⟩
  .exact⟨_,b2 o u J (Fj u) List.mem_cons_self,t (by rw [k];exact aI (by decide) rfl) rfl⟩
  .rcases V with rfl | rfl
   .exact⟨_,b4 o (k:=⟨"a",x,"",""⟩) ⟨uW,k4,k4,(O x c).2⟩ (CP (O x c).1),t (by rw [k];exact aI (by decide) rfl) rfl⟩
   .exact⟨_,b4 o (k:=⟨"A","zzzzzzzzzz","",""⟩) ⟨J3,k4,k4,ll⟩ (CO Mq),t (by rw [k];exact aI (by decide) rfl) rfl⟩
  .exact⟨_,b5 j o,t (by rw [k];exact aI (by decide) rfl) rfl⟩
  .have N:strOk i/\i≠"who":=by
    rcases M with rfl | rfl
    .exact⟨G6,by decide +kernel⟩
    .exact⟨G5,by decide +kernel⟩
   exact⟨_,b6 o (d:=⟨"a",vA,i,y⟩) ⟨uW,qG,N.1,(Q y hy).2⟩ (fun K=>CV N.2 (Q y hy).1),t (by rw [k];exact aI (by decide) rfl) rfl⟩
  .rcases F with rfl | rfl
   .exact⟨_,b6 o (d:=⟨"a",vA,"who","qqq"⟩) ⟨uW,qG,Fh,gR⟩ (fun K=>CU rfl j.qw),t (by rw [k];exact aI (by decide) rfl) rfl⟩
   .exact⟨_,b6 o (d:=⟨"a",vA,"one","qqq"⟩) ⟨uW,qG,Gg,gR⟩ (fun K=>CW rfl),t (by rw [k];exact aI (by decide) rfl) rfl⟩
theorem pM (n:Nat):yu (Pa (n+2)):=fun {s r w f} m h x=>by rw [k6];exact wR _ _ _ m h x
noncomputable def Qb (f:Fam) (r:List Road) (p:ES) (L:Lc):Prop:=∃s,Bst f r s/\∃h,p L []=some (.rt (.p (aX s)),h,[])
theorem lD {f:Fam}{r:List Road}{s:Stp}{p:ES}{L:Lc} (x:Bst f r s) (h:(p L []).map (fun z=>(z.1,z.2.2))=some (.rt (.p (aX s)),[])):Qb f r p L:=by
 cases e:p L [] with
 | none=>rw [e] at h;cases h
 | some z=>obtain⟨a,b,c⟩:=z;rw [e] at h;cases h;exact⟨s,x,b,e⟩
theorem n1 {f:Fam}{d:List Road}{c:EB}{a r:ES}{L:Lc}{b:Bool} (n:c L []=some (b,[])) (m:b=true->Qb f d a L) (k:b=false->Qb f d r L):Qb f d (ak (dt c a d_) r) L:=by
 cases b with
 | true=>obtain⟨s,x,h,e⟩:=m rfl;exact⟨s,x,h,by simp [n,e]⟩
 | false=>obtain⟨s,x,h,e⟩:=k rfl;exact⟨s,x,h,by simp [n,e]⟩
theorem Cf {f:Fam}{d:List Road}{p r:ES}{L x:Lc} (a:p L []=some (.nx,x,[])) (h:Qb f d r x):Qb f d (ak p r) L:=by obtain⟨s,n,L2,e⟩:=h;exact⟨s,n,L2,(ce a).trans e⟩
noncomputable def hI:Tr3:=⟨.tup [.str "number",.int 0],[]⟩
theorem xa:WfT hI:=⟨⟨1,by lia,fD 0⟩,fun x h=>by simp [hI] at h,by simp [hI]⟩
noncomputable def mO:Tr3:=⟨.tup [.str "minus",.tup [.str "name",.str "it"],.tup [.str "number",.int 1]],["it"]⟩
theorem Fk:WfT mO:=⟨⟨3,by lia,oY (n:=["it"]) (h:=[]) (s:="minus") (by decide +kernel) (qO "it") (fD 1)⟩,fun x e=>by rw [show x="it" by simpa [mO] using e];exact xU,by
 have h:PyData.strOk ("minus":Str)=true:=by decide +kernel
 have a:PyData.strOk ("it":Str)=true:=by decide +kernel
 simp [mO,h,a]⟩
noncomputable def mM (t:Tr3):Tr3:=⟨.tup [.str "times",.tup [.str "name",.str "qqq"],t.p],"qqq"::t.ns⟩
theorem Fi {t:Tr3} (h:Sml t):WfT (mM t):=by
 obtain⟨w,k,F⟩:=h.n;refine⟨⟨1+w+1,by lia,oY (n:=["qqq"]) (s:="times") (by decide +kernel) (qO "qqq") F⟩,fun x a=>?_,?_⟩
 .rcases List.mem_cons.mp a with rfl | a
  .exact gR
  .exact h.ok x a
 .have e:PyData.strOk ("times":Str)=true:=by decide +kernel
  have n:PyData.strOk ("qqq":Str)=true:=by decide +kernel
  simp [mM,e,n,h.d]
theorem G0 {t:Option Take}{C K:LS}{c:List Chg} (h:¬(c.map Chg.x).Nodup):wM t C K c=false:=by unfold wM;rw [if_pos];simp [h]
theorem D1 {t:Take}{C K:LS}{c:List Chg} (h:t.cell ∈ c.map Chg.x):wM (some t) C K c=false:=by
 unfold wM;split
 .rfl
 .rw [if_pos];exact iu.mpr h
theorem D0 {t:Option Take}{C K:LS}{s:List Chg}{c:Chg}{x:Str} (a:c ∈ s) (e:x ∈ c.t.ns) (h:aS K x=false):wM t C K s=false:=by
 unfold wM;split
 .rfl
 .split
  .rfl
  .refine fu.mpr fun q=>?_;have:=aW.mp (aW.mp q c a) x e
   rw [h] at this;cases this
theorem AB {f:Fam}{r:List Road}{K:LS}{d:Snd} (h:aH d.mark=false):dW f r K d=false:=by unfold dW;rw [if_pos];rw [h];simp
theorem AA {f:Fam}{r:List Road}{K:LS}{d:Snd}{x:Str} (a:x ∈ d.t.ns) (h:aS K x=false):dW f r K d=false:=by
 unfold dW;rw [if_pos];have:d.t.ns.all (aS K)=false:=fu.mpr fun q=>by have:=aW.mp q x a;rw [h] at this;cases this
 rw [this];simp
theorem bp.qk (h:bp f) (t:Option Take):aS (bD (f.cells.map Cel.name) t) "qqq"=false:=j_ fun y x=>by
 cases t with
 | none=>exact fun e=>fu.mp h.qc (iu.mpr (e ▸ x))
 | some _=>
  rcases bi.mp x with z | z
  .exact fun e=>fu.mp h.qc (iu.mpr (e ▸ z))
  .rw [bP.mp z];decide +kernel
theorem CQ {f:Fam}{r:List Road}{t:Take} (c:t.cell="qqq") (h:aS (f.cells.map Cel.name) "qqq"=false):fC f r t=false:=by
 unfold fC;split
 .rfl
 .rw [c,h,show decide (("qqq":Str)="")=false by decide +kernel];simp
theorem Fw {f:Fam}{r:List Road}{t:Take} (c:t.who="qqq") (h:aS f.whos "qqq"=false):fC f r t=false:=by
 unfold fC;split
 .rfl
 .rw [c,h,show decide (("qqq":Str)="")=false by decide +kernel];simp
theorem Az {f:Fam}{r:List Road}{s:Stp} (w:WfS s) (h:wM s.tk (f.cells.map Cel.name) (bD (f.cells.map Cel.name) s.tk) s.chs=false):Bst f r s:=D_ w fun q=>by have:=(cI q).2.2.1;rw [h] at this;cases this
theorem Ep {f:Fam}{r:List Road}{s:Stp}{t:Take} (w:WfS s) (x:s.tk=some t) (h:fC f r t=false):Bst f r s:=D_ w fun q=>by have:=(cI q).2.1;rw [x] at this;simp [El,h] at this
theorem Er {f:Fam}{r:List Road}{s:Stp}{d:Snd} (w:WfS s) (x:d ∈ s.sd) (h:dW f r (bD (f.cells.map Cel.name) s.tk) d=false):Bst f r s:=D_ w fun q=>by have:=(cI q).2.2.2 d x;rw [h] at this;cases this
theorem zG {ψ:Str->GF} (ι:Str->GF) (υ:Str->GX) {fs:List Fam}{y:List Road}{ws:List P}{f:Fam} (m:Int) (K:bp f) {s:Stp} (a:WfS s) (N:∀d ∈ s.sd,Sml d.t) (hcl:s.chs.length≤3) (G:∃z,Bst f y z/\pureOf (ψ "_law_bad_step") [ai fs y ws,ae f,.int (m / 6)]=some (aX z)):Qb f y (dZ ψ ι υ) [qp (ai fs y ws),qp (ae f),qp (aX s),qi m,none,none,none,none,none,none,none,none,none,none,none]:=by
 have un:∀L:Lc,cP [ah 4,ah 5,ah 6,ah 7,ah 8,ah 9,ah 10] (aX s) L=some (((((((L.set 4 (qs s.name)).set 5 (qs s.at')).set 6 (qp s.wh.p)).set 7 (qp (aL s.tk))).set 8 (ql (s.chs.map dC))).set 9 (ql (s.sd.map cx))).set 10 (qs s.go)):=fun L=>by simp [aX]
 have d3:aA (ae f) (.int 3)=some (.lst (f.cells.map a_)):=rfl;have lc:f.cells.length≤1000000:=by have:=K.2.2.2.2.2.1;lia
 have R:(f.cells.map a_).length=f.cells.length:=by simp
 have T:(aq (f.cells.map Cel.name)).length=f.cells.length:=by simp
 have Dx:(s.chs.map dC).length=s.chs.length:=by simp
 have EC:(s.sd.map cx).length=s.sd.length:=by simp
 have l1:s.chs.length≤1000000:=by have:=a.cl;lia
 have l2:s.sd.length≤1000000:=by have:=a.sl;lia
 have l3:s.chs.length+1≤1000000:=by have:=a.cl;lia
 have S:=jC s.tk [];have gi:=t8 s.tk [];unfold dZ;refine Cf (by simp [un];rfl) ?_;refine Cf (by simp [d3,au,R,lc,c_,ki];rfl) ?_;refine Cf (by simp;rfl) ?_;refine n1 (b:=decide (m % 6=0) && decide (0 < s.chs.length)) ?_ (fun p=>?_) (fun _=>?_)
 .by_cases v:m % 6=0 <;> simp [v,bC,bF,Dx]
 .rw [Bool.and_eq_true,decide_eq_true_eq,decide_eq_true_eq] at p;obtain⟨w,cr,F⟩:=mB p.2;have I:WfC w:=a.c w (by rw [F];exact List.mem_cons_self);have n:aA (dC w) (.int 0)=some (.str w.x):=rfl;refine lD (s:=⟨s.name,s.at',s.wh,s.tk,s.chs++[⟨w.x,hI⟩],s.sd,s.go⟩) (Az ⟨a.n,a.a,a.w,a.k,by simp;lia,fun c u=>?_,a.sl,a.sv,a.g⟩ (G0 fun V=>?_)) ?_
  .rcases bi.mp u with z | z
   .exact a.c c z
   .rw [bP.mp z];exact⟨I.x,xa⟩
  .dsimp only at V;rw [F,List.map_append,List.map_cons] at V;exact (List.nodup_cons.mp V).1 (List.mem_append_right _ List.mem_cons_self)
  .simp only [aX,List.map_append,List.map_cons,eO];have o:aA (.lst (s.chs.map dC)) (.int 0)=some (dC w):=by rw [F,cJ];exact aI (by decide) rfl
   generalize dC w=cp at *
   generalize s.chs.map dC=C at *
   simp [aX,dC,cx,hI,mM,mO,aL,o,n,Dx,l3,-cJ]
 refine n1 (b:=decide (m % 6=1) && (match s.tk with | none=>false | some t=>!decide (t.cell=""))) ?_ (fun p=>?_) (fun _=>?_)
 .by_cases v:m % 6=1
  .cases r:s.tk with
   | none=>rw [r] at S;simp [v,S]
   | some t=>
    have B:aA (aL (some t)) (.int 2)=some (.str t.cell):=rfl;rw [r] at S;generalize aL (some t)=H at *
    simp [v,S,B]
  .simp [v]
 .rw [Bool.and_eq_true,decide_eq_true_eq] at p;obtain⟨t,r⟩:∃t,s.tk=some t:=by
   have h2:=p.2;cases r:s.tk with
   | none=>rw [r] at h2;cases h2
   | some t=>exact⟨t,rfl⟩
  have l:=a.k t r;have B:aA (aL s.tk) (.int 2)=some (.str t.cell):=by rw [r];rfl
  refine lD (s:=⟨s.name,s.at',s.wh,s.tk,s.chs++[⟨t.cell,hI⟩],s.sd,s.go⟩) (Az ⟨a.n,a.a,a.w,a.k,by simp;lia,fun c u=>?_,a.sl,a.sv,a.g⟩ ?_) ?_
  .rcases bi.mp u with z | z
   .exact a.c c z
   .rw [bP.mp z];exact⟨l.c,xa⟩
  .dsimp only;rw [r];exact D1 (by rw [List.map_append];exact List.mem_append_right _ List.mem_cons_self)
  .simp only [aX,List.map_append,List.map_cons,eO];generalize aL s.tk=H at *
   generalize s.chs.map dC=C at *
   simp [aX,dC,cx,hI,mM,mO,aL,B,Dx,l3]
 refine n1 (b:=decide (m % 6=2) && s.tk.isSome) ?_ (fun p=>?_) (fun _=>?_)
 .generalize aL s.tk=H at *
  by_cases v:m % 6=2 <;> simp [v,S]
 .rw [Bool.and_eq_true,decide_eq_true_eq] at p;obtain⟨t,r⟩:=qd.mp p.2;have l:=a.k t r;have t0:aA (aL s.tk) (.int 0)=some (.str t.mark):=by rw [r];rfl
  have t1:aA (aL s.tk) (.int 1)=some (.str t.sender):=by rw [r];rfl
  have t3:aA (aL s.tk) (.int 3)=some (.str t.who):=by rw [r];rfl
  refine lD (s:=⟨s.name,s.at',s.wh,some ⟨t.mark,t.sender,"qqq",t.who⟩,s.chs,s.sd,s.go⟩) (Ep ⟨a.n,a.a,a.w,fun k M=>?_,a.cl,a.c,a.sl,a.sv,a.g⟩ rfl (CQ rfl K.qc)) ?_
  .cases M;exact⟨l.m,gR,l.w,l.s⟩
  .simp only [aX,List.map_append,List.map_cons,eO];generalize aL s.tk=H at *
   simp [aX,dC,cx,hI,mM,mO,aL,t0,t1,t3]
 refine n1 (b:=decide (m % 6=3) && s.tk.isSome) ?_ (fun p=>?_) (fun _=>?_)
 .generalize aL s.tk=H at *
  by_cases v:m % 6=3 <;> simp [v,S]
 .rw [Bool.and_eq_true,decide_eq_true_eq] at p;obtain⟨t,r⟩:=qd.mp p.2;have l:=a.k t r;have t0:aA (aL s.tk) (.int 0)=some (.str t.mark):=by rw [r];rfl
  have t1:aA (aL s.tk) (.int 1)=some (.str t.sender):=by rw [r];rfl
  have B:aA (aL s.tk) (.int 2)=some (.str t.cell):=by rw [r];rfl
  refine lD (s:=⟨s.name,s.at',s.wh,some ⟨t.mark,t.sender,t.cell,"qqq"⟩,s.chs,s.sd,s.go⟩) (Ep ⟨a.n,a.a,a.w,fun k M=>?_,a.cl,a.c,a.sl,a.sv,a.g⟩ rfl (Fw rfl K.qw)) ?_
  .cases M;exact⟨l.m,l.c,gR,l.s⟩
  .simp only [aX,List.map_append,List.map_cons,eO];generalize aL s.tk=H at *
   simp [aX,dC,cx,hI,mM,mO,aL,t0,t1,B]
 refine n1 (b:=decide (m % 6=4) && decide (0 < s.sd.length)) ?_ (fun p=>?_) (fun _=>?_)
 .by_cases v:m % 6=4 <;> simp [v,bC,bF,EC]
 .rw [Bool.and_eq_true,decide_eq_true_eq,decide_eq_true_eq] at p;obtain⟨n,j,g⟩:=mB p.2;have q:WfSn n:=a.sv n (by rw [g];exact List.mem_cons_self);obtain⟨x,O,Q,ex⟩:∃x:Str,aH x=false/\cK x=true/\L2.atI [P.str "A",.str "",.str "or",.str "abcdefghijk"] (m / 6 % 4)=some (.str x):=by
   have:m / 6 % 4=0\/m / 6 % 4=1\/m / 6 % 4=2\/m / 6 % 4=3:=by lia
   rcases this with h | h | h | h <;> rw [h]
   .exact⟨"A",by decide +kernel,by decide +kernel,rfl⟩
   .exact⟨"",by decide +kernel,by decide +kernel,rfl⟩
   .exact⟨"or",by decide +kernel,by decide +kernel,rfl⟩
   .exact⟨"abcdefghijk",by decide +kernel,by decide +kernel,rfl⟩
  have Y:=a.sl;rw [g,bo] at Y;refine lD (s:=⟨s.name,s.at',s.wh,s.tk,s.chs,⟨x,n.t,n.way,n.tg⟩::j,s.go⟩) (Er (d:=⟨x,n.t,n.way,n.tg⟩) ⟨a.n,a.a,a.w,a.k,a.cl,a.c,by simp;lia,fun d i=>?_,a.g⟩ List.mem_cons_self (AB O)) ?_
  .rcases List.mem_cons.mp i with rfl | z
   .exact⟨Q,q.t,q.w,q.g⟩
   .exact a.sv d (by rw [g];exact bE _ z)
  .simp only [aX,List.map_append,List.map_cons,eO];have o:aA (.lst (s.sd.map cx)) (.int 0)=some (cx n):=by rw [g,cJ];exact aI (by decide) rfl
   have W:cT (cx n) (some 1) none=some (.tup [n.t.p,.str n.way,.str n.tg]):=rfl;have Z:cT (.lst (s.sd.map cx)) (some 1) none=some (.lst (j.map cx)):=by rw [g,List.map_cons];exact s0 ..
   have ad:aB (.tup [.str x]) (.tup [n.t.p,.str n.way,.str n.tg])=some (.tup [.str x,n.t.p,.str n.way,.str n.tg]):=rfl;have U:1+(j.map cx).length≤1000000:=by simp;lia
   have E:aA (.lst [P.str "A",.str "",.str "or",.str "abcdefghijk"]) (.int (m / 6 % 4))=some (.str x):=ex;generalize cx n=dp at *
   generalize s.sd.map cx=X at *
   generalize j.map cx=D at *
   simp [aX,dC,cx,hI,mM,mO,aL,o,W,Z,E,ad,aE,aD,U,-cJ]
 refine n1 (b:=decide (m % 6=5) && decide (0 < s.sd.length)) ?_ (fun p=>?_) (fun _=>?_)
 .by_cases v:m % 6=5 <;> simp [v,bC,bF,EC]
 .rw [Bool.and_eq_true,decide_eq_true_eq,decide_eq_true_eq] at p;obtain⟨n,j,g⟩:=mB p.2;have A:n ∈ s.sd:=by rw [g];exact List.mem_cons_self
  have q:WfSn n:=a.sv n A;have Y:=a.sl;rw [g,bo] at Y;refine lD (s:=⟨s.name,s.at',s.wh,s.tk,s.chs,j++[⟨"a",mM n.t,n.way,n.tg⟩],s.go⟩) (Er (d:=⟨"a",mM n.t,n.way,n.tg⟩) ⟨a.n,a.a,a.w,a.k,a.cl,a.c,by simp;lia,fun d i=>?_,a.g⟩ (List.mem_append_right _ List.mem_cons_self) (AA (x:="qqq") List.mem_cons_self (K.qk _))) ?_
  .rcases bi.mp i with z | z
   .exact a.sv d (by rw [g];exact bE _ z)
   .rw [bP.mp z];exact⟨uW,Fi (N n A),q.w,q.g⟩
  .simp only [aX,List.map_append,List.map_cons,eO];have o:aA (.lst (s.sd.map cx)) (.int 0)=some (cx n):=by rw [g,cJ];exact aI (by decide) rfl
   have e1:aA (cx n) (.int 1)=some n.t.p:=rfl;have W:cT (cx n) (some 2) none=some (.tup [.str n.way,.str n.tg]):=rfl;have Z:cT (.lst (s.sd.map cx)) (some 1) none=some (.lst (j.map cx)):=by rw [g,List.map_cons];exact s0 ..
   have ad:aB (.tup [.str "a",.tup [.str "times",.tup [.str "name",.str "qqq"],n.t.p]]) (.tup [.str n.way,.str n.tg])=some (.tup [.str "a",.tup [.str "times",.tup [.str "name",.str "qqq"],n.t.p],.str n.way,.str n.tg]):=rfl;have U:(j.map cx).length+1≤1000000:=by simp;lia
   generalize cx n=dp at *
   generalize s.sd.map cx=X at *
   generalize j.map cx=D at *
   simp [aX,dC,cx,hI,mM,mO,aL,o,e1,W,Z,ad,aE,aD,U,-cJ]
 refine n1 (b:=s.tk.isNone && decide (0 < f.cells.length)) ?_ (fun p=>?_) (fun _=>?_)
 .generalize aL s.tk=H at *
  generalize aq (f.cells.map Cel.name)=cn at *
  cases hn:s.tk.isNone <;> simp [gi,hn,bC,bF,T]
 .rw [Bool.and_eq_true,decide_eq_true_eq] at p;obtain⟨w,cr,F⟩:=mB p.2;have r:s.tk=none:=Option.isNone_iff_eq_none.mp p.1;have J:strOk w.name:=bf (K.cs _ (by rw [F];exact List.mem_cons_self));refine lD (s:=⟨s.name,s.at',s.wh,s.tk,[⟨w.name,mO⟩],[],s.go⟩) (Az ⟨a.n,a.a,a.w,a.k,by simp,fun c u=>?_,by simp,(fun d i=>by cases i),a.g⟩ ?_) ?_
  .rw [bP.mp u];exact⟨J,Fk⟩
  .dsimp only;rw [r];exact D0 (x:="it") List.mem_cons_self List.mem_cons_self K.ic
  .simp only [aX,List.map_append,List.map_cons,eO];have o:aA (.lst (aq (f.cells.map Cel.name))) (.int 0)=some (.str w.name):=by rw [F,cJ];exact aI (by decide) rfl
   generalize aL s.tk=H at *
   generalize aq (f.cells.map Cel.name)=cn at *
   simp [aX,dC,cx,hI,mM,mO,aL,o,-cJ]
 obtain⟨z,hz,e⟩:=G;refine lD hz ?_;generalize aX z=zp at *
 simp [e]
noncomputable def pw (N:LS) (o:Str):P->Bool
 | .tup [_,.str a,.str b]=>aS N b || !decide (a=o)
 | _=>false
noncomputable def mU (r:Road) (k:Str) (n:Int):Road:=⟨r.one,r.other,k,n,r.lo,r.db⟩
theorem sR {ψ:Str->GF} (ι:Str->GF) (υ:Str->GX) (R:yq ψ) {c:List Fam}{d:List Road}{u:List P} (h:Plan c d u) {f:Fam}{k:Nat} (hk:c[k]? = some f) (m:Int) {y:D}{l:aR}{a:List P} (Z:Option D) {z:Stp} (hz:Bst f d z) (hzm:aX z ∈ a) (hsl:a.length≤100) (T:∀v ∈ a,∃s,v=aX s/\WfS s)
  (hn:∀A B C E G I a6 J L a10,cW (ac 7) [] 1 11 aZ (vE (fI (ac 11) (vi 0))) [A,B,C,E,G,I,a6,some y,J,L,a10] l=some (.lst (aq (a.map bc)),l)) (Y:∃S',jx 9 y l=some (.lst a,S')) :
  ∃W,Ci W/\∃L1 S1,vj ψ ι υ [qp (ai c d u),qi m,ql (c.map ae),ql (d.map af),ql u,qi (k:Int),qp (ae f),some y,Z,none] l=some (.rt (.p W),L1,S1):=by
 obtain⟨kinds,hF⟩:=h.fms;have i:=h.pst;have M:=(bw.mp hk).1;have O:f ∈ c:=cV hk;have H:=i.f f O;have l2:=hF.l2;have hNk:∀x ∈ a.map bc,strOk x:=fun x hx=>by obtain⟨v,U,rfl⟩:=bb.mp hx;obtain⟨s,e,hs⟩:=T v U;rw [(iR e).2];exact bO hs.n
 have fd0:aA (ae f) (.int 0)=some (.str f.name):=rfl;have cw:∀A B C E G I J L q,aJ (ah 10) (nW (bV (aG kX (eV (ag aA (vv 10) (vi 2))) (eV (cW (ac 7) [] 1 11 aZ (vE (fI (ac 11) (vi 0))))))) (bV (aG n5 (eV (ag aA (vv 10) (vi 1))) (eV (ag aA (vv 6) (vi 0)))))) (vv 10) u [A,B,C,E,G,I,qp (ae f),some y,J,L,q] l=some (u.filter (pw (a.map bc) f.name),l):=fun A B C E G I J L q=>by
  have:=cG (f:=id) (g:=id) (p:=pw (a.map bc) f.name) (S:=l) (t:=ah 10) (c:=(nW (bV (aG kX (eV (ag aA (vv 10) (vi 2))) (eV (cW (ac 7) [] 1 11 aZ (vE (fI (ac 11) (vi 0))))))) (bV (aG n5 (eV (ag aA (vv 10) (vi 1))) (eV (ag aA (vv 6) (vi 0))))))) (e:=vv 10) (fun q=>[A,B,C,E,G,I,qp (ae f),some y,J,L,q]) (fun _ _=>rfl) (s:=u) (fun v U=>by
   obtain⟨w,rfl,hw⟩:=i.w v U;have X:=f_ hw.s hNk l;have w2:aA (gM w) (.int 2)=some (.str w.stp):=rfl;have w1:aA (gM w) (.int 1)=some (.str w.fam):=rfl;have pe:pw (a.map bc) f.name (gM w)=(aS (a.map bc) w.stp || !decide (w.fam=f.name)):=rfl;refine⟨?_,by simp⟩;rw [id,pe];generalize gM w=wp at *
   generalize ae f=fp at *
   generalize aq (a.map bc)=nl at *
   cases o:aS (a.map bc) w.stp with
   | true=>rw [o] at X;simp [w2,hn,X,-gN]
   | false=>rw [o] at X;simp [w2,hn,X,w1,fd0,-gN]) q
  simpa using this
 have lw:u.length≤1000000:=by have:=h.wl;lia
 have V:(d.map af).length=d.length:=by simp
 unfold vj;by_cases o:m / 4096 % 16=0/\0 < d.length
 .obtain⟨t,K,F⟩:=mB o.2;have Q:t ∈ d:=by rw [F];exact List.mem_cons_self
  obtain⟨j,n,hkd,hko,hat⟩:∃(j:Str) (n:Int),(∀N,ed N (mU t j n)=false)/\strOk j/\aA (.lst [P.tup [.str "pile",.int 1],.tup [.str "row",.int 0],.tup [.str "heap",.int 4],.tup [.str "",.int 1]]) (.int (m / 65536 % 4))=some (.tup [.str j,.int n]):=by
   have:m / 65536 % 4=0\/m / 65536 % 4=1\/m / 65536 % 4=2\/m / 65536 % 4=3:=by lia
   rcases this with q | q | q | q <;> rw [q]
   .exact⟨"pile",1,fun N=>by unfold ed mU;rw [show aS [("row":Str),"heap"] "pile"=false by decide +kernel];simp,by unfold strOk;decide +kernel,rfl⟩
   .exact⟨"row",0,fun N=>by simp [ed,mU],by unfold strOk;decide +kernel,rfl⟩
   .exact⟨"heap",4,fun N=>by simp [ed,mU],by unfold strOk;decide +kernel,rfl⟩
   .exact⟨"",1,fun N=>by unfold ed mU;rw [show aS [("row":Str),"heap"] ""=false by decide +kernel];simp,by unfold strOk;decide +kernel,rfl⟩
  refine⟨ai c (mU t j n::K) u,gh (b2:=false) ⟨i.l,i.f,fun r hrm=>?_,by have:=i.rl;rw [F] at this;simpa using this,i.wl,i.w⟩ (o6 List.mem_cons_self (hkd _)) (fun g=>by have:=g.r;cases this),[qp (ai c d u),qi m,ql (c.map ae),ql (d.map af),ql (u.filter (pw (a.map bc) f.name)),qi (k:Int),qp (ae f),some y,Z,qp (af (mU t j n))],l,?_⟩
  .rcases List.mem_cons.mp hrm with rfl | q
   .exact⟨(i.r t Q).a,(i.r t Q).b,hko⟩
   .exact i.r r (by rw [F];exact bE _ q)
  .rw [show ai c (mU t j n::K) u=.tup [.lst (c.map ae),.lst (af (mU t j n)::K.map af),.lst u] from rfl];rw [aa];simp [au,lw,c_,cw,-gN,-aa];have dd:aA (.lst (d.map af)) (.int 0)=some (af t):=by rw [F,cJ];exact aI (by decide) rfl
   have s1:cT (.lst (d.map af)) (some 1) none=some (.lst (K.map af)):=by rw [F,List.map_cons];exact s0 ..
   have s2:cT (af t) none (some 2)=some (.tup [.str t.one,.str t.other]):=rfl;have s4:cT (af t) (some 4) none=some (.tup [.bl t.lo,.bl t.db]):=rfl;have ad1:aB (.tup [.str t.one,.str t.other]) (.tup [.str j,.int n])=some (.tup [.str t.one,.str t.other,.str j,.int n]):=rfl;have ad2:aB (.tup [.str t.one,.str t.other,.str j,.int n]) (.tup [.bl t.lo,.bl t.db])=some (af (mU t j n)):=rfl;have p2:aA (ai c d u) (.int 2)=some (.lst u):=rfl;have lr:1+(K.map af).length≤1000000:=by have:=h.rl;rw [F] at this;simp at this ⊢;lia
   have hb2:=o.2;generalize ai c d u=pp at *
   generalize ae f=fp at *
   generalize af (mU t j n)=zr at *
   generalize af t=rp0 at *
   generalize d.map af=rp at *
   generalize K.map af=rrp at *
   simp [o.1,hb2,bC,bF,V,dd,s1,s2,s4,hat,ad1,ad2,p2,aE,aD,lr,-cJ]
 .obtain⟨b,hbr⟩:=h.nd (c.set k (ij f a));obtain⟨S',Y⟩:=Y;refine⟨ai (c.set k (ij f a)) d (u.filter (pw (a.map bc) f.name)),gh ⟨by simp;lia,fun x hx=>?_,i.r,i.rl,?_,fun v U=>i.w v (fk.mp U).1⟩ hbr fun g=>?_,[qp (ai c d u),qi m,ql (c.map ae),ql (d.map af),ql (u.filter (pw (a.map bc) f.name)),qi (k:Int),qp (ae f),some y,Z,none],S',?_⟩
  .rcases fF hx with q | rfl
   .exact i.f x q
   .exact⟨H.rm,H.cw,H.nm,hsl,T⟩
  .exact bL (mx ..) i.wl
  .have:=g.s (ij f a) (qE.mpr ⟨k,by simp [M]⟩) z hz.wf hzm;rw [show i6 (ij f a) d z=i6 f d z from rfl,hz.no] at this;cases this
  .have st:=R (c.map ae) k (ae (ij f a)) (by simpa using M) (by simp;lia);rw [show (c.map ae).set k (ae (ij f a))=(c.set k (ij f a)).map ae by rw [lV]] at st;rw [show ai (c.set k (ij f a)) d (u.filter (pw (a.map bc) f.name))=.tup [.lst ((c.set k (ij f a)).map ae),.lst (d.map af),.lst (u.filter (pw (a.map bc) f.name))] from rfl];have s5:cT (ae f) none (some 5)=some (.tup [.str f.name,.int f.hands,.lst (aq f.rooms),.lst (f.cells.map a_),.lst (aq f.whos)]):=rfl;have ad:aB (.tup [.str f.name,.int f.hands,.lst (aq f.rooms),.lst (f.cells.map a_),.lst (aq f.whos)]) (.tup [.lst a])=some (ae (ij f a)):=rfl;refine (ce (e:=[qp (ai c d u),qi m,ql (c.map ae),ql (d.map af),ql (u.filter (pw (a.map bc) f.name)),qi (k:Int),qp (ae f),some y,Z,none]) (s:=l) (by generalize ai c d u=pp at *;generalize ae f=fp at *;simp [au,lw,c_,cw,-gN])).trans ?_;have hb':m / 4096 % 16=0->d.length=0:=fun q=>by
    by_cases z:0 < d.length
    .exact absurd ⟨q,z⟩ o
    .lia
   generalize ai c d u=pp at *
   generalize ae (ij f a)=fq at *
   generalize ae f=fp at *
   generalize (c.set k (ij f a)).map ae=fsq at *
   generalize c.map ae=fsp at *
   generalize d.map af=rp at *
   by_cases q:m / 4096 % 16=0
   .have z:=hb' q;simp [q,z,bC,bF,V,aE,aD,s5,Y,ad,st]
   .simp [q,aE,aD,s5,Y,ad,st]
noncomputable def Ch (x:Str->GF):Prop:=∀{h:List Fam}{r:List Road}{w:List P}{f:Fam} (m:Int),Plan h r w->f ∈ h->∀s,WfS s->(∀d ∈ s.sd,Sml d.t)->s.chs.length≤3->∃z,Bst f r z/\pureOf (x "_law_bent_step") [ai h r w,ae f,aX s,.int m]=some (aX z)
theorem B3 (n:Nat):Ch (Pa (n+4)):=fun {b r w f} m h x s t a c=>by
 obtain⟨k,F⟩:=h.fms;obtain⟨z,p,L,e⟩:=zG (ψ:=Pa (n+2+1)) (Pa (n+2)) (Xs (n+2+1)) (ws:=w) m (F.ok f x) t a c (pM (n+1) (m / 6) h x);refine⟨z,p,?_⟩;rw [show Pa (n+4) "_law_bent_step"=_ from kf (n+2),ap];generalize ai b r w=v at *
 generalize ae f=q at *
 generalize aX s=d at *
 generalize aX z=u at *
 simp [e]
theorem y1 (h:∀v ∈ n,nA v) (l:n.length≤100) (g:S[0]? = some (.lst (br n))) (f b c m r t p w u a:Option D):cW (ac 7) [] 1 11 aZ (vE (fI (ac 11) (vi 0))) [f,b,c,m,r,t,p,some (.ref 0),w,u,a] S=some (.lst (aq (n.map bc)),S):=by
 have:=iZ (j:=0) (b:=11) (e:=vE (fI (ac 11) (vi 0))) (S:=S) g (fun q=>[f,b,c,m,r,t,p,some (.ref 0),w,u,a,q]) (fun _ _=>rfl) (s:=aq (n.map bc)) (by simp [br]) (fun i d y x s=>by
  unfold br at x;unfold aq at s;rw [List.getElem?_map] at x s;rw [List.getElem?_map] at s;cases k:n[i]? with
  | none=>rw [k] at x;cases x
  | some v=>rw [k] at x s;cases x;cases s;have e:=kH (h v (cV k));simp [e]) 1000 0 none (by simp [br];lia)
 rw [kw] at this;simp [g,c_,this]
theorem y0 (h:∀v ∈ s,nA v) (w:s.length≤100) (x n k b c m r t p a:Option D):cW (ac 7) [] 1 11 aZ (vE (fI (ac 11) (vi 0))) [x,n,k,b,c,m,r,ql s,t,p,a] S=some (.lst (aq (s.map bc)),S):=by
 have:=comp_map (f:=id) (g:=fun v=>P.str (bc v)) (S:=S) (tgt:=ah 11) (e:=vE (fI (ac 11) (vi 0))) (fun q=>[x,n,k,b,c,m,r,ql s,t,p,a,q]) (fun _ _=>rfl) (xs:=s) (fun v d=>by have e:=kH (h v d);simp [e]) none
 rw [List.map_id] at this;have l:s.length≤1000000:=by lia
 rw [show (s.map fun v=>P.str (bc v))=aq (s.map bc) by simp [aq]] at this;simp [au,l,c_,this]
theorem vh {d:Str->GF} (J:Str->GF) (M:Str->GX) (u:yq d) (i:Ch d) (F:yu d) (hwl:∀{x:List Fam}{r:List Road}{w:List P},Plan x r w->∀m,∃W,Ci W/\pureOf (d "_law_wrong_list") [ai x r w,.int m]=some W) (hwf:∀{x:List Fam}{r:List Road}{w:List P},Plan x r w->∀m,∃W,Ci W/\pureOf (d "_law_wrong_family") [ai x r w,.int m]=some W) {x:List Fam}{r:List Road}{w:List P} (h:Plan x r w) (m:Int):∃W,Ci W/\pureOf (cq 2 10 (cg d J M)) [ai x r w,.int m]=some W:=by
 by_cases y:m % 4=0
 .obtain⟨W,t,e⟩:=hwl h (m / 4);refine⟨W,t,?_⟩;rw [ap];generalize ai x r w=H at *
  simp [cg,y,e]
 by_cases o:m % 4=1
 .obtain⟨W,t,e⟩:=hwf h (m / 4);refine⟨W,t,?_⟩;rw [ap];generalize ai x r w=H at *
  simp [cg,o,e]
 obtain⟨kinds,G⟩:=h.fms;have hp:=h.pst;have hnm:=G.names;have hnb:=h.rok.nb hnm.2;obtain⟨k,hk,ek⟩:=tz (x:=x.length) (by have:=G.l1;lia) (m / 4);have l2:=G.l2;have hg:x[k]? = some x[k]:=List.getElem?_eq_getElem hk;have a:x[k] ∈ x:=jn hk;generalize x[k]=f at *
 have hfo:=G.ok f a;have p:=hp.f f a;have K:=h.stp f a;have sln:=K.ln;have hstp:∀v ∈ f.steps,nA v:=fun v b=>by obtain⟨s,e,_⟩:=p.st v b;exact (iR e).1
 have ln:(x.map ae).length=x.length:=by simp
 have B:0 < x.length:=by lia
 have dk:aA (.lst (x.map ae)) (.int (k:Int))=some (ae f):=by rw [cJ];exact atI_get (by rw [List.getElem?_map,hg];rfl)
 have un:=eS x r w;have d5:aA (ae f) (.int 5)=some (.lst f.steps):=by unfold ae;rw [dY];exact G4 ..
 have o1:cO (.ref 0) [SO.lst (br f.steps)]=some (0,br f.steps):=rfl;have key:∃W,Ci W/\∃L S,cg d J M [qp (ai x r w),qi m,none,none,none,none,none,none,none,none] []=some (.rt (.p W),L,S):=by
  by_cases I:0 < f.steps.length/\m % 4=2
  .obtain⟨j,hj,ej⟩:=tz (x:=f.steps.length) I.1 (m / 16);have b:f.steps[j]? = some f.steps[j]:=List.getElem?_eq_getElem hj;obtain⟨s,es,hs,hsm,hcl⟩:=sY hfo hnb (by lia) (K.ok j _ b);obtain⟨z,A,E⟩:=i (m / 128) h a s hs hsm hcl;have c:∀v ∈ f.steps.set j (aX z),∃s,v=aX s/\WfS s:=fun v b=>by
    rcases fF b with q | rfl
    .exact p.st v q
    .exact⟨z,rfl,A.wf⟩
   have l:(f.steps.set j (aX z)).length≤100:=by rw [cv];exact p.sl
   have tp:jx 9 (.ref 0) [.lst (br (f.steps.set j (aX z)))]=some (.lst (f.steps.set j (aX z)),[.fz (.lst (f.steps.set j (aX z)))]):=eA (U:=f.steps.set j (aX z)) rfl;obtain⟨W,t,L,S,e⟩:=sR (ψ:=d) J M u h hg m (y:=.ref 0) (l:=[.lst (br (f.steps.set j (aX z)))]) (qi (j:Int)) A (qE.mpr ⟨j,by simp [hj]⟩) l c (fun N O Q R T U V X Y g=>y1 (fun v b=>by obtain⟨s,e,_⟩:=c v b;exact (iR e).1) l rfl N O Q R T U V X Y g) ⟨_,tp⟩;refine⟨W,t,L,S,?_⟩;unfold cg;rw [aa];simp [y,-aa];rw [aa];simp [o,-aa];rw [aa];simp [un,-aa];rw [aa];simp [bC,bF,ln,B,ek,-aa];rw [aa];simp [dk,-cJ,-aa];refine (ce (e:=[qp (ai x r w),qi m,ql (x.map ae),ql (r.map af),ql w,qi (k:Int),qp (ae f),some (.ref 0),none,none]) (s:=[.lst (br f.steps)]) (by generalize ai x r w=H at *;generalize ae f=ff at *;simp [d5,yc,br])).trans ?_;refine (ce (e:=[qp (ai x r w),qi m,ql (x.map ae),ql (r.map af),ql w,qi (k:Int),qp (ae f),some (.ref 0),qi (j:Int),none]) (s:=[.lst (br (f.steps.set j (aX z)))]) ?_).trans ?_
   .have dl:(br f.steps).length=f.steps.length:=by simp [br]
    have dj:L2.atI (br f.steps) (j:Int)=qp (aX s):=atI_get (by unfold br;rw [List.getElem?_map,b,es];rfl);have ix:L2.wq f.steps.length (j:Int)=some j:=by unfold L2.wq;rw [if_pos (by lia),if_pos (by lia),Int.toNat_natCast]
    have ps:(br f.steps).set j (.p (aX z))=br (f.steps.set j (aX z)):=by unfold br;rw [lV]
    have D:=I.1;generalize ai x r w=H at *
    generalize ae f=ff at *
    generalize aX s=sp at *
    generalize aX z=zp at *
    generalize br (f.steps.set j zp)=dz at *
    generalize br f.steps=ds at *
    simp [bC,bF,dl,D,I.2,ej,mX,IU,cO,fU,dj,E,ix,ps]
   .exact e
  .obtain⟨z,A,E⟩:=F (m / 16) h a;have c:∀v ∈ f.steps.take 7++[aX z],∃s,v=aX s/\WfS s:=fun v b=>by
    rcases bi.mp b with q | q
    .exact p.st v (fw q)
    .exact⟨z,bP.mp q,A.wf⟩
   have l:(f.steps.take 7++[aX z]).length≤100:=by simp;lia
   have C:jx 9 (.ref 0) [.lst (br f.steps)]=some (.lst f.steps,[.fz (.lst f.steps)]):=eA (U:=f.steps) rfl;obtain⟨W,t,L,S,e⟩:=sR (ψ:=d) J M u h hg m (y:=.p (.lst (f.steps.take 7++[aX z]))) (l:=[.fz (.lst f.steps)]) none A (List.mem_append_right _ List.mem_cons_self) l c (fun N O Q R T U V X Y g=>y0 (fun v b=>by obtain⟨s,e,_⟩:=c v b;exact (iR e).1) l N O Q R T U V X Y g) ⟨_,rfl⟩;refine⟨W,t,L,S,?_⟩;unfold cg;rw [aa];simp [y,-aa];rw [aa];simp [o,-aa];rw [aa];simp [un,-aa];rw [aa];simp [bC,bF,ln,B,ek,-aa];rw [aa];simp [dk,-cJ,-aa];refine (ce (e:=[qp (ai x r w),qi m,ql (x.map ae),ql (r.map af),ql w,qi (k:Int),qp (ae f),some (.ref 0),none,none]) (s:=[.lst (br f.steps)]) (by generalize ai x r w=H at *;generalize ae f=ff at *;simp [d5,yc,br])).trans ?_;refine (ce (e:=[qp (ai x r w),qi m,ql (x.map ae),ql (r.map af),ql w,qi (k:Int),qp (ae f),ql (f.steps.take 7++[aX z]),none,none]) (s:=[.fz (.lst f.steps)]) ?_).trans ?_
   .have dl:(br f.steps).length=f.steps.length:=by simp [br]
    have s7:cT (.lst f.steps) none (some 7)=some (.lst (f.steps.take 7)):=jU f.steps 7;have lt:(f.steps.take 7).length+1≤1000000:=by simp;lia
    generalize ai x r w=H at *
    generalize ae f=ff at *
    generalize aX z=zp at *
    generalize br f.steps=ds at *
    generalize f.steps.take 7=st7 at *
    by_cases D:0 < f.steps.length
    .have Z:¬m % 4=2:=fun q=>I ⟨D,q⟩;simp [bC,bF,dl,D,Z,C,aE,aD,s7,E,lt]
    .have Z:f.steps.length=0:=by lia
     simp [bC,bF,dl,Z,C,aE,aD,s7,E,lt]
   .exact e
 obtain⟨W,t,L,S,e⟩:=key;refine⟨W,t,?_⟩;rw [ap];generalize ai x r w=H at *
 simp [e]
theorem yw (n:Nat):yo (Pa (n+6)):=fun {f r w} m h=>by have e:=vh (d:=Pa (n+4+1)) (Pa (n+4)) (Xs (n+4+1)) (xu (n+3)) (B3 (n+1)) (pM (n+3)) (fun h m=>yy (n+3) h m) (fun h m=>Fo (n+1) h m) h m;rw [show Pa (n+6) "_law_wrong"=_ from oo (n+4)];exact e
theorem DC (n:Nat) (s:List Int):pureOf (Pa (n+18) "law") [.ro (s.map P.int)]=some (.bl true):=Gw n (yw (n+11)) s
theorem Bo {K:FG}{H:Hp}{a:Addr}{n:List Int} (l:n.length≤63) (h:zJ H) (S:eN K H a (n.map V.int)):Ev.sZ K (Ev.JV My.Gv My.Att My.sF My.Rs My.Tb 200 "law") [.ref a] H (fun v _=>v=.bl true) (fun _ _ _=>False):=Gu h S (DC 182 n)
end My
namespace PySem.W.Fast
def tw14933086863170929162:Unit:=()
def tw15423955476098745047:Unit:=()
def tw1669324537778784079:Unit:=()
def tw458309083276598197:Unit:=()
def tw7740905867191857863:Unit:=()
def tw4707129910575862782:Unit:=()
def tw16512693485673813980:Unit:=()
def tw2182292773184288278:Unit:=()
def tw14386192759557033494:Unit:=()
def tw12210258685893649695:Unit:=()
def tw5080962742053579973:Unit:=()
def tw15786445192756818809:Unit:=()
def tw13295392941469335159:Unit:=()
def tw4902258912857313126:Unit:=()
def tw2568587645931569878:Unit:=()
def tw16096557329397279345:Unit:=()
def tw1356597157865823912:Unit:=()
def tw6454477818052880974:Unit:=()
def tw1003143199245361412:Unit:=()
def tw15415832629177075777:Unit:=()
def tw10228726431342788112:Unit:=()
def tw16409470113537441704:Unit:=()
def tw8742750928897893861:Unit:=()
def tw170578538811993391:Unit:=()
def tw10529461429319451570:Unit:=()
def tw11966753287385931114:Unit:=()
def tw5587511845240829591:Unit:=()
def tw3628225314678029605:Unit:=()
def tw1002968724545625654:Unit:=()
def tw15459152776815733388:Unit:=()
def tw4193305487646752973:Unit:=()
def tw16152953189110208873:Unit:=()
def tw3038729031633406698:Unit:=()
def tw11260057629457579567:Unit:=()
def tw8632759789507977806:Unit:=()
def tw1224276992423776025:Unit:=()
def tw7629735867056281062:Unit:=()
def tw12291747446501532951:Unit:=()
def tw7519045613374201823:Unit:=()
def tw11692747282316799530:Unit:=()
def tw1261346730609763382:Unit:=()
def tw10009939467762849476:Unit:=()
def tw5299404285547889639:Unit:=()
def tw1989110843646323735:Unit:=()
def tw6803300077293947965:Unit:=()
def tw17274239899940452944:Unit:=()
def tw8552984421010001256:Unit:=()
def tw13186213395599712459:Unit:=()
def tw13580344407851278509:Unit:=()
def tw2554340132327810127:Unit:=()
def tw16789924909899342420:Unit:=()
def tw14128461984195739548:Unit:=()
def tw12156706204456479984:Unit:=()
def tw14171086306534292290:Unit:=()
def tw9099841179080142064:Unit:=()
def tw10143555660823173886:Unit:=()
def tw10733589649986911578:Unit:=()
def tw13646478113106499737:Unit:=()
def tw14062395020107176059:Unit:=()
def tw12257518401170108851:Unit:=()
def tw18356467514178580697:Unit:=()
def tw16333720623798378818:Unit:=()
def tw1031036467136785502:Unit:=()
def tw18237807997389655599:Unit:=()
def tw11270845276016060588:Unit:=()
def tw4977785084602139154:Unit:=()
def tw3154196823235922973:Unit:=()
def tw4451330415381581277:Unit:=()
def tw2177994347269149162:Unit:=()
def tw9341546508603400087:Unit:=()
def tw15128908458680738486:Unit:=()
def tw2063634353903346476:Unit:=()
def tw12873959035539086998:Unit:=()
def tw1732021902313657700:Unit:=()
def tw13072676898183267600:Unit:=()
def tw526190631560931146:Unit:=()
def tw11838706705905877109:Unit:=()
def tw236911000357091792:Unit:=()
def tw4294299873727973811:Unit:=()
def tw8378801513525232569:Unit:=()
def tw13309674482733002527:Unit:=()
def tw261746766762472949:Unit:=()
def tw11458395002575690656:Unit:=()
def tw13010981708774308947:Unit:=()
def tw14942164364225020050:Unit:=()
def tw1925939620376299054:Unit:=()
def tw15357510868274894264:Unit:=()
def tw2405487079788730118:Unit:=()
def tw1901158073435895494:Unit:=()
def tw14511367948462375913:Unit:=()
def tw1223271031739329014:Unit:=()
def tw1673312205682239277:Unit:=()
def tw63584855899669148:Unit:=()
def tw8997273633398609341:Unit:=()
def tw13317113802763344711:Unit:=()
def tw11067685269592395678:Unit:=()
def tw12881185868767469879:Unit:=()
def tw17168150276648986905:Unit:=()
def tw18383235066494839092:Unit:=()
def tw14998141845070082137:Unit:=()
def tw8027531342038320485:Unit:=()
def tw7676733161772057682:Unit:=()
def tw17871316764050867585:Unit:=()
def tw9249928924057724973:Unit:=()
def tw6005822310233979694:Unit:=()
def tw12228908519217535450:Unit:=()
def tw3427359886994199864:Unit:=()
def tw12961344633087860229:Unit:=()
def tw12092055947389816223:Unit:=()
def tw7678854816122894771:Unit:=()
def tw4557904955226220417:Unit:=()
def tw1785770934312397520:Unit:=()
def tw2566519330548103771:Unit:=()
def tw2263111213152694815:Unit:=()
def tw9181003007943516740:Unit:=()
def tw6782576912208449400:Unit:=()
def tw4250081133077020085:Unit:=()
def tw16611838798754960799:Unit:=()
def tw18399760253625465727:Unit:=()
def tw5365504261624737974:Unit:=()
def tw14838823539177093960:Unit:=()
def tw14658952484046363462:Unit:=()
def tw3406414643246996581:Unit:=()
def tw13683094446522544473:Unit:=()
def tw7190560530407957740:Unit:=()
def tw16605808313206310106:Unit:=()
def tw13492949902482593660:Unit:=()
def tw6032871109142910049:Unit:=()
def tw5434519959100015866:Unit:=()
def tw2722760951334955655:Unit:=()
def tw6111371187992128312:Unit:=()
def tw15683223956946775143:Unit:=()
def tw5761325714502473207:Unit:=()
def tw17316515253080658674:Unit:=()
def tw15994301027171746795:Unit:=()
def tw5324264467512602590:Unit:=()
def tw13100857153739917200:Unit:=()
def tw14170991459082927271:Unit:=()
def tw3768687352353658615:Unit:=()
def tw12995892502265623849:Unit:=()
def tw2597833284705522853:Unit:=()
def tw18091531953995647046:Unit:=()
def tw14819032569768655224:Unit:=()
def tw12100673435328004776:Unit:=()
def tw10278022624958275883:Unit:=()
def tw9582918789144804648:Unit:=()
def tw13321329063587158036:Unit:=()
def tw4293489393286229399:Unit:=()
def tw5438382321574829856:Unit:=()
def tw2811879953498953248:Unit:=()
def tw9843345522260251223:Unit:=()
def tw5147975927749107143:Unit:=()
def tw8202633152197948745:Unit:=()
def tw11220378099708701812:Unit:=()
def tw12150335538027143746:Unit:=()
def tw13425826945538449722:Unit:=()
def tw18331594637563875978:Unit:=()
def tw2737049460723087657:Unit:=()
def tw10548409435588565223:Unit:=()
def tw14392863913676925666:Unit:=()
def tw13822293614476038555:Unit:=()
def tw3306191575010241217:Unit:=()
def tw9716676981559994170:Unit:=()
def tw11403062214286915423:Unit:=()
def tw6996108424938899825:Unit:=()
def tw2165023784153307356:Unit:=()
def tw15463060097462940911:Unit:=()
def tw10942191106568852862:Unit:=()
def tw18296760886873674276:Unit:=()
def tw17538889580454413747:Unit:=()
def tw1791828020807962182:Unit:=()
def tw9207758612365173690:Unit:=()
def tw6864384211334557321:Unit:=()
def tw1554007895187848851:Unit:=()
def tw14420402933368526558:Unit:=()
def tw3942663474859997831:Unit:=()
def tw3368978276058226905:Unit:=()
def tw4582699863758929421:Unit:=()
def tw15672298805877369075:Unit:=()
def tw10359453026861493561:Unit:=()
def tw8781969156989200566:Unit:=()
def tw1514399281060096110:Unit:=()
def tw831291329571263135:Unit:=()
def tw16191416554230666810:Unit:=()
def tw15798438546934177162:Unit:=()
def tw8968165789122129838:Unit:=()
def tw17193358613142628778:Unit:=()
def tw9134876259647936847:Unit:=()
def tw14149227171833567016:Unit:=()
def tw11421625714702669300:Unit:=()
def tw15233426080170813838:Unit:=()
def tw4941454952936785406:Unit:=()
def tw8771190798475444944:Unit:=()
def tw10045662099713560737:Unit:=()
def tw14975604767733006618:Unit:=()
def tw13820073673319093695:Unit:=()
def tw10938532612264203220:Unit:=()
def tw10223132756055687173:Unit:=()
def tw15211092435519072855:Unit:=()
def tw16097667717973134910:Unit:=()
def tw14559037915657708003:Unit:=()
def tw17062894836091391524:Unit:=()
def tw8551003977517659028:Unit:=()
def tw11857158096984467845:Unit:=()
def tw15385633926996655868:Unit:=()
def tw17657468488353738995:Unit:=()
def tw5470946849944112878:Unit:=()
def tw2162325300008002611:Unit:=()
def tw16816268745850649535:Unit:=()
def tw8453047327287281613:Unit:=()
def tw17041668142500207427:Unit:=()
def tw5063789366944867341:Unit:=()
def tw3407388681322573837:Unit:=()
def tw6180470440538135976:Unit:=()
def tw5613731994036275099:Unit:=()
def tw12931855560068969588:Unit:=()
def tw17088969554429431694:Unit:=()
def tw7933315119101526570:Unit:=()
def tw6416926346342689766:Unit:=()
def tw18163521985553115154:Unit:=()
def tw9130356737806753311:Unit:=()
def tw17878119817345589671:Unit:=()
def tw11275720444246557314:Unit:=()
def tw8646018377333441831:Unit:=()
def tw2052040900614575693:Unit:=()
def tw1685383599740931965:Unit:=()
def tw7771143499429872205:Unit:=()
def tw16479841090379179955:Unit:=()
def tw1730526625811166781:Unit:=()
def tw16666486184837992893:Unit:=()
def tw6585912537833485165:Unit:=()
def tw12349655431227709895:Unit:=()
def tw11591294695226242027:Unit:=()
def tw14582643804823281857:Unit:=()
def tw16974096477137050275:Unit:=()
def tw9045651573806123999:Unit:=()
def tw15276719381563824173:Unit:=()
def tw12934587017410661448:Unit:=()
def tw8214969937834230181:Unit:=()
def tw16186139342473067445:Unit:=()
end PySem.W.Fast
open PySem PySem.W PyProof.Rows
set_option maxRecDepth 100000 in
set_option maxHeartbeats 0 in
theorem PySem.Challenge.cw_roadsall_k11_no_plans_holds : PySem.Challenge.rw_roadsall_k11_no_plans.Holds := by
 w_on;o_law;k_head;(case hw=>w_witness2)
 k_fill
 refine L2.z5 (l:=PySem.Challenge.rw_roadsall_k11_no_plans) (n:=63) (k:=200) (x:="_law_script") (CX:=L2.sG) (sp:=fun K=>Ev.sZ K (Ev.JV My.Gv My.Att My.sF My.Rs My.Tb 200 "law")) rfl (by decide) rfl ⟨rfl,by decide,by decide⟩ (fun w h Y=>PySem.W.kIn_of Y) ?F ?S ?C
 case F=>
  intro w mg fa h KX G hmg
  have T:Ev.TOk w My.Gv My.Att My.sF My.Rs My.Tb (L2.MT KX) mg:=by
   dsimp only [L2.MT]
   refine' My.G7 KX G ?h0 ?h1 ?h2 ?h3 ?h4 ?h5 ?h6 ?h7 ?h8 ?h9 ?h10 ?h11 ?h12 ?h13 ?h14 ?h15 ?h16 ?h17 ?h18 ?h19 ?h20 ?h21 ?h22 ?h23 ?h24 ?h25 ?h26 ?h27 ?h28 ?h29 ?h30 ?h31 ?h32 ?h33 ?h34 ?h35 ?h36 ?h37 ?h38 ?h39 ?h40 ?h41 ?gv0 ?gv1 ?gv2 ?gv3 ?gv4 ?gv5 ?gv6 ?gv7 ?gv8 ?gv9 ?gv10 ?gv13 ?glb11 ?glt11 ?glb12 ?glt12 ?glb14 ?glt14 ?glb15 ?glt15 ?z (My.GV KX G ?ea0 ?en0 ?ea1 ?en1 ?ea2 ?en2 ?ea3 ?en3 ?ea4 ?en4 ?ea5 ?en5 ?ea6 ?en6 ?ea7 ?en7 ?ea8 ?en8 ?ea9 ?en9 ?ev ?env ?xg2 ?xh2 ?xe2 ?xc2 ?xb2 ?xd2 ?xo2 ?xi2 ?xs2 ?xv2 ?xr2 ?xk2_0 ?xm2_0 ?xk2_1 ?xk2_2 ?xm2_2 ?xk2_3 ?xk2_4 ?xk2_5 ?xk2_6 ?xk2_7 ?xk2_8 ?xk2_9)
   case h0 | h1 | h2 | h3 | h4 | h5 | h6 | h7 | h8 | h9 | h10 | h11 | h12 | h13 | h14 | h15 | h16 | h17 | h18 | h19 | h20 | h21 | h22 | h23 | h24 | h25 | h26 | h27 | h28 | h29 | h30 | h31 | h32 | h33 | h34 | h35 | h36 | h37 | h38 | h39 | h40 | h41=>exact⟨_,_,_,_,_,_,_,_,_,_,by first | k_is | rfl | kernel_rfl,by first | k_is | rfl | kernel_rfl,by first | k_is | rfl | kernel_rfl,by first | k_is | rfl | kernel_rfl⟩
   case gv0 | gv1 | gv2 | gv3 | gv4 | gv5 | gv6 | gv7 | gv8 | gv9 | gv10 | gv13=>exact⟨_,by first | k_is | rfl | kernel_rfl⟩
   case glb11 | glt11 | glb12 | glt12 | glb14 | glt14 | glb15 | glt15=>first | k_is | rfl | kernel_rfl
   case ea0 | en0 | ea1 | en1 | ea2 | en2 | ea3 | en3 | ea4 | en4 | ea5 | en5 | ea6 | en6 | ea7 | en7 | ea8 | en8 | ea9 | en9 | ev | env | xg2 | xh2 | xe2 | xc2 | xb2 | xd2 | xo2 | xi2 | xs2 | xv2 | xr2 | xk2_0 | xm2_0 | xk2_1 | xk2_2 | xm2_2 | xk2_3 | xk2_4 | xk2_5 | xk2_6 | xk2_7 | xk2_8 | xk2_9=>first | k_is | rfl | kernel_rfl
   case z=>
    intro x hx
    simp only [Ev.D',List.mem_cons,List.not_mem_nil,or_false] at hx
    rcases hx with rfl | rfl | rfl | rfl | rfl | rfl | rfl | rfl | rfl | rfl | rfl | rfl | rfl | rfl | rfl | rfl | rfl | rfl <;> k_is
  obtain⟨f,fd,h1⟩:=T.fn My.rW (by simp [My.Tb])
  have e0:=hmg.symm.trans (h1.gl (by decide +kernel))
  cases e0
  refine⟨fd,?_,fun base kb nb=>((Ev.x8 T 200).1 My.rW (by simp [My.Tb]) _ fd h1.fn).1⟩
  obtain⟨oc,od,kV,doc,pm,an,cdv,ct,osl,rfl,lk,hcd⟩:=h1.fn.ex
  exact fun s v=>.of_eq rfl
 case S=>exact fun w H a ns hl hO hS=>My.Bo hl hO hS
 case C=>exact fun _ _ _ _ z=>z
