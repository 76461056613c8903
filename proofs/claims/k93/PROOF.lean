import PyProof.Rows.All
import Wide.All
import OpenK.AllK
import Wide.FinOn
import Lean
import PyProof.EqAt
import PyProof.EqKinds
import PyProof.TupleCall
import PySem.Challenge.RW_roadsall_k93_what_a_plan_has
set_option Elab.async false
set_option linter.all false
set_option maxRecDepth 100000
set_option maxHeartbeats 4000000
set_option Elab.async false
set_option linter.all false
set_option maxRecDepth 100000
namespace L2
open PySem PySem.Spec PyProof.Rows
noncomputable abbrev Key:=Sum Int Str
noncomputable def keyIs:Key->Value->Bool
 | .inl k,v=>Value.isInt k v
 | .inr x,v=>Value.isStrOf x v
noncomputable def keyH (w:World):Key->Int
 | .inl k=>hashInt k
 | .inr x=>hashStr w x
theorem keyIs_shape:∀{k:Key}{v:Value},keyIs k v=true->(∃i t,k=Sum.inl i/\v=Value.int i t)\/(∃x t,k=Sum.inr x/\v=Value.str x t)
 | .inl i,v,h=>by
  obtain⟨t,e⟩:=Value.isInt_shape (k:=i) (v:=v) h
  exact .inl ⟨i,t,rfl,e⟩
 | .inr x,v,h=>by
  obtain⟨t,e⟩:=Value.isStrOf_shape (x:=x) (v:=v) h
  exact .inr ⟨x,t,rfl,e⟩
theorem keyIs_int (i:Int) (t:Tok):keyIs (.inl i) (.int i t)=true:=by simp [keyIs,Value.isInt]
theorem keyIs_str (x:Str) (t:Tok):keyIs (.inr x) (.str x t)=true:=by simp [keyIs,Value.isStrOf]
theorem key_ll (a b:Int):decide ((Sum.inl a:Key)=Sum.inl b)=(a == b):=by
 by_cases e:a=b
 ·subst e;simp
 ·have h:¬(Sum.inl a:Key)=Sum.inl b:=fun q=>e (Sum.inl.inj q)
  rw [decide_eq_false h]
  exact (beq_eq_false_iff_ne.mpr e).symm
theorem key_rr (a b:Str):decide ((Sum.inr a:Key)=Sum.inr b)=decide (a=b):=by
 by_cases e:a=b
 ·subst e;simp
 ·have h:¬(Sum.inr a:Key)=Sum.inr b:=fun q=>e (Sum.inr.inj q)
  rw [decide_eq_false h,decide_eq_false e]
theorem key_lr (a:Int) (b:Str):decide ((Sum.inl a:Key)=Sum.inr b)=false:=decide_eq_false (fun q=>nomatch q)
theorem key_rl (a:Str) (b:Int):decide ((Sum.inr a:Key)=Sum.inl b)=false:=decide_eq_false (fun q=>nomatch q)
noncomputable def mixKind (prog:Program) (w:World):PySem.KeyKind prog w Key where
 is:=keyIs
 hash:=keyH w
 inj:=fun v a b ha hb=>by
  rcases keyIs_shape ha with ⟨i,t,rfl,rfl⟩ | ⟨x,t,rfl,rfl⟩
  ·rcases keyIs_shape hb with ⟨j,u,rfl,e⟩ | ⟨y,u,rfl,e⟩
   ·injection e with e1 _;rw [e1]
   ·exact nomatch e
  ·rcases keyIs_shape hb with ⟨j,u,rfl,e⟩ | ⟨y,u,rfl,e⟩
   ·exact nomatch e
   ·injection e with e1 _;rw [e1]
 byValue:=fun k v h=>by
  rcases keyIs_shape h with ⟨i,t,rfl,rfl⟩ | ⟨x,t,rfl,rfl⟩ <;> rfl
 pyHash:=fun hv h=>by
  rcases keyIs_shape hv with ⟨i,t,rfl,rfl⟩ | ⟨x,t,rfl,rfl⟩
  ·exact wpAny_pyHash_int h
  ·exact wpAny_pyHash_str h
 eqBool:=fun hu hv h=>by
  rcases keyIs_shape hu with ⟨i,t,rfl,rfl⟩ | ⟨x,t,rfl,rfl⟩
  ·rcases keyIs_shape hv with ⟨j,u,rfl,rfl⟩ | ⟨y,u,rfl,rfl⟩
   ·rw [key_ll] at h;exact wpAny_eqBool_int h
   ·rw [key_lr] at h;exact SeqAt.EqAt.int_str i t y u _ _ _ _ h
  ·rcases keyIs_shape hv with ⟨j,u,rfl,rfl⟩ | ⟨y,u,rfl,rfl⟩
   ·rw [key_rl] at h;exact SeqAt.EqAt.str_int x t j u _ _ _ _ h
   ·rw [key_rr] at h;exact wpAny_eqBool_str h
 «strs»:=fun k x t v h=>by
  rcases keyIs_shape h with ⟨i,u,rfl,e⟩ | ⟨y,u,rfl,e⟩
  ·exact nomatch e
  ·injection e with e1 _
   subst e1
   cases v <;> rfl
theorem mixKind_int (prog:Program) (w:World) (i:Int) (t:Tok):(mixKind prog w).is (.inl i) (.int i t)=true:=keyIs_int i t
theorem mixKind_str (prog:Program) (w:World) (x:Str) (t:Tok):(mixKind prog w).is (.inr x) (.str x t)=true:=keyIs_str x t
end L2
namespace L2
open PySem PySem.Spec PyProof.Rows
inductive V where
 | non | bl (b:Bool) | int (i:Int) | str (x:Str) | byt (b:Array UInt8) | flt (b:UInt64) | ref (a:Addr) | ty (n:String)
 deriving DecidableEq
noncomputable def RelV:V->Value->Prop
 | .non,u=>u=Value.none
 | .bl b,u=>u=Value.bool b
 | .int i,u=>∃t,u=Value.int i t
 | .str x,u=>∃t,u=Value.str x t
 | .byt b,u=>∃t,u=Value.bytes b t
 | .flt b,u=>∃t,u=Value.float b t
 | .ref a,u=>u=Value.ref a
 | .ty n,u=>u=Value.type n
noncomputable abbrev Vals:List V->List Value->Prop:=Paired RelV
theorem Vals.length {xs:List V}{us:List Value} (r:Vals xs us):xs.length=us.length:=Paired.length r
theorem Vals.get:∀{xs:List V}{us:List Value}{i:Nat}{x:V},Vals xs us->xs[i]? = some x->∃u,us[i]? = some u/\RelV x u
 | _,_,_,_,.nil,e=>by simp at e
 | _,_,0,_,.cons r _,e=>by simp at e;subst e;exact⟨_,rfl,r⟩
 | _,_,i+1,x,.cons _ t,e=>by
  obtain⟨u,h1,h2⟩:=Vals.get (i:=i) (x:=x) t (by simpa using e)
  exact⟨u,by simpa using h1,h2⟩
theorem Vals.set {x:V}{u:Value} (r:RelV x u):∀{xs:List V}{us:List Value} (i:Nat),Vals xs us->Vals (xs.set i x) (us.set i u)
 | _,_,_,.nil=>.nil
 | _,_,0,.cons _ t=>.cons r t
 | _,_,i+1,.cons q t=>.cons q (Vals.set r i t)
theorem Vals.append:∀{xs ys:List V}{us ws:List Value},Vals xs us->Vals ys ws->Vals (xs++ys) (us++ws)
 | _,_,_,_,.nil,s=>s
 | _,_,_,_,.cons r t,s=>.cons r (Vals.append t s)
theorem Vals.take:∀{xs:List V}{us:List Value} (n:Nat),Vals xs us->Vals (xs.take n) (us.take n)
 | _,_,0,_=>.nil
 | _,_,_+1,.nil=>.nil
 | _,_,n+1,.cons r t=>.cons r (Vals.take n t)
theorem Vals.drop:∀{xs:List V}{us:List Value} (n:Nat),Vals xs us->Vals (xs.drop n) (us.drop n)
 | _,_,0,r=>r
 | _,_,_+1,.nil=>.nil
 | _,_,n+1,.cons _ t=>Vals.drop n t
theorem Vals.none_of:∀{xs:List V}{us:List Value}{i:Nat},Vals xs us->xs[i]? = none->us[i]? = none:=fun {xs us i} r e=>by
 have h1:=r.length
 have h2:xs.length≤i:=List.getElem?_eq_none_iff.mp e
 exact List.getElem?_eq_none_iff.mpr (by omega)
noncomputable def RelO:Option V->Option Value->Prop
 | some v,some u=>RelV v u
 | none,none=>True
 | _,_=>False
noncomputable def KV {κ:Type}:List (κ×V)->List (κ×Value)->Prop:=Paired fun (p:κ×V) (q:κ×Value)=>p.1=q.1/\RelV p.2 q.2
noncomputable def kV:Key->V
 | .inl i=>.int i
 | .inr x=>.str x
inductive HO where
 | lst (xs:List V)
 | tup (xs:List V)
 | dK (kvs:List (Key×V)) | dT (kvs:List (List Key×V))
 | set (S:Int->Bool) (n:Nat)
 | ins (C dx:Addr) (fs:List (Str×V))
 | own (x:Addr)
 | xd (fs:List (Str×V))
 | met (f x:Addr)
 | rng (lo hi:Int)
 | frz (o:Obj) (u:HO)
 | tbl (ps:Array Value)
 | ext (φ:Heap->Prop)
noncomputable abbrev Hp:=Addr->Option HO
noncomputable def upd (H:Hp) (a:Addr) (o:HO):Hp:=fun b=>if b=a then some o else H b
theorem upd_same {H:Hp}{a:Addr}{o:HO}:upd H a o a=some o:=by unfold upd;rw [if_pos rfl]
theorem upd_ne {H:Hp}{a b:Addr}{o:HO} (h:b≠a):upd H a o b=H b:=by unfold upd;rw [if_neg h]
theorem ne_of {H:Hp}{a b:Addr}{o u:HO} (h:H a=some o) (h':H b=some u) (d:o≠u):a≠b:=by
 intro e;subst e;rw [h] at h';exact d (Option.some.inj h')
theorem ne_of_none {H:Hp}{a b:Addr}{o:HO} (h:H a=some o) (h':H b=none):a≠b:=by
 intro e;subst e;rw [h] at h';cases h'
section
variable (P:Program) (w:World)
noncomputable def ObjOk (H:Hp) (h:Heap) (a:Addr):HO->Prop
 | .lst xs=>xs.length≤sizeLine/\∃(its:List Value) (n:Nat),Vals xs its/\h.get? a=some { cls:=.type "list",data:=.seq its.toArray n }
 | .tup xs=>xs.length≤sizeLine/\∃its:List Value,Vals xs its/\IsTup h a its.toArray
 | .dK kvs=>kvs.length≤sizeLine/\(a == sysModules)=false/\∃vs,KV kvs vs/\h.DictOf (mixKind P w) a vs
 | .dT kvs=>kvs.length≤sizeLine/\(a == sysModules)=false/\∃xs:List (List Key×Addr×Value),
   Paired (fun (p:List Key×V) (q:List Key×Addr×Value)=>p.1=q.1/\H q.2.1=some (.tup (p.1.map kV))/\RelV p.2 q.2.2) kvs xs /\
   ∃o es ep,h.get? a=some o/\o.ExactDict/\o.data=.dict es ep/\es.toList=xs.map (entryOfKey (tupleKind (mixKind P w)))/\(xs.map (·.1)).Nodup
 | .set S n=>h.SetOf (intKind P w) a S n
 | .ins C dx fs=>H dx=some (.own a)/\fs.length≤1000/\dx≠a/\h.get? a=some (PySem.W.instObj C dx) /\
   ∃mA,h.Ns1 dx mA/\(∀f,RelO (fs.lookup f) (mA f))/\PySem.Within mA (fs.map (·.1))
 | .own _=>∃o,h.get? a=some o
 | .xd fs=>∃mA,h.Ns1 a mA/\∀f,RelO (fs.lookup f) (mA f)
 | .rng lo hi=>∃t u v,h.get? a=some { cls:=.type "range",data:=.fields #[.int lo t,.int hi u,.int 1 v] }
 | .frz o u=>h.get? a=some o/\ObjOk H h a u
 | .tbl ps=>h.get? a=some { cls:=.none,data:=.fields ps }
 | .met f x=>h.get? a=some (PySem.W.methodObj (.ref f) (.ref x))
 | .ext φ=>φ h/\(∃o,h.get? a=some o)/\∀h1 h2:Heap,φ h1->(∀o,h1.get? a=some o->h2.get? a=some o)->φ h2
noncomputable def HOk (H:Hp) (h:Heap):Prop:=∀a o,H a=some o->ObjOk P w H h a o
end
section
variable {P:Program}{w:World}{H H':Hp}{h h':Heap}{a:Addr}{o:HO}
theorem ObjOk.lt (x:ObjOk P w H h a o):a < h.objs.size:=by
 cases o with
 | lst xs=>obtain⟨_,_,_,_,e⟩:=x;exact Heap.lt_size e
 | tup xs=>obtain⟨_,_,_,p⟩:=x;exact p.lt
 | dK kvs=>obtain⟨_,_,_,_,o,_,_,e,_⟩:=x;exact Heap.lt_size e
 | dT kvs=>obtain⟨_,_,_,_,o,_,_,e,_⟩:=x;exact Heap.lt_size e
 | set S n=>obtain⟨o,_,_,_,e,_⟩:=x;exact Heap.lt_size e
 | ins C dx fs=>obtain⟨_,_,_,e,_⟩:=x;exact Heap.lt_size e
 | own y=>obtain⟨_,e⟩:=x;exact Heap.lt_size e
 | xd fs=>obtain⟨_,⟨_,_,_,e,_⟩,_⟩:=x;exact Heap.lt_size e
 | rng lo hi=>obtain⟨_,_,_,e⟩:=x;exact Heap.lt_size e
 | frz ob u=>obtain⟨e,_⟩:=x;exact Heap.lt_size e
 | tbl ps=>exact Heap.lt_size (show h.get? a=some _ from x)
 | met f y=>exact Heap.lt_size (show h.get? a=some _ from x)
 | ext φ=>obtain⟨_,⟨_,e⟩,_⟩:=x;exact Heap.lt_size e
theorem Paired.mapP {α β:Type}{F G:α->β->Prop}:∀{l₁:List α}{l₂:List β},Paired F l₁ l₂->(∀a b,F a b->G a b)->Paired G l₁ l₂
 | _,_,.nil,_=>.nil
 | _,_,.cons r t,f=>.cons (f _ _ r) (Paired.mapP t f)
theorem Paired.imp' {α β:Type}{F G:α->β->Prop} (f:∀a b,F a b->G a b) {l₁:List α}{l₂:List β} (r:Paired F l₁ l₂):Paired G l₁ l₂:=Paired.mapP r f
theorem ObjOk.stay (x:ObjOk P w H h a o) (k:∀b u,(b=a\/H b=some (.own a))->h.get? b=some u->h'.get? b=some u)
  (ho:∀b,H b=some (.own a)->H' b=some (.own a)) (ht:∀b xs,H b=some (.tup xs)->H' b=some (.tup xs)):ObjOk P w H' h' a o:=by
 induction o with
 | lst xs=>obtain⟨z,its,n,r,e⟩:=x;exact⟨z,its,n,r,k _ _ (.inl rfl) e⟩
 | tup xs=>obtain⟨z,its,r,ob,e,c⟩:=x;exact⟨z,its,r,ob,k _ _ (.inl rfl) e,c⟩
 | dK kvs=>obtain⟨z,y,vs,r,ob,es,ep,e,c⟩:=x;exact⟨z,y,vs,r,ob,es,ep,k _ _ (.inl rfl) e,c⟩
 | dT kvs=>
  obtain⟨z,y,xs,r,ob,es,ep,e,c⟩:=x
  exact⟨z,y,xs,Paired.mapP r fun p q z=>⟨z.1,ht _ _ z.2.1,z.2.2⟩,ob,es,ep,k _ _ (.inl rfl) e,c⟩
 | set S n=>obtain⟨ob,es,ep,t,e,c⟩:=x;exact⟨ob,es,ep,t,k _ _ (.inl rfl) e,c⟩
 | ins C dx fs=>
  obtain⟨d,z,ne,e,mA,⟨od,es,ep,e2,c⟩,r⟩:=x
  exact⟨ho _ d,z,ne,k _ _ (.inl rfl) e,mA,⟨od,es,ep,k _ _ (.inr d) e2,c⟩,r⟩
 | own y=>obtain⟨ob,e⟩:=x;exact⟨ob,k _ _ (.inl rfl) e⟩
 | xd fs=>obtain⟨mA,⟨od,es,ep,e,c⟩,r⟩:=x;exact⟨mA,⟨od,es,ep,k _ _ (.inl rfl) e,c⟩,r⟩
 | rng lo hi=>obtain⟨t,u,v,e⟩:=x;exact⟨t,u,v,k _ _ (.inl rfl) e⟩
 | frz ob u ih=>obtain⟨e,q⟩:=x;exact⟨k _ _ (.inl rfl) e,ih q⟩
 | tbl ps=>
  have e:h.get? a=some { cls:=.none,data:=.fields ps }:=x
  show h'.get? a=some { cls:=.none,data:=.fields ps }
  exact k a _ (.inl rfl) e
 | met f y=>
  have e:h.get? a=some (PySem.W.methodObj (.ref f) (.ref y)):=x
  show h'.get? a=some (PySem.W.methodObj (.ref f) (.ref y))
  exact k a _ (.inl rfl) e
 | ext φ=>obtain⟨p,⟨o,e⟩,st⟩:=x;exact⟨st _ _ p fun o q=>k _ _ (.inl rfl) q,⟨o,k _ _ (.inl rfl) e⟩,st⟩
theorem HOk.lt (x:HOk P w H h) (e:H a=some o):a < h.objs.size:=(x a o e).lt
theorem HOk.fresh (x:HOk P w H h) (e:h.objs.size≤a):H a=none:=by
 cases q:H a with
 | none=>rfl
 | some u=>exact absurd (Nat.lt_of_lt_of_le (x.lt q) e) (Nat.lt_irrefl _)
theorem HOk.kept (x:HOk P w H h) (k:∀b u,h.get? b=some u->h'.get? b=some u):HOk P w H h':=fun a o e=>
 (x a o e).stay (fun b u _ q=>k b u q) (fun _ q=>q) fun _ _ q=>q
theorem HOk.laid (x:HOk P w H h) (k:∀b u,h.get? b=some u->h'.get? b=some u) (hp:h.objs.size≤a) (new:ObjOk P w (upd H a o) h' a o):HOk P w (upd H a o) h':=fun b u e=>by
 have hn:=x.fresh hp
 by_cases hb:b=a
 ·subst hb;rw [upd_same] at e;cases e;exact new
 ·rw [upd_ne hb] at e
  exact (x b u e).stay (fun c v _ q=>k c v q) (fun c q=>by rw [upd_ne (ne_of_none q hn)];exact q) fun c xs q=>by rw [upd_ne (ne_of_none q hn)];exact q
end
noncomputable def Rd (H:Hp) (a:Addr) (u:HO):Prop:=H a=some u\/∃o,H a=some (.frz o u)
theorem Rd.of {H:Hp}{a:Addr}{u:HO} (h:H a=some u):Rd H a u:=.inl h
theorem Rd.ok {P:Program}{w:World}{H:Hp}{h:Heap}{a:Addr}{u:HO} (r:Rd H a u) (x:HOk P w H h):ObjOk P w H h a u:=by
 rcases r with r | ⟨o,r⟩
 ·exact x a u r
 ·obtain⟨_,q⟩:=x a _ r
  exact q
noncomputable def Mut:Option HO->Prop
 | some (.lst _)=>True
 | some (.dK _)=>True
 | some (.dT _)=>True
 | some (.set _ _)=>True
 | some (.ins _ _ _)=>True
 | some (.ext _)=>True
 | _=>False
section
variable {P:Program}{w:World}{H:Hp}{h h':Heap}{x e:Addr}{o':HO}
theorem HOk.write (ok:HOk P w H h) (mu:Mut (H x)) (he:e=x\/H e=some (.own x)) (k:∀b u,b≠e->h.get? b=some u->h'.get? b=some u) (heo:∃u,h'.get? e=some u)
  (new:ObjOk P w (upd H x o') h' x o'):HOk P w (upd H x o') h':=fun b u q=>by
 have nown:∀c y,H c=some (.own y)->c≠x:=fun c y r z=>by subst z;rw [r] at mu;exact mu
 have ntup:∀c xs,H c=some (.tup xs)->c≠x:=fun c xs r z=>by subst z;rw [r] at mu;exact mu
 by_cases hb:b=x
 ·subst hb;rw [upd_same] at q;cases q;exact new
 ·rw [upd_ne hb] at q
  by_cases hbe:b=e
  ·have q':H b=some (.own x):=by
    rcases he with z | z
    ·exact absurd (hbe.trans z) hb
    ·rw [hbe];exact z
   rw [q] at q';cases q'
   obtain⟨v,hv⟩:=heo
   exact⟨v,by rw [hbe];exact hv⟩
  ·refine (ok b u q).stay (fun c v hc r=>k c v ?_ r) (fun c r=>by rw [upd_ne (nown c b r)];exact r) fun c xs r=>by rw [upd_ne (ntup c xs r)];exact r
   rcases hc with rfl | hc
   ·exact hbe
   ·rintro rfl
    rcases he with z | z
    ·exact nown c b hc z
    ·rw [hc] at z;cases z;exact hb rfl
end
structure Un (fs ex:List Addr) (H H':Hp) (h h':Heap):Prop where
 keep:∀b o,h.get? b=some o->H b=none->b ∉ fs->b ∉ ex->h'.get? b=some o
 slot:∀b o,h.get? b=some o->H b=none->b ∈ fs->b ∉ ex->∃sl,h'.get? b=some { o with slots:=sl }
 free:∀b o,h.get? b=some o->H b=none->b ∉ ex->H' b=none
 there:∀b o,h.get? b=some o->b ∉ ex->∃o',h'.get? b=some o'
 tups:∀b xs,H b=some (.tup xs)->H' b=some (.tup xs)
 frzs:∀b o u,H b=some (.frz o u)->H' b=some (.frz o u)
 tbls:∀b ps,H b=some (.tbl ps)->∃more,H' b=some (.tbl (ps++more))
section
variable {fs fs' ex ex':List Addr}{H H1 H2:Hp}{h h1 h2 h':Heap}{a x e:Addr}{o:HO}
theorem Un.any (u:Un fs ex H H1 h h1) {b:Addr}{ob:Obj} (q:h.get? b=some ob) (n:H b=none) (hx:b ∉ ex):∃sl,h1.get? b=some { ob with slots:=sl }:=by
 by_cases hb:b ∈ fs
 ·exact u.slot b ob q n hb hx
 ·exact⟨ob.slots,u.keep b ob q n hb hx⟩
theorem Un.trans (a:Un fs ex H H1 h h1) (b:Un fs ex H1 H2 h1 h2):Un fs ex H H2 h h2 where
 keep:=fun c ob q n hc hx=>b.keep c ob (a.keep c ob q n hc hx) (a.free c ob q n hx) hc hx
 slot:=fun c ob q n hc hx=>by
  obtain⟨sl,e1⟩:=a.slot c ob q n hc hx
  obtain⟨sl',e2⟩:=b.slot c _ e1 (a.free c ob q n hx) hc hx
  exact⟨sl',e2⟩
 free:=fun c ob q n hx=>by
  obtain⟨o',e1⟩:=a.there c ob q hx
  exact b.free c o' e1 (a.free c ob q n hx) hx
 there:=fun c ob q hx=>by
  obtain⟨o',e1⟩:=a.there c ob q hx
  exact b.there c o' e1 hx
 tups:=fun c xs q=>b.tups c xs (a.tups c xs q)
 frzs:=fun c ob xs q=>b.frzs c ob xs (a.frzs c ob xs q)
 tbls:=fun c ps q=>by
  obtain⟨m1,e1⟩:=a.tbls c ps q
  obtain⟨m2,e2⟩:=b.tbls c _ e1
  exact⟨m1++m2,by rw [e2,Array.append_assoc]⟩
theorem Un.kept (k:∀b u,h.get? b=some u->h'.get? b=some u):Un fs ex H H h h':=
 ⟨fun b ob q _ _ _=>k b ob q,fun b ob q _ _ _=>⟨ob.slots,k b ob q⟩,fun _ _ _ n _=>n,fun b ob q _=>⟨ob,k b ob q⟩,fun _ _ q=>q,fun _ _ _ q=>q,fun _ ps q=>⟨#[],by rw [q];simp⟩⟩
theorem Un.refl:Un fs ex H H h h:=Un.kept fun _ _ q=>q
theorem Un.laid (k:∀b u,h.get? b=some u->h'.get? b=some u) (hp:h.objs.size≤a) (hn:H a=none):Un fs ex H (upd H a o) h h' where
 keep:=fun b u q _ _ _=>k b u q
 slot:=fun b u q _ _ _=>⟨u.slots,k b u q⟩
 free:=fun b u q n _=>by rw [upd_ne (Nat.ne_of_lt (Nat.lt_of_lt_of_le (Heap.lt_size q) hp))];exact n
 there:=fun b u q _=>⟨u,k b u q⟩
 tups:=fun b xs q=>by rw [upd_ne (ne_of_none q hn)];exact q
 frzs:=fun b u xs q=>by rw [upd_ne (ne_of_none q hn)];exact q
 tbls:=fun b ps q=>⟨#[],by rw [upd_ne (ne_of_none q hn),q];simp⟩
theorem Un.write (mu:Mut (H x)) (he:e=x\/H e=some (.own x)) (k:∀b u,b≠e->h.get? b=some u->h'.get? b=some u) (heo:∃u,h'.get? e=some u):Un fs ex H (upd H x o) h h':=by
 have hx:∀b,H b=none->b≠x:=fun b n z=>by subst z;rw [n] at mu;exact mu
 have hb:∀b,H b=none->b≠e:=fun b n z=>by
  subst z
  rcases he with r | r
  ·exact hx b n r
  ·rw [n] at r;cases r
 have hm:∀b u,H b=some u->¬Mut (some u)->b≠x:=fun b u q nm z=>by subst z;rw [q] at mu;exact nm mu
 refine⟨fun b u q n _ _=>k b u (hb b n) q,fun b u q n _ _=>⟨u.slots,k b u (hb b n) q⟩,fun b u q n _=>by rw [upd_ne (hx b n)];exact n,fun b u q _=>?_,
  fun b xs q=>by rw [upd_ne (hm b _ q fun z=>z)];exact q,fun b u xs q=>by rw [upd_ne (hm b _ q fun z=>z)];exact q,fun b ps q=>⟨#[],by rw [upd_ne (hm b _ q fun z=>z),q];simp⟩⟩
 by_cases hbe:b=e
 ·subst hbe;exact heo
 ·exact⟨u,k b u hbe q⟩
theorem Un.mono (u:Un fs ex H H1 h h1) (hs:∀b ∈ fs,b ∈ fs') (hx:∀b ∈ ex,b ∈ ex'):Un fs' ex' H H1 h h1:=
 ⟨fun b ob q n hb he=>u.keep b ob q n (fun z=>hb (hs b z)) fun z=>he (hx b z),fun _ _ q n _ he=>u.any q n fun z=>he (hx _ z),fun b ob q n he=>u.free b ob q n fun z=>he (hx b z),fun b ob q he=>u.there b ob q fun z=>he (hx b z),u.tups,u.frzs,u.tbls⟩
end
noncomputable def trk (h:Heap) (H:Hp):List Addr:=(List.range h.objs.size).filter fun a=>(H a).isSome
noncomputable def hidT (h:Heap) (H:Hp):Heap:=PySem.W.hideAll h (trk h H)
theorem hidT_size (h:Heap) (H:Hp):(hidT h H).objs.size=h.objs.size:=PySem.W.hideAll_size _ _
theorem hidT_get {h:Heap}{H:Hp}{b:Addr}{o:Obj} (e:h.get? b=some o) (n:H b=none):(hidT h H).get? b=some o:=
 PySem.W.hideAll_get _ e fun hm=>by
  have q:(H b).isSome=true:=(List.mem_filter.mp hm).2
  rw [n] at q;simp at q
theorem of_hidT {h:Heap}{H:Hp}{b:Addr}{o:Obj} (e:(hidT h H).get? b=some o):h.get? b=some o/\H b=none:=by
 have e':h.get? b=some o:=PySem.W.of_hideAll (trk h H) e
 refine⟨e',?_⟩
 cases q:H b with
 | none=>rfl
 | some x=>
  have hm:b ∈ trk h H:=List.mem_filter.mpr ⟨List.mem_range.mpr (Heap.lt_size e'),by simp [q]⟩
  have z:(hidT h H).get? b=none:=PySem.W.hideAll_none (trk h H) hm
  rw [z] at e;cases e
noncomputable def allNews (g h:Heap) (L:Addr):List (Addr×Obj):=(List.range h.objs.size).filterMap fun a=>if a=L\/(g.get? a).isSome=true then none else (h.get? a).map fun o=>(a,o)
theorem mem_allNews {g h:Heap}{L a:Addr}{o:Obj} (h1:a≠L) (h2:g.get? a=none) (h3:h.get? a=some o):(a,o) ∈ allNews g h L:=
 List.mem_filterMap.mpr ⟨a,List.mem_range.mpr (Heap.lt_size h3),by simp [h1,h2,h3]⟩
theorem of_mem_allNews {g h:Heap}{L:Addr}{p:Addr×Obj} (hp:p ∈ allNews g h L):p.1≠L/\g.get? p.1=none/\h.get? p.1=some p.2:=by
 obtain⟨b,_,e⟩:=List.mem_filterMap.mp hp
 split at e
 ·cases e
 ·rename_i hn
  cases q:h.get? b with
  | none=>rw [q] at e;simp at e
  | some u=>
   rw [q] at e
   simp only [Option.map_some,Option.some.injEq] at e
   subst e
   refine⟨fun z=>hn (.inl z),?_,q⟩
   show g.get? b=none
   cases r:g.get? b with
   | none=>rfl
   | some v=>exact (hn (.inr (by simp [r]))).elim
noncomputable def rest (g h:Heap) (L d:Addr):List (Addr×Obj):=(allNews g h L).filter fun p=>decide (p.1≠d)
theorem news_all {g h:Heap}{L:Addr}:News g L h (allNews g h L):=fun p hp=>let ⟨a,b,c⟩:=of_mem_allNews hp;⟨c,a,b⟩
end L2
namespace L2
open PySem PySem.Spec PyProof.Rows
structure Mod (K:PySem.W.Frag) (mg:Str->Option Value) (base:Heap):Prop where
 kin:K.In base
 glob:base.Ns mainGlobals mg
 blt:∃mb,base.Ns builtinsNs mb/\∀x:Str,x≠"__name__"->mb x=bootBuiltins x
 nolimit:base.NoLimit
structure Cx where
 prog:Program
 w:World
 K:PySem.W.Frag
 mg:Str->Option Value
 base:Heap
 A:Around
 N:List Str
 s₀:Shared
 H₀:Hp
 env:Env
 outer:List Env
 stack:List Env
 ex:List Addr
 fn:Str->Bool
 calm:Bool
 pn:List (Addr×Obj)
 xe:Value->Shared->Prop
noncomputable def frs (l:List Env):List Addr:=l.filterMap (·.frame)
noncomputable abbrev Cx.fs (X:Cx):List Addr:=frs X.outer
noncomputable def Vis (sc:Scope) (x:Str):Prop:=sc.names.lookup x=some .local\/sc.names.lookup x=some .cell\/sc.names.lookup x=some .free
noncomputable def Loc (sc:Scope) (x:Str):Prop:=sc.names.lookup x=some .local\/sc.names.lookup x=some .cell
noncomputable def Look (env:Env) (h:Heap) (m:Str->Option Value) (x:Str) (u:Value):Prop:=
 (env.kindOf x=some .local/\m x=some u)\/((env.kindOf x=some .cell\/env.kindOf x=some .free)/\∃c,env.cells.lookup x=some c/\h.IsCell c (some u))
structure Cx.Ok (X:Cx):Prop where
 mod:Mod X.K X.mg X.base
 kind:X.env.scope.kind=.function
 glob:X.env.globals=mainGlobals
 blt:X.env.builtins=builtinsNs
 above:X.s₀.heap.objs.size≤X.env.locals
 inj:∀x y c,X.env.cells.lookup x=some c->X.env.cells.lookup y=some c->x=y
 has:∀x,(X.env.kindOf x=some .cell\/X.env.kindOf x=some .free)->∃c,X.env.cells.lookup x=some c
 cab:∀x c,X.fn x=true->X.env.cells.lookup x=some c->X.s₀.heap.objs.size≤c
 hd:X.calm=true->X.A.handled=none
 frames:X.A.frames=some X.stack
 stk:X.stack=X.outer\/(X.stack=X.env::X.outer/\X.env.frame=some X.env.locals)
 exf:∀b ∈ X.ex,b≠X.env.locals/\∀x c,X.env.cells.lookup x=some c->c≠b
 bs:∀b o,X.base.get? b=some o->X.s₀.heap.get? b=some o/\X.H₀ b=none
 bsz:X.base.objs.size≤X.s₀.heap.objs.size
 noex:∀b o,X.base.get? b=some o->b ∉ X.ex
 exfs:∀b ∈ X.ex,b ∉ X.fs
 funs:X.s₀.heap.FunFrames X.base X.outer
 frf:∀b ∈ X.fs,X.H₀ b=none
structure Inv (X:Cx) (pins:List (Addr×Obj)) (σ:List (Option V)) (H:Hp) (s:Shared):Prop where
 ok:X.Ok
 os:s.os=X.s₀.os
 bare:AllBare s.gens
 base:Un X.fs X.ex X.H₀ H X.s₀.heap s.heap
 loc:∃m,s.heap.Ns X.env.locals m/\∀(i:Nat) (x:Str) (v:V),X.N[i]? = some x->σ[i]? = some (some v)->Vis X.env.scope x->∃u,RelV v u/\Look X.env s.heap m x u
 cell:∀x c,X.env.cells.lookup x=some c->∃v,s.heap.IsCell c v
 free:H X.env.locals=none
 freeC:∀x c,X.env.cells.lookup x=some c->H c=none
 pin:∀p ∈ X.pn++pins,s.heap.get? p.1=some p.2/\H p.1=none/\p.1≠X.env.locals/\p.1 ∉ X.fs/\∀v,p.2.data≠.cell v
 hok:HOk X.prog X.w H s.heap
 len:σ.length=X.N.length
section
variable {X:Cx}{pins:List (Addr×Obj)}{σ:List (Option V)}{H H':Hp}{s:Shared}{h':Heap}
theorem Cx.Ok.nofr (ok:X.Ok) {b:Addr}{o:Obj} (e:X.base.get? b=some o):b ∉ X.fs:=fun hb=>by
 have:=(ok.funs.mem hb).1
 rw [e] at this;cases this
theorem Inv.bs (I:Inv X pins σ H s):∀b o,X.base.get? b=some o->s.heap.get? b=some o/\H b=none:=fun b o e=>
 ⟨I.base.keep b o (I.ok.bs b o e).1 (I.ok.bs b o e).2 (I.ok.nofr e) (I.ok.noex b o e),I.base.free b o (I.ok.bs b o e).1 (I.ok.bs b o e).2 (I.ok.noex b o e)⟩
theorem Inv.bk (I:Inv X pins σ H s):∀b o,X.base.get? b=some o->s.heap.get? b=some o:=fun b o e=>(I.bs b o e).1
theorem Inv.mod (I:Inv X pins σ H s):Mod X.K X.mg X.base:=I.ok.mod
theorem Inv.kIn (I:Inv X pins σ H s):X.K.In s.heap:=I.ok.mod.kin.keeps I.bk
theorem Inv.nolimit (I:Inv X pins σ H s):s.heap.NoLimit:=I.ok.mod.nolimit.keeps I.bk
theorem Inv.fr (I:Inv X pins σ H s):∃m,Fr X.base X.env.locals s.heap m:=
 let ⟨m,hn,_⟩:=I.loc
 ⟨m,hn,I.bk,Nat.le_trans I.ok.bsz I.ok.above⟩
theorem Inv.lt (I:Inv X pins σ H s):X.env.locals < s.heap.objs.size:=let ⟨_,hn,_⟩:=I.loc;hn.lt
theorem Inv.sz (I:Inv X pins σ H s):X.s₀.heap.objs.size≤s.heap.objs.size:=Nat.le_trans I.ok.above (Nat.le_of_lt I.lt)
theorem Inv.nofs (I:Inv X pins σ H s) {a:Addr} (h:s.heap.objs.size≤a):a ∉ X.fs:=fun hb=>by
 obtain⟨_,o,ho,_⟩:=I.ok.funs.mem hb
 exact absurd (Nat.lt_of_lt_of_le (Heap.lt_size ho) (Nat.le_trans I.sz h)) (Nat.lt_irrefl _)
theorem Inv.cne (I:Inv X pins σ H s):∀x c,X.env.cells.lookup x=some c->c≠X.env.locals:=fun x c e z=>by
 obtain⟨v,o,ho,hd⟩:=I.cell x c e
 obtain⟨m,⟨o',es,ep,ho',hd',_⟩,_⟩:=I.loc
 rw [z,ho'] at ho;cases ho;rw [hd'] at hd;cases hd
theorem Inv.funs (I:Inv X pins σ H s):s.heap.FunFrames X.base X.outer:=by
 have all:∀(l:List Env),(∀b ∈ frs l,b ∈ X.fs)->X.s₀.heap.FunFrames X.base l->s.heap.FunFrames X.base l:=by
  intro l
  induction l with
  | nil=>intro _ _;trivial
  | cons env r ih=>
   intro hs hl
   obtain⟨hk,⟨L,o,hf,hn,ho,hd⟩,hr⟩:=hl
   have hL:L ∈ X.fs:=hs L (by unfold frs;rw [List.filterMap_cons,hf];exact List.mem_cons_self)
   obtain⟨sl,e⟩:=I.base.slot L o ho (I.ok.frf L hL) hL fun z=>I.ok.exfs L z hL
   exact⟨hk,⟨L,_,hf,hn,e,hd⟩,ih (fun b hb=>hs b (by unfold frs;rw [List.filterMap_cons,hf];exact List.mem_cons_of_mem _ hb)) hr⟩
 exact all X.outer (fun _ hb=>hb) I.ok.funs
theorem Inv.stack (I:Inv X pins σ H s):s.heap.FunFrames X.base X.stack:=by
 rcases I.ok.stk with e | ⟨e,hf⟩
 ·rw [e];exact I.funs
 ·rw [e]
  obtain⟨m,hn,_⟩:=I.loc
  refine .cons (by rw [I.ok.kind];decide) hf hn ?_ I.funs
  exact Heap.get?_none_of_le (Nat.le_trans I.ok.bsz I.ok.above)
theorem Inv.stkSub (I:Inv X pins σ H s):∀b ∈ frs X.stack,b ∈ X.env.locals::X.fs:=fun b hb=>by
 rcases I.ok.stk with e | ⟨e,hf⟩
 ·rw [e] at hb;exact List.mem_cons_of_mem _ hb
 ·rw [e] at hb
  unfold frs at hb
  rw [List.filterMap_cons,hf] at hb
  exact hb
theorem Inv.stkFree (I:Inv X pins σ H s):∀b ∈ frs X.stack,H b=none:=fun b hb=>by
 rcases List.mem_cons.mp (I.stkSub b hb) with e | hb
 ·rw [e];exact I.free
 ·obtain⟨_,o,ho,_⟩:=I.ok.funs.mem hb
  exact I.base.free b o ho (I.ok.frf b hb) fun z=>I.ok.exfs b z hb
theorem Inv.step {g':Array GenState}{t':Nat}{d':Drawn}{ch:List Addr} (I:Inv X pins σ H s)
  (hch:∀b ∈ ch,(b ∈ X.ex\/X.s₀.heap.objs.size≤b)/\b≠X.env.locals/\(∀x c,X.env.cells.lookup x=some c->c≠b)/\∀p ∈ X.pn++pins,p.1≠b)
  (keep:∀b o,b≠X.env.locals->b ∉ X.fs->b ∉ ch->s.heap.get? b=some o->H b=none->h'.get? b=some o)
  (slot:∀b o,b≠X.env.locals->b ∈ X.fs->b ∉ ch->s.heap.get? b=some o->H b=none->∃sl,h'.get? b=some { o with slots:=sl }) (free:∀b o,b ∉ ch->s.heap.get? b=some o->H b=none->H' b=none)
  (there:∀b o,b ∉ ch->s.heap.get? b=some o->∃o',h'.get? b=some o')
  (tups:∀b xs,H b=some (.tup xs)->H' b=some (.tup xs)) (frzs:∀b o u,H b=some (.frz o u)->H' b=some (.frz o u)) (tbls:∀b ps,H b=some (.tbl ps)->∃more,H' b=some (.tbl (ps++more)))
  (ns:∀m,s.heap.Ns X.env.locals m->h'.Ns X.env.locals m) (hok:HOk X.prog X.w H' h') (hg:AllBare g') :
  Inv X pins σ H' { s with heap:=h',gens:=g',drawn:=d',toks:=t' }:=by
 have neL:∀b o,X.s₀.heap.get? b=some o->b≠X.env.locals:=fun b o e=>Nat.ne_of_lt (Nat.lt_of_lt_of_le (Heap.lt_size e) I.ok.above)
 have neC:∀b o,X.s₀.heap.get? b=some o->b ∉ X.ex->b ∉ ch:=fun b o e hx hb=>by
  rcases (hch b hb).1 with z | z
  ·exact hx z
  ·exact absurd (Nat.lt_of_lt_of_le (Heap.lt_size e) z) (Nat.lt_irrefl _)
 have cellK:∀x c,X.env.cells.lookup x=some c->∀v,s.heap.IsCell c v->h'.IsCell c v:=fun x c e v hz=>by
  obtain⟨o,ho,hd⟩:=hz
  have nch:c ∉ ch:=fun z=>(hch c z).2.2.1 x c e rfl
  by_cases hc:c ∈ X.fs
  ·obtain⟨sl,q⟩:=slot c o (I.cne x c e) hc nch ho (I.freeC x c e)
   exact⟨_,q,hd⟩
  ·exact⟨o,keep c o (I.cne x c e) hc nch ho (I.freeC x c e),hd⟩
 refine⟨I.ok,I.os,hg,⟨fun b o e n hb hx=>?_,fun b o e n hb hx=>?_,fun b o e n hx=>?_,fun b o e hx=>?_,fun b xs e=>tups b xs (I.base.tups b xs e),fun b o xs e=>frzs b o xs (I.base.frzs b o xs e),fun b ps e=>?_⟩,?_,fun x c e=>?_,?_,fun x c e=>?_,fun p hp=>?_,hok,I.len⟩
 ·exact keep b o (neL b o e) hb (neC b o e hx) (I.base.keep b o e n hb hx) (I.base.free b o e n hx)
 ·obtain⟨sl,e1⟩:=I.base.slot b o e n hb hx
  obtain⟨sl',e2⟩:=slot b _ (neL b o e) hb (neC b o e hx) e1 (I.base.free b o e n hx)
  exact⟨sl',e2⟩
 ·obtain⟨o',e1⟩:=I.base.there b o e hx
  exact free b o' (neC b o e hx) e1 (I.base.free b o e n hx)
 ·obtain⟨o',e1⟩:=I.base.there b o e hx
  exact there b o' (neC b o e hx) e1
 ·obtain⟨m1,e1⟩:=I.base.tbls b ps e
  obtain⟨m2,e2⟩:=tbls b _ e1
  exact⟨m1++m2,by rw [e2,Array.append_assoc]⟩
 ·obtain⟨m,hn,hl⟩:=I.loc
  refine⟨m,ns m hn,fun i x v e1 e2 e3=>?_⟩
  obtain⟨u,r,l⟩:=hl i x v e1 e2 e3
  refine⟨u,r,?_⟩
  rcases l with l | ⟨k,c,e,z⟩
  ·exact .inl l
  ·exact .inr ⟨k,c,e,cellK x c e _ z⟩
 ·obtain⟨v,z⟩:=I.cell x c e
  exact⟨v,cellK x c e v z⟩
 ·obtain⟨m,⟨o,_,_,ho,_⟩,_⟩:=I.loc
  exact free _ o (fun z=>(hch _ z).2.1 rfl) ho I.free
 ·obtain⟨v,o,ho,hd⟩:=I.cell x c e
  exact free c o (fun z=>(hch c z).2.2.1 x c e rfl) ho (I.freeC x c e)
 ·obtain⟨e,n,ne,nf,d⟩:=I.pin p hp
  have nch:p.1 ∉ ch:=fun z=>(hch p.1 z).2.2.2 p hp rfl
  exact⟨keep p.1 p.2 ne nf nch e n,free p.1 p.2 nch e n,ne,nf,d⟩
theorem Inv.un {t':Nat} (I:Inv X pins σ H s) (u:Un X.fs [] H H' s.heap h') (hok:HOk X.prog X.w H' h'):Inv X pins σ H' { s with heap:=h',toks:=t' }:=by
 obtain⟨m,⟨o,es,ep,ho,r⟩,_⟩:=id I.loc
 obtain⟨sl,hL⟩:=u.any ho I.free (by simp)
 exact I.step (g':=s.gens) (d':=s.drawn) (ch:=[]) (fun _ z=>nomatch z) (fun b o _ hb _ e n=>u.keep b o e n hb (by simp)) (fun b o _ hb _ e n=>u.slot b o e n hb (by simp)) (fun b o _ e n=>u.free b o e n (by simp)) (fun b o _ e=>u.there b o e (by simp)) u.tups u.frzs u.tbls (fun m' hm=>by
  obtain⟨o',es',ep',ho',r'⟩:=hm
  rw [ho] at ho';cases ho'
  exact⟨_,es',ep',hL,r'⟩) hok I.bare
theorem Inv.call {g':Array GenState}{t':Nat}{d':Drawn}{ch:List Addr} (I:Inv X pins σ H s) (u:Un (frs X.stack) ch H H' s.heap h') (hok:HOk X.prog X.w H' h') (hg:AllBare g')
  (hch:∀b ∈ ch,(b ∈ X.ex\/X.s₀.heap.objs.size≤b)/\b≠X.env.locals/\(∀x c,X.env.cells.lookup x=some c->c≠b)/\∀p ∈ X.pn++pins,p.1≠b) :
  Inv X pins σ H' { s with heap:=h',gens:=g',drawn:=d',toks:=t' }:=by
 obtain⟨m,⟨o,es,ep,ho,r⟩,_⟩:=id I.loc
 obtain⟨sl,hL⟩:=u.any ho I.free fun z=>(hch _ z).2.1 rfl
 exact I.step (ch:=ch) hch (fun b o hL hb hc e n=>u.keep b o e n (fun z=>(List.mem_cons.mp (I.stkSub b z)).elim hL hb) hc) (fun b o _ _ hc e n=>u.any e n hc) (fun b o hc e n=>u.free b o e n hc) (fun b o hc e=>u.there b o e hc) u.tups u.frzs u.tbls (fun m' hm=>by
  obtain⟨o',es',ep',ho',r'⟩:=hm
  rw [ho] at ho';cases ho'
  exact⟨_,es',ep',hL,r'⟩) hok hg
theorem Inv.turned {t':Nat}{it:Addr} (I:Inv X pins σ H s) (k:∀b o,b≠it->s.heap.get? b=some o->h'.get? b=some o) (hn:H it=none) (hL:it≠X.env.locals)
  (h1:it ∈ X.ex\/X.s₀.heap.objs.size≤it) (h2:∀x c,X.env.cells.lookup x=some c->c≠it) (h3:∀p ∈ X.pn++pins,p.1≠it):Inv X pins σ H { s with heap:=h',toks:=t' }:=by
 have nit:∀b u,H b=some u->b≠it:=fun b u e z=>by rw [z,hn] at e;cases e
 refine I.step (g':=s.gens) (d':=s.drawn) (ch:=[it]) (fun b hb=>?_) (fun b o _ _ hc e _=>k b o (fun z=>hc (by simp [z])) e) (fun b o _ _ hc e _=>⟨o.slots,k b o (fun z=>hc (by simp [z])) e⟩) (fun _ _ _ _ n=>n)
  (fun b o hc e=>⟨o,k b o (fun z=>hc (by simp [z])) e⟩) (fun _ _ e=>e) (fun _ _ _ e=>e) (fun b ps e=>⟨#[],by rw [e];simp⟩) (fun m hm=>?_) (fun b u e=>?_) I.bare
 ·have e:b=it:=by simpa using hb
  subst e
  exact⟨h1,hL,h2,h3⟩
 ·obtain⟨o,es,ep,ho,r⟩:=hm
  exact⟨o,es,ep,k _ o (Ne.symm hL) ho,r⟩
 ·refine (I.hok b u e).stay (fun c v hc q=>k c v ?_ q) (fun _ q=>q) fun _ _ q=>q
  rcases hc with z | z
  ·rw [z];exact nit b u e
  ·exact nit c _ z
theorem Inv.tok (I:Inv X pins σ H s) (t:Nat):Inv X pins σ H { s with toks:=t }:=I.un (h':=s.heap) (t':=t) Un.refl I.hok
theorem Inv.kept {t':Nat} (I:Inv X pins σ H s) (k:∀b u,s.heap.get? b=some u->h'.get? b=some u):Inv X pins σ H { s with heap:=h',toks:=t' }:=I.un (Un.kept k) (I.hok.kept k)
theorem Inv.laid {a:Addr}{o:HO}{t':Nat} (I:Inv X pins σ H s) (k:∀b u,s.heap.get? b=some u->h'.get? b=some u) (hp:s.heap.objs.size≤a) (new:ObjOk X.prog X.w (upd H a o) h' a o) :
  Inv X pins σ (upd H a o) { s with heap:=h',toks:=t' }:=I.un (Un.laid k hp (I.hok.fresh hp)) (I.hok.laid k hp new)
theorem Inv.write {x e:Addr}{o:HO}{t':Nat} (I:Inv X pins σ H s) (mu:Mut (H x)) (he:e=x\/H e=some (.own x)) (k:∀b u,b≠e->s.heap.get? b=some u->h'.get? b=some u) (heo:∃u,h'.get? e=some u)
  (new:ObjOk X.prog X.w (upd H x o) h' x o):Inv X pins σ (upd H x o) { s with heap:=h',toks:=t' }:=I.un (Un.write mu he k heo) (I.hok.write mu he k heo new)
theorem Inv.pins_of {pins':List (Addr×Obj)} (I:Inv X pins σ H s) (h:∀p ∈ pins',s.heap.get? p.1=some p.2/\H p.1=none/\p.1≠X.env.locals/\p.1 ∉ X.fs/\∀v,p.2.data≠.cell v):Inv X pins' σ H s:=
 ⟨I.ok,I.os,I.bare,I.base,I.loc,I.cell,I.free,I.freeC,fun p hp=>(List.mem_append.mp hp).elim (fun z=>I.pin p (List.mem_append_left _ z)) (h p),I.hok,I.len⟩
theorem nodup_ix {N:List Str} (hN:N.Nodup) {i j:Nat}{x:Str} (a:N[i]? = some x) (b:N[j]? = some x):i=j:=by
 obtain⟨h1,e1⟩:=List.getElem?_eq_some_iff.mp a
 obtain⟨h2,e2⟩:=List.getElem?_eq_some_iff.mp b
 exact (List.getElem_inj hN).mp (e1.trans e2.symm)
theorem store_ok2 {M:Model}{A:Around}{E:Value->Shared->Prop}{i:Nat}{x:Str}{v:V}{u:Value}{Q:Unit->Shared->Prop} (I:Inv X pins σ H s) (hN:X.N.Nodup) (hi:X.N[i]? = some x) (hx:Loc X.env.scope x) (r:RelV v u)
  (h:∀s',Inv X pins (σ.set i (some v)) H s'->(∃a,Heap.SameBut a s.heap s'.heap/\(a=X.env.locals\/X.env.cells.lookup x=some a))->Q () s') (hf:X.fn x=true\/X.env.scope.names.lookup x=some .local:=by first | exact .inl rfl | exact .inr rfl | assumption):wpAny M A (storeName X.env x u) Q E s:=by
 obtain⟨m,hn,hl⟩:=id I.loc
 have hcls:(X.env.scope.kind == .class || (X.env.scope.kind == .module && X.env.locals != X.env.globals))=false:=by rw [I.ok.kind];rfl
 have hiσ:i < σ.length:=by rw [I.len];exact (List.getElem?_eq_some_iff.mp hi).1
 have cne:=I.cne
 have tracked:∀{a:Addr}{h':Heap},(∃o,s.heap.get? a=some o/\H a=none)->Heap.SameBut a s.heap h'->HOk X.prog X.w H h':=fun {a h'} ha hs b ob e=>by
  obtain⟨_,_,hfree⟩:=ha
  refine (I.hok b ob e).stay (fun c w' hc q=>(hs.2 c ?_).trans q) (fun _ q=>q) fun _ _ q=>q
  rintro rfl
  rcases hc with rfl | hc
  ·rw [hfree] at e;cases e
  ·rw [hfree] at hc;cases hc
 rcases hx with hk | hk
 ·refine wpAny_storeName_local hk hn (fun h' hn' hs=>?_) hcls
  obtain⟨oL,_,_,hoL,_⟩:=id hn
  refine h _ ⟨I.ok,I.os,I.bare,⟨fun b o e n hb hx=>?_,fun b o e n hb hx=>?_,I.base.free,fun b o e hx=>?_,I.base.tups,I.base.frzs,I.base.tbls⟩,⟨_,hn',fun j y v' e1 e2 e3=>?_⟩,fun y c e=>?_,I.free,I.freeC,fun p hp=>?_,tracked ⟨oL,hoL,I.free⟩ hs,by simpa using I.len⟩ ⟨_,hs,.inl rfl⟩
  ·exact (hs.2 b (Nat.ne_of_lt (Nat.lt_of_lt_of_le (Heap.lt_size e) I.ok.above))).trans (I.base.keep b o e n hb hx)
  ·obtain⟨sl,e1⟩:=I.base.slot b o e n hb hx
   exact⟨sl,(hs.2 b (Nat.ne_of_lt (Nat.lt_of_lt_of_le (Heap.lt_size e) I.ok.above))).trans e1⟩
  ·obtain⟨o',e1⟩:=I.base.there b o e hx
   exact⟨o',(hs.2 b (Nat.ne_of_lt (Nat.lt_of_lt_of_le (Heap.lt_size e) I.ok.above))).trans e1⟩
  ·by_cases hj:j=i
   ·subst hj
    rw [hi] at e1;cases e1
    rw [List.getElem?_set_self hiσ] at e2
    cases e2
    exact⟨u,r,.inl ⟨hk,by simp⟩⟩
   ·rw [List.getElem?_set_ne (Ne.symm hj)] at e2
    obtain⟨u',r',q⟩:=hl j y v' e1 e2 e3
    refine⟨u',r',?_⟩
    rcases q with ⟨k,e⟩ | ⟨k,c,e,z⟩
    ·refine .inl ⟨k,?_⟩
     have:y≠x:=fun e=>hj (nodup_ix hN e1 (e ▸ hi))
     simp [this,e]
    ·exact .inr ⟨k,c,e,z.sameBut hs (cne y c e)⟩
  ·obtain⟨w',z⟩:=I.cell y c e
   exact⟨w',z.sameBut hs (cne y c e)⟩
  ·obtain⟨e,n,ne,nf,d⟩:=I.pin p hp
   exact⟨(hs.2 p.1 ne).trans e,n,ne,nf,d⟩
 ·have hfn:X.fn x=true:=by
   rcases hf with z | z
   ·exact z
   ·rw [z] at hk;cases hk
  obtain⟨c,hc⟩:=I.ok.has x (.inl hk)
  obtain⟨w',z⟩:=I.cell x c hc
  refine wpAny_storeName_cell I.ok.kind hk hc z (fun h' hc' hs=>?_)
  obtain⟨oc,hoc,hocd⟩:=id z
  refine h { s with heap:=h' } ⟨I.ok,I.os,I.bare,⟨fun b o e n hb hx=>?_,fun b o e n hb hx=>?_,I.base.free,fun b o e hx=>?_,I.base.tups,I.base.frzs,I.base.tbls⟩,⟨m,hn.sameBut hs (Ne.symm (cne x c hc)),fun j y v' e1 e2 e3=>?_⟩,fun y c' e=>?_,I.free,I.freeC,fun p hp=>?_,tracked ⟨oc,hoc,I.freeC x c hc⟩ hs,by simpa using I.len⟩ ⟨c,hs,.inr hc⟩
  ·exact (hs.2 b (Nat.ne_of_lt (Nat.lt_of_lt_of_le (Heap.lt_size e) (I.ok.cab x c hfn hc)))).trans (I.base.keep b o e n hb hx)
  ·obtain⟨sl,e1⟩:=I.base.slot b o e n hb hx
   exact⟨sl,(hs.2 b (Nat.ne_of_lt (Nat.lt_of_lt_of_le (Heap.lt_size e) (I.ok.cab x c hfn hc)))).trans e1⟩
  ·obtain⟨o',e1⟩:=I.base.there b o e hx
   exact⟨o',(hs.2 b (Nat.ne_of_lt (Nat.lt_of_lt_of_le (Heap.lt_size e) (I.ok.cab x c hfn hc)))).trans e1⟩
  ·by_cases hj:j=i
   ·subst hj
    rw [hi] at e1;cases e1
    rw [List.getElem?_set_self hiσ] at e2
    cases e2
    exact⟨u,r,.inr ⟨.inl hk,c,hc,hc'⟩⟩
   ·rw [List.getElem?_set_ne (Ne.symm hj)] at e2
    obtain⟨u',r',q⟩:=hl j y v' e1 e2 e3
    refine⟨u',r',?_⟩
    rcases q with q | ⟨k,c',e,z'⟩
    ·exact .inl q
    ·refine .inr ⟨k,c',e,z'.sameBut hs ?_⟩
     rintro rfl
     exact hj (nodup_ix hN e1 (I.ok.inj _ _ _ e hc ▸ hi))
  ·by_cases hcc:c'=c
   ·subst hcc;exact⟨_,hc'⟩
   ·obtain⟨w2,z2⟩:=I.cell y c' e
    exact⟨w2,z2.sameBut hs hcc⟩
  ·obtain⟨e,n,ne,nf,d⟩:=I.pin p hp
   refine⟨(hs.2 p.1 ?_).trans e,n,ne,nf,d⟩
   intro q
   rw [q,hoc] at e
   have q':oc=p.2:=Option.some.inj e
   exact d w' (by rw [<- q'];exact hocd)
theorem store_ok {M:Model}{A:Around}{E:Value->Shared->Prop}{i:Nat}{x:Str}{v:V}{u:Value}{Q:Unit->Shared->Prop} (I:Inv X pins σ H s) (hN:X.N.Nodup) (hi:X.N[i]? = some x) (hx:Loc X.env.scope x) (r:RelV v u)
  (h:∀s',Inv X pins (σ.set i (some v)) H s'->Q () s') (hf:X.fn x=true\/X.env.scope.names.lookup x=some .local:=by first | exact .inl rfl | exact .inr rfl | assumption):wpAny M A (storeName X.env x u) Q E s:=
 store_ok2 I hN hi hx r (fun s' I' _=>h s' I') hf
theorem Inv.call' {s':Shared}{ch:List Addr} (I:Inv X pins σ H s) (ho:s'.os=s.os) (u:Un (frs X.stack) ch H H' s.heap s'.heap) (hok:HOk X.prog X.w H' s'.heap) (hg:AllBare s'.gens)
  (hch:∀b ∈ ch,(b ∈ X.ex\/X.s₀.heap.objs.size≤b)/\b≠X.env.locals/\(∀x c,X.env.cells.lookup x=some c->c≠b)/\∀p ∈ X.pn++pins,p.1≠b):Inv X pins σ H' s':=by
 obtain⟨h',g',d',t',o'⟩:=s'
 have e:o'=s.os:=ho
 subst e
 exact I.call (g':=g') (t':=t') (d':=d') u hok hg hch
end
noncomputable abbrev XK:=Value->Option Addr->Hp->Prop
noncomputable abbrev St:=List (Option V)
noncomputable abbrev VK:=V->Hp->Prop
noncomputable abbrev TE:=St->Hp->VK->Prop
noncomputable abbrev TT:=St->Hp->(Bool->Hp->Prop)->Prop
noncomputable abbrev TA:=St->Hp->(List V->Hp->Prop)->Prop
structure Ends where
 nx:St->Hp->Prop
 rt:VK
 bk:St->Hp->Prop:=fun _ _=>False
 ct:St->Hp->Prop:=fun _ _=>False
noncomputable abbrev TS:=Ends->St->Hp->Prop
noncomputable def EP (X:Cx) (pins:List (Addr×Obj)) (σ:St) (Q:VK) (u:Value) (s':Shared):Prop:=∃v H',Inv X pins σ H' s'/\RelV v u/\Q v H'
noncomputable def TP (X:Cx) (pins:List (Addr×Obj)) (σ:St) (Q:Bool->Hp->Prop) (b:Bool) (s':Shared):Prop:=∃H',Inv X pins σ H' s'/\Q b H'
noncomputable def AP (X:Cx) (pins:List (Addr×Obj)) (σ:St) (Q:List V->Hp->Prop) (us:List Value) (s':Shared):Prop:=∃vs H',Inv X pins σ H' s'/\Vals vs us/\Q vs H'
noncomputable def SP (X:Cx) (pins:List (Addr×Obj)) (D:Ends) (f:Flow) (s':Shared):Prop:=
 match f with
 | .next=>∃σ' H',Inv X pins σ' H' s'/\D.nx σ' H'
 | .brk=>∃σ' H',Inv X pins σ' H' s'/\D.bk σ' H'
 | .cont=>∃σ' H',Inv X pins σ' H' s'/\D.ct σ' H'
 | .ret u=>∃v σ' H',Inv X pins σ' H' s'/\RelV v u/\D.rt v H'
noncomputable def PE (X:Cx) (e:Expr) (t:TE):Prop:=
 ∀(pins:List (Addr×Obj)) (s:Shared) (σ:St) (H:Hp) (Q:VK),Inv X pins σ H s->t σ H Q->wpAny (model X.prog X.w) X.A (eval e X.env) (EP X pins σ Q) X.xe s
noncomputable def PT (X:Cx) (e:Expr) (t:TT):Prop:=
 ∀(pins:List (Addr×Obj)) (s:Shared) (σ:St) (H:Hp) (Q:Bool->Hp->Prop),Inv X pins σ H s->t σ H Q->wpAny (model X.prog X.w) X.A (isTrue e X.env (eval e X.env)) (TP X pins σ Q) X.xe s
noncomputable def PW (X:Cx) (e:Expr) (t:TT):Prop:=
 ∀(whole:Sem Value) (pins:List (Addr×Obj)) (s:Shared) (σ:St) (H:Hp) (Q:Bool->Hp->Prop),Inv X pins σ H s->t σ H Q->wpAny (model X.prog X.w) X.A (isTrue e X.env whole) (TP X pins σ Q) X.xe s
theorem PW.pt {X:Cx}{e:Expr}{t:TT} (h:PW X e t):PT X e t:=h _
noncomputable def PA (X:Cx) (es:List Expr) (t:TA):Prop:=
 ∀(pos:Pos) (pins:List (Addr×Obj)) (s:Shared) (σ:St) (H:Hp) (Q:List V->Hp->Prop),Inv X pins σ H s->t σ H Q->wpAny (model X.prog X.w) X.A (spliced (backTo pos (starEach es X.env))) (AP X pins σ Q) X.xe s
noncomputable def PS (X:Cx) (st:Stmt) (t:TS):Prop:=
 ∀(pins:List (Addr×Obj)) (s:Shared) (σ:St) (H:Hp) (D:Ends),Inv X pins σ H s->t D σ H->wpAny (model X.prog X.w) X.A (exec st X.env) (SP X pins D) X.xe s
noncomputable def PSs (X:Cx) (st:List Stmt) (t:TS):Prop:=
 ∀(pins:List (Addr×Obj)) (s:Shared) (σ:St) (H:Hp) (D:Ends),Inv X pins σ H s->t D σ H->wpAny (model X.prog X.w) X.A (execs st X.env) (SP X pins D) X.xe s
theorem thn {α:Type}{t:Sem α}{Q Q':α->Shared->Prop}{M:Model}{A:Around}{E:Value->Shared->Prop}{s:Shared} (h:wpAny M A t Q E s) (hQ:∀a s,Q a s->Q' a s):wpAny M A t Q' E s:=wpAny_mono h hQ fun _ _ x=>x
end L2
namespace L2
open PySem PySem.Spec PyProof.Rows
section
variable {X:Cx}
noncomputable def tVar (i:Nat):TE:=fun σ H Q=>∃v,σ[i]? = some (some v)/\Q v H
noncomputable def tC (v:V):TE:=fun _ H Q=>Q v H
theorem pe_var {i:Nat}{x:Str}{pos:Pos} (hN:X.N[i]? = some x) (hv:Vis X.env.scope x) (hd:(x == ("__debug__":Str))=false:=by decide) (hcd:(x == ("__classdict__":Str))=false:=by decide):PE X (.Name x pos) (tVar i):=by
 intro pins s σ H Q I h
 obtain⟨v,e,h⟩:=h
 obtain⟨m,hn,hl⟩:=I.loc
 obtain⟨u,r,l⟩:=hl i x v hN e hv
 have fin:EP X pins σ Q u s:=⟨v,H,I,r,h⟩
 rcases l with ⟨hk,hm⟩ | ⟨hk,c,hc,hcell⟩
 ·exact wpAny_Name (wpAny_loadName_local I.ok.kind hk hn hm fin) hd
 ·rcases hk with hk | hk
  ·exact wpAny_Name (wpAny_loadName_cell I.ok.kind hk hc hcell fin) hd
  ·exact wpAny_Name (wpAny_loadName_free I.ok.kind hk hc hcell fin hcd) hd
theorem pe_int {i j pos}:PE X (.Constant (.int i) j pos) (tC (.int i)):=fun _ _ _ H _ I h=>wpAny_Constant_int ⟨.int i,H,I.tok _,⟨_,rfl⟩,h⟩
theorem pe_bl {b j pos}:PE X (.Constant (.bool b) j pos) (tC (.bl b)):=fun _ _ _ H _ I h=>Constant_bool ⟨.bl b,H,I,rfl,h⟩
theorem pe_non {j pos}:PE X (.Constant .none j pos) (tC .non):=fun _ _ _ H _ I h=>Constant_none ⟨.non,H,I,rfl,h⟩
theorem pe_str {x j pos}:PE X (.Constant (.str x) j pos) (tC (.str x)):=fun _ _ _ H _ I h=>Calls.Constant_str ⟨.str x,H,I.tok _,⟨_,rfl⟩,h⟩
noncomputable def Gl (X:Cx) (x:Str):Prop:=X.env.kindOf x=some .globalImplicit
theorem ld_glob {E:Value->Shared->Prop}{pins:List (Addr×Obj)}{s:Shared}{σ:St}{H:Hp}{x:Str}{u:Value}{pos:Pos}{Q:Value->Shared->Prop} (I:Inv X pins σ H s) (hg:Gl X x) (hm:X.mg x=some u) (h:Q u s)
  (hd:(x == ("__debug__":Str))=false:=by decide):wpAny (model X.prog X.w) X.A (eval (.Name x pos) X.env) Q E s:=
 Calls.Name_function_global I.ok.kind hg (Calls.loadGlobal_global (by rw [I.ok.glob];exact I.mod.glob.keeps I.bk) hm h) hd
theorem ld_blt {E:Value->Shared->Prop}{pins:List (Addr×Obj)}{s:Shared}{σ:St}{H:Hp}{x:Str}{u:Value}{pos:Pos}{Q:Value->Shared->Prop} (I:Inv X pins σ H s) (hg:Gl X x) (hm:X.mg x=none) (hv:bootBuiltins x=some u) (h:Q u s)
  (hn:x≠"__name__":=by decide) (hd:(x == ("__debug__":Str))=false:=by decide):wpAny (model X.prog X.w) X.A (eval (.Name x pos) X.env) Q E s:=by
 obtain⟨mb,h1,h2⟩:=I.mod.blt
 exact Calls.Name_function_global I.ok.kind hg (Calls.loadGlobal_builtin (by rw [I.ok.glob];exact I.mod.glob.keeps I.bk) hm (by rw [I.ok.blt];exact h1.keeps I.bk) ((h2 x hn).trans hv) h) hd
theorem pe_glob {x:Str}{v:V}{u:Value}{pos:Pos} (hg:Gl X x) (hm:X.mg x=some u) (r:RelV v u) (hd:(x == ("__debug__":Str))=false:=by decide):PE X (.Name x pos) (tC v):=
 fun _ _ _ H _ I h=>ld_glob I hg hm ⟨v,H,I,r,h⟩ hd
theorem pe_bltn {x:Str}{v:V}{u:Value}{pos:Pos} (hg:Gl X x) (hm:X.mg x=none) (hv:bootBuiltins x=some u) (r:RelV v u) (hn:x≠"__name__":=by decide) (hd:(x == ("__debug__":Str))=false:=by decide):PE X (.Name x pos) (tC v):=
 fun _ _ _ H _ I h=>ld_blt I hg hm hv ⟨v,H,I,r,h⟩ hn hd
noncomputable def t2I (ta tb:TE) (k:Int->Int->Hp->Prop):St->Hp->Prop:=fun σ H=>ta σ H fun x H1=>tb σ H1 fun y H2=>∃i j,x=.int i/\y=.int j/\k i j H2
variable {a b:Expr}{ta tb:TE}{pos:Pos}
noncomputable def tCmp (p:Int->Int->Bool) (ta tb:TE):TE:=fun σ H Q=>t2I ta tb (fun i j H2=>Q (.bl (p i j)) H2) σ H
noncomputable abbrev tLt:TE->TE->TE:=tCmp fun i j=>decide (i < j)
noncomputable abbrev tLe:TE->TE->TE:=tCmp fun i j=>decide (i≤j)
noncomputable abbrev tGt:TE->TE->TE:=tCmp fun i j=>decide (j < i)
noncomputable abbrev tGe:TE->TE->TE:=tCmp fun i j=>decide (j≤i)
noncomputable abbrev tEqI:TE->TE->TE:=tCmp fun i j=>decide (i=j)
noncomputable abbrev tNeI:TE->TE->TE:=tCmp fun i j=>!decide (i=j)
variable {tA tB':TT}{rest:List Expr}
noncomputable def tAnd (t u:TT):TT:=fun σ H Q=>t σ H fun c H1=>if c=true then u σ H1 Q else Q false H1
noncomputable def tOr (t u:TT):TT:=fun σ H Q=>t σ H fun c H1=>if c=true then Q true H1 else u σ H1 Q
noncomputable def tNot (t:TT):TT:=fun σ H Q=>t σ H fun c H1=>Q (!c) H1
theorem pw_and1 (ha:PT X a tA):PW X (.BoolOp .And [a] pos) tA:=by
 intro wh pins s σ H Q I h
 refine isTrue_and (thn (ha pins s σ H Q I h) fun c s1 e=>?_)
 cases c with
 | true=>exact isTrue_and_nil e
 | false=>exact e
theorem pw_or1 (ha:PT X a tA):PW X (.BoolOp .Or [a] pos) tA:=by
 intro wh pins s σ H Q I h
 refine isTrue_or (thn (ha pins s σ H Q I h) fun c s1 e=>?_)
 cases c with
 | false=>exact isTrue_or_nil e
 | true=>exact e
theorem pw_and (ha:PT X a tA) (hb:PW X (.BoolOp .And (b::rest) pos) tB'):PW X (.BoolOp .And (a::b::rest) pos) (tAnd tA tB'):=by
 intro wh pins s σ H Q I h
 refine isTrue_and (thn (ha pins s σ H _ I h) fun c s1 hz=>?_)
 obtain⟨H1,I1,q1⟩:=hz
 cases c with
 | true=>exact hb wh pins s1 σ H1 Q I1 q1
 | false=>exact⟨H1,I1,q1⟩
theorem pw_or (ha:PT X a tA) (hb:PW X (.BoolOp .Or (b::rest) pos) tB'):PW X (.BoolOp .Or (a::b::rest) pos) (tOr tA tB'):=by
 intro wh pins s σ H Q I h
 refine isTrue_or (thn (ha pins s σ H _ I h) fun c s1 hz=>?_)
 obtain⟨H1,I1,q1⟩:=hz
 cases c with
 | true=>exact⟨H1,I1,q1⟩
 | false=>exact hb wh pins s1 σ H1 Q I1 q1
theorem pt_not (ha:PT X a tA):PT X (.UnaryOp .Not a pos) (tNot tA):=by
 intro pins s σ H Q I h
 exact isTrue_not (ha pins s σ H (fun c H1=>Q (!c) H1) I h)
noncomputable def tAndV (ta tb:TE):TE:=fun σ H Q=>ta σ H fun x H1=>∃c,x=.bl c/\if c=true then tb σ H1 Q else Q (.bl false) H1
noncomputable def tOrV (ta tb:TE):TE:=fun σ H Q=>ta σ H fun x H1=>∃c,x=.bl c/\if c=true then Q (.bl true) H1 else tb σ H1 Q
noncomputable def tNotV (ta:TE):TE:=fun σ H Q=>ta σ H fun x H1=>∃c,x=.bl c/\Q (.bl (!c)) H1
theorem pe_one {op}{t:TE} (h:PE X a t):PE X (.BoolOp op [a] pos) t:=fun pins s σ H Q I hw=>BoolOp_one (h pins s σ H Q I hw)
theorem pe_and (ha:PE X a ta) (hb:PE X (.BoolOp .And (b::rest) pos) tb):PE X (.BoolOp .And (a::b::rest) pos) (tAndV ta tb):=by
 intro pins s σ H Q I h
 refine BoolOp_and (thn (ha pins s σ H _ I h) fun v s1 hz=>?_)
 obtain⟨x,H1,I1,r1,q1⟩:=hz
 obtain⟨c,rfl,q1⟩:=q1
 cases r1
 refine wpAny_truthy_bool ?_
 cases c with
 | true=>exact hb pins s1 σ H1 Q I1 q1
 | false=>exact⟨.bl false,H1,I1,rfl,q1⟩
theorem pe_or (ha:PE X a ta) (hb:PE X (.BoolOp .Or (b::rest) pos) tb):PE X (.BoolOp .Or (a::b::rest) pos) (tOrV ta tb):=by
 intro pins s σ H Q I h
 refine BoolOp_or (thn (ha pins s σ H _ I h) fun v s1 hz=>?_)
 obtain⟨x,H1,I1,r1,q1⟩:=hz
 obtain⟨c,rfl,q1⟩:=q1
 cases r1
 refine wpAny_truthy_bool ?_
 cases c with
 | false=>exact hb pins s1 σ H1 Q I1 q1
 | true=>exact⟨.bl true,H1,I1,rfl,q1⟩
theorem pe_not (ha:PE X a ta):PE X (.UnaryOp .Not a pos) (tNotV ta):=by
 intro pins s σ H Q I h
 refine UnaryOp_ (thn (ha pins s σ H _ I h) fun v s1 hz=>?_)
 obtain⟨x,H1,I1,r1,q1⟩:=hz
 obtain⟨c,rfl,q1⟩:=q1
 cases r1
 exact not_of (wpAny_truthy_bool ⟨.bl (!c),H1,I1,rfl,q1⟩)
end
end L2
namespace L2
open PySem PySem.Spec PyProof.Rows
noncomputable def SqL (K:PySem.W.Frag) (H:Hp) (a:Addr) (xs:List V):Prop:=
 Rd H a (.lst xs) \/
  ∃(o:Obj) (its:Array Value) (n:Nat),K.lookup a=some o/\o.cls=.type "list"/\o.dict=none/\o.data=.seq its n/\its.size≤sizeLine/\Vals xs its.toList
noncomputable def SqT (K:PySem.W.Frag) (H:Hp) (a:Addr) (xs:List V):Prop:=
 Rd H a (.tup xs) \/
  ∃(o:Obj) (its:Array Value) (n:Nat),K.lookup a=some o/\o.cls=.type "tuple"/\o.data=.seq its n/\its.size≤sizeLine/\Vals xs its.toList
noncomputable def absV:Value->Option V
 | .none=>some .non
 | .bool b=>some (.bl b)
 | .int i _=>some (.int i)
 | .str x _=>some (.str x)
 | .bytes b _=>some (.byt b)
 | .float b _=>some (.flt b)
 | .ref a=>some (.ref a)
 | .type n=>some (.ty n)
 | _=>none
theorem RelV.abs {x:V}{u:Value} (r:RelV x u):absV u=some x:=by
 cases x with
 | non=>cases r;rfl
 | bl _=>cases r;rfl
 | int _=>obtain⟨t,rfl⟩:=r;rfl
 | str _=>obtain⟨t,rfl⟩:=r;rfl
 | byt _=>obtain⟨t,rfl⟩:=r;rfl
 | flt _=>obtain⟨t,rfl⟩:=r;rfl
 | ref _=>cases r;rfl
 | ty _=>cases r;rfl
theorem RelV.inj {x y:V}{u:Value} (r:RelV x u) (q:RelV y u):x=y:=Option.some.inj (r.abs.symm.trans q.abs)
theorem Vals.inj:∀{xs ys:List V}{us:List Value},Vals xs us->Vals ys us->xs=ys
 | _,_,_,.nil,.nil=>rfl
 | _,_,_,.cons r t,.cons r' t'=>by rw [r.inj r',Vals.inj t t']
section
variable {X:Cx}{pins:List (Addr×Obj)}{σ:St}{H:Hp}{s:Shared}{a:Addr}{xs ys:List V}
theorem SqL.of {K:PySem.W.Frag} (h:H a=some (.lst xs)):SqL K H a xs:=.inl (.inl h)
theorem SqT.of {K:PySem.W.Frag} (h:H a=some (.tup xs)):SqT K H a xs:=.inl (.inl h)
theorem Inv.list (I:Inv X pins σ H s) (h:SqL X.K H a xs):∃its:List Value,Vals xs its/\PlainL s.heap a its.toArray/\xs.length≤sizeLine:=by
 rcases h with h | ⟨o,its,n,hk,hc,hd,hs,hz,r⟩
 ·obtain⟨z,its,n,r,e⟩:=h.ok I.hok
  exact⟨its,r,⟨_,n,e,rfl,rfl,rfl⟩,z⟩
 ·refine⟨its.toList,r,⟨o,n,I.kIn a o hk,hc,hd,by simpa using hs⟩,?_⟩
  have e:=r.length
  simp only [Array.length_toList] at e
  omega
theorem Inv.tuple (I:Inv X pins σ H s) (h:SqT X.K H a xs):∃its:List Value,Vals xs its/\IsTup s.heap a its.toArray/\xs.length≤sizeLine:=by
 rcases h with h | ⟨o,its,n,hk,hc,hs,hz,r⟩
 ·obtain⟨z,its,r,p⟩:=h.ok I.hok
  exact⟨its,r,p,z⟩
 ·refine⟨its.toList,r,⟨o,I.kIn a o hk,hc,n,by simpa using hs⟩,?_⟩
  have e:=r.length
  simp only [Array.length_toList] at e
  omega
theorem Inv.list_inj (I:Inv X pins σ H s) (h:SqL X.K H a xs) (h':SqL X.K H a ys):xs=ys:=by
 obtain⟨its,r,⟨o,n,e,_,_,d⟩,_⟩:=I.list h
 obtain⟨its',r',⟨o',n',e',_,_,d'⟩,_⟩:=I.list h'
 rw [e] at e';cases e'
 rw [d] at d'
 injection d' with d1 _
 have:its=its':=by simpa using congrArg Array.toList d1
 subst this
 exact r.inj r'
theorem Inv.tuple_inj (I:Inv X pins σ H s) (h:SqT X.K H a xs) (h':SqT X.K H a ys):xs=ys:=by
 obtain⟨its,r,⟨o,e,_,n,d⟩,_⟩:=I.tuple h
 obtain⟨its',r',⟨o',e',_,n',d'⟩,_⟩:=I.tuple h'
 rw [e] at e';cases e'
 rw [d] at d'
 injection d' with d1 _
 have:its=its':=by simpa using congrArg Array.toList d1
 subst this
 exact r.inj r'
end
noncomputable abbrev Cx.wish (X:Cx) (E:Value->Shared->Prop):Cx:={ X with xe:=E }
noncomputable abbrev Cx.nox (X:Cx):Cx:=X.wish fun _ _=>False
theorem Cx.Ok.wish {X:Cx} (ok:X.Ok) (E:Value->Shared->Prop):(X.wish E).Ok:=
 ⟨ok.mod,ok.kind,ok.glob,ok.blt,ok.above,ok.inj,ok.has,ok.cab,ok.hd,ok.frames,ok.stk,ok.exf,ok.bs,ok.bsz,ok.noex,ok.exfs,ok.funs,ok.frf⟩
theorem Cx.Ok.unwish {X:Cx}{E:Value->Shared->Prop} (ok:(X.wish E).Ok):X.Ok:=
 ⟨ok.mod,ok.kind,ok.glob,ok.blt,ok.above,ok.inj,ok.has,ok.cab,ok.hd,ok.frames,ok.stk,ok.exf,ok.bs,ok.bsz,ok.noex,ok.exfs,ok.funs,ok.frf⟩
section
variable {X:Cx}{pins:List (Addr×Obj)}{σ:St}{H:Hp}{s:Shared}{E:Value->Shared->Prop}
theorem Inv.wish (I:Inv X pins σ H s) (E:Value->Shared->Prop):Inv (X.wish E) pins σ H s:=⟨I.ok.wish E,I.os,I.bare,I.base,I.loc,I.cell,I.free,I.freeC,I.pin,I.hok,I.len⟩
theorem Inv.unwish (I:Inv (X.wish E) pins σ H s):Inv X pins σ H s:=⟨I.ok.unwish,I.os,I.bare,I.base,I.loc,I.cell,I.free,I.freeC,I.pin,I.hok,I.len⟩
theorem SP.unwish {D:Ends}{f:Flow}{s':Shared} (h:SP (X.wish E) pins D f s'):SP X pins D f s':=by
 cases f with
 | next=>obtain⟨σ',H',I,q⟩:=h;exact⟨σ',H',I.unwish,q⟩
 | brk=>obtain⟨σ',H',I,q⟩:=h;exact⟨σ',H',I.unwish,q⟩
 | cont=>obtain⟨σ',H',I,q⟩:=h;exact⟨σ',H',I.unwish,q⟩
 | ret u=>obtain⟨v,σ',H',I,r,q⟩:=h;exact⟨v,σ',H',I.unwish,r,q⟩
theorem PE.nox {e:Expr}{t:TE} (h:PE X.nox e t):PE X e t:=fun pins s σ H Q I hw=>
 wpAny_mono (h pins s σ H Q (I.wish _) hw) (fun _ _ hz=>by obtain⟨v,H',I',r,q⟩:=hz;exact⟨v,H',I'.unwish,r,q⟩) fun _ _ z=>False.elim z
theorem PT.nox {e:Expr}{t:TT} (h:PT X.nox e t):PT X e t:=fun pins s σ H Q I hw=>
 wpAny_mono (h pins s σ H Q (I.wish _) hw) (fun _ _ hz=>by obtain⟨H',I',q⟩:=hz;exact⟨H',I'.unwish,q⟩) fun _ _ z=>False.elim z
theorem PSs.nox {st:List Stmt}{t:TS} (h:PSs X.nox st t):PSs X st t:=fun pins s σ H D I hw=>
 wpAny_mono (h pins s σ H D (I.wish _) hw) (fun _ _ q=>q.unwish) fun _ _ z=>False.elim z
end
section
variable {X:Cx}{st:Stmt}{rest:List Stmt}{t u:TS}{e:Expr}{te:TE}{pos:Pos}
noncomputable def tNext:TS:=fun D σ H=>D.nx σ H
noncomputable def tSeq (t u:TS):TS:=fun D σ H=>t { D with nx:=u D } σ H
theorem pss_nil:PSs X [] tNext:=fun _ _ σ H _ I h=>wpAny_execs_nil ⟨σ,H,I,h⟩
theorem pss_cons (h1:PS X st t) (h2:PSs X rest u):PSs X (st::rest) (tSeq t u):=by
 intro pins s σ H D I h
 refine wpAny_execs_cons (thn (h1 pins s σ H { D with nx:=u D } I h) fun f s1 q=>?_)
 cases f with
 | next=>
  obtain⟨σ',H',I',q⟩:=q
  exact h2 pins s1 σ' H' D I' q
 | ret v=>exact q
 | brk=>exact q
 | cont=>exact q
theorem pss_one (h1:PS X st t):PSs X [st] t:=by
 intro pins s σ H D I h
 refine wpAny_execs_cons (thn (h1 pins s σ H D I h) fun f s1 q=>?_)
 cases f with
 | next=>exact wpAny_execs_nil q
 | ret v=>exact q
 | brk=>exact q
 | cont=>exact q
theorem Inv.quiet {pins:List (Addr×Obj)}{σ:St}{H:Hp}{s:Shared} (I:Inv X pins σ H s):interactive X.env=false:=by simp [interactive,I.ok.kind]
noncomputable def tDrop (te:TE):TS:=fun D σ H=>te σ H fun _ H1=>D.nx σ H1
theorem ps_expr (he:PE X e te) (hs:swapsWith e none pos.line X.env=pure false:=by rfl):PS X (.Expr e pos) (tDrop te):=by
 intro pins s σ H D I h
 exact wpAny_Expr_any (thn (he pins s σ H _ I h) fun v s1 hz=>by obtain⟨x,H1,I1,r1,q1⟩:=hz;exact⟨σ,H1,I1,q1⟩) I.quiet hs
noncomputable def tRet (te:TE):TS:=fun D σ H=>te σ H D.rt
theorem ps_ret (he:PE X e te):PS X (.Return (some e) pos) (tRet te):=by
 intro pins s σ H D I h
 exact wpAny_Return_some (thn (he pins s σ H _ I h) fun v s1 hz=>by obtain⟨x,H1,I1,r1,q1⟩:=hz;exact⟨x,σ,H1,I1,r1,q1⟩)
noncomputable def tIfS (c:TT) (t u:TS):TS:=fun D σ H=>c σ H fun b H1=>if b=true then t D σ H1 else u D σ H1
theorem ps_if {c:Expr}{a b:List Stmt}{tc:TT} (hc:PT X c tc) (ha:PSs X a t) (hb:PSs X b u):PS X (.If c a b pos) (tIfS tc t u):=by
 intro pins s σ H D I h
 refine wpAny_If (thn (hc pins s σ H _ I h) fun d s1 hz=>?_)
 obtain⟨H1,I1,q1⟩:=hz
 cases d with
 | true=>exact ha pins s1 σ H1 D I1 q1
 | false=>exact hb pins s1 σ H1 D I1 q1
noncomputable def tNever:TS:=fun _ _ _=>False
theorem ps_never:PS X st tNever:=fun _ _ _ _ _ _ h=>h.elim
theorem pss_never {sts:List Stmt}:PSs X sts tNever:=fun _ _ _ _ _ _ h=>h.elim
end
noncomputable abbrev TG:=V->St->Hp->(St->Hp->Prop)->Prop
noncomputable abbrev TGs:=List V->St->Hp->(St->Hp->Prop)->Prop
noncomputable def PG (X:Cx) (target:Expr) (t:TG):Prop:=
 ∀(pins:List (Addr×Obj)) (s:Shared) (σ:St) (H:Hp) (v:V) (u:Value) (Q:St->Hp->Prop),Inv X pins σ H s->RelV v u->t v σ H Q ->
  wpAny (model X.prog X.w) X.A (assign target X.env u) (fun _ s'=>∃σ' H',Inv X pins σ' H' s'/\Q σ' H') X.xe s
noncomputable abbrev TSet:=V->V->V->Hp->(Hp->Prop)->Prop
noncomputable abbrev TIp:=V->V->Hp->VK->Prop
section
variable {X:Cx}{pos:Pos}
noncomputable def gName (i:Nat):TG:=fun v σ H Q=>Q (σ.set i (some v)) H
theorem pg_name {i:Nat}{x:Str} (hN:X.N.Nodup) (hi:X.N[i]? = some x) (hx:Loc X.env.scope x) (hf:X.fn x=true\/X.env.scope.names.lookup x=some .local:=by first | exact .inl rfl | exact .inr rfl | assumption):PG X (.Name x pos) (gName i):=by
 intro pins s σ H v u Q I r h
 exact wpAny_assign_Name (store_ok I hN hi hx r (fun s' I'=>⟨_,H,I',h⟩) hf)
noncomputable def tAsg (te:TE) (g:TG):TS:=fun D σ H=>te σ H fun x H1=>g x σ H1 D.nx
theorem ps_set {i:Nat}{x:Str}{e:Expr}{te:TE}{pos':Pos} (hN:X.N.Nodup) (hi:X.N[i]? = some x) (hx:Loc X.env.scope x) (he:PE X e te) (hs:swapsWith e (some (.Name x pos')) pos.line X.env=pure false:=by rfl) (hf:X.fn x=true\/X.env.scope.names.lookup x=some .local:=by first | exact .inl rfl | exact .inr rfl | assumption) :
  PS X (.Assign [.Name x pos'] e pos) (tAsg te (gName i)):=by
 intro pins s σ H D I h
 refine wpAny_Assign_Name (thn (he pins s σ H _ I h) fun v s1 hz=>?_) hs
 obtain⟨y,H1,I1,r1,q1⟩:=hz
 exact store_ok I1 hN hi hx r1 (fun s2 I2=>⟨_,H1,I2,q1⟩) hf
end
section
variable {X:Cx}{pos:Pos}
noncomputable def tWhile (c:TT) (tb:TS):TS:=fun D σ H=>∃W:Nat->St->Hp->Prop,(∃m,W m σ H)/\∀m σ H,W m σ H ->
 c σ H fun b H1=>if b=true then ∃N:St->Hp->Prop,(∀σ' H',N σ' H'->∃m',m' < m/\W m' σ' H')/\tb { D with nx:=N,ct:=N,bk:=D.nx } σ H1 else D.nx σ H1
theorem ps_while {c:Expr}{body:List Stmt}{tc:TT}{tb:TS} (hp:PassesOwn (model X.prog X.w) X.A X.env X.xe) (hc:PT X c tc) (hb:PSs X body tb):PS X (.While c body [] pos) (tWhile tc tb):=by
 intro pins s σ H D I h
 obtain⟨W,⟨m0,w0⟩,turn⟩:=h
 refine wpAny_While (codeAny_whileLoop (fun n s'=>∃σ' H',Inv X pins σ' H' s'/\W n σ' H') ?_ m0 ⟨σ,H,I,w0⟩)
 rintro n s1 ⟨σ1,H1,I1,w1⟩
 refine wpAny_passesOwn hp (thn (hc pins s1 σ1 H1 _ I1 (turn n σ1 H1 w1)) fun b s2 hz=>?_)
 obtain⟨H2,I2,q2⟩:=hz
 cases b with
 | true=>
  obtain⟨N,hN,q2⟩:=q2
  rw [if_pos rfl]
  refine wpAny_passesOwn hp (thn (hb pins s2 σ1 H2 _ I2 q2) fun f s3 q3=>?_)
  cases f with
  | next=>
   obtain⟨σ3,H3,I3,n3⟩:=q3
   obtain⟨m',hm,w3⟩:=hN σ3 H3 n3
   exact⟨m',hm,σ3,H3,I3,w3⟩
  | cont=>
   obtain⟨σ3,H3,I3,n3⟩:=q3
   obtain⟨m',hm,w3⟩:=hN σ3 H3 n3
   exact⟨m',hm,σ3,H3,I3,w3⟩
  | brk=>exact q3
  | ret v=>exact q3
 | false=>
  rw [if_neg Bool.false_ne_true]
  exact wpAny_execs_nil ⟨σ1,H2,I2,q2⟩
end
structure It where
 go:Nat->Hp->Prop
 yld:Nat->Hp->V->Hp->Prop
 stop:Nat->Hp->Prop
noncomputable def FpOk (X:Cx) (pins:List (Addr×Obj)) (H:Hp) (b:Addr):Prop:=
 H b=none/\b≠X.env.locals/\b ∉ X.fs/\(b ∈ X.ex\/X.s₀.heap.objs.size≤b)/\(∀x c,X.env.cells.lookup x=some c->c≠b)/\∀p ∈ X.pn++pins,p.1≠b
theorem Inv.fpOk {X:Cx}{pins:List (Addr×Obj)}{σ:St}{H H':Hp}{s:Shared}{b:Addr} (I:Inv X pins σ H s) (hb:s.heap.objs.size≤b) (hn:H' b=none):FpOk X pins H' b:=by
 refine⟨hn,Nat.ne_of_gt (Nat.lt_of_lt_of_le I.lt hb),I.nofs hb,.inr (Nat.le_trans I.sz hb),fun x c e z=>?_,fun p hp z=>?_⟩
 ·obtain⟨v,q⟩:=I.cell x c e
  exact absurd (Nat.lt_of_lt_of_le q.lt (by rw [z];exact hb)) (Nat.lt_irrefl _)
 ·exact absurd (Nat.lt_of_lt_of_le (Heap.lt_size (I.pin p hp).1) (by rw [z];exact hb)) (Nat.lt_irrefl _)
structure Turn (P:Program) (w:World) (K:PySem.W.Frag) (tg:Expr) (J:It) (fp:List Addr) (it:Addr) (tn:Nat->Heap->Prop):Prop where
 mem:it ∈ fp
 obj:∀i h,tn i h->∀b ∈ fp,∃o,h.get? b=some o/\∀v,o.data≠.cell v
 keep:∀i h h',tn i h->(∀b ∈ fp,∀o,h.get? b=some o->h'.get? b=some o)->tn i h'
 item:∀(X:Cx),X.prog=P->X.w=w->X.K=K->X.calm=true->∀(i:Nat) (pins:List (Addr×Obj)) (s:Shared) (σ:St) (H:Hp) (E:Value->Shared->Prop),Inv X pins σ H s->(∀b ∈ fp,FpOk X pins H b)->tn i s.heap->J.go i H ->
  wpAny (model P w) X.A (pyNext (.ref it)) (fun r s1=>∃u,r=some u /\
   wpAny (model P w) X.A (letOwnedTupleGo tg (.ref it) u) (fun _ s2=>∃x H',Inv X pins σ H' s2/\RelV x u/\J.yld i H x H'/\tn (i+1) s2.heap/\∀b ∈ fp,H' b=none) E s1) E s
 done:∀(X:Cx),X.prog=P->X.w=w->X.K=K->X.calm=true->∀(i:Nat) (pins:List (Addr×Obj)) (s:Shared) (σ:St) (H:Hp) (E:Value->Shared->Prop),Inv X pins σ H s->(∀b ∈ fp,FpOk X pins H b)->tn i s.heap->J.stop i H ->
  wpAny (model P w) X.A (pyNext (.ref it)) (fun r s1=>r=none/\Inv X pins σ H s1) E s
 self:∀(A:Around) (i:Nat) (s:Shared) (Q:Value->Shared->Prop) (E:Value->Shared->Prop),tn i s.heap->Q (.ref it) s->wpAny (model P w) A (pyIter (.ref it)) Q E s
noncomputable abbrev TI:=St->Hp->(It->Hp->Prop)->Prop
noncomputable def PIE (X:Cx) (pins:List (Addr×Obj)) (σ:St) (tg:Expr) (R:It->Hp->Prop) (itv:Value) (s2:Shared):Prop:=
 ∃(it:Addr) (fp:List Addr) (tn:Nat->Heap->Prop) (J:It) (H':Hp),itv=.ref it/\Inv X pins σ H' s2/\Turn X.prog X.w X.K tg J fp it tn/\tn 0 s2.heap/\(∀b ∈ fp,FpOk X pins H' b)/\R J H'
noncomputable def PI (X:Cx) (tg iter:Expr) (wi:TI):Prop:=
 ∀(pins:List (Addr×Obj)) (s:Shared) (σ:St) (H:Hp) (R:It->Hp->Prop),Inv X pins σ H s->wi σ H R ->
  wpAny (model X.prog X.w) X.A (eval iter X.env) (fun v s1=>wpAny (model X.prog X.w) X.A (pyIter v) (PIE X pins σ tg R) X.xe s1) X.xe s
theorem go_of {M:Model}{A:Around}{E:Value->Shared->Prop}{s:Shared}{tg:Expr}{it:Addr}{u:Value}{o:Obj}{n:String}{vs:Array Value}{Q:Unit->Shared->Prop} (ho:s.heap.get? it=some o) (hc:o.cls=.type n) (hd:o.data=.fields vs)
    (hn:["enumerate","zip","dict_itemiterator","dict_reverseitemiterator","odict_iterator","itertools.zip_longest","itertools.pairwise"].contains n=false) (hQ:Q () s):wpAny M A (letOwnedTupleGo tg (.ref it) u) Q E s:=by
  unfold letOwnedTupleGo
  cases tg <;> first
    | exact wpAny_pure hQ
    | (cases u <;> first
        | exact wpAny_pure hQ
        | (refine wpAny_bind (wpAny_load ho ?_)
           rw [hc,hd]
           show wpAny M A (if (["enumerate","zip","dict_itemiterator","dict_reverseitemiterator","odict_iterator","itertools.zip_longest","itertools.pairwise"].contains n && vs[0]? == some (rawInt _))=true then _ else _) Q E s
           rw [if_neg (by intro h;rw [hn,Bool.false_and] at h;cases h)]
           exact wpAny_pure hQ))
noncomputable def Itl (K:PySem.W.Frag) (a:Addr):It:=
 ⟨fun i H=>∃xs x,SqL K H a xs/\xs[i]? = some x,fun i H x H'=>H'=H/\∀xs,SqL K H a xs->xs[i]? = some x,fun i H=>∃xs,SqL K H a xs/\xs.length≤i⟩
noncomputable def Itt (K:PySem.W.Frag) (a:Addr):It:=
 ⟨fun i H=>∃xs x,SqT K H a xs/\xs[i]? = some x,fun i H x H'=>H'=H/\∀xs,SqT K H a xs->xs[i]? = some x,fun i H=>∃xs,SqT K H a xs/\xs.length≤i⟩
noncomputable def Itr (lo:Int) (n:Nat):It:=⟨fun i _=>i < n,fun i H x H'=>H'=H/\x=.int (lo+i),fun i _=>n≤i⟩
theorem turn_list {P:Program}{w:World}{K:PySem.W.Frag}{tg:Expr} (a it:Addr):Turn P w K tg (Itl K a) [it] it (fun i h=>h.IsListIter it a i) where
 mem:=by simp
 obj:=fun i h st b hb=>by
  have e:b=it:=by simpa using hb
  subst e
  obtain⟨o,e,c,d⟩:=st
  exact⟨o,e,fun v z=>by rw [d] at z;cases z⟩
 keep:=fun i h h' st k=>st.at fun o e=>k it (by simp) o e
 item:=by
  intro X hP hw hK hc i pins s σ H E I hf st hg
  subst hP hw hK
  obtain⟨xs,x,hq,hx⟩:=hg
  obtain⟨its,rv,p,hz⟩:=I.list hq
  obtain⟨u,hu,ru⟩:=rv.get hx
  obtain⟨f0,f1,f2,f3,f4,f5⟩:=hf it (by simp)
  refine wpAny_pyNext_list_item st p.isList (x:=u) (by simpa using hu) fun h' st' sb=>?_
  have I1:Inv X pins σ H { s with heap:=h' }:=I.turned (t':=s.toks) (fun b o hb e=>(sb.2 b hb).trans e) f0 f1 f3 f4 f5
  obtain⟨o,e,c,d⟩:=id st'
  exact⟨u,rfl,go_of (s:={ s with heap:=h' }) e c d (by decide) ⟨x,H,I1,ru,⟨rfl,fun ys hy=>by rw [I.list_inj hy hq];exact hx⟩,st',fun b hb=>(hf b hb).1⟩⟩
 done:=by
  intro X hP hw hK hc i pins s σ H E I hf st hg
  subst hP hw hK
  obtain⟨xs,hq,hx⟩:=hg
  obtain⟨its,rv,p,hz⟩:=I.list hq
  obtain⟨f0,f1,f2,f3,f4,f5⟩:=hf it (by simp)
  have hl:=rv.length
  exact wpAny_pyNext_list_end (I.ok.hd hc) st p.isList (by simp;omega) fun h' eb=>⟨rfl,I.turned (t':=s.toks) (fun b o hb e=>eb b o hb e) f0 f1 f3 f4 f5⟩
 self:=fun _ _ _ _ _ st h=>wpAny_pyIter_listiter st h
theorem turn_tuple {P:Program}{w:World}{K:PySem.W.Frag}{tg:Expr} (a it:Addr):Turn P w K tg (Itt K a) [it] it (fun i h=>h.IsTupleIter it a i) where
 mem:=by simp
 obj:=fun i h st b hb=>by
  have e:b=it:=by simpa using hb
  subst e
  obtain⟨o,e,c,d⟩:=st
  exact⟨o,e,fun v z=>by rw [d] at z;cases z⟩
 keep:=fun i h h' st k=>st.at fun o e=>k it (by simp) o e
 item:=by
  intro X hP hw hK hc i pins s σ H E I hf st hg
  subst hP hw hK
  obtain⟨xs,x,hq,hx⟩:=hg
  obtain⟨its,rv,p,hz⟩:=I.tuple hq
  obtain⟨u,hu,ru⟩:=rv.get hx
  obtain⟨f0,f1,f2,f3,f4,f5⟩:=hf it (by simp)
  refine wpAny_pyNext_tuple_item st (show s.heap.IsTuple a its.toArray from p) (x:=u) (by simpa using hu) fun h' st' sb=>?_
  have I1:Inv X pins σ H { s with heap:=h' }:=I.turned (t':=s.toks) (fun b o hb e=>(sb.2 b hb).trans e) f0 f1 f3 f4 f5
  obtain⟨o,e,c,d⟩:=id st'
  exact⟨u,rfl,go_of (s:={ s with heap:=h' }) e c d (by decide) ⟨x,H,I1,ru,⟨rfl,fun ys hy=>by rw [I.tuple_inj hy hq];exact hx⟩,st',fun b hb=>(hf b hb).1⟩⟩
 done:=by
  intro X hP hw hK hc i pins s σ H E I hf st hg
  subst hP hw hK
  obtain⟨xs,hq,hx⟩:=hg
  obtain⟨its,rv,p,hz⟩:=I.tuple hq
  obtain⟨f0,f1,f2,f3,f4,f5⟩:=hf it (by simp)
  have hl:=rv.length
  exact wpAny_pyNext_tuple_end (I.ok.hd hc) st (show s.heap.IsTuple a its.toArray from p) (by simp;omega) fun h' eb=>⟨rfl,I.turned (t':=s.toks) (fun b o hb e=>eb b o hb e) f0 f1 f3 f4 f5⟩
 self:=fun _ _ _ _ _ st h=>wpAny_pyIter_tupleiter st h
theorem turn_range {P:Program}{w:World}{K:PySem.W.Frag}{tg:Expr} (it:Addr) (lo:Int) (n:Nat):Turn P w K tg (Itr lo n) [it] it (fun i h=>IsRangeIter h it (lo+(i:Nat) * 1) ((n:Int)-(i:Nat)) 1) where
 mem:=by simp
 obj:=fun i h st b hb=>by
  have e:b=it:=by simpa using hb
  subst e
  exact⟨_,st,fun v z=>by
   have z':Data.fields _=Data.cell v:=z
   cases z'⟩
 keep:=fun i h h' st k=>k it (by simp) _ st
 item:=by
  intro X hP hw hK hc i pins s σ H E I hf st hg
  subst hP hw hK
  obtain⟨f0,f1,f2,f3,f4,f5⟩:=hf it (by simp)
  have W:=Walks.range (prog:=X.prog) (w:=X.w) (I.ok.hd hc) it lo 1 n
  refine W.item i s _ _ hg st fun v h' tk hv st' kk=>?_
  obtain⟨t,rfl⟩:=hv
  have I1:Inv X pins σ H { s with heap:=h',toks:=tk }:=I.turned (fun b o hb e=>kk b o (by simpa using hb) e) f0 f1 f3 f4 f5
  refine⟨_,rfl,go_of (s:={ s with heap:=h',toks:=tk }) (n:="range_iterator") st' rfl rfl (by decide) ⟨.int (lo+i),H,I1,⟨t,?_⟩,⟨rfl,rfl⟩,st',fun b hb=>(hf b hb).1⟩⟩
  rw [Int.mul_one]
 done:=by
  intro X hP hw hK hc i pins s σ H E I hf st hg
  subst hP hw hK
  obtain⟨f0,f1,f2,f3,f4,f5⟩:=hf it (by simp)
  exact wpAny_pyNext_range_end (I.ok.hd hc) st (by have:n≤i:=hg;omega) fun h' eb=>⟨rfl,I.turned (t':=s.toks) (fun b o hb e=>eb b o hb e) f0 f1 f3 f4 f5⟩
 self:=fun _ _ _ _ _ st h=>wpAny_pyIter_rangeiter st h
end L2
namespace L2
open PySem PySem.Spec PyProof.Rows
section
variable {X:Cx}{tg:Expr}
theorem range_it {pins:List (Addr×Obj)}{σ:St}{H:Hp}{s:Shared}{R:It->Hp->Prop}{E:Value->Shared->Prop}{lo hi:Int}{t u v:Tok}{tk:Nat} (I:Inv X pins σ H s) (h1:-(2 ^ 62)≤lo) (h2:lo < 2 ^ 62) (h3:-(2 ^ 62)≤hi) (h4:hi < 2 ^ 62)
  (q:R (Itr lo (hi-lo).toNat) H):wpAny (model X.prog X.w) X.A (pyIter (.ref s.heap.objs.size)) (PIE X pins σ tg R) E { s with heap:=s.heap.push { cls:=.type "range",data:=.fields #[.int lo t,.int hi u,.int 1 v] },toks:=tk }:=by
 refine wpAny_pyIter_range (IsRange.new ..) (small_one h1 h2 h3 h4) ?_
 have I1:Inv X pins σ H { s with heap:=s.heap.push { cls:=.type "range",data:=.fields #[.int lo t,.int hi u,.int 1 v] },toks:=tk }:=I.kept fun b o e=>Heap.get?_push_of_some _ e
 refine⟨(s.heap.push { cls:=.type "range",data:=.fields #[.int lo t,.int hi u,.int 1 v] }).objs.size,[(s.heap.push { cls:=.type "range",data:=.fields #[.int lo t,.int hi u,.int 1 v] }).objs.size],_,_,H,rfl,
  I1.kept (t':=tk) fun b o e=>Heap.get?_push_of_some _ e,turn_range _ lo (hi-lo).toNat,?_,fun b hb=>?_,q⟩
 ·have e1:lo+((0:Nat):Int) * 1=lo:=by simp
  have e2:(((hi-lo).toNat:Nat):Int)-((0:Nat):Int)=Builtin.Range.rangeSize lo hi 1:=by rw [rangeSize_one];split <;> omega
  show IsRangeIter _ _ (lo+((0:Nat):Int) * 1) ((((hi-lo).toNat:Nat):Int)-((0:Nat):Int)) 1
  rw [e1,e2]
  exact Heap.get?_push_size _ rfl
 ·have e:b=(s.heap.push { cls:=.type "range",data:=.fields #[.int lo t,.int hi u,.int 1 v] }).objs.size:=by simpa using hb
  subst e
  exact I1.fpOk (Nat.le_refl _) (I1.hok.fresh (Nat.le_refl _))
noncomputable def iRng1 (ta:TA):TI:=fun σ H R=>ta σ H fun vs H1=>∃j:Int,vs=[.int j]/\-(2 ^ 62)≤j/\j < 2 ^ 62/\R (Itr 0 j.toNat) H1
theorem pi_range1 {a:Expr}{ta:TA}{p pos:Pos} (hg:Gl X "range") (hm:X.mg "range"=none) (ha:PA X [a] ta) (hs:starEach [a] X.env=[(false,eval a X.env)]:=by rfl):PI X tg (.Call (.Name "range" p) [a] [] pos) (iRng1 ta):=by
 intro pins s σ H R I h
 refine Call_ (ld_blt I hg hm boot_range (PyProof.Rows.callWith_type1 (thn (ha pos pins s σ H _ I h) fun us s1 hz=>?_) hs rfl))
 obtain⟨vs,H1,I1,r1,q1⟩:=hz
 obtain⟨j,e,q1,q2,q⟩:=q1
 subst e
 cases r1 with
 | cons r rr=>
  cases rr
  obtain⟨t,rfl⟩:=r
  exact call_range_1 (range_it I1 (by omega) (by omega) q1 q2 (by simpa using q))
noncomputable def tFor (wi:TI) (g:TG) (tb:TS):TS:=fun D σ H=>wi σ H fun J H1=>∃W:Nat->Nat->St->Hp->Prop,(∃m,W 0 m σ H1)/\∀i m σ H,W i m σ H ->
 (J.stop i H/\D.nx σ H)\/(J.go i H/\∃N:St->Hp->Prop,(∀σ' H',N σ' H'->∃m',m' < m/\W (i+1) m' σ' H')/\∀x H',J.yld i H x H'->g x σ H' fun σ2 H2=>tb { D with nx:=N,ct:=N,bk:=D.nx } σ2 H2)
noncomputable def pinsAt (fp:List Addr) (h:Heap):List (Addr×Obj):=fp.filterMap fun b=>(h.get? b).map fun o=>(b,o)
theorem mem_pinsAt {fp:List Addr}{h:Heap}{b:Addr}{o:Obj} (hb:b ∈ fp) (e:h.get? b=some o):(b,o) ∈ pinsAt fp h:=List.mem_filterMap.mpr ⟨b,hb,by rw [e];rfl⟩
theorem of_pinsAt {fp:List Addr}{h:Heap}{p:Addr×Obj} (hp:p ∈ pinsAt fp h):p.1 ∈ fp/\h.get? p.1=some p.2:=by
 obtain⟨b,hb,e⟩:=List.mem_filterMap.mp hp
 cases q:h.get? b with
 | none=>rw [q] at e;cases e
 | some o=>
  rw [q] at e
  have e':(b,o)=p:=Option.some.inj e
  subst e'
  exact⟨hb,q⟩
theorem Inv.pinned {pins:List (Addr×Obj)}{σ:St}{H:Hp}{s:Shared}{fp:List Addr} (I:Inv X pins σ H s) (hf:∀b ∈ fp,FpOk X pins H b) (ho:∀b ∈ fp,∃o,s.heap.get? b=some o/\∀v,o.data≠.cell v):Inv X (pins++pinsAt fp s.heap) σ H s:=
 I.pins_of fun p hp=>(List.mem_append.mp hp).elim (fun z=>I.pin p (List.mem_append_right _ z)) fun z=>by
  obtain⟨hb,e⟩:=of_pinsAt z
  obtain⟨f0,f1,f2,_⟩:=hf p.1 hb
  obtain⟨o,e',d⟩:=ho p.1 hb
  rw [e] at e';cases e'
  exact⟨e,f0,f1,f2,d⟩
theorem Inv.unpinned {pins pl:List (Addr×Obj)}{σ:St}{H:Hp}{s:Shared} (I:Inv X (pins++pl) σ H s):Inv X pins σ H s:=I.pins_of fun p hp=>I.pin p (List.mem_append_right _ (List.mem_append_left _ hp))
theorem ps_for {iter:Expr}{body:List Stmt}{wi:TI}{g:TG}{tb:TS}{pos:Pos} (hp:PassesOwn (model X.prog X.w) X.A X.env X.xe) (hc:X.calm=true) (hi:PI X tg iter wi) (hg:PG X tg g) (hb:PSs X body tb)
  (hs:∀x,foldedSetIterable iter X.env x=pure x:=by intro _;rfl):PS X (.For tg iter body [] pos) (tFor wi g tb):=by
 intro pins s σ H D I h
 refine wpAny_For (thn (hi pins s σ H _ I h) fun v s1 h1=>thn h1 fun itv s2 h2=>?_) hs
 obtain⟨it,fp,tn,J,H2,e,I2,T,st2,f2,W,⟨m0,w0⟩,turn⟩:=h2
 subst e
 have stat:∀{H':Hp},(∀b ∈ fp,H' b=none)->∀b ∈ fp,FpOk X pins H' b:=fun hn b hb=>⟨hn b hb,(f2 b hb).2⟩
 refine codeAny_forLoop_any (fun n s'=>∃i σ' H',Inv X pins σ' H' s'/\tn i s'.heap/\(∀b ∈ fp,H' b=none)/\W i n σ' H') ?_ m0 ⟨0,σ,H2,I2,st2,fun b hb=>(f2 b hb).1,w0⟩
 rintro n s3 ⟨i,σ3,H3,I3,st3,fr3,w3⟩
 rcases turn i n σ3 H3 w3 with ⟨stop,qn⟩ | ⟨go,N,hN,step⟩
 ·refine wpAny_passesOwn hp (thn (T.done X rfl rfl rfl hc i pins s3 σ3 H3 X.xe I3 (stat fr3) st3 stop) fun r s4 hz=>?_)
  obtain⟨hr,I4⟩:=hz
  subst hr
  exact wpAny_execs_nil ⟨σ3,H3,I4,qn⟩
 ·refine wpAny_passesOwn hp (thn (T.item X rfl rfl rfl hc i pins s3 σ3 H3 X.xe I3 (stat fr3) st3 go) fun r s4 hz=>?_)
  obtain⟨u,hr,h4⟩:=hz
  subst hr
  refine wpAny_passesOwn hp (thn h4 fun _ s5 hz=>?_)
  obtain⟨x,H5,I5,r5,y5,st5,fr5⟩:=hz
  have I5':=I5.pinned (stat fr5) (T.obj _ _ st5)
  refine wpAny_passesOwn hp (thn (hg _ s5 σ3 H5 x u _ I5' r5 (step x H5 y5)) fun _ s6 hz=>?_)
  obtain⟨σ6,H6,I6,q6⟩:=hz
  refine wpAny_passesOwn hp (thn (hb _ s6 σ6 H6 _ I6 q6) fun f s7 q7=>?_)
  have again:∀{σ7:St}{H7:Hp},Inv X (pins++pinsAt fp s5.heap) σ7 H7 s7->N σ7 H7->∃m,m < n/\∃i σ' H',Inv X pins σ' H' s7/\tn i s7.heap/\(∀b ∈ fp,H' b=none)/\W i m σ' H':=fun {σ7 H7} I7 n7=>by
   obtain⟨m',hm,w7⟩:=hN σ7 H7 n7
   refine⟨m',hm,i+1,σ7,H7,I7.unpinned,T.keep _ _ _ st5 fun b hb o e=>(I7.pin (b,o) (List.mem_append_right _ (List.mem_append_right _ (mem_pinsAt hb e)))).1,fun b hb=>?_,w7⟩
   obtain⟨o,e,d⟩:=T.obj _ _ st5 b hb
   exact (I7.pin (b,o) (List.mem_append_right _ (List.mem_append_right _ (mem_pinsAt hb e)))).2.1
  cases f with
  | next=>obtain⟨σ7,H7,I7,n7⟩:=q7;exact again I7 n7
  | cont=>obtain⟨σ7,H7,I7,n7⟩:=q7;exact again I7 n7
  | brk=>obtain⟨σ7,H7,I7,q7⟩:=q7;exact⟨σ7,H7,I7.unpinned,q7⟩
  | ret v=>obtain⟨x7,σ7,H7,I7,r7,q7⟩:=q7;exact⟨x7,σ7,H7,I7.unpinned,r7,q7⟩
end
end L2
namespace L2
open PySem PySem.Spec PyProof.Rows
noncomputable abbrev R2:=V->V->Hp->VK->Prop
noncomputable def OpR (X:Cx) (f:Value->Value->Sem Value) (r:R2):Prop:=
 ∀(pins:List (Addr×Obj)) (s:Shared) (σ:St) (H:Hp) (x y:V) (v u:Value) (Q:VK),Inv X pins σ H s->RelV x v->RelV y u->r x y H Q ->
  wpAny (model X.prog X.w) X.A (f v u) (EP X pins σ Q) X.xe s
noncomputable def CallR (X:Cx) (f:Value) (r:List V->Hp->VK->Prop):Prop:=
 ∀(pins:List (Addr×Obj)) (s:Shared) (σ:St) (H:Hp) (xs:List V) (us:List Value) (Q:VK),Inv X pins σ H s->Vals xs us->r xs H Q ->
  wpAny (model X.prog X.w) X.A (call f us) (EP X pins σ Q) X.xe s
noncomputable def TruR (X:Cx) (r:V->Hp->(Bool->Hp->Prop)->Prop):Prop:=
 ∀(pins:List (Addr×Obj)) (s:Shared) (σ:St) (H:Hp) (x:V) (v:Value) (Q:Bool->Hp->Prop),Inv X pins σ H s->RelV x v->r x H Q ->
  wpAny (model X.prog X.w) X.A (truthy v) (TP X pins σ Q) X.xe s
noncomputable def tOp (r:R2) (ta tb:TE):TE:=fun σ H Q=>ta σ H fun x H1=>tb σ H1 fun y H2=>r x y H2 Q
noncomputable def rI (C:Int->Int->Prop) (g:Int->Int->V):R2:=fun x y H Q=>∃i j,x=.int i/\y=.int j/\C i j/\Q (g i j) H
noncomputable def rI0 (g:Int->Int->V):R2:=fun x y H Q=>∃i j,x=.int i/\y=.int j/\Q (g i j) H
section
variable {X:Cx}{a b c:Expr}{ta tb tc:TE}{pos:Pos}
theorem binT (ha:PE X a ta) (hb:PE X b tb) {pins:List (Addr×Obj)}{s:Shared}{σ:St}{H:Hp}{R:V->V->Hp->Prop} (I:Inv X pins σ H s)
  (h:ta σ H fun x H1=>tb σ H1 fun y H2=>R x y H2) {Q:Value->Shared->Prop}{f:Value->Value->Sem Value}
  (hf:∀v u s2 x y H2,Inv X pins σ H2 s2->RelV x v->RelV y u->R x y H2->wpAny (model X.prog X.w) X.A (f v u) Q X.xe s2) :
  wpAny (model X.prog X.w) X.A (eval a X.env) (fun v s₁=>wpAny (model X.prog X.w) X.A (eval b X.env) (fun u s₂=>wpAny (model X.prog X.w) X.A (f v u) Q X.xe s₂) X.xe s₁) X.xe s:=by
 refine thn (ha pins s σ H _ I h) fun v s1 hz=>?_
 obtain⟨x,H1,I1,r1,q1⟩:=hz
 refine thn (hb pins s1 σ H1 _ I1 q1) fun u s2 hz=>?_
 obtain⟨y,H2,I2,r2,q2⟩:=hz
 exact hf v u s2 x y H2 I2 r1 r2 q2
theorem pe_op {op:Operator}{r:R2} (ho:OpR X (binaryOp op) r) (ha:PE X a ta) (hb:PE X b tb):PE X (.BinOp a op b pos) (tOp r ta tb):=by
 intro pins s σ H Q I h
 exact wpAny_BinOp (binT ha hb I h fun v u s2 x y H2 I2 rx ry q=>ho pins s2 σ H2 x y v u Q I2 rx ry q)
theorem opI {f:Value->Value->Sem Value}{C:Int->Int->Prop}{g:Int->Int->Int}
  (rule:∀(i j:Int) (t u:Tok) (s:Shared) (Q:Value->Shared->Prop) (E:Value->Shared->Prop),C i j->Q (.int (g i j) s.toks) { s with toks:=s.toks+1 }->wpAny (model X.prog X.w) X.A (f (.int i t) (.int j u)) Q E s) :
  OpR X f (rI C fun i j=>.int (g i j)):=by
 intro pins s σ H x y v u Q I rx ry h
 obtain⟨i,j,rfl,rfl,hc,q⟩:=h
 obtain⟨t,rfl⟩:=rx
 obtain⟨t',rfl⟩:=ry
 exact rule i j t t' s _ _ hc ⟨.int (g i j),H,I.tok _,⟨_,rfl⟩,q⟩
theorem opI0 {f:Value->Value->Sem Value}{g:Int->Int->Int}
  (rule:∀(i j:Int) (t u:Tok) (s:Shared) (Q:Value->Shared->Prop) (E:Value->Shared->Prop),Q (.int (g i j) s.toks) { s with toks:=s.toks+1 }->wpAny (model X.prog X.w) X.A (f (.int i t) (.int j u)) Q E s) :
  OpR X f (rI0 fun i j=>.int (g i j)):=by
 intro pins s σ H x y v u Q I rx ry h
 obtain⟨i,j,rfl,rfl,q⟩:=h
 obtain⟨t,rfl⟩:=rx
 obtain⟨t',rfl⟩:=ry
 exact rule i j t t' s _ _ ⟨.int (g i j),H,I.tok _,⟨_,rfl⟩,q⟩
theorem opB0 {f:Value->Value->Sem Value}{g:Int->Int->Bool}
  (rule:∀(i j:Int) (t u:Tok) (s:Shared) (Q:Value->Shared->Prop) (E:Value->Shared->Prop),Q (.bool (g i j)) s->wpAny (model X.prog X.w) X.A (f (.int i t) (.int j u)) Q E s) :
  OpR X f (rI0 fun i j=>.bl (g i j)):=by
 intro pins s σ H x y v u Q I rx ry h
 obtain⟨i,j,rfl,rfl,q⟩:=h
 obtain⟨t,rfl⟩:=rx
 obtain⟨t',rfl⟩:=ry
 exact rule i j t t' s _ _ ⟨.bl (g i j),H,I,rfl,q⟩
noncomputable def CPow (i j:Int):Prop:=0≤j/\j≤1000000/\i.natAbs < 2 ^ 64
noncomputable def CMul (i j:Int):Prop:=(-(2 ^ 64) < i/\i < 2 ^ 64)\/(-(2 ^ 64) < j/\j < 2 ^ 64)
theorem CMul.ok {i j:Int} (h:CMul i j):IntMulOk i j:=by
 rcases h with ⟨h1,h2⟩ | ⟨h1,h2⟩
 ·exact .of_left (intBits_le_64 h1 h2)
 ·exact .of_right (intBits_le_64 h1 h2)
theorem two_pow_nn (k:Nat):(0:Int)≤2 ^ k:=by
 rw [two_pow_cast]
 exact Int.natCast_nonneg _
theorem op_add:OpR X (binaryOp .Add) (rI0 fun i j=>.int (i+j)):=opI0 fun _ _ _ _ _ _ _ q=>add_int q
theorem op_sub:OpR X (binaryOp .Sub) (rI0 fun i j=>.int (i-j)):=opI0 fun _ _ _ _ _ _ _ q=>sub_int q
theorem op_mod:OpR X (binaryOp .Mod) (rI (fun _ j=>0 < j) fun i j=>.int (i % j)):=opI fun i j _ _ _ _ _ hc q=>by
 have h1:(0:Int) < j:=hc
 exact mod_int' (by omega) (by rw [Int.fmod_eq_emod_of_nonneg i (by omega)];exact q)
theorem op_pow:OpR X (binaryOp .Pow) (rI CPow fun i j=>.int (i ^ j.toNat)):=opI fun _ _ _ _ _ _ _ hc q=>pow_int_small hc.1 hc.2.1 hc.2.2 q
theorem op_shr:OpR X (binaryOp .RShift) (rI (fun _ j=>0≤j) fun i j=>.int (i / 2 ^ j.toNat)):=opI fun i j _ _ _ _ _ hc q=>
 rshift_int hc (by rw [Int.fdiv_eq_ediv_of_nonneg i (two_pow_nn _)];exact q)
end
noncomputable def scal:V->V->Bool
 | .non,.non=>true | .non,.int _=>true | .int _,.non=>true | .non,.bl _=>true | .bl _,.non=>true | .non,.str _=>true | .str _,.non=>true
 | .int _,.int _=>true | .bl _,.bl _=>true | .str _,.str _=>true | .byt _,.byt _=>true
 | .int _,.str _=>true | .str _,.int _=>true | .bl _,.str _=>true | .str _,.bl _=>true
 | _,_=>false
noncomputable def rEq:R2:=fun x y H Q=>scal x y=true/\Q (.bl (decide (x=y))) H
noncomputable def rNe:R2:=fun x y H Q=>scal x y=true/\Q (.bl (!decide (x=y))) H
theorem dec_int {i j:Int}:decide (V.int i=V.int j)=(i == j):=by
 rw [Bool.eq_iff_iff]
 simp
theorem dec_bl {i j:Bool}:decide (V.bl i=V.bl j)=(i == j):=by
 rw [Bool.eq_iff_iff]
 simp
theorem dec_str {i j:Str}:decide (V.str i=V.str j)=(i == j):=by
 rw [Bool.eq_iff_iff]
 simp
theorem dec_byt {i j:Array UInt8}:decide (V.byt i=V.byt j)=(i.toList == j.toList):=by
 rw [Bool.eq_iff_iff]
 cases i
 cases j
 simp
section
variable {X:Cx}{a b c:Expr}{ta tb tc:TE}{pos:Pos}
theorem fin_bl {pins:List (Addr×Obj)}{σ:St}{H:Hp}{s:Shared}{Q:VK}{k k':Bool} (I:Inv X pins σ H s) (q:Q (.bl k) H) (e:k=k'):EP X pins σ Q (.bool k') s:=by
 subst e
 exact⟨.bl k,H,I,rfl,q⟩
theorem op_eq:OpR X (compareOp .Eq) rEq:=by
 intro pins s σ H x y v u Q I rx ry h
 obtain⟨hs,q⟩:=h
 cases x with
 | non=>
  cases rx
  cases y with
  | non=>cases ry;exact PySem.EqNone.eq_none_none (fin_bl I q (by simp))
  | bl j=>cases ry;exact PySem.EqNone.eq_none_bool (fin_bl I q (by simp))
  | int j=>obtain⟨t',rfl⟩:=ry;exact PySem.EqNone.eq_none_int (fin_bl I q (by simp))
  | str j=>obtain⟨t',rfl⟩:=ry;exact PySem.EqNone.eq_none_str (fin_bl I q (by simp))
  | _=>exact absurd (show false=true from hs) Bool.false_ne_true
 | bl i=>
  cases rx
  cases y with
  | non=>cases ry;exact PySem.EqNone.eq_bool_none (fin_bl I q (by simp))
  | bl j=>cases ry;exact eq_bool (fin_bl I q dec_bl)
  | str j=>obtain⟨t',rfl⟩:=ry;exact PySem.EqMixed.eq_bool_str (fin_bl I q (by simp))
  | _=>exact absurd (show false=true from hs) Bool.false_ne_true
 | int i=>
  obtain⟨t,rfl⟩:=rx
  cases y with
  | non=>cases ry;exact PySem.EqNone.eq_int_none (fin_bl I q (by simp))
  | int j=>obtain⟨t',rfl⟩:=ry;exact eq_int (fin_bl I q dec_int)
  | str j=>obtain⟨t',rfl⟩:=ry;exact PySem.EqMixed.eq_int_str (fin_bl I q (by simp))
  | _=>exact absurd (show false=true from hs) Bool.false_ne_true
 | str i=>
  obtain⟨t,rfl⟩:=rx
  cases y with
  | non=>cases ry;exact PySem.EqNone.eq_str_none (fin_bl I q (by simp))
  | bl j=>cases ry;exact PySem.EqMixed.eq_str_bool (fin_bl I q (by simp))
  | int j=>obtain⟨t',rfl⟩:=ry;exact PySem.EqMixed.eq_str_int (fin_bl I q (by simp))
  | str j=>obtain⟨t',rfl⟩:=ry;exact eq_str (fin_bl I q dec_str)
  | _=>exact absurd (show false=true from hs) Bool.false_ne_true
 | byt i=>
  obtain⟨t,rfl⟩:=rx
  cases y with
  | byt j=>obtain⟨t',rfl⟩:=ry;exact PySem.W.eq_bytes (fin_bl I q dec_byt)
  | _=>exact absurd (show false=true from hs) Bool.false_ne_true
 | _=>cases y <;> exact absurd (show false=true from hs) Bool.false_ne_true
theorem op_ne:OpR X (compareOp .NotEq) rNe:=by
 intro pins s σ H x y v u Q I rx ry h
 obtain⟨hs,q⟩:=h
 cases x with
 | non=>
  cases rx
  cases y with
  | non=>cases ry;exact PySem.EqNone.ne_none_none (fin_bl I q (by simp))
  | bl j=>cases ry;exact PySem.EqNone.ne_none_bool (fin_bl I q (by simp))
  | int j=>obtain⟨t',rfl⟩:=ry;exact PySem.EqNone.ne_none_int (fin_bl I q (by simp))
  | str j=>obtain⟨t',rfl⟩:=ry;exact PySem.EqNone.ne_none_str (fin_bl I q (by simp))
  | _=>exact absurd (show false=true from hs) Bool.false_ne_true
 | bl i=>
  cases rx
  cases y with
  | non=>cases ry;exact PySem.EqNone.ne_bool_none (fin_bl I q (by simp))
  | bl j=>cases ry;exact ne_bool (fin_bl I q (congrArg not dec_bl))
  | str j=>obtain⟨t',rfl⟩:=ry;exact PySem.EqMixed.ne_bool_str (fin_bl I q (by simp))
  | _=>exact absurd (show false=true from hs) Bool.false_ne_true
 | int i=>
  obtain⟨t,rfl⟩:=rx
  cases y with
  | non=>cases ry;exact PySem.EqNone.ne_int_none (fin_bl I q (by simp))
  | int j=>obtain⟨t',rfl⟩:=ry;exact ne_int (fin_bl I q (congrArg not dec_int))
  | str j=>obtain⟨t',rfl⟩:=ry;exact PySem.EqMixed.ne_int_str (fin_bl I q (by simp))
  | _=>exact absurd (show false=true from hs) Bool.false_ne_true
 | str i=>
  obtain⟨t,rfl⟩:=rx
  cases y with
  | non=>cases ry;exact PySem.EqNone.ne_str_none (fin_bl I q (by simp))
  | bl j=>cases ry;exact PySem.EqMixed.ne_str_bool (fin_bl I q (by simp))
  | int j=>obtain⟨t',rfl⟩:=ry;exact PySem.EqMixed.ne_str_int (fin_bl I q (by simp))
  | str j=>obtain⟨t',rfl⟩:=ry;exact ne_str (fin_bl I q (congrArg not dec_str))
  | _=>exact absurd (show false=true from hs) Bool.false_ne_true
 | byt i=>
  obtain⟨t,rfl⟩:=rx
  cases y with
  | byt j=>obtain⟨t',rfl⟩:=ry;exact PySem.W.ne_bytes (fin_bl I q (congrArg not dec_byt))
  | _=>exact absurd (show false=true from hs) Bool.false_ne_true
 | _=>cases y <;> exact absurd (show false=true from hs) Bool.false_ne_true
theorem op_lt:OpR X (compareOp .Lt) (rI0 fun i j=>.bl (decide (i < j))):=opB0 fun _ _ _ _ _ _ _ q=>lt_int q
theorem op_le:OpR X (compareOp .LtE) (rI0 fun i j=>.bl (decide (i≤j))):=opB0 fun _ _ _ _ _ _ _ q=>le_int q
theorem op_gt:OpR X (compareOp .Gt) (rI0 fun i j=>.bl (decide (j < i))):=opB0 fun _ _ _ _ _ _ _ q=>gt_int q
theorem op_ge:OpR X (compareOp .GtE) (rI0 fun i j=>.bl (decide (j≤i))):=opB0 fun _ _ _ _ _ _ _ q=>ge_int q
theorem op_in_str:OpR X (compareOp .In) (fun x y H Q=>∃i j,x=.str i/\y=.str j/\Q (.bl (!(Builtin.Str.occurrences j i 0 j.length 1).isEmpty)) H):=by
 intro pins s σ H x y v u Q I rx ry h
 obtain⟨i,j,rfl,rfl,q⟩:=h
 obtain⟨t,rfl⟩:=rx
 obtain⟨t',rfl⟩:=ry
 exact in_str (fin_bl I q rfl)
theorem op_isN:OpR X (compareOp .Is) (fun x y H Q=>y=.non/\Q (.bl (decide (x=.non))) H):=by
 intro pins s σ H x y v u Q I rx ry h
 obtain⟨rfl,q⟩:=h
 cases ry
 refine is_none_gen (fin_bl I q ?_)
 cases x <;> first
  | (cases rx;rfl)
  | (obtain⟨t,rfl⟩:=rx;rfl)
theorem op_notin_str:OpR X (compareOp .NotIn) (fun x y H Q=>∃i j,x=.str i/\y=.str j/\Q (.bl (!(!(Builtin.Str.occurrences j i 0 j.length 1).isEmpty))) H):=by
 intro pins s σ H x y v u Q I rx ry h
 obtain⟨i,j,rfl,rfl,q⟩:=h
 obtain⟨t,rfl⟩:=rx
 obtain⟨t',rfl⟩:=ry
 exact notIn_str (fin_bl I q rfl)
theorem OpR.or {f:Value->Value->Sem Value}{r r':R2} (h:OpR X f r) (h':OpR X f r'):OpR X f (fun x y H Q=>r x y H Q\/r' x y H Q):=by
 intro pins s σ H x y v u Q I rx ry q
 rcases q with q | q
 ·exact h pins s σ H x y v u Q I rx ry q
 ·exact h' pins s σ H x y v u Q I rx ry q
theorem nomark (b:Expr) {op:CmpOp} (h:op≠.In:=by decide) (h2:op≠.NotIn:=by decide):behindInMarks op b=false:=by
 have e1:(op == CmpOp.In)=false:=by cases op <;> first | rfl | exact absurd rfl h
 have e2:(op == CmpOp.NotIn)=false:=by cases op <;> first | rfl | exact absurd rfl h2
 cases b <;> simp [behindInMarks,e1,e2]
theorem pe_cmpR {op:CmpOp}{r:R2} (ho:OpR X (compareOp op) r) (ha:PE X a ta) (hb:PE X b tb) (hm:behindInMarks op b=false):PE X (.Compare a [op] [b] pos) (tOp r ta tb):=by
 intro pins s σ H Q I h
 exact wpAny_Compare1 (binT ha hb I h fun v u s2 x y H2 I2 rx ry q=>ho pins s2 σ H2 x y v u Q I2 rx ry q) hm
noncomputable def tTest (t:TE):TT:=fun σ H Q=>t σ H fun x H'=>∃k,x=.bl k/\Q k H'
theorem pt_cmpR {op:CmpOp}{r:R2} (ho:OpR X (compareOp op) r) (ha:PE X a ta) (hb:PE X b tb) (hm:behindInMarks op b=false):PT X (.Compare a [op] [b] pos) (tTest (tOp r ta tb)):=by
 intro pins s σ H Q I h
 refine wpAny_isTrue_Compare1 (thn (ha pins s σ H _ I h) fun v s1 ⟨x,H1,I1,r1,q1⟩=>thn (hb pins s1 σ H1 _ I1 q1) fun u s2 ⟨y,H2,I2,r2,q2⟩=>
  thn (ho pins s2 σ H2 x y v u _ I2 r1 r2 q2) fun c s3 ⟨z,H3,I3,r3,k,e,q3⟩=>?_) hm
 subst e
 cases r3
 exact wpAny_truthy_bool ⟨H3,I3,q3⟩
noncomputable def TruV (K:PySem.W.Frag) (x:V) (H:Hp) (k:Bool):Prop:=
 match x with
 | .non=>k=false
 | .bl b=>k=b
 | .int i=>k=(i != 0)
 | .str y=>y.length≤sizeLine/\k=((y.length:Int) != 0)
 | .byt y=>y.size≤sizeLine/\k=((y.size:Int) != 0)
 | .ref p=>(∃xs,SqL K H p xs/\k=!xs.isEmpty)\/(∃xs,SqT K H p xs/\k=!xs.isEmpty)\/∃kvs,H p=some (.dK kvs)/\k=!kvs.isEmpty
 | _=>False
theorem isEmpty_kv {κ:Type}{kvs:List (κ×V)}{vs:List (κ×Value)} (r:KV kvs vs):(!vs.isEmpty)=!kvs.isEmpty:=by
 cases r <;> rfl
theorem isEmpty_of {xs:List V}{its:List Value} (r:Vals xs its):(!its.toArray.isEmpty)=!xs.isEmpty:=by
 cases r <;> simp
theorem line63:(sizeLine:Nat) < 2 ^ 63:=by rw [sizeLine_eq];decide
theorem tru_ok:TruR X (fun x H Q=>∃k,TruV X.K x H k/\Q k H):=by
 intro pins s σ H x v Q I rx h
 obtain⟨k,e,q⟩:=h
 have hl:=line63
 have hs:sizeLine=16777216:=sizeLine_eq
 cases x with
 | non=>
  cases rx
  have e':k=false:=e
  subst e'
  exact truthy_none ⟨H,I,q⟩
 | bl b=>
  cases rx
  have e':k=b:=e
  subst e'
  exact wpAny_truthy_bool ⟨H,I,q⟩
 | int i=>
  obtain⟨t,rfl⟩:=rx
  have e':k=(i != 0):=e
  subst e'
  exact PySem.P.truthy_int ⟨H,I,q⟩
 | str y=>
  obtain⟨t,rfl⟩:=rx
  obtain⟨hy,e'⟩:y.length≤sizeLine/\k=((y.length:Int) != 0):=e
  subst e'
  exact PySem.P.truthy_str (by omega) ⟨H,I.tok _,q⟩
 | byt y=>
  obtain⟨t,rfl⟩:=rx
  obtain⟨hy,e'⟩:y.size≤sizeLine/\k=((y.size:Int) != 0):=e
  subst e'
  exact PySem.W.truthy_bytes (by omega) ⟨H,I.tok _,q⟩
 | ref p=>
  cases rx
  have e':(∃xs,SqL X.K H p xs/\k=!xs.isEmpty)\/(∃xs,SqT X.K H p xs/\k=!xs.isEmpty)\/∃kvs,H p=some (.dK kvs)/\k=!kvs.isEmpty:=e
  rcases e' with ⟨xs,hx,e'⟩ | ⟨xs,hx,e'⟩ | ⟨kvs,hx,e'⟩
  ·subst e'
   obtain⟨its,r,pl,hz⟩:=I.list hx
   have hlen:=r.length
   exact wpAny_truthy_list pl.isList (by simp only [List.size_toArray];omega) ⟨H,I.tok _,by rw [isEmpty_of r];exact q⟩
  ·subst e'
   obtain⟨its,r,pl,hz⟩:=I.tuple hx
   have hlen:=r.length
   exact truthy_tuple pl (by simp only [List.size_toArray];omega) ⟨H,I.tok _,by rw [isEmpty_of r];exact q⟩
  ·subst e'
   obtain⟨hz,hS,vs,r,m⟩:kvs.length≤sizeLine/\(p == sysModules)=false/\∃vs,KV kvs vs/\s.heap.DictOf (mixKind X.prog X.w) p vs:=I.hok p _ hx
   have hlen:kvs.length=vs.length:=Paired.length r
   exact wpAny_truthy_dict hS m (by omega) ⟨H,I.tok _,by rw [isEmpty_kv r];exact q⟩
 | _=>exact (show False from e).elim
theorem pt_truth (ha:PE X a ta) (he:∀whole,isTrue a X.env whole=(do let v <- whole;standAt a.pos;holding [v] (truthy v))) :
  PT X a (fun σ H Q=>ta σ H fun x H'=>∃k,TruV X.K x H' k/\Q k H'):=by
 intro pins s σ H Q I h
 exact isTrue_plain (thn (ha pins s σ H _ I h) fun v s1 hz=>by obtain⟨x,H1,I1,r1,q1⟩:=hz;exact tru_ok pins s1 σ H1 x v Q I1 r1 q1) (he _)
theorem op_add_str:OpR X (binaryOp .Add) (fun x y H Q=>∃i j,x=.str i/\y=.str j/\i.length+j.length≤sizeLine/\Q (.str (i++j)) H):=by
 intro pins s σ H x y v u Q I rx ry h
 obtain⟨i,j,rfl,rfl,hz,q⟩:=h
 obtain⟨t,rfl⟩:=rx
 obtain⟨t',rfl⟩:=ry
 exact add_str (fun t' tk=>⟨.str (i++j),H,I.tok _,⟨_,rfl⟩,q⟩) hz
theorem vals1 {x:V}{us:List Value} (r:Vals [x] us):∃u,us=[u]/\RelV x u:=by
 cases r with
 | cons r1 r2=>cases r2;exact⟨_,rfl,r1⟩
theorem vals2 {x y:V}{us:List Value} (r:Vals [x,y] us):∃u w',us=[u,w']/\RelV x u/\RelV y w':=by
 cases r with
 | cons r1 r2=>
  cases r2 with
  | cons r3 r4=>cases r4;exact⟨_,_,rfl,r1,r3⟩
end
end L2
namespace L2
open PySem PySem.Spec PyProof.Rows
structure ObjM (h:Heap) (x dx C:Addr) (mA:Str->Option Value):Prop where
 obj:h.get? x=some (PySem.W.instObj C dx)
 ns:h.Ns1 dx mA
 ne:dx≠x
theorem lookIn_ns {h:Heap}{dx:Addr}{mA:Str->Option Value} (n:h.Ns1 dx mA):∃od,h.get? dx=some od/\∀name,PySem.W.lookIn name od=some (mA name):=by
 obtain⟨o,es,ep,ho,hd,hk,_,hm⟩:=n
 refine⟨o,ho,fun name=>?_⟩
 have e:=hm name
 unfold nsFind findBy at e
 rw [<- Array.find?_toList] at e
 unfold PySem.W.lookIn
 rw [hd]
 dsimp only
 split
 ·rename_i y q
  rw [q] at e
  exact congrArg some e
 ·rename_i q
  rw [q] at e
  have a:es.toList.any (·.refKey)=false:=by
   rw [List.any_eq_false]
   intro y hy
   obtain⟨z,t,hkey⟩:=hk y (Array.mem_toList_iff.mp hy)
   simp [DictEntry.refKey,hkey]
  have a':¬es.toList.any (·.refKey)=true:=by rw [a];exact Bool.false_ne_true
  rw [if_neg a']
  exact congrArg some e
theorem ObjM.look {h:Heap}{x dx C:Addr}{mA:Str->Option Value} (I:ObjM h x dx C mA):∃od,PySem.W.InstAt h x (PySem.W.instObj C dx) C (some od)/\∀name,PySem.W.lookIn name od=some (mA name):=
 let ⟨od,ho,hl⟩:=lookIn_ns I.ns
 ⟨od,⟨I.obj,rfl,rfl,ho⟩,hl⟩
section
variable {prog:Program}{w:World}{A:Around}{E:Value->Shared->Prop}{s:Shared}{K:PySem.W.Frag}{x dx C f:Addr}{mA:Str->Option Value}{name:Str}{v:Value}
end
theorem RelO.some_of {v:V}{o:Option Value} (r:RelO (some v) o):∃u,o=some u/\RelV v u:=by
 cases o with
 | none=>exact (show False from r).elim
 | some u=>exact⟨u,rfl,r⟩
theorem RelO.none_of {o:Option Value} (r:RelO none o):o=none:=by
 cases o with
 | none=>rfl
 | some u=>exact (show False from r).elim
section
variable {P:Program}{w:World}{H H':Hp}{h h':Heap}{a C dx:Addr}{fs fs':List (Str×V)}
theorem ins_get (hok:HOk P w H h) (e:H a=some (.ins C dx fs)):∃mA,ObjM h a dx C mA/\(∀f,RelO (fs.lookup f) (mA f))/\PySem.Within mA (fs.map (·.1))/\fs.length≤1000/\H dx=some (.own a):=by
 obtain⟨d,z,ne,ob,mA,n,r,q⟩:=(show ObjOk P w H h a (.ins C dx fs) from hok a _ e)
 exact⟨mA,⟨ob,n,ne⟩,r,q,z,d⟩
end
structure Cls (K:PySem.W.Frag) (C:Addr):Prop where
 pg:PySem.W.plainGet K C Str.empty=true
 hd:PySem.W.hasDictIn K C=true
 po:PySem.W.plainOver K C=true
 sa:PySem.W.findIn K (.ref C) "__setattr__"=some (some (.builtin "object.__setattr__"))
theorem Cls.get {K:PySem.W.Frag}{C:Addr} (c:Cls K C) (f:Str):PySem.W.plainGet K C f=true:=c.pg
noncomputable def NoAttr (K:PySem.W.Frag) (C:Addr) (f:Str):Prop:=PySem.W.findIn K (.ref C) f=some none
structure Con (K:PySem.W.Frag) (C:Addr) (f:Str) (v:V) (u:Value):Prop where
 at_:PySem.W.findIn K (.ref C) f=some (some u)
 rel:RelV v u
 get:PySem.W.specialIn K u "__get__"=some none
 cp:PySem.W.copiedNames.contains f=false
structure Meth (K:PySem.W.Frag) (C:Addr) (m:Str) (f:Addr):Prop where
 at_:PySem.W.findIn K (.ref C) m=some (some (.ref f))
 fn:PySem.W.isFn K (.ref f)=true
 kp:PySem.W.keepIn K (.ref f)=true
section
variable {X:Cx}{pins:List (Addr×Obj)}{σ:St}{H:Hp}{s:Shared}{a C dx:Addr}{fs:List (Str×V)}{f:Str}{v:V}{A:Around}{E:Value->Shared->Prop}
theorem Inv.made (I:Inv X pins σ H s):Inv X pins σ (upd (upd H s.heap.objs.size (.own (s.heap.objs.size+1))) (s.heap.objs.size+1) (.ins C s.heap.objs.size []))
  { s with heap:=(s.heap.push PySem.W.emptyDict).push (PySem.W.instObj C s.heap.objs.size) }:=by
 have e1:(s.heap.push PySem.W.emptyDict).get? s.heap.objs.size=some PySem.W.emptyDict:=Heap.get?_push_size s.heap rfl
 have e2:((s.heap.push PySem.W.emptyDict).push (PySem.W.instObj C s.heap.objs.size)).get? (s.heap.objs.size+1)=some (PySem.W.instObj C s.heap.objs.size):=by
  have:=Heap.get?_push_size (s.heap.push PySem.W.emptyDict) (o:=PySem.W.instObj C s.heap.objs.size) rfl
  rwa [Heap.size_push] at this
 have e3:(s.heap.push PySem.W.emptyDict).Ns s.heap.objs.size (fun _=>none):=⟨PySem.W.emptyDict,#[],_,e1,rfl,(fun e he=>absurd he (by simp)),fun _=>rfl⟩
 have I1:=I.laid (a:=s.heap.objs.size) (o:=.own (s.heap.objs.size+1)) (h':=s.heap.push PySem.W.emptyDict) (t':=s.toks) (fun b u q=>Heap.get?_push_of_some _ q) (Nat.le_refl _) ⟨_,e1⟩
 refine I1.laid (a:=s.heap.objs.size+1) (o:=.ins C s.heap.objs.size []) (t':=s.toks) (fun b u q=>Heap.get?_push_of_some _ q) (Nat.le_of_eq (Heap.size_push _ _)) ?_
 have ne:s.heap.objs.size≠s.heap.objs.size+1:=Nat.ne_of_lt (Nat.lt_succ_self _)
 refine⟨by rw [upd_ne ne,upd_same],Nat.zero_le _,ne,e2,fun _=>none,(Heap.Ns1.of_empty e3).at fun o q=>Heap.get?_push_of_some _ q,fun _=>True.intro,fun y hy=>absurd rfl hy⟩
end
section
variable {X:Cx}{o e value:Expr}{f:Str}{pos pos' tpos:Pos}{ta tv:TE}
end
section
variable {X:Cx}{pins:List (Addr×Obj)}{σ:St}{H:Hp}{s:Shared}{A:Around}{E:Value->Shared->Prop}{Q:Value->Shared->Prop}{c:Value}{b:Bool}
inductive TyOf (K:PySem.W.Frag) (H:Hp):V->Value->Prop where
 | non:TyOf K H .non (.type "NoneType")
 | bl (x:Bool):TyOf K H (.bl x) (.type "bool")
 | int (i:Int):TyOf K H (.int i) (.type "int")
 | str (x:Str):TyOf K H (.str x) (.type "str")
 | flt (x:UInt64):TyOf K H (.flt x) (.type "float")
 | lst {a:Addr}{xs:List V} (e:H a=some (.lst xs)):TyOf K H (.ref a) (.type "list")
 | frz {a:Addr}{o:Obj}{xs:List V} (e:H a=some (.frz o (.lst xs))):TyOf K H (.ref a) (.type "list")
 | tup {a:Addr}{xs:List V} (e:H a=some (.tup xs)):TyOf K H (.ref a) (.type "tuple")
 | dK {a:Addr}{kvs:List (Key×V)} (e:H a=some (.dK kvs)):TyOf K H (.ref a) (.type "dict")
 | dT {a:Addr}{kvs:List (List Key×V)} (e:H a=some (.dT kvs)):TyOf K H (.ref a) (.type "dict")
 | ins {a C dx:Addr}{fs:List (Str×V)} (e:H a=some (.ins C dx fs)) (cl:Cls K C) (ha:PySem.W.findIn K (.ref C) "__class__"=some (some (.builtin "object.__class__")))
   (hn:PySem.W.specialIn K (.builtin "object.__class__") "__get__"=some (some (.builtin "getset_descriptor.__get__"))) (htk:PySem.W.takesIn K (.builtin "object.__class__")=some true)
   (hm:PySem.W.mroIn K C (.type "object")=some true):TyOf K H (.ref a) (.ref C)
theorem isinst_ok {x:V}{u t:Value} (I:Inv X pins σ H s) (rx:RelV x u) (ty:TyOf X.K H x t) (e:PySem.W.kitOne X.K t c=some b) (h:∀tk,Q (.bool b) { s with toks:=tk }) :
  wpAny (model X.prog X.w) A (call (.builtin "isinstance") [u,c]) Q E s:=by
 cases ty with
 | non=>cases (show u=Value.none from rx);exact PySem.W.kia_one PySem.W.kitx_none I.kIn True.intro e (fun z=>nomatch z) h
 | bl y=>cases (show u=Value.bool y from rx);exact PySem.W.kia_one PySem.W.kitx_bool I.kIn True.intro e (fun z=>nomatch z) h
 | int i=>obtain⟨t,q⟩:=(show ∃t,u=Value.int i t from rx);cases q;exact PySem.W.kia_one PySem.W.kitx_int I.kIn True.intro e (fun z=>nomatch z) h
 | str y=>obtain⟨t,q⟩:=(show ∃t,u=Value.str y t from rx);cases q;exact PySem.W.kia_one PySem.W.kitx_str I.kIn True.intro e (fun z=>nomatch z) h
 | flt y=>obtain⟨t,q⟩:=(show ∃t,u=Value.float y t from rx);cases q;exact PySem.W.kia_one PySem.W.kitx_float I.kIn True.intro e (fun z=>nomatch z) h
 | @lst a xs ea=>
  cases (show u=Value.ref a from rx)
  obtain⟨_,_,n,_,h1⟩:=(show ObjOk X.prog X.w H s.heap a (.lst xs) from I.hok a _ ea)
  exact PySem.W.kia_one PySem.W.kitx_list I.kIn ⟨_,h1,rfl⟩ e (fun z=>nomatch z) h
 | @frz a ob xs ea=>
  cases (show u=Value.ref a from rx)
  obtain⟨_,_,_,n,_,h1⟩:=(show ObjOk X.prog X.w H s.heap a (.frz ob (.lst xs)) from I.hok a _ ea)
  exact PySem.W.kia_one PySem.W.kitx_list I.kIn ⟨_,h1,rfl⟩ e (fun z=>nomatch z) h
 | @tup a xs ea=>
  cases (show u=Value.ref a from rx)
  obtain⟨_,_,_,p⟩:=(show ObjOk X.prog X.w H s.heap a (.tup xs) from I.hok a _ ea)
  obtain⟨o,h1,h2,_⟩:=p
  exact PySem.W.kia_one PySem.W.kitx_tuple I.kIn ⟨o,h1,h2⟩ e (fun z=>nomatch z) h
 | @dK a kvs ea=>
  cases (show u=Value.ref a from rx)
  obtain⟨_,_,vs,_,p⟩:=(show ObjOk X.prog X.w H s.heap a (.dK kvs) from I.hok a _ ea)
  obtain⟨o,es,ep,h1,h2,_⟩:=p
  exact PySem.W.kia_one PySem.W.kitx_dict I.kIn ⟨o,h1,h2.1⟩ e (fun z=>nomatch z) h
 | @dT a kvs ea=>
  cases (show u=Value.ref a from rx)
  obtain⟨_,_,xs,_,o,es,ep,h1,h2,_⟩:=(show ObjOk X.prog X.w H s.heap a (.dT kvs) from I.hok a _ ea)
  exact PySem.W.kia_one PySem.W.kitx_dict I.kIn ⟨o,h1,h2.1⟩ e (fun z=>nomatch z) h
 | @ins a C dx fs ea cl ha hn htk hm=>
  cases (show u=Value.ref a from rx)
  obtain⟨mA,O,_⟩:=ins_get I.hok ea
  obtain⟨od,J,_⟩:=O.look
  exact PySem.W.kia_one (PySem.W.kitx_own (cl.get _) cl.hd ha hn htk hm) I.kIn J e (fun z=>nomatch z) h
end
end L2
namespace L2
open PySem PySem.Spec PyProof.Rows
structure Room (k:Nat) (A:Around):Prop where
 hd:A.handled=none
 dp:A.depth+3 * k+5 < recursionLimit
 un:A.units+16 * k+200 < cLine
theorem Room.mono {j k:Nat}{A:Around} (r:Room k A) (h:j≤k):Room j A:=⟨r.hd,by have:=r.dp;omega,by have:=r.un;omega⟩
theorem Room.deeper {k:Nat}{A:Around} (r:Room (k+1) A) (env:Env):Room k (A.deeper env):=
 ⟨r.hd,by have:=r.dp;show A.depth+1+3 * k+5 < _;omega,by have:=r.un;show A.units+3+16 * k+200 < _;omega⟩
theorem Room.in1 {k:Nat}{A:Around} (r:Room (k+1) A):Room k A.in1:=
 ⟨r.hd,by have:=r.dp;show A.depth+3 * k+5 < _;omega,by have:=r.un;show A.units+1+16 * k+200 < _;omega⟩
theorem make_depth {A:Around}{C:Addr}{us:List Value}{kw:List (Str×Value)}:(A.under (.builtin "type.__call__" ⟨.ref C::us,kw⟩)).depth=A.depth+1:=by
 first | rfl | simp [Around.under,Code.weight,Code.isCreation,Code.isGuard,Code.isCaller,Code.frames,Code.isFrame,guardIds]
theorem make_units {A:Around}{C:Addr}{us:List Value}{kw:List (Str×Value)}:(A.under (.builtin "type.__call__" ⟨.ref C::us,kw⟩)).units=A.units+1:=by
 first | rfl | simp [Around.under,Code.cUnits,Code.frames,Code.isFrame]
theorem Room.make {k:Nat}{A:Around} (r:Room (k+1) A) (C:Addr) (us:List Value) (kw:List (Str×Value)):Room k (A.under (.builtin "type.__call__" ⟨.ref C::us,kw⟩)):=
 ⟨r.hd,by have:=r.dp;rw [make_depth];omega,by have:=r.un;rw [make_units];omega⟩
theorem Room.depth {k:Nat}{A:Around} (r:Room k A):A.depth < recursionLimit:=by have:=r.dp;omega
theorem Room.units {k:Nat}{A:Around} (r:Room k A):A.units+64 < cLine:=by have:=r.un;omega
noncomputable def tNil:TA:=fun _ H Q=>Q [] H
noncomputable def tCons (ta:TE) (tr:TA):TA:=fun σ H Q=>ta σ H fun x H1=>tr σ H1 fun xs H2=>Q (x::xs) H2
section
variable {X:Cx}{e:Expr}{es:List Expr}{te:TE}{t:TA}{pos:Pos}
theorem pa_nil:PA X [] tNil:=fun _ _ _ _ H Q I h=>Calls.spliced_nil ⟨[],H,I,.nil,h⟩
theorem pa_cons (ha:PE X e te) (hr:PA X es t) (hs:starEach (e::es) X.env=(false,eval e X.env)::starEach es X.env:=by rfl):PA X (e::es) (tCons te t):=by
 intro pos pins s σ H Q I h
 rw [hs]
 show wpAny _ _ (spliced ((false,eval e X.env)::backTo pos (starEach es X.env))) _ _ s
 refine Calls.spliced_cons (thn (ha pins s σ H _ I h) fun u s1 hz=>?_)
 obtain⟨x,H1,I1,r1,q1⟩:=hz
 exact thn (hr pos pins s1 σ H1 _ I1 q1) fun us s2 hz=>by obtain⟨xs,H2,I2,r2,q2⟩:=hz;exact⟨x::xs,H2,I2,.cons r1 r2,q2⟩
noncomputable def tTup (t:TA):TE:=fun σ H Q=>t σ H fun xs H1=>xs.length≤sizeLine/\∀p,H1 p=none->Q (.ref p) (upd H1 p (.tup xs))
noncomputable def tLst (t:TA):TE:=fun σ H Q=>t σ H fun xs H1=>xs.length≤sizeLine/\∀p,H1 p=none->Q (.ref p) (upd H1 p (.lst xs))
theorem pe_tup {x1} (h:PA X es t):PE X (.Tuple es x1 pos) (tTup t):=by
 intro pins s σ H Q I hq
 refine wpAny_Tuple_spliced (thn (h pos pins s σ H _ I hq) fun us s1 hz=>?_)
 obtain⟨xs,H1,I1,r,z,q⟩:=hz
 refine⟨by rw [<- r.length];exact z,?_⟩
 have hf:H1 s1.heap.objs.size=none:=I1.hok.fresh (Nat.le_refl _)
 refine⟨.ref s1.heap.objs.size,upd H1 s1.heap.objs.size (.tup xs),I1.laid (t':=s1.toks) (fun b u e=>Heap.get?_push_of_some _ e) (Nat.le_refl _) ?_,rfl,q _ hf⟩
 exact⟨z,us,r,⟨_,Heap.get?_push_size _ rfl,rfl,_,rfl⟩⟩
theorem pe_lst (h:PA X es t):PE X (.List es pos) (tLst t):=by
 intro pins s σ H Q I hq
 refine wpAny_List_spliced (thn (h pos pins s σ H _ I hq) fun us s1 hz=>?_)
 obtain⟨xs,H1,I1,r,z,q⟩:=hz
 refine⟨by rw [<- r.length];exact z,?_⟩
 have hf:H1 s1.heap.objs.size=none:=I1.hok.fresh (Nat.le_refl _)
 refine⟨.ref s1.heap.objs.size,upd H1 s1.heap.objs.size (.lst xs),I1.laid (t':=s1.toks) (fun b u e=>Heap.get?_push_of_some _ e) (Nat.le_refl _) ?_,rfl,q _ hf⟩
 exact⟨z,us,0,r,Heap.get?_push_size _ rfl⟩
end
noncomputable abbrev Sp:=List V->Hp->VK->XK->Prop
noncomputable abbrev CXT:=List Env->Hp->Shared->XK->Value->Shared->Prop
structure Env0 (P:Program) (w:World) (K:PySem.W.Frag) (mg:Str->Option Value) (base:Heap) (A:Around) (outer:List Env) (s:Shared) (H:Hp):Prop where
 frames:A.frames=some outer
 mod:Mod K mg base
 bs:∀b o,base.get? b=some o->s.heap.get? b=some o/\H b=none
 bsz:base.objs.size≤s.heap.objs.size
 funs:s.heap.FunFrames base outer
 frf:∀b ∈ frs outer,H b=none
 hok:HOk P w H s.heap
 bare:AllBare s.gens
noncomputable def CE (outer:List Env) (P:Program) (w:World) (H:Hp) (s:Shared) (Q:VK) (u:Value) (s':Shared):Prop:=
 ∃v H',s'.os=s.os/\AllBare s'.gens/\Un (frs outer) [] H H' s.heap s'.heap/\HOk P w H' s'.heap/\RelV v u/\Q v H'
noncomputable def CR (CX:CXT) (outer:List Env) (P:Program) (w:World) (H:Hp) (s:Shared) (Q:VK) (E:XK) (r:Result) (s':Shared):Prop:=
 match r with
 | .ok (.ret u)=>CE outer P w H s Q u s'
 | .ok _=>False
 | .error e=>CX outer H s E e s'
structure FnOk (P:Program) (w:World) (K:PySem.W.Frag) (mg:Str->Option Value) (base:Heap) (CX:CXT) (k:Nat) (f:Addr) (fd:FuncData) (ps:List Str) (sp:Sp):Prop where
 len:∀vs H Q E,sp vs H Q E->vs.length=ps.length
 run:∀(A:Around) (outer:List Env) (s:Shared) (H:Hp) (args:Args) (us:List Value) (vs:List V) (Q:VK) (E:XK),Room k A->Env0 P w K mg base A outer s H->BindsTo s fd args (ps.zip us)->Vals vs us->sp vs H Q E ->
  codeAny (model P w) A (.call (.ref f) args) (CR CX outer P w H s Q E) s
theorem FnOk.mono {P:Program}{w:World}{K:PySem.W.Frag}{mg:Str->Option Value}{base:Heap}{CX:CXT}{j k:Nat}{f:Addr}{fd:FuncData}{ps:List Str}{sp:Sp} (F:FnOk P w K mg base CX j f fd ps sp) (h:j≤k) :
  FnOk P w K mg base CX k f fd ps sp:=⟨F.len,fun A outer s H args us vs Q E hr=>F.run A outer s H args us vs Q E (hr.mono h)⟩
theorem FnOk.imp {P:Program}{w:World}{K:PySem.W.Frag}{mg:Str->Option Value}{base:Heap}{CX:CXT}{k:Nat}{f:Addr}{fd:FuncData}{ps:List Str}{sp sp':Sp} (F:FnOk P w K mg base CX k f fd ps sp)
  (h:∀vs H Q E,sp' vs H Q E->sp vs H Q E):FnOk P w K mg base CX k f fd ps sp':=
 ⟨fun vs H Q E q=>F.len vs H Q E (h _ _ _ _ q),fun A outer s H args us vs Q E hr he hb hv hs=>F.run A outer s H args us vs Q E hr he hb hv (h _ _ _ _ hs)⟩
theorem Env0.make {P:Program}{w:World}{K:PySem.W.Frag}{mg:Str->Option Value}{base:Heap}{A:Around}{outer:List Env}{s:Shared}{H:Hp} (e:Env0 P w K mg base A outer s H) (C:Addr) (us:List Value) (kw:List (Str×Value)) :
  Env0 P w K mg base (A.under (.builtin "type.__call__" ⟨.ref C::us,kw⟩)) outer s H:=⟨by first | exact e.frames | (simpa [Around.under,Code.envs,Code.isFrame,pushEnvs] using e.frames),e.mod,e.bs,e.bsz,e.funs,e.frf,e.hok,e.bare⟩
theorem Env0.in1 {P:Program}{w:World}{K:PySem.W.Frag}{mg:Str->Option Value}{base:Heap}{A:Around}{outer:List Env}{s:Shared}{H:Hp} (e:Env0 P w K mg base A outer s H) :
  Env0 P w K mg base A.in1 outer s H:=⟨e.frames,e.mod,e.bs,e.bsz,e.funs,e.frf,e.hok,e.bare⟩
section
variable {X:Cx}{pins:List (Addr×Obj)}{σ:St}{H:Hp}{s s':Shared}
theorem Inv.env0 (I:Inv X pins σ H s):Env0 X.prog X.w X.K X.mg X.base X.A X.stack s H:=
 ⟨I.ok.frames,I.ok.mod,I.bs,Nat.le_trans I.ok.bsz I.sz,I.stack,I.stkFree,I.hok,I.bare⟩
theorem Inv.after {Q:VK}{u:Value} (I:Inv X pins σ H s) (h:CE X.stack X.prog X.w H s Q u s'):EP X pins σ Q u s':=by
 obtain⟨v,H',os,bare,un,hok,r,q⟩:=h
 obtain⟨hh,g,d,t,os'⟩:=s'
 obtain rfl:os'=s.os:=os
 exact⟨v,H',I.call (h':=hh) (g':=g) (d':=d) (t':=t) (ch:=[]) un hok bare (fun b z=>absurd z (by simp)),r,q⟩
end
noncomputable def tCall (sp:Sp) (dvs:List V) (E:XK) (t:TA):TE:=fun σ H Q=>t σ H fun vs H1=>sp (vs++dvs) H1 Q E
noncomputable def Binds (K:PySem.W.Frag) (fd:FuncData) (ps:List Str) (ds:List Value):Prop:=
 ∀(s:Shared) (us:List Value),K.In s.heap->(us++ds).length=ps.length->BindsTo s fd ⟨us,[]⟩ (ps.zip (us++ds))
theorem Binds.all {K:PySem.W.Frag}{fd:FuncData}{ps:List Str} (h:∀us:List Value,us.length=ps.length->bindArgs fd ⟨us,[]⟩=pure (ps.zip us)):Binds K fd ps []:=fun s us _ hl=>by
 rw [List.append_nil] at hl ⊢
 exact .of_eq (h us hl)
noncomputable def Passes (CX:CXT) (X:Cx) (E:XK):Prop:=∀(pins:List (Addr×Obj)) (σ:St) (H:Hp) (s:Shared) (e:Value) (s':Shared),Inv X pins σ H s->CX X.stack H s E e s'->X.xe e s'
section
variable {X:Cx}{CX:CXT}{k:Nat}{f C:Addr}{fd:FuncData}{ps:List Str}{sp:Sp}{dvs:List V}{ds:List Value}{E:XK}{x m:Str}{p pos apos:Pos}{e o:Expr}{es:List Expr}{ta:TE}{t:TA}
theorem run_fn {pins:List (Addr×Obj)}{σ:St}{H:Hp}{s:Shared}{Q:VK}{us:List Value}{vs:List V} (F:FnOk X.prog X.w X.K X.mg X.base CX k f fd ps sp) (hr:Room k X.A) (hb:Binds X.K fd ps ds) (hd:Vals dvs ds) (hx:Passes CX X E)
  (I:Inv X pins σ H s) (r:Vals vs us) (h:sp (vs++dvs) H Q E):wpAny (model X.prog X.w) X.A (call (.ref f) us) (EP X pins σ Q) X.xe s:=by
 have r2:Vals (vs++dvs) (us++ds):=r.append hd
 have hl:(us++ds).length=ps.length:=by rw [<- r2.length];exact F.len _ _ _ _ h
 refine wpAny_call (codeAny_mono (F.run X.A X.stack s H ⟨us,[]⟩ (us++ds) (vs++dvs) Q E hr I.env0 (hb s us I.kIn hl) r2 h) fun r s' hq=>?_)
 cases r with
 | error e=>exact hx pins σ H s e s' I hq
 | ok fl=>
  cases fl with
  | ret u=>exact I.after hq
  | next=>exact False.elim hq
  | brk=>exact False.elim hq
  | cont=>exact False.elim hq
theorem pe_call (F:FnOk X.prog X.w X.K X.mg X.base CX k f fd ps sp) (hr:Room k X.A) (hg:Gl X x) (hm:X.mg x=some (.ref f)) (hk:PySem.W.keepIn X.K (.ref f)=true) (hb:Binds X.K fd ps ds) (hd:Vals dvs ds) (hx:Passes CX X E)
  (ha:PA X (e::es) t) (hdb:(x == ("__debug__":Str))=false:=by decide) (he:starEach (e::es) X.env=(false,eval e X.env)::starEach es X.env:=by rfl) (hpl:(backTo pos (starEach es X.env)).any (·.1)=false:=by rfl) :
  PE X (.Call (.Name x p) (e::es) [] pos) (tCall sp dvs E t):=by
 intro pins s σ H Q I h
 refine wpAny_Call_Name_kw (ld_glob I hg hm ?_ hdb)
 refine PySem.W.callWith_K (h₀:=X.base) I.ok.mod.kin hk (thn (ha pos pins s σ H _ I h) fun us s1 hz=>?_) he hpl
 obtain⟨vs,H1,I1,r,q⟩:=hz
 refine⟨I1.kIn,?_⟩
 exact run_fn F hr hb hd hx I1 r q
structure Mk (K:PySem.W.Frag) (C f:Addr):Prop where
 makes:PySem.W.makesIn K C=true
 init:PySem.W.findIn K (.ref C) "__init__"=some (some (.ref f))
 fn:PySem.W.isFn K (.ref f)=true
 kp:PySem.W.keepIn K (.ref C)=true
end
section
variable {X:Cx}{CX:CXT}{k:Nat}{f C:Addr}{fd:FuncData}{ps ks:List Str}{sp:Sp}{E:XK}{x m:Str}{p pos apos kpos:Pos}{e o:Expr}{es:List Expr}{kws:List Keyword}{te ta:TE}{t tk:TA}{nm:Option Str}
structure KBinds (K:PySem.W.Frag) (fd:FuncData) (ps ks:List Str) (g:List Value->List Value->List Value) (gV:List V->List V->List V):Prop where
 to:∀(s:Shared) (us ws:List Value),K.In s.heap->(g us ws).length=ps.length->BindsTo s fd ⟨us,ks.zip ws⟩ (ps.zip (g us ws))
 rel:∀{vs:List V}{us:List Value}{zs:List V}{ws:List Value},Vals vs us->Vals zs ws->Vals (gV vs zs) (g us ws)
variable {g:List Value->List Value->List Value}{gV:List V->List V->List V}
end
structure FnScope (N P:List Str) (sc:Scope):Prop where
 kind:sc.kind=.function
 co:sc.isCoroutine=false
 gen:sc.isGenerator=false
 nd:N.Nodup
 pre:N.take P.length=P
 par:∀x ∈ P,sc.names.lookup x=some .local\/sc.names.lookup x=some .cell
 nofree:∀y ∈ sc.names,y.2≠.free
theorem bindL_out {kindOf:Str->Option NameKind}{x:Str}:∀{binds:List (Str×Value)}{m:Str->Option Value},(∀v,(x,v) ∉ binds)->bindL kindOf binds m x=m x
 | [],_,_=>rfl
 | (n,v)::r,m,h=>by
  unfold bindL
  rw [bindL_out fun w hw=>h w (List.mem_cons_of_mem _ hw)]
  split
  ·have:x≠n:=by rintro rfl;exact h v List.mem_cons_self
   simp [this]
  ·rfl
theorem bindC_out {kindOf:Str->Option NameKind}{x:Str}:∀{binds:List (Str×Value)}{m:Str->Option Value},(∀v,(x,v) ∉ binds)->bindC kindOf binds m x=m x
 | [],_,_=>rfl
 | (n,v)::r,m,h=>by
  unfold bindC
  rw [bindC_out fun w hw=>h w (List.mem_cons_of_mem _ hw)]
  split
  ·rfl
  ·have:x≠n:=by rintro rfl;exact h v List.mem_cons_self
   simp [this]
theorem bindL_get {kindOf:Str->Option NameKind}{x:Str}{v:Value}:∀{P:List Str}{vs:List Value}{i:Nat}{m:Str->Option Value},P.Nodup->P[i]? = some x->vs[i]? = some v->kindOf x=some .local ->
  bindL kindOf (P.zip vs) m x=some v
 | [],_,_,_,_,h,_,_=>by simp at h
 | _::_,[],_,_,_,_,h,_=>by simp at h
 | p::P,w::vs,0,m,nd,h1,h2,hk=>by
  simp at h1 h2;subst h1;subst h2
  show bindL kindOf ((p,w)::P.zip vs) m p=_
  unfold bindL
  rw [bindL_out fun v hv=>(List.nodup_cons.mp nd).1 (List.of_mem_zip hv).1,if_pos hk]
  simp
 | p::P,w::vs,i+1,m,nd,h1,h2,hk=>by
  show bindL kindOf ((p,w)::P.zip vs) m x=_
  unfold bindL
  exact bindL_get (i:=i) (List.nodup_cons.mp nd).2 (by simpa using h1) (by simpa using h2) hk
theorem bindC_get {kindOf:Str->Option NameKind}{x:Str}{v:Value}:∀{P:List Str}{vs:List Value}{i:Nat}{m:Str->Option Value},P.Nodup->P[i]? = some x->vs[i]? = some v->kindOf x≠some .local ->
  bindC kindOf (P.zip vs) m x=some v
 | [],_,_,_,_,h,_,_=>by simp at h
 | _::_,[],_,_,_,_,h,_=>by simp at h
 | p::P,w::vs,0,m,nd,h1,h2,hk=>by
  simp at h1 h2;subst h1;subst h2
  show bindC kindOf ((p,w)::P.zip vs) m p=_
  unfold bindC
  rw [bindC_out fun v hv=>(List.nodup_cons.mp nd).1 (List.of_mem_zip hv).1,if_neg hk]
  simp
 | p::P,w::vs,i+1,m,nd,h1,h2,hk=>by
  show bindC kindOf ((p,w)::P.zip vs) m x=_
  unfold bindC
  exact bindC_get (i:=i) (List.nodup_cons.mp nd).2 (by simpa using h1) (by simpa using h2) hk
noncomputable def start (N:List Str) (vs:List V):St:=vs.map some++List.replicate (N.length-vs.length) none
noncomputable def cxOf (CX:CXT) (P:Program) (w:World) (K:PySem.W.Frag) (mg:Str->Option Value) (base:Heap) (N:List Str) (qual:Str) (scope:Scope) (f:Addr) (cd:Value) (A:Around) (outer:List Env) (s:Shared) (H:Hp) (E:XK):Cx where
 prog:=P
 w:=w
 K:=K
 mg:=mg
 base:=base
 A:=A.deeper (envOfC qual scope s.heap.objs.size f cd)
 N:=N
 s₀:=s
 H₀:=H
 env:=envOfC qual scope s.heap.objs.size f cd
 outer:=outer
 stack:=envOfC qual scope s.heap.objs.size f cd::outer
 ex:=[]
 calm:=true
 fn:=fun _=>true
 pn:=[]
 xe:=fun e s'=>wpAny (model P w) (A.deeper (envOfC qual scope s.heap.objs.size f cd)) (leaving (envOfC qual scope s.heap.objs.size f cd) e) (fun _ s''=>CX outer H s E e s'') (fun e' s''=>CX outer H s E e' s'') s'
theorem cell_has {sc:Scope}{n:Nat}{x:Str} (h:sc.names.lookup x=some .cell):∃c,(cellsFrom n sc.names []).lookup x=some c:=by
 have q:=PySem.W.cellsFrom_some sc.names n [] (.inl h)
 exact Option.isSome_iff_exists.mp q
theorem inv_start {CX:CXT}{P:Program}{w:World}{K:PySem.W.Frag}{mg:Str->Option Value}{base:Heap}{N ps:List Str}{qual:Str}{scope:Scope}{f:Addr}{cd:Value}{A:Around}{outer:List Env}{s s1:Shared}{H:Hp}{E:XK}{us:List Value}{vs:List V}
  (S:FnScope N ps scope) (hd:A.handled=none) (e0:Env0 P w K mg base A outer s H) (hl:vs.length=ps.length) (r:Vals vs us)
  (x:InCallC s s.heap.objs.size (bindL (envOfC qual scope s.heap.objs.size f cd).kindOf (ps.zip us) fun _=>none) (cellsFrom (s.heap.objs.size+1) scope.names []) (bindC (envOfC qual scope s.heap.objs.size f cd).kindOf (ps.zip us) fun _=>none) s1) :
  Inv (cxOf CX P w K mg base N qual scope f cd A outer s H E) [] (start N vs) H s1:=by
 have hpl:ps.length≤N.length:=by have:=congrArg List.length S.pre;rw [List.length_take] at this;omega
 obtain⟨h1,tk,rfl,hk⟩:=x.done
 have noA:∀b:Addr,b ∉ (cxOf CX P w K mg base N qual scope f cd A outer s H E).ex:=fun b z=>absurd (show b ∈ ([]:List Addr) from z) (by simp)
 refine⟨⟨e0.mod,S.kind,rfl,rfl,Nat.le_refl _,fun y z c h1 h2=>?_,fun y hy=>?_,fun y c _ h=>?_,fun _=>hd,Around.frames_deeper e0.frames,.inr ⟨rfl,rfl⟩,fun b z=>absurd z (noA b),e0.bs,e0.bsz,fun b _ _=>noA b,fun b z=>absurd z (noA b),e0.funs,e0.frf⟩,
  rfl,e0.bare,Un.kept hk,⟨_,x.toInCall.ns,fun i y v h1 h2 h3=>?_⟩,fun y c h=>⟨_,x.cell y c h⟩,e0.hok.fresh (Nat.le_refl _),fun y c h=>?_,fun p hp=>absurd (show p ∈ ([]:List (Addr×Obj)) from hp) (by simp),e0.hok.kept hk,?_⟩
 ·exact name_of_addr x.apart (PySem.mem_of_lookup h1) (PySem.mem_of_lookup h2)
 ·have hy:scope.names.lookup y=some .cell\/scope.names.lookup y=some .free:=hy
  rcases hy with hy | hy
  ·exact cell_has hy
  ·exact absurd rfl (S.nofree _ (PySem.mem_of_lookup hy))
 ·exact Nat.le_of_lt (x.above y c (PySem.mem_of_lookup h))
 ·have hi:i < vs.length:=by
   unfold start at h2
   by_cases hi:i < vs.length
   ·exact hi
   ·rw [List.getElem?_append_right (by simpa using hi)] at h2
    rw [List.getElem?_replicate] at h2
    split at h2 <;> cases h2
  have ha:vs[i]? = some v:=by
   unfold start at h2
   rw [List.getElem?_append_left (by simpa using hi),List.getElem?_map] at h2
   cases e:vs[i]? with
   | none=>rw [e] at h2;cases h2
   | some a=>rw [e] at h2;cases h2;rfl
  obtain⟨u,hu,rv⟩:=r.get ha
  have hp:ps[i]? = some y:=by
   rw [<- S.pre,List.getElem?_take_of_lt (by omega)];exact h1
  have ndP:ps.Nodup:=by rw [<- S.pre];exact S.nd.sublist (List.take_sublist _ _)
  refine⟨u,rv,?_⟩
  rcases S.par y (List.mem_of_getElem? hp) with k | k
  ·exact .inl ⟨k,bindL_get ndP hp hu k⟩
  ·obtain⟨c,e⟩:=cell_has (n:=s.heap.objs.size+1) k
   refine .inr ⟨.inl k,c,e,?_⟩
   have q:=x.cell y c e
   rw [bindC_get ndP hp hu (by show scope.names.lookup y≠_;rw [k];decide)] at q
   exact q
 ·exact e0.hok.fresh (Nat.le_of_lt (x.above y c (PySem.mem_of_lookup h)))
 ·unfold start
  show _=N.length
  rw [List.length_append,List.length_map,List.length_replicate]
  omega
theorem fn_of {CX:CXT}{P:Program}{w:World}{K:PySem.W.Frag}{mg:Str->Option Value}{base:Heap}{k:Nat}{f:Addr}{name qual:Str}{params:Arguments}{body:List Stmt}{scope:Scope}{dV kV doc pm cdv ct oc:Value}{an od:Option Addr}
  {osl:Array (Option Value)}{N ps:List Str}{sp:Sp} (lk:K.lookup f=some ⟨oc,od,.func (PySem.W.fnOf name qual params body scope dV kV doc pm an cdv ct),osl⟩) (hcd:PySem.W.codeIn K cdv qual=true) (S:FnScope N ps scope)
  (len:∀vs H Q E,sp vs H Q E->vs.length=ps.length)
  (hbody:∀(A:Around) (outer:List Env) (s:Shared) (H:Hp) (vs:List V) (Q:VK) (E:XK),Room k (A.deeper (envOfC qual scope s.heap.objs.size f cdv))->sp vs H Q E ->
   ∃t,PSs (cxOf CX P w K mg base N qual scope f cdv A outer s H E) body t/\t { nx:=fun _ H'=>Q .non H',rt:=Q } (start N vs) H) :
  FnOk P w K mg base CX (k+1) f (PySem.W.fnOf name qual params body scope dV kV doc pm an cdv ct) ps sp:=by
 refine⟨len,fun A outer s H args us vs Q E hr e0 hb r hsp=>?_⟩
 have hl:=len _ _ _ _ hsp
 have KX:K.In s.heap:=e0.mod.kin.keeps fun b o e=>(e0.bs b o e).1
 have lim:s.heap.NoLimit:=e0.mod.nolimit.keeps fun b o e=>(e0.bs b o e).1
 have hkind:∀y ∈ ps.zip us,scope.names.lookup y.1=some .local\/(scope.names.lookup y.1=some .cell/\((cellsFrom (s.heap.objs.size+1) scope.names []).lookup y.1).isSome=true):=fun ⟨n,v⟩ hy=>by
  rcases S.par n (List.of_mem_zip hy).1 with q | q
  ·exact .inl q
  ·exact .inr ⟨q,PySem.W.cellsFrom_some _ _ _ (.inl q)⟩
 refine codeAny_call_function hr.depth (KX _ _ lk) rfl S.co S.gen rfl (PySem.W.codeRec_of KX hcd) (hb _ _ _ _ ?_)
 refine wpAny_newFunctionEnv_cells S.kind hkind fun env he s1 x=>?_
 subst he
 refine⟨lim.keeps x.toInCall.keep,codeAny_func ?_⟩
 obtain⟨t,ht,hq⟩:=hbody A outer s H vs Q E (hr.deeper _) hsp
 have I:Inv (cxOf CX P w K mg base N qual scope f cdv A outer s H E) [] (start N vs) H s1:=inv_start S hr.hd e0 hl r x
 refine wpAny_mono (ht [] s1 (start N vs) H _ I hq) (fun fl s' hs=>?_) fun e s' hs=>hs
 have fin:∀{σ':St}{H':Hp}{v:V}{u:Value},Inv (cxOf CX P w K mg base N qual scope f cdv A outer s H E) [] σ' H' s'->RelV v u->Q v H'->CE outer P w H s Q u s':=
  fun {σ' H' v u} J rv q=>⟨v,H',J.os,J.bare,J.base,J.hok,rv,q⟩
 cases fl with
 | ret u=>
  obtain⟨v,σ',H',J,rv,q⟩:=hs
  exact fin J rv q
 | next=>
  obtain⟨σ',H',J,q⟩:=hs
  exact fin (v:=V.non) (u:=Value.none) J rfl q
 | brk=>
  obtain⟨_,_,_,q⟩:=hs
  exact False.elim q
 | cont=>
  obtain⟨_,_,_,q⟩:=hs
  exact False.elim q
end L2
namespace L2
open PySem PySem.Spec PyProof.Rows
section
variable {X:Cx}{x:Str}{p pos:Pos}{e:Expr}{es:List Expr}{t:TA}{id T:String}{r:List V->Hp->VK->Prop}
noncomputable def tCB (r:List V->Hp->VK->Prop) (t:TA):TE:=fun σ H Q=>t σ H fun vs H1=>r vs H1 Q
theorem pe_callB (hc:CallR X (.builtin id) r) (hg:Gl X x) (hm:X.mg x=none) (hv:bootBuiltins x=some (.builtin id)) (ha:PA X (e::es) t) (hn:x≠"__name__":=by decide) (hdb:(x == ("__debug__":Str))=false:=by decide)
  (he:starEach (e::es) X.env=(false,eval e X.env)::starEach es X.env:=by rfl) (hpl:(backTo pos (starEach es X.env)).any (·.1)=false:=by rfl):PE X (.Call (.Name x p) (e::es) [] pos) (tCB r t):=by
 intro pins s σ H Q I h
 refine wpAny_Call_Name_kw (ld_blt I hg hm hv ?_ hn hdb)
 exact PyProof.Rows.callWith_builtin1 (thn (ha pos pins s σ H _ I h) fun us s1 hz=>by obtain⟨vs,H1,I1,r1,q1⟩:=hz;exact hc pins s1 σ H1 vs us Q I1 r1 q1) he hpl
theorem pe_callTy (hc:CallR X (.type T) r) (hg:Gl X x) (hm:X.mg x=none) (hv:bootBuiltins x=some (.type T)) (ha:PA X (e::es) t) (hn:x≠"__name__":=by decide) (hdb:(x == ("__debug__":Str))=false:=by decide)
  (he:starEach (e::es) X.env=(false,eval e X.env)::starEach es X.env:=by rfl) (hpl:(backTo pos (starEach es X.env)).any (·.1)=false:=by rfl):PE X (.Call (.Name x p) (e::es) [] pos) (tCB r t):=by
 intro pins s σ H Q I h
 refine wpAny_Call_Name_kw (ld_blt I hg hm hv ?_ hn hdb)
 exact PyProof.Rows.callWith_type1 (thn (ha pos pins s σ H _ I h) fun us s1 hz=>by obtain⟨vs,H1,I1,r1,q1⟩:=hz;exact hc pins s1 σ H1 vs us Q I1 r1 q1) he hpl
end
end L2
namespace HT
open PySem PyProof.Rows
section
open PySem.SeqAt
open PySem.AutoSeq1 (wpAny_loadPart')
open PySem.MeetsSeq PySem.MeetsSeq2 PySem.MeetsSeq3
end
section
variable {prog:Program}{w:World}{A:Around}{E:Value->Shared->Prop}{s:Shared}
theorem cat_tup {t b:Addr}{vs ws:List Value}{Q:Value->Shared->Prop} (ht:IsTup s.heap t vs.toArray) (hb:IsTup s.heap b ws.toArray) (hv:vs≠[])
  (h1:ws=[]->Q (.ref t) s) (h2:ws≠[]->Q (.ref s.heap.objs.size) { s with heap:=s.heap.push { cls:=.type "tuple",data:=.seq (vs++ws).toArray } })
  (hsz:vs.length+ws.length≤sizeLine):wpAny (model prog w) A (binaryOp .Add (.ref t) (.ref b)) Q E s:=by
 obtain⟨⟨cls,dd,data,sl⟩,ho,hc,n,hd⟩:=id ht
 obtain⟨⟨cls2,dd2,data2,sl2⟩,ho2,hc2,n2,hd2⟩:=id hb
 simp only at hc hd hc2 hd2
 subst hc hd hc2 hd2
 have e:vs.toArray++ws.toArray=(vs++ws).toArray:=by simp
 by_cases hw:ws=[]
 ·exact concat_meets ⟨_,ho,rfl⟩ ⟨_,ho2,rfl⟩ noFill_tuple_add seq_tuple_add PySem.F.slot_tuple_add PySem.F.entry_tuple_add (PySem.F.args_tuple_add_2 _ _)
   (tuple_addW1 t b vs.toArray ws.toArray n n2 dd dd2 sl sl2 (by simpa using hv) (by simp [hw])) ⟨ho,ho2,h1 hw⟩
 ·refine concat_meets ⟨_,ho,rfl⟩ ⟨_,ho2,rfl⟩ noFill_tuple_add seq_tuple_add PySem.F.slot_tuple_add PySem.F.entry_tuple_add (PySem.F.args_tuple_add_2 _ _)
   (tuple_addW2 t b vs.toArray ws.toArray n n2 dd dd2 sl sl2 (by simpa using hv) (by simpa using hw) (by rw [List.size_toArray,List.size_toArray];exact hsz)) ⟨ho,ho2,?_⟩
  rw [e]
  exact h2 hw
noncomputable def sIx (n d:Nat):Option Int->Nat
 | none=>d
 | some v=>if v < 0 then (v+(n:Int)).toNat else min v.toNat n
theorem sIx_le (n d:Nat) (hd:d≤n) (o:Option Int):sIx n d o≤n:=by
 cases o with
 | none=>exact hd
 | some v=>
  show (if v < 0 then (v+(n:Int)).toNat else min v.toNat n)≤n
  by_cases hv:v < 0
  ·rw [if_pos hv];omega
  ·rw [if_neg hv];exact Nat.min_le_right _ _
theorem clip_eq (v:Int) (n d:Nat):(if v < 0 then max (v+(n:Int)) 0 else min v (n:Int))=((sIx n d (some v):Nat):Int):=by
 show (if v < 0 then max (v+(n:Int)) 0 else min v (n:Int))=(((if v < 0 then (v+(n:Int)).toNat else min v.toNat n):Nat):Int)
 by_cases hv:v < 0
 ·simp only [if_pos hv];omega
 ·simp only [if_neg hv];omega
theorem adjust_gen (lo hi:Option Int) (n:Nat):Builtin.Slice.sliceAdjust lo hi 1 (n:Int)=(((sIx n 0 lo:Nat):Int),((sIx n n hi:Nat):Int)):=by
 have h1:¬((1:Int) < 0):=by omega
 unfold Builtin.Slice.sliceAdjust
 simp only [h1,if_false]
 refine Prod.ext ?_ ?_
 ·cases lo with
  | none=>rfl
  | some v=>exact clip_eq v n 0
 ·cases hi with
  | none=>rfl
  | some v=>exact clip_eq v n n
theorem places_gen (i j:Nat):Builtin.Slice.slicePlaces (i:Int) (j:Int) 1=j-i:=by
 unfold Builtin.Slice.slicePlaces
 have h1:(1:Int) > 0:=by omega
 simp only [h1,if_true,Int.ediv_one]
 split <;> omega
theorem slicePart_ {v:Value}{o:Option Int}{Q:Option Int->Shared->Prop} (p:IsPart v o) (h:Q o s):wpAny (model prog w) A (Builtin.Slice.slicePartIndex v) Q E s:=by
 cases p with
 | none=>exact slicePart_none h
 | int i t=>exact slicePart_int h
theorem sliceApplied_gen {sl:Addr}{vl vu:Value}{lo hi:Option Int}{n:Nat}{Q:Int×Int×Nat->Shared->Prop} (hs:s.heap.IsSliceOf sl vl vu .none) (pl:IsPart vl lo) (pu:IsPart vu hi)
  (h:Q (((sIx n 0 lo:Nat):Int),1,sIx n n hi-sIx n 0 lo) s):wpAny (model prog w) A (Builtin.Slice.sliceApplied (.ref sl) (pure (n:Int))) Q E s:=by
 obtain⟨os,hos,hcs,hds⟩:=id hs
 unfold Builtin.Slice.sliceApplied Builtin.Slice.sliceFields
 refine wpAny_bind (wpAny_bind (wpAny_field hos hds (x:=vl) rfl (wpAny_bind (wpAny_field hos hds (x:=vu) rfl (wpAny_bind (wpAny_field hos hds (x:=.none) rfl (wpAny_pure ?_)))))))
 refine wpAny_bind (slicePart_none ?_)
 show wpAny _ _ (if ((1:Int) == 0)=true then _ else _) _ _ s
 rw [if_neg (by decide)]
 refine wpAny_bind (slicePart_ pl (wpAny_bind (slicePart_ pu (wpAny_bind (wpAny_pure ?_)))))
 show wpAny _ _ (match Builtin.Slice.sliceAdjust lo hi 1 (n:Int) with | (lo,hi)=>pure (lo,(1:Int),Builtin.Slice.slicePlaces lo hi 1)) _ _ s
 rw [adjust_gen lo hi n]
 show wpAny _ _ (pure (((sIx n 0 lo:Nat):Int),(1:Int),Builtin.Slice.slicePlaces ((sIx n 0 lo:Nat):Int) ((sIx n n hi:Nat):Int) 1)) _ _ s
 rw [places_gen]
 exact wpAny_pure h
theorem pick_gen (xs:Array Value) (i k:Nat):((List.range k).filterMap fun (m:Nat)=>xs[((i:Int)+(m:Int) * 1).toNat]?).toArray=((xs.toList.drop i).take k).toArray:=by
 have e:(fun (m:Nat)=>xs[((i:Int)+(m:Int) * 1).toNat]?)=fun m=>xs[i+m]?:=by
  funext m
  have:((i:Int)+(m:Int) * 1).toNat=i+m:=by omega
  rw [this]
 rw [e]
 have:=pick_run xs i k
 rw [List.filterMap_map] at this
 have e2:((fun x=>xs[x]?) ∘ fun x=>i+x)=fun m=>xs[i+m]?:=rfl
 rw [e2] at this
 rw [this]
theorem getItem_tuple_cut {t sl:Addr}{items:Array Value}{vl vu:Value}{lo hi:Option Int}{Q:Value->Shared->Prop} (ht:IsTup s.heap t items) (hs:s.heap.IsSliceOf sl vl vu .none) (pl:IsPart vl lo) (pu:IsPart vu hi)
  (hw:¬(sIx items.size 0 lo=0/\sIx items.size items.size hi=items.size))
  (h:Q (.ref s.heap.objs.size) { s with heap:=s.heap.push { cls:=.type "tuple",data:=.seq ((items.toList.drop (sIx items.size 0 lo)).take (sIx items.size items.size hi-sIx items.size 0 lo)).toArray } })
  (hsz:items.size≤sizeLine):wpAny (model prog w) A (getItem (.ref t) (.ref sl)) Q E s:=by
 have htake:sizeOk (.seq ((items.toList.drop (sIx items.size 0 lo)).take (sIx items.size items.size hi-sIx items.size 0 lo)).toArray):=by
  show ((items.toList.drop (sIx items.size 0 lo)).take (sIx items.size items.size hi-sIx items.size 0 lo)).toArray.size≤sizeLine
  rw [List.size_toArray,List.length_take,List.length_drop,Array.length_toList]
  omega
 have hj:sIx items.size items.size hi≤items.size:=sIx_le _ _ (Nat.le_refl _) hi
 obtain⟨os,hos,hcs,hds⟩:=id hs
 have hTs:s.TypeIs (.ref sl) "slice":=⟨os,hos,hcs⟩
 unfold getItem
 try with_reducible refine wpAny_holding ?_
 first | refine wpAny_bind (wpAny_pure ?_) | skip
 refine wpAny_bind (wpAny_sequenceKey ht.typeIs (by decide) ?_)
 refine wpAny_bind (wpAny_callSpecial?_slot (name:=Str.ofString "__getitem__") ht.typeIs PyProof.Rows.slot_tuple_getitem
  (wpAny_call_entry PyProof.Rows.slot_tuple_getitem ht.typeIs entry_tuple_getitem ?_ (args_tuple_getitem _ _)))
 show wpAny _ _ (Builtin.Tuple.tupleItemsOf (.ref t) >>= _) _ _ s
 refine wpAny_bind (tupleItemsOf_ ht ?_)
 refine wpAny_bind (wpAny_typeOf hTs ?_)
 rw [if_pos (by decide)]
 refine wpAny_bind (sliceApplied_gen hs pl pu ?_)
 have hno:¬((((sIx items.size 0 lo:Nat):Int) == 0 && (1:Int) == 1 && (sIx items.size items.size hi-sIx items.size 0 lo) == items.size)=true):=by
  intro q
  rw [Bool.and_eq_true,Bool.and_eq_true] at q
  have q1:((sIx items.size 0 lo:Nat):Int)=0:=eq_of_beq q.1.1
  have q2:sIx items.size items.size hi-sIx items.size 0 lo=items.size:=eq_of_beq q.2
  exact hw ⟨by omega,by omega⟩
 show wpAny _ _ (if (((sIx items.size 0 lo:Nat):Int) == 0 && (1:Int) == 1 && (sIx items.size items.size hi-sIx items.size 0 lo) == items.size)=true then _ else _) _ _ s
 rw [if_neg hno,pick_gen]
 first
  | exact wpAny_bind (m:=Builtin.Tuple.tupleExact _) (wpAny_newObj_type (wpAny_pure ⟨_,rfl,wpAny_pure h⟩) htake)
  | exact wpAny_bind (m:=Builtin.Tuple.tupleExact _) (wpAny_newObj_type (wpAny_bind (wpAny_pure (wpAny_pure ⟨_,rfl,wpAny_pure h⟩))) htake)
  | exact wpAny_bind (wpAny_bind (m:=Builtin.Tuple.tupleExact _) (wpAny_newObj_type (wpAny_pure (wpAny_pure ⟨_,rfl,wpAny_pure h⟩)) htake))
  | exact wpAny_bind (wpAny_bind (m:=Builtin.Tuple.tupleExact _) (wpAny_newObj_type (wpAny_pure ⟨_,rfl,wpAny_pure h⟩) htake))
end
end HT
namespace L2
open PySem PySem.Spec PyProof.Rows
noncomputable abbrev TO:=St->Hp->(Option Int->Hp->Prop)->Prop
noncomputable def PO (X:Cx) (e:Option Expr) (t:TO):Prop:=
 ∀(pins:List (Addr×Obj)) (s:Shared) (σ:St) (H:Hp) (Q:Option Int->Hp->Prop),Inv X pins σ H s->t σ H Q ->
  wpAny (model X.prog X.w) X.A (evalPart e X.env) (fun u s'=>∃o H',Inv X pins σ H' s'/\IsPart u o/\Q o H') X.xe s
noncomputable def tNoPart:TO:=fun _ H Q=>Q none H
noncomputable def tPart (t:TE):TO:=fun σ H Q=>t σ H fun x H1=>∃i,x=.int i/\Q (some i) H1
section
variable {X:Cx}{e:Expr}{te:TE}{lo hi:Option Expr}{tl th:TO}{pos p2:Pos}
theorem po_none:PO X none tNoPart:=by
 intro pins s σ H Q I h
 rw [evalPart_none]
 exact wpAny_pure ⟨none,H,I,.none,h⟩
theorem po_some (h:PE X e te):PO X (some e) (tPart te):=by
 intro pins s σ H Q I hw
 rw [evalPart_some]
 refine thn (h pins s σ H _ I hw) fun u s1 hz=>?_
 obtain⟨x,H1,I1,r1,q1⟩:=hz
 obtain⟨i,rfl,q⟩:=q1
 obtain⟨t,rfl⟩:=r1
 exact⟨some i,H1,I1,.int i t,q⟩
noncomputable def SlR (X:Cx) (r:V->Option Int->Option Int->Hp->VK->Prop):Prop:=
 ∀(pins:List (Addr×Obj)) (s:Shared) (σ:St) (H:Hp) (x:V) (v vl vu:Value) (lo hi:Option Int) (sl:Addr) (Q:VK),Inv X pins σ H s->RelV x v->s.heap.IsSliceOf sl vl vu .none->IsPart vl lo->IsPart vu hi->r x lo hi H Q ->
  ∃T id,typeLookup (.type T) "__getitem__"=pure (some (.builtin id))/\s.TypeIs v T/\wpAny (model X.prog X.w) X.A (getItem v (.ref sl)) (EP X pins σ Q) X.xe s
theorem SlR.or {r r':V->Option Int->Option Int->Hp->VK->Prop} (h:SlR X r) (h':SlR X r'):SlR X (fun x lo hi H Q=>r x lo hi H Q\/r' x lo hi H Q):=by
 intro pins s σ H x v vl vu lo hi sl Q I rx hs pl pu q
 rcases q with q | q
 ·exact h pins s σ H x v vl vu lo hi sl Q I rx hs pl pu q
 ·exact h' pins s σ H x v vl vu lo hi sl Q I rx hs pl pu q
noncomputable def tSl (r:V->Option Int->Option Int->Hp->VK->Prop) (te:TE) (tl th:TO):TE:=fun σ H Q=>te σ H fun x H1=>tl σ H1 fun l H2=>th σ H2 fun u H3=>r x l u H3 Q
theorem pe_slice {r:V->Option Int->Option Int->Hp->VK->Prop} (hr:SlR X r) (he:PE X e te) (hl:PO X lo tl) (hu:PO X hi th):PE X (.Subscript e (.Slice lo hi none p2) pos) (tSl r te tl th):=by
 intro pins s σ H Q I h
 refine Subscript_ (thn (he pins s σ H _ I h) fun v s1 hz=>?_)
 obtain⟨x,H1,I1,r1,q1⟩:=hz
 refine wpAny_Slice (thn (hl pins s1 σ H1 _ I1 q1) fun vl s2 ⟨l,H2,I2,pl,q2⟩=>thn (hu pins s2 σ H2 _ I2 q2) fun vu s3 hz=>?_)
 obtain⟨u,H3,I3,pu,q3⟩:=hz
 rw [evalPart_none]
 refine wpAny_pure ?_
 have I4:Inv X pins σ H3 { s3 with heap:=s3.heap.push { cls:=.type "slice",data:=.fields #[vl,vu,.none] } }:=I3.kept (t':=s3.toks) fun b ob q=>Heap.get?_push_of_some _ q
 obtain⟨T,id,hT,ht,hg⟩:=hr pins { s3 with heap:=s3.heap.push { cls:=.type "slice",data:=.fields #[vl,vu,.none] } } σ H3 x v vl vu l u s3.heap.objs.size Q I4 r1 (Heap.IsSliceOf.new ..) pl pu q3
 show wpAny (model X.prog X.w) X.A (subscriptTail e (.Slice lo hi none p2) v (.ref s3.heap.objs.size)) (EP X pins σ Q) X.xe { s3 with heap:=s3.heap.push { cls:=.type "slice",data:=.fields #[vl,vu,.none] } }
 exact tail_any (ops:=[.ref s3.heap.objs.size,v]) ht hT hg (by with_unfolding_all rfl)
noncomputable def cutV (xs:List V) (lo hi:Option Int):List V:=(xs.drop (HT.sIx xs.length 0 lo)).take (HT.sIx xs.length xs.length hi-HT.sIx xs.length 0 lo)
theorem cutV_length (xs:List V) (lo hi:Option Int):(cutV xs lo hi).length≤xs.length:=by
 unfold cutV
 rw [List.length_take,List.length_drop]
 omega
noncomputable def rSlT (K:PySem.W.Frag):V->Option Int->Option Int->Hp->VK->Prop:=fun x lo hi H Q=>∃a xs,x=.ref a/\SqT K H a xs /\
 ¬(HT.sIx xs.length 0 lo=0/\HT.sIx xs.length xs.length hi=xs.length)/\∀p,H p=none->Q (.ref p) (upd H p (.tup (cutV xs lo hi)))
theorem sl_tup:SlR X (rSlT X.K):=by
 intro pins s σ H x v vl vu lo hi sl Q I rx hs pl pu h
 obtain⟨a,xs,rfl,hx,hw,q⟩:=h
 cases rx
 obtain⟨its,r,ht,hz⟩:=I.tuple hx
 have hlen:its.toArray.size=xs.length:=by rw [List.size_toArray];exact r.length.symm
 refine⟨"tuple",_,PyProof.Rows.slot_tuple_getitem.lookup,ht.typeIs,?_⟩
 refine HT.getItem_tuple_cut ht hs pl pu (by rw [hlen];exact hw) ?_ (by rw [hlen];exact hz)
 rw [hlen]
 refine⟨.ref s.heap.objs.size,_,I.laid (t':=s.toks) (o:=.tup (cutV xs lo hi)) (fun b ob q=>Heap.get?_push_of_some _ q) (Nat.le_refl _) ?_,rfl,q _ (I.hok.fresh (Nat.le_refl _))⟩
 exact⟨Nat.le_trans (cutV_length xs lo hi) hz,_,(r.drop (HT.sIx xs.length 0 lo)).take (HT.sIx xs.length xs.length hi-HT.sIx xs.length 0 lo),IsTup.new _ _⟩
noncomputable def rCatT (K:PySem.W.Frag):R2:=fun x y H Q=>∃a b xs ys,x=.ref a/\y=.ref b/\SqT K H a xs/\SqT K H b ys/\xs≠[]/\xs.length+ys.length≤sizeLine /\
 (ys=[]->Q (.ref a) H)/\(ys≠[]->∀p,H p=none->Q (.ref p) (upd H p (.tup (xs++ys))))
theorem Vals.nil_iff {xs:List V}{us:List Value} (r:Vals xs us):us=[]↔xs=[]:=by
 cases r with
 | nil=>simp
 | cons _ _=>simp
theorem op_catT:OpR X (binaryOp .Add) (rCatT X.K):=by
 intro pins s σ H x y v u Q I rx ry h
 obtain⟨a,b,xs,ys,rfl,rfl,ha,hb,hx,hz,q1,q2⟩:=h
 cases rx
 cases ry
 obtain⟨its,r1,p1,_⟩:=I.tuple ha
 obtain⟨its2,r2,p2,_⟩:=I.tuple hb
 refine HT.cat_tup p1 p2 (fun z=>hx (r1.nil_iff.mp z)) (fun z=>⟨.ref a,H,I,rfl,q1 (r2.nil_iff.mp z)⟩) (fun z=>?_) (by rw [<- r1.length,<- r2.length];exact hz)
 refine⟨.ref s.heap.objs.size,_,I.laid (t':=s.toks) (o:=.tup (xs++ys)) (fun b ob q=>Heap.get?_push_of_some _ q) (Nat.le_refl _) ?_,rfl,q2 (fun w=>z (r2.nil_iff.mpr w)) _ (I.hok.fresh (Nat.le_refl _))⟩
 exact⟨by rw [List.length_append];exact hz,_,r1.append r2,IsTup.new _ _⟩
end
end L2
namespace L2
open PySem PySem.Spec PyProof.Rows
noncomputable def ixN (n:Nat) (i:Int):Option Nat:=if 0≤i then (if i < n then some i.toNat else none) else if -(n:Int)≤i then some (i+n).toNat else none
noncomputable def atI {α:Type} (xs:List α) (i:Int):Option α:=(ixN xs.length i).bind fun j=>xs[j]?
theorem ixN_seq {n:Nat}{i:Int}{j:Nat} (h:ixN n i=some j):seqIndex? i n=some j/\j < n/\-(n:Int)≤i/\i < n:=by
 unfold ixN at h
 by_cases h0:0≤i
 ·rw [if_pos h0] at h
  by_cases h1:i < n
  ·rw [if_pos h1] at h
   have e:i.toNat=j:=Option.some.inj h
   exact⟨by rw [seqIndex_of h0 h1,e],by omega,by omega,h1⟩
  ·rw [if_neg h1] at h;cases h
 ·rw [if_neg h0] at h
  by_cases h1:-(n:Int)≤i
  ·rw [if_pos h1] at h
   have e:(i+n).toNat=j:=Option.some.inj h
   exact⟨by rw [seqIndex_neg (by omega) h1,e],by omega,h1,by omega⟩
  ·rw [if_neg h1] at h;cases h
theorem atI_get {α:Type}{xs:List α}{i:Int}{v:α} (h:atI xs i=some v):∃j,seqIndex? i xs.length=some j/\xs[j]? = some v/\j < xs.length/\-(xs.length:Int)≤i/\i < xs.length:=by
 unfold atI at h
 cases e:ixN xs.length i with
 | none=>rw [e] at h;cases h
 | some j=>
  rw [e] at h
  obtain⟨h1,h2,h3,h4⟩:=ixN_seq e
  exact⟨j,h1,h,h2,h3,h4⟩
noncomputable def PlainIx (b:Expr):Prop:=∀o i,subscripted b false o i=operate [o,i] (getItem o i)
noncomputable def IxR (X:Cx) (r:R2):Prop:=
 ∀(value slice:Expr) (pins:List (Addr×Obj)) (s:Shared) (σ:St) (H:Hp) (x y:V) (v u:Value) (Q:VK),Inv X pins σ H s->RelV x v->RelV y u->r x y H Q ->
  subscripted slice false v u=operate [v,u] (getItem v u)->wpAny (model X.prog X.w) X.A (subscriptTail value slice v u) (EP X pins σ Q) X.xe s
noncomputable def MtR (X:Cx) (id:String) (r:V->List V->Hp->VK->Prop):Prop:=
 ∀(pins:List (Addr×Obj)) (s:Shared) (σ:St) (H:Hp) (x:V) (xs:List V) (v:Value) (us:List Value) (Q:VK),Inv X pins σ H s->RelV x v->Vals xs us->r x xs H Q ->
  wpAny (model X.prog X.w) X.A (call (.builtin id) (v::us)) (EP X pins σ Q) X.xe s
section
variable {X:Cx}{a b:Expr}{ta tb:TE}{pos:Pos}
theorem IxR.or {r r':R2} (h:IxR X r) (h':IxR X r'):IxR X (fun x y H Q=>r x y H Q\/r' x y H Q):=by
 intro value slice pins s σ H x y v u Q I rx ry q hs
 rcases q with q | q
 ·exact h value slice pins s σ H x y v u Q I rx ry q hs
 ·exact h' value slice pins s σ H x y v u Q I rx ry q hs
theorem MtR.or {id:String}{r r':V->List V->Hp->VK->Prop} (h:MtR X id r) (h':MtR X id r'):MtR X id (fun x xs H Q=>r x xs H Q\/r' x xs H Q):=by
 intro pins s σ H x xs v us Q I rx rs q
 rcases q with q | q
 ·exact h pins s σ H x xs v us Q I rx rs q
 ·exact h' pins s σ H x xs v us Q I rx rs q
theorem pe_ix {r:R2} (hr:IxR X r) (ha:PE X a ta) (hb:PE X b tb) (hs:PlainIx b):PE X (.Subscript a b pos) (tOp r ta tb):=by
 intro pins s σ H Q I h
 exact Subscript_ (binT ha hb I h fun v u s2 x y H2 I2 rx ry q=>hr a b pins s2 σ H2 x y v u Q I2 rx ry q (hs _ _))
noncomputable def rIxL (K:PySem.W.Frag):R2:=fun x y H Q=>∃p xs i v,x=.ref p/\y=.int i/\SqL K H p xs/\atI xs i=some v/\Q v H
noncomputable def rIxT (K:PySem.W.Frag):R2:=fun x y H Q=>∃p xs i v,x=.ref p/\y=.int i/\SqT K H p xs/\atI xs i=some v/\Q v H
noncomputable def rIxS:R2:=fun x y H Q=>∃z i c,x=.str z/\y=.int i/\z.length≤sizeLine/\atI z.cps.toList i=some c/\Q (.str ⟨#[c]⟩) H
theorem ix_list:IxR X (rIxL X.K):=by
 intro value slice pins s σ H x y v u Q I rx ry h hs
 obtain⟨p,xs,i,z,rfl,rfl,hq,he,q⟩:=h
 cases rx
 obtain⟨t,rfl⟩:=ry
 obtain⟨its,r,pl,hz⟩:=I.list hq
 obtain⟨j,h1,h2,h3,h4,h5⟩:=atI_get he
 obtain⟨w,ew,rw'⟩:=r.get h2
 have hl:=r.length
 have hn:=line63
 have fin:EP X pins σ Q w s:=⟨z,H,I,rw',q⟩
 by_cases h0:0≤i
 ·have hj:i.toNat=j:=by
   rw [seqIndex_of h0 h5] at h1
   exact Option.some.inj h1
  exact item_listR pl.isList h0 (by omega) (by rw [hj];simpa using ew) fin hs
 ·have hj:(i+(its.toArray.size:Int)).toNat=j:=by
   rw [seqIndex_neg (by omega) h4] at h1
   rw [List.size_toArray,<- hl]
   exact Option.some.inj h1
  exact subscriptTail_builtinR (x:=w) pl.isList.typeIs slot_list_getitem.lookup
   (wpAny_getItem_list_neg (Q:=fun r s'=>r=w/\EP X pins σ Q r s') pl.isList (by omega) (by rw [List.size_toArray] <;> omega) (by omega) (by rw [hj];simpa using ew) ⟨rfl,fin⟩) hs
theorem ix_tup:IxR X (rIxT X.K):=by
 intro value slice pins s σ H x y v u Q I rx ry h hs
 obtain⟨p,xs,i,z,rfl,rfl,hq,he,q⟩:=h
 cases rx
 obtain⟨t,rfl⟩:=ry
 obtain⟨its,r,pl,hz⟩:=I.tuple hq
 obtain⟨j,h1,h2,h3,h4,h5⟩:=atI_get he
 obtain⟨w,ew,rw'⟩:=r.get h2
 have hl:=r.length
 have hn:=line63
 have fin:EP X pins σ Q w s:=⟨z,H,I,rw',q⟩
 exact subscriptTail_builtinR (x:=w) pl.typeIs slot_tuple_getitem.lookup
  (getItem_tuple (j:=j) (Q:=fun r s'=>r=w/\EP X pins σ Q r s') pl (by omega) (by omega) (by rw [List.size_toArray,<- hl];exact h1) (by simpa using ew) ⟨rfl,fin⟩) hs
theorem ix_str:IxR X rIxS:=by
 intro value slice pins s σ H x y v u Q I rx ry h hs
 obtain⟨z,i,c,rfl,rfl,hz,he,q⟩:=h
 obtain⟨t,rfl⟩:=rx
 obtain⟨t',rfl⟩:=ry
 obtain⟨j,h1,h2,h3,h4,h5⟩:=atI_get he
 have hl:z.cps.toList.length=z.length:=by simp [Str.length]
 rw [hl] at h1 h4 h5
 have hn:=line63
 exact tail_any (typeIs_str s z t) slot_str_getitem.lookup (getItem_str (c:=c) (by
  have e1:decide (i < -(2 ^ 63:Int))=false:=decide_eq_false (by omega)
  have e2:decide (i ≥ 2 ^ 63)=false:=decide_eq_false (by omega)
  rw [e1,e2,Bool.or_false]) (by rw [h1];simpa using h2) ⟨.str ⟨#[c]⟩,H,I.tok _,⟨_,rfl⟩,q⟩) hs
theorem Inv.lst {pins:List (Addr×Obj)}{σ:St}{H:Hp}{s:Shared}{p:Addr}{xs:List V} (I:Inv X pins σ H s) (h:H p=some (.lst xs)) :
  ∃(its:List Value) (n:Nat),Vals xs its/\s.heap.get? p=some { cls:=.type "list",data:=.seq its.toArray n }/\xs.length≤sizeLine:=by
 obtain⟨z,its,n,r,e⟩:=I.hok p _ h
 exact⟨its,n,r,e,z⟩
theorem slice_bounds (lo hi:Option Int) (n:Nat):(sliceBounds lo hi none n).1=((HT.sIx n 0 lo:Nat):Int)/\(sliceBounds lo hi none n).2.1=((HT.sIx n n hi:Nat):Int)/\(sliceBounds lo hi none n).2.2=1:=by
 refine⟨?_,?_,rfl⟩
 ·cases lo with
  | none=>simp [sliceBounds,HT.sIx]
  | some i=>
   simp only [sliceBounds,HT.sIx,Option.getD_none,show (1:Int) > 0 by decide,if_true]
   by_cases h:i < 0
   ·simp only [h,if_true] <;> omega
   ·simp only [h,if_false] <;> omega
 ·cases hi with
  | none=>simp [sliceBounds,HT.sIx]
  | some i=>
   simp only [sliceBounds,HT.sIx,Option.getD_none,show (1:Int) > 0 by decide,if_true]
   by_cases h:i < 0
   ·simp only [h,if_true] <;> omega
   ·simp only [h,if_false] <;> omega
theorem slicePick_cut (its:List Value) (lo hi:Option Int):slicePick its.toArray lo hi none=((its.drop (HT.sIx its.length 0 lo)).take (HT.sIx its.length its.length hi-HT.sIx its.length 0 lo)).toArray:=by
 obtain⟨h1,h2,h3⟩:=slice_bounds lo hi its.toArray.size
 unfold slicePick
 rw [h1,h2,h3]
 simp only [sliceRange_one,pick_run,List.size_toArray] <;> rfl
noncomputable def rSlL (K:PySem.W.Frag):V->Option Int->Option Int->Hp->VK->Prop:=fun x lo hi H Q=>∃a xs,x=.ref a/\SqL K H a xs/\∀p,H p=none->Q (.ref p) (upd H p (.lst (cutV xs lo hi)))
theorem sl_list:SlR X (rSlL X.K):=by
 intro pins s σ H x v vl vu lo hi sl Q I rx hs pl pu h
 obtain⟨a,xs,rfl,hx,q⟩:=h
 cases rx
 obtain⟨its,r,ht,hz⟩:=I.list hx
 have hlen:=r.length
 refine⟨"list",_,slot_list_getitem.lookup,ht.isList.typeIs,?_⟩
 refine wpAny_getItem_list_slice ht.isList hs pl pu .none (by simp) ?_ (by rw [List.size_toArray] <;> omega)
 rw [slicePick_cut,<- hlen]
 refine⟨.ref s.heap.objs.size,_,I.laid (t':=s.toks) (o:=.lst (cutV xs lo hi)) (fun b ob q=>Heap.get?_push_of_some _ q) (Nat.le_refl _) ?_,rfl,q _ (I.hok.fresh (Nat.le_refl _))⟩
 exact⟨Nat.le_trans (cutV_length xs lo hi) hz,_,0,(r.drop (HT.sIx xs.length 0 lo)).take (HT.sIx xs.length xs.length hi-HT.sIx xs.length 0 lo),Heap.get?_push_size _ rfl⟩
theorem call_len_seq:CallR X (.builtin "len") (fun xs H Q=>∃p ys,xs=[.ref p]/\(SqL X.K H p ys\/SqT X.K H p ys)/\Q (.int ys.length) H):=by
 intro pins s σ H xs us Q I r h
 obtain⟨p,ys,rfl,hq,q⟩:=h
 obtain⟨u,rfl,rx⟩:=vals1 r
 cases rx
 have hn:=line63
 rcases hq with hq | hq
 ·obtain⟨its,r',pl,hz⟩:=I.list hq
  have hlen:=r'.length
  exact Calls.call_len_list pl.isList (by simp only [List.size_toArray] <;> omega) ⟨.int ys.length,H,I.tok _,⟨s.toks+1,by rw [List.size_toArray,hlen]⟩,q⟩
 ·obtain⟨its,r',pl,hz⟩:=I.tuple hq
  have hlen:=r'.length
  exact len_tuple pl (by simp only [List.size_toArray] <;> omega) ⟨.int ys.length,H,I.tok _,⟨s.toks+1,by rw [List.size_toArray,hlen]⟩,q⟩
theorem call_len_str:CallR X (.builtin "len") (fun xs H Q=>∃z,xs=[.str z]/\z.length≤sizeLine/\Q (.int z.length) H):=by
 intro pins s σ H xs us Q I r h
 obtain⟨z,rfl,hz,q⟩:=h
 obtain⟨u,rfl,t,rfl⟩:=vals1 r
 have hn:=line63
 exact len_str (by omega) ⟨.int z.length,H,I.tok _,⟨_,rfl⟩,q⟩
theorem CallR.or {f:Value}{r r':List V->Hp->VK->Prop} (h:CallR X f r) (h':CallR X f r'):CallR X f (fun xs H Q=>r xs H Q\/r' xs H Q):=by
 intro pins s σ H xs us Q I rs q
 rcases q with q | q
 ·exact h pins s σ H xs us Q I rs q
 ·exact h' pins s σ H xs us Q I rs q
noncomputable def tyV (K:PySem.W.Frag) (T:String) (x:V) (H:Hp):Prop:=match x with
 | .str _=>T="str"
 | .int _=>T="int"
 | .ref p=>(T="list"/\∃xs,SqL K H p xs)\/(T="tuple"/\∃o,K.lookup p=some o/\o.cls=.type "tuple"/\o.dict=none) \/
   (T="dict"/\((∃kvs,H p=some (.dK kvs))\/∃kvs,H p=some (.dT kvs)))\/(T="set"/\∃S n,H p=some (.set S n))
 | _=>False
theorem tyV_is {pins:List (Addr×Obj)}{σ:St}{H:Hp}{s:Shared}{T:String}{x:V}{v:Value} (I:Inv X pins σ H s) (r:RelV x v) (ty:tyV X.K T x H) :
  s.TypeIs v T/\∀a,v=.ref a->∃ob,s.heap.get? a=some ob/\ob.dict=none:=by
 cases x with
 | str z=>
  obtain⟨t,rfl⟩:=r
  cases (show T="str" from ty)
  exact⟨typeIs_str s z t,fun _ e=>nomatch e⟩
 | int i=>
  obtain⟨t,rfl⟩:=r
  cases (show T="int" from ty)
  exact⟨typeIs_int s i t,fun _ e=>nomatch e⟩
 | ref p=>
  cases r
  rcases ty with ⟨rfl,xs,hq⟩ | ⟨rfl,o,hk,hc,hd⟩ | ⟨rfl,hk⟩ | ⟨rfl,S,n,hk⟩
  ·obtain⟨its,_,pl,_⟩:=I.list hq
   refine⟨pl.isList.typeIs,fun a e=>?_⟩
   cases e
   obtain⟨o,n,e,c,hd,_⟩:=pl
   exact⟨o,e,hd⟩
  ·refine⟨⟨o,I.kIn p o hk,hc⟩,fun a e=>?_⟩
   cases e
   exact⟨o,I.kIn _ o hk,hd⟩
  ·have z:∃o,s.heap.get? p=some o/\o.ExactDict:=by
    rcases hk with ⟨kvs,hk⟩ | ⟨kvs,hk⟩
    ·obtain⟨_,_,_,_,o,_,_,e,ex,_⟩:=I.hok p _ hk
     exact⟨o,e,ex⟩
    ·obtain⟨_,_,_,_,o,_,_,e,ex,_⟩:=I.hok p _ hk
     exact⟨o,e,ex⟩
   obtain⟨o,e,ex⟩:=z
   refine⟨⟨o,e,ex.1⟩,fun a e2=>?_⟩
   cases e2
   exact⟨o,e,ex.2.1⟩
  ·obtain⟨o,_,_,_,e,ex,_⟩:=I.hok p _ hk
   refine⟨⟨o,e,ex.1⟩,fun a e2=>?_⟩
   cases e2
   exact⟨o,e,ex.2.1⟩
 | _=>exact False.elim ty
noncomputable def tBM0 (K:PySem.W.Frag) (T:String) (r:V->List V->Hp->VK->Prop) (to:TE):TE:=fun σ H Q=>to σ H fun x H1=>tyV K T x H1/\r x [] H1 Q
noncomputable def tBM (K:PySem.W.Frag) (T:String) (r:V->List V->Hp->VK->Prop) (to:TE) (t:TA):TE:=fun σ H Q=>to σ H fun x H1=>tyV K T x H1/\t σ H1 fun xs H2=>r x xs H2 Q
variable {o e:Expr}{es:List Expr}{to:TE}{t:TA}{name:Str}{apos cpos:Pos}{T id:String}{r:V->List V->Hp->VK->Prop}
theorem pe_bm0 (pa:PlainAttrs T) (slot:Slot T name id) (hty:typeOf (.builtin id)=pure (.type "method_descriptor")) (hm:MtR X id r) (ho:PE X o to)
  (hbase:attributeBase o name X.env (eval o X.env)=eval o X.env:=by rfl) (hline:(apos.endLine == cpos.line)=true:=by rfl):PE X (.Call (.Attribute o name apos) [] [] cpos) (tBM0 X.K T r to):=by
 intro pins s σ H Q I h
 refine wpAny_Call_method0_late hbase hline (thn (ho pins s σ H _ I h) fun v s1 hz=>?_)
 obtain⟨x,H1,I1,r1,ty,q1⟩:=hz
 obtain⟨h1,h2⟩:=tyV_is I1 r1 ty
 exact⟨T,id,pa,slot,hty,h1,h2,Calls.callWith_builtin rfl (PySem.evalArgs_none (hm pins s1 σ H1 x [] v [] Q I1 r1 .nil q1))⟩
theorem pe_bm (pa:PlainAttrs T) (slot:Slot T name id) (hty:typeOf (.builtin id)=pure (.type "method_descriptor")) (hm:MtR X id r) (ho:PE X o to) (ha:PA X (e::es) t)
  (hbase:attributeBase o name X.env (eval o X.env)=eval o X.env:=by rfl)
  (hfew:((backTo cpos (starEach (e::es) X.env)).all (fun x=>!x.1) && (backToKw cpos (keywordEach [] X.env)).all (fun x=>x.1.isSome)
   && decide ((e::es).length+([]:List Keyword).length+(if ([]:List Keyword).isEmpty then 0 else 1) < 30))=true:=by rfl)
  (hline:(apos.endLine == cpos.line)=true:=by rfl) (hs:starEach (e::es) X.env=(false,eval e X.env)::starEach es X.env:=by rfl) (hplain:(backTo cpos (starEach es X.env)).any (·.1)=false:=by rfl) :
  PE X (.Call (.Attribute o name apos) (e::es) [] cpos) (tBM X.K T r to t):=by
 intro pins s σ H Q I h
 refine wpAny_Call_method_late hbase hfew hline rfl (thn (ho pins s σ H _ I h) fun v s1 hz=>?_)
 obtain⟨x,H1,I1,r1,ty,q1⟩:=hz
 obtain⟨h1,h2⟩:=tyV_is I1 r1 ty
 refine⟨T,id,pa,slot,hty,h1,h2,?_⟩
 have hA:=ha cpos pins s1 σ H1 _ I1 q1
 rw [hs] at hA ⊢
 refine Calls.callWith_builtin (by show (false || (backTo cpos (starEach es X.env)).any (·.1))=false;rw [hplain] <;> rfl) (Calls.evalArgs_plain ?_)
 exact thn hA fun us s2 hz=>by obtain⟨vs,H2,I2,r2,q2⟩:=hz;exact hm pins s2 σ H2 x vs v us Q I2 r1 r2 q2
end
end L2
namespace L2
open PySem PySem.Spec PyProof.Rows
noncomputable def MtM (X:Cx) (id:String) (r:V->List V->Hp->VK->Prop):Prop:=
 ∀(pins:List (Addr×Obj)) (s:Shared) (σ:St) (H:Hp) (x:V) (xs:List V) (v:Value) (us:List Value) (Q:VK),Inv X pins σ H s->RelV x v->Vals xs us->r x xs H Q ->
  wpAny (model X.prog X.w) X.A (call (.builtin id) (v::us)) (EP X pins σ Q) X.xe s
theorem Vals.one:∀{x:V}{us:List Value},Vals [x] us->∃u,us=[u]/\RelV x u
 | _,_,.cons r .nil=>⟨_,rfl,r⟩
theorem Vals.two {x y:V}{us:List Value} (h:Vals [x,y] us):∃u v,us=[u,v]/\RelV x u/\RelV y v:=by
 cases h with
 | cons r t=>
  cases t with
  | cons q t=>
   cases t
   exact⟨_,_,rfl,r,q⟩
theorem Vals.zero:∀{us:List Value},Vals [] us->us=[]
 | _,.nil=>rfl
theorem Vals.dropLast {xs:List V}{us:List Value} (h:Vals xs us):Vals xs.dropLast us.dropLast:=by
 induction h with
 | nil=>exact .nil
 | cons r t ih=>
  cases t with
  | nil=>exact .nil
  | cons q t'=>exact .cons r ih
theorem Vals.eraseIdx:∀{xs:List V}{us:List Value} (i:Nat),Vals xs us->Vals (xs.eraseIdx i) (us.eraseIdx i)
 | _,_,_,.nil=>.nil
 | _,_,0,.cons _ t=>t
 | _,_,i+1,.cons r t=>.cons r (Vals.eraseIdx i t)
theorem Vals.reverse {xs:List V}{us:List Value} (h:Vals xs us):Vals xs.reverse us.reverse:=by
 induction h with
 | nil=>exact .nil
 | cons r t ih=>rw [List.reverse_cons,List.reverse_cons];exact Vals.append ih (.cons r .nil)
theorem Vals.rep {xs:List V}{us:List Value} (h:Vals xs us):∀k:Nat,Vals (List.replicate k xs).flatten (List.replicate k us).flatten
 | 0=>.nil
 | k+1=>by
  rw [List.replicate_succ,List.replicate_succ,List.flatten_cons,List.flatten_cons]
  exact Vals.append h (Vals.rep h k)
theorem erase_last {α:Type} (l:List α):l.eraseIdx (l.length-1)=l.dropLast:=by
 induction l with
 | nil=>rfl
 | cons a r ih=>
  cases r with
  | nil=>rfl
  | cons b r=>
   have e:(a::b::r).length-1=((b::r).length-1)+1:=by
    have h1:(a::b::r).length=r.length+2:=rfl
    have h2:(b::r).length=r.length+1:=rfl
    omega
   rw [e,List.eraseIdx_cons_succ,ih]
   all_goals rfl
section
variable {X:Cx}{pins:List (Addr×Obj)}{σ:St}{H:Hp}{s:Shared}{l b:Addr}{xs ys zs:List V}
theorem Inv.lset {its its':List Value}{n:Nat}{f:Array Value->Array Value}{t':Nat} (I:Inv X pins σ H s) (hH:H l=some (.lst xs))
  (e:s.heap.get? l=some { cls:=.type "list",data:=.seq its.toArray n }) (hf:f its.toArray=its'.toArray) (hv:Vals ys its') (hz:ys.length≤sizeLine) :
  Inv X pins σ (upd H l (.lst ys)) { s with heap:=s.heap.update l (Obj.mapSeq f),toks:=t' }:=by
 have q:=PySem.IsL.update e f
 rw [hf] at q
 refine I.write (x:=l) (e:=l) (by rw [hH];exact trivial) (.inl rfl) (fun b' u hb hu=>(Heap.get?_update_other s.heap (Obj.mapSeq f) (Ne.symm hb)).trans hu) ⟨_,q⟩ ?_
 exact⟨hz,its',_,hv,q⟩
theorem Inv.lnew {its:List Value}{t':Nat} (I:Inv X pins σ H s) (hv:Vals ys its) (hz:ys.length≤sizeLine) :
  Inv X pins σ (upd H s.heap.objs.size (.lst ys)) { s with heap:=s.heap.push { cls:=.type "list",data:=.seq its.toArray },toks:=t' }:=
 I.laid (fun _ _ q=>Heap.get?_push_of_some _ q) (Nat.le_refl _) ⟨hz,its,0,hv,Heap.get?_push_size _ rfl⟩
theorem Inv.fresh (I:Inv X pins σ H s):H s.heap.objs.size=none:=I.hok.fresh (Nat.le_refl _)
theorem Inv.lstM (I:Inv X pins σ H s) (hH:H l=some (.lst xs)):xs.length≤sizeLine/\∃(its:List Value) (n:Nat),Vals xs its/\xs.length=its.length/\s.heap.get? l=some { cls:=.type "list",data:=.seq its.toArray n }:=by
 obtain⟨z,its,n,r,e⟩:=I.hok l _ hH
 exact⟨z,its,n,r,r.length,e⟩
theorem notLongL {n:Nat} (h:n≤sizeLine):Builtin.List.listTooLong n=false:=by
 unfold Builtin.List.listTooLong
 exact decide_eq_false (by omega)
end
section
variable {X:Cx}
noncomputable def rAppend:V->List V->Hp->VK->Prop:=fun x vs H Q=>∃l xs y,x=.ref l/\vs=[y]/\H l=some (.lst xs)/\xs.length < sizeLine/\Q .non (upd H l (.lst (xs++[y])))
theorem mt_append:MtM X "list.append" rAppend:=by
 intro pins s σ H x vs v us Q I rx rv h
 obtain⟨l,xs,y,rfl,rfl,hH,hz,q⟩:=h
 cases rx
 obtain⟨u,rfl,ru⟩:=rv.one
 obtain⟨z,its,n,r,hl,e⟩:=I.lstM hH
 refine call_meets F.slot_list_append ⟨_,e,rfl⟩ F.entry_list_append (F.args_list_append_2 _ _) (PySem.list_append l its.toArray n u (by rw [List.size_toArray];omega)) ⟨e,?_⟩
 refine⟨.non,_,I.lset (its':=its++[u]) hH e (by simp) (r.append (.cons ru .nil)) ?_,rfl,q⟩
 rw [List.length_append,List.length_singleton]
 omega
noncomputable def rExtend:V->List V->Hp->VK->Prop:=fun x vs H Q=>∃l b xs zs,x=.ref l/\vs=[.ref b]/\H l=some (.lst xs)/\H b=some (.lst zs)/\xs.length+zs.length≤sizeLine/\Q .non (upd H l (.lst (xs++zs)))
theorem mt_extend:MtM X "list.extend" rExtend:=by
 intro pins s σ H x vs v us Q I rx rv h
 obtain⟨l,b,xs,zs,rfl,rfl,hH,hB,hz,q⟩:=h
 cases rx
 obtain⟨u,rfl,ru⟩:=rv.one
 cases ru
 obtain⟨z,its,n,r,hl,e⟩:=I.lstM hH
 obtain⟨z2,its2,n2,r2,hl2,e2⟩:=I.lstM hB
 have hsz:its.toArray.size+its2.toArray.size≤sizeLine:=by rw [List.size_toArray,List.size_toArray];omega
 have hlong:¬(!its.toArray.isEmpty && Builtin.List.listTooLong (its.toArray.size+its2.toArray.size))=true:=by
  rw [notLongL hsz,Bool.and_false]
  exact Bool.false_ne_true
 refine call_meets F.slot_list_extend ⟨_,e,rfl⟩ F.entry_list_extend (F.args_list_extend_2 _ _)
  (AutoSeq1.list_extend_list_list_0 l its.toArray n b its2.toArray n2 hlong (by rw [List.size_toArray];omega) (by omega)) ⟨e,e2,?_⟩
 refine⟨.non,_,I.lset (its':=its++its2) hH e (by simp) (r.append r2) ?_,rfl,q⟩
 rw [List.length_append]
 omega
noncomputable def rPop:V->List V->Hp->VK->Prop:=fun x vs H Q=>∃l xs y,x=.ref l/\vs=[]/\H l=some (.lst xs)/\xs[xs.length-1]? = some y/\Q y (upd H l (.lst xs.dropLast))
theorem mt_pop:MtM X "list.pop" rPop:=by
 intro pins s σ H x vs v us Q I rx rv h
 obtain⟨l,xs,y,rfl,rfl,hH,hy,q⟩:=h
 cases rx
 have hus:=rv.zero
 subst hus
 obtain⟨z,its,n,r,hl,e⟩:=I.lstM hH
 obtain⟨u,hu,ru⟩:=r.get hy
 have hy':its.toArray[its.toArray.size-1]? = some u:=by
  show its.toArray[its.length-1]? = some u
  rw [<- Array.getElem?_toList,<- hl]
  exact hu
 refine call_meets F.slot_list_pop ⟨_,e,rfl⟩ F.entry_list_pop (F.args_list_pop_1 _) (MeetsSeq.list_pop_last l its.toArray n u hy' (by rw [List.size_toArray];omega)) ⟨e,?_⟩
 refine⟨y,_,I.lset (its':=its.dropLast) hH e ?_ r.dropLast ?_,ru,q⟩
 ·show its.toArray.eraseIdxIfInBounds (its.toArray.size-1)=its.dropLast.toArray
  rw [List.size_toArray,List.eraseIdxIfInBounds_toArray,erase_last]
 ·rw [List.length_dropLast]
  omega
noncomputable def rCat:R2:=fun x y H Q=>∃l b xs zs,x=.ref l/\y=.ref b/\H l=some (.lst xs)/\H b=some (.lst zs)/\xs.length+zs.length≤sizeLine/\∀p,H p=none->Q (.ref p) (upd H p (.lst (xs++zs)))
theorem op_cat:OpR X (binaryOp .Add) rCat:=by
 intro pins s σ H x y v u Q I rx ry h
 obtain⟨l,b,xs,zs,rfl,rfl,hH,hB,hz,q⟩:=h
 cases rx
 cases ry
 obtain⟨z,its,n,r,hl,e⟩:=I.lstM hH
 obtain⟨z2,its2,n2,r2,hl2,e2⟩:=I.lstM hB
 refine PySem.P.add_list e e2 ?_ (by rw [List.size_toArray,List.size_toArray];omega)
 have ea:its.toArray++its2.toArray=(its++its2).toArray:=by simp
 rw [ea]
 exact⟨.ref _,_,I.lnew (t':=s.toks) (r.append r2) (by rw [List.length_append];omega),rfl,q _ I.fresh⟩
end
section
variable {prog:Program}{w:World}{A:Around}{E:Value->Shared->Prop}{s:Shared}
end
section
variable {X:Cx}
end
end L2
namespace L2
open PySem PySem.Spec PyProof.Rows
section
variable {κ:Type} [DecidableEq κ]
noncomputable def valV (kvs:List (κ×V)) (k:κ):Option V:=(kvs.find? fun kv=>decide (kv.1=k)).map (·.2)
noncomputable def putK (kvs:List (κ×V)) (k:κ) (v:V):List (κ×V):=
 if (kvs.any fun kv=>decide (kv.1=k))=true then kvs.map (fun kv=>if kv.1=k then (kv.1,v) else kv) else kvs++[(k,v)]
noncomputable def dropK (kvs:List (κ×V)) (k:κ):List (κ×V):=kvs.filter fun kv=>decide (kv.1≠k)
theorem valV_pos {p:κ×V}{r:List (κ×V)}{k:κ} (e:p.1=k):valV (p::r) k=some p.2:=by simp [valV,List.find?_cons,e]
theorem valV_neg {p:κ×V}{r:List (κ×V)}{k:κ} (e:¬p.1=k):valV (p::r) k=valV r k:=by simp [valV,List.find?_cons,e]
theorem valV_any (k:κ):∀kvs:List (κ×V),(kvs.any fun kv=>decide (kv.1=k))=(valV kvs k).isSome
 | []=>rfl
 | p::r=>by
  rw [List.any_cons]
  by_cases e:p.1=k
  ·simp only [valV_pos e,decide_eq_true e,Bool.true_or,Option.isSome_some]
  ·rw [valV_neg e,decide_eq_false e,Bool.false_or];exact valV_any k r
theorem length_putK (kvs:List (κ×V)) (k:κ) (v:V):(putK kvs k v).length≤kvs.length+1:=by
 unfold putK
 split
 ·rw [List.length_map];omega
 ·rw [List.length_append,List.length_cons,List.length_nil];omega
theorem putK_new {kvs:List (κ×V)}{k:κ} (v:V) (h:valV kvs k=none):putK kvs k v=kvs++[(k,v)]:=by
 unfold putK
 rw [valV_any,h]
 exact if_neg (by decide)
theorem RelO.isSome_eq {o:Option V}{u:Option Value} (r:RelO o u):o.isSome=u.isSome:=by
 cases o with
 | none=>cases u with
  | none=>rfl
  | some _=>exact (show False from r).elim
 | some _=>cases u with
  | none=>exact (show False from r).elim
  | some _=>rfl
theorem RelO.getD {o:Option V}{u:Option Value}{d:V}{d':Value} (r:RelO o u) (rd:RelV d d'):RelV (o.getD d) (u.getD d'):=by
 cases o with
 | none=>cases u with
  | none=>exact rd
  | some _=>exact (show False from r).elim
 | some _=>cases u with
  | none=>exact (show False from r).elim
  | some _=>exact r
theorem KV.val {kvs:List (κ×V)}{vs:List (κ×Value)} (r:KV kvs vs) (k:κ):RelO (valV kvs k) (valueAt vs k):=by
 unfold KV at r
 induction r with
 | nil=>exact True.intro
 | @cons p q ps qs h t ih=>
  obtain⟨h1,h2⟩:=h
  by_cases e:p.1=k
  ·have e':q.1=k:=h1.symm.trans e
   have b:valueAt (q::qs) k=some q.2:=by simp [valueAt,List.find?_cons,e']
   rw [valV_pos e,b];exact h2
  ·have e':¬q.1=k:=fun z=>e (h1.trans z)
   have b:valueAt (q::qs) k=valueAt qs k:=by simp [valueAt,List.find?_cons,e']
   rw [valV_neg e,b];exact ih
theorem KV.any {kvs:List (κ×V)}{vs:List (κ×Value)} (r:KV kvs vs) (k:κ):(kvs.any fun kv=>decide (kv.1=k))=vs.any fun kv=>decide (kv.1=k):=by
 unfold KV at r
 induction r with
 | nil=>rfl
 | cons h t ih=>rw [List.any_cons,List.any_cons,ih,h.1]
theorem KV.repl {kvs:List (κ×V)}{vs:List (κ×Value)} (r:KV kvs vs) (k:κ) {y:V}{u:Value} (ry:RelV y u) :
  KV (kvs.map fun kv=>if kv.1=k then (kv.1,y) else kv) (vs.map fun kv=>if kv.1=k then (kv.1,u) else kv):=by
 unfold KV at r ⊢
 induction r with
 | nil=>exact .nil
 | @cons p q ps qs h t ih=>
  rw [List.map_cons,List.map_cons]
  refine .cons ?_ ih
  obtain⟨h1,h2⟩:=h
  by_cases e:p.1=k
  ·rw [if_pos e,if_pos (h1.symm.trans e)];exact⟨h1,ry⟩
  ·rw [if_neg e,if_neg (fun z=>e (h1.trans z))];exact⟨h1,h2⟩
theorem KV.put {kvs:List (κ×V)}{vs:List (κ×Value)} (r:KV kvs vs) (k:κ) {y:V}{u:Value} (ry:RelV y u):KV (putK kvs k y) (stored vs k u):=by
 unfold putK stored
 rw [r.any k]
 by_cases e:(vs.any fun kv=>decide (kv.1=k))=true
 ·rw [if_pos e,if_pos e];exact r.repl k ry
 ·rw [if_neg e,if_neg e];exact Paired.snoc r ⟨rfl,ry⟩
theorem KV.drop {kvs:List (κ×V)}{vs:List (κ×Value)} (r:KV kvs vs) (k:κ):KV (dropK kvs k) (without vs k):=by
 unfold KV at r ⊢
 unfold dropK without
 induction r with
 | nil=>exact .nil
 | @cons p q ps qs h t ih=>
  obtain⟨h1,h2⟩:=h
  rw [List.filter_cons,List.filter_cons]
  by_cases e:p.1=k
  ·have a:¬decide (p.1≠k)=true:=by simp [e]
   have b:¬decide (q.1≠k)=true:=by simp [h1.symm.trans e]
   rw [if_neg a,if_neg b];exact ih
  ·have e':¬q.1=k:=fun z=>e (h1.trans z)
   have a:decide (p.1≠k)=true:=by simp [e]
   have b:decide (q.1≠k)=true:=by simp [e']
   rw [if_pos a,if_pos b];exact .cons ⟨h1,h2⟩ ih
theorem KV.keys {kvs:List (κ×V)}{vs:List (κ×Value)} (r:KV kvs vs):kvs.map (·.1)=vs.map (·.1):=by
 unfold KV at r
 induction r with
 | nil=>rfl
 | cons h t ih=>rw [List.map_cons,List.map_cons,ih,h.1]
theorem KV.length {kvs:List (κ×V)}{vs:List (κ×Value)} (r:KV kvs vs):kvs.length=vs.length:=Paired.length r
end
theorem kV_is {P:Program}{w:World}{k:Key}{u:Value} (r:RelV (kV k) u):(mixKind P w).is k u=true:=by
 cases k with
 | inl i=>obtain⟨t,e⟩:=(show ∃t,u=Value.int i t from r);subst e;exact mixKind_int P w i t
 | inr x=>obtain⟨t,e⟩:=(show ∃t,u=Value.str x t from r);subst e;exact mixKind_str P w x t
theorem items_are {P:Program}{w:World}:∀{ks:List Key}{us:List Value},Vals (ks.map kV) us->ItemsAre (mixKind P w) ks us
 | [],_,r=>by rw [List.map_nil] at r;cases r;exact .nil
 | k::ks,_,r=>by
  rw [List.map_cons] at r
  cases r with
  | cons h t=>exact .cons (kV_is h) (items_are t)
noncomputable abbrev KT (H:Hp):List (List Key×V)->List (List Key×Addr×Value)->Prop:=Paired fun p q=>p.1=q.1/\H q.2.1=some (.tup (p.1.map kV))/\RelV p.2 q.2.2
theorem KT.val {H:Hp}{kvs:List (List Key×V)}{xs:List (List Key×Addr×Value)} (r:KT H kvs xs) (k:List Key):RelO (valV kvs k) ((atKey xs k).map (·.2)):=by
 induction r with
 | nil=>exact True.intro
 | @cons p q ps qs h t ih=>
  obtain⟨h1,_,h2⟩:=h
  by_cases e:p.1=k
  ·have e':q.1=k:=h1.symm.trans e
   have b:atKey (q::qs) k=some q.2:=by simp [atKey,List.find?_cons,e']
   rw [valV_pos e,b];exact h2
  ·have e':¬q.1=k:=fun z=>e (h1.trans z)
   have b:atKey (q::qs) k=atKey qs k:=by simp [atKey,List.find?_cons,e']
   rw [valV_neg e,b];exact ih
theorem KT.repl {H:Hp}{kvs:List (List Key×V)}{xs:List (List Key×Addr×Value)} (r:KT H kvs xs) (k:List Key) {y:V}{u:Value} (ry:RelV y u) :
  KT H (kvs.map fun kv=>if kv.1=k then (kv.1,y) else kv) (xs.map (putAt k u)):=by
 induction r with
 | nil=>exact .nil
 | @cons p q ps qs h t ih=>
  rw [List.map_cons,List.map_cons]
  refine .cons ?_ ih
  obtain⟨h1,h2,h3⟩:=h
  unfold putAt
  by_cases e:p.1=k
  ·rw [if_pos e,if_pos (h1.symm.trans e)];exact⟨h1,h2,ry⟩
  ·rw [if_neg e,if_neg (fun z=>e (h1.trans z))];exact⟨h1,h2,h3⟩
theorem KT.put {H:Hp}{kvs:List (List Key×V)}{xs:List (List Key×Addr×Value)} (r:KT H kvs xs) (k:List Key) {b:Addr}{y:V}{u:Value} (hb:H b=some (.tup (k.map kV))) (ry:RelV y u) :
  KT H (putK kvs k y) (storedH xs k b u):=by
 have e:(kvs.any fun kv=>decide (kv.1=k))=(atKey xs k).isSome:=by
  rw [valV_any,(r.val k).isSome_eq,Option.isSome_map]
 unfold putK storedH
 rw [e]
 by_cases q:(atKey xs k).isSome=true
 ·rw [if_pos q,if_pos q];exact r.repl k ry
 ·rw [if_neg q,if_neg q];exact Paired.snoc r ⟨rfl,hb,ry⟩
theorem KT.keeps {H H':Hp}{kvs:List (List Key×V)}{xs:List (List Key×Addr×Value)} (r:KT H kvs xs) (ht:∀b ys,H b=some (.tup ys)->H' b=some (.tup ys)):KT H' kvs xs:=
 Paired.mapP r fun _ _ z=>⟨z.1,ht _ _ z.2.1,z.2.2⟩
section
variable {P:Program}{w:World}{H:Hp}{h:Heap}{a:Addr}
theorem rd_of {u:HO} (ok:HOk P w H h) (e:Rd H a u):ObjOk P w H h a u:=e.ok ok
theorem dk_rd {kvs:List (Key×V)} (ok:HOk P w H h) (e:Rd H a (.dK kvs)):kvs.length≤sizeLine/\(a == sysModules)=false/\∃vs,KV kvs vs/\h.DictOf (mixKind P w) a vs:=
 show ObjOk P w H h a (.dK kvs) from rd_of ok e
theorem dk_of {kvs:List (Key×V)} (ok:HOk P w H h) (e:H a=some (.dK kvs)):kvs.length≤sizeLine/\(a == sysModules)=false/\∃vs,KV kvs vs/\h.DictOf (mixKind P w) a vs:=dk_rd ok (.inl e)
theorem key_of {ks:List Key} (ok:HOk P w H h) (e:H a=some (.tup (ks.map kV))):(tupleKind (mixKind P w)).is h ks a:=by
 obtain⟨_,its,r,o,h1,h2,n,h3⟩:=(show ObjOk P w H h a (.tup (ks.map kV)) from ok a _ e)
 exact⟨o,its.toArray,n,h1,h2,h3,by simpa using items_are r⟩
theorem dt_rd {kvs:List (List Key×V)} (ok:HOk P w H h) (e:Rd H a (.dT kvs)):kvs.length≤sizeLine/\(a == sysModules)=false /\
  ∃xs,KT H kvs xs/\h.DictOfH (tupleKind (mixKind P w)) a xs:=by
 obtain⟨z,y,xs,r,o,es,ep,h1,h2,h3,h4,h5⟩:=(show ObjOk P w H h a (.dT kvs) from rd_of ok e)
 refine⟨z,y,xs,r,o,es,ep,h1,h2,h3,h4,fun x hx=>?_,h5⟩
 have all:∀{l:List (List Key×V)}{m:List (List Key×Addr×Value)},KT H l m->∀x ∈ m,(tupleKind (mixKind P w)).is h x.1 x.2.1:=by
  intro l m q
  induction q with
  | nil=>intro x hx;exact nomatch hx
  | @cons p q ps qs hq t ih=>
   intro x hx
   rcases List.mem_cons.mp hx with e | hx
   ·subst e
    exact key_of ok (by rw [<- hq.1];exact hq.2.1)
   ·exact ih x hx
 exact all r x hx
theorem dt_of {kvs:List (List Key×V)} (ok:HOk P w H h) (e:H a=some (.dT kvs)):kvs.length≤sizeLine/\(a == sysModules)=false /\
  ∃xs,KT H kvs xs/\h.DictOfH (tupleKind (mixKind P w)) a xs:=dt_rd ok (.inl e)
end
noncomputable def DGet (H:Hp) (a:Addr) (y:V) (r:Option V):Prop:=
 (∃kvs k,Rd H a (.dK kvs)/\y=kV k/\r=valV kvs k)\/∃kvs k b,Rd H a (.dT kvs)/\y=.ref b/\H b=some (.tup (k.map kV))/\r=valV kvs k
noncomputable def DPut (H:Hp) (a:Addr) (y v:V) (H':Hp):Prop:=
 (∃kvs k,H a=some (.dK kvs)/\y=kV k/\kvs.length < sizeLine/\H'=upd H a (.dK (putK kvs k v))) \/
 ∃kvs k b,H a=some (.dT kvs)/\y=.ref b/\H b=some (.tup (k.map kV))/\kvs.length < sizeLine/\H'=upd H a (.dT (putK kvs k v))
theorem DGet.k {H:Hp}{a:Addr}{kvs:List (Key×V)}{k:Key} (e:H a=some (.dK kvs)):DGet H a (kV k) (valV kvs k):=.inl ⟨kvs,k,.inl e,rfl,rfl⟩
theorem DGet.t {H:Hp}{a b:Addr}{kvs:List (List Key×V)}{k:List Key} (e:H a=some (.dT kvs)) (eb:H b=some (.tup (k.map kV))):DGet H a (.ref b) (valV kvs k):=.inr ⟨kvs,k,b,.inl e,rfl,eb,rfl⟩
theorem DPut.k {H:Hp}{a:Addr}{kvs:List (Key×V)}{k:Key}{v:V} (e:H a=some (.dK kvs)) (hl:kvs.length < sizeLine):DPut H a (kV k) v (upd H a (.dK (putK kvs k v))):=.inl ⟨kvs,k,e,rfl,hl,rfl⟩
theorem DPut.t {H:Hp}{a b:Addr}{kvs:List (List Key×V)}{k:List Key}{v:V} (e:H a=some (.dT kvs)) (eb:H b=some (.tup (k.map kV))) (hl:kvs.length < sizeLine) :
  DPut H a (.ref b) v (upd H a (.dT (putK kvs k v))):=.inr ⟨kvs,k,b,e,rfl,eb,hl,rfl⟩
section
variable {X:Cx}{pins:List (Addr×Obj)}{σ:St}{H:Hp}{s:Shared}{a:Addr}{y v:V}{u r:Value}{o:Option V}{A:Around}{E:Value->Shared->Prop}
theorem Inv.big (I:Inv X pins σ H s):sysModules < s.heap.objs.size:=by
 have h:mainGlobals < s.heap.objs.size:=(I.mod.glob.keeps I.bk).lt
 exact Nat.lt_trans (by decide) h
theorem d_getItem {Q:Value->Shared->Prop} (hu:A.units+1 < cLine) (I:Inv X pins σ H s) (g:DGet H a y (some v)) (ry:RelV y u) (h:∀w' s',Inv X pins σ H s'->RelV v w'->Q w' s') :
  wpAny (model X.prog X.w) A (getItem (.ref a) u) Q E s:=by
 rcases g with ⟨kvs,k,e,ey,l⟩ | ⟨kvs,k,b,e,ey,eb,l⟩
 ·subst ey
  obtain⟨z,hd,vs,rel,dd⟩:=dk_rd I.hok e
  obtain⟨w',hw,rw'⟩:=RelO.some_of (v:=v) (o:=valueAt vs k) (by rw [l];exact rel.val k)
  exact wpAny_getItem_of (kV_is ry) dd.mapOf hw (h w' _ (I.tok _) rw')
 ·subst ey
  cases (show u=Value.ref b from ry)
  obtain⟨z,hd,xs,rel,dd⟩:=dt_rd I.hok e
  obtain⟨w',hw,rw'⟩:=RelO.some_of (v:=v) (o:=(atKey xs k).map (·.2)) (by rw [l];exact rel.val k)
  obtain⟨p,hp,hp2⟩:=Option.map_eq_some_iff.mp hw
  refine wpAny_getItem_heap (tupleKind_room_in1 hu) (key_of I.hok eb) dd hp ?_
  rw [hp2]
  exact h w' _ (I.tok _) rw'
theorem d_in {Q:Value->Shared->Prop} (hu:A.units+1 < cLine) (I:Inv X pins σ H s) (g:DGet H a y o) (ry:RelV y u) (h:∀s',Inv X pins σ H s'->Q (.bool o.isSome) s') :
  wpAny (model X.prog X.w) A (compareOp .In u (.ref a)) Q E s:=by
 rcases g with ⟨kvs,k,e,ey,l⟩ | ⟨kvs,k,b,e,ey,eb,l⟩
 ·subst ey
  obtain⟨z,hd,vs,rel,dd⟩:=dk_rd I.hok e
  refine wpAny_in_of (kV_is ry) hd dd.mapOf ?_
  rw [<- (rel.val k).isSome_eq,<- l]
  exact h _ (I.tok _)
 ·subst ey
  cases (show u=Value.ref b from ry)
  obtain⟨z,hd,xs,rel,dd⟩:=dt_rd I.hok e
  refine wpAny_in_heap (tupleKind_room_in1 hu) (key_of I.hok eb) hd dd ?_
  have q:=(rel.val k).isSome_eq
  rw [Option.isSome_map] at q
  rw [<- q,<- l]
  exact h _ (I.tok _)
theorem d_notIn {Q:Value->Shared->Prop} (hu:A.units+1 < cLine) (I:Inv X pins σ H s) (g:DGet H a y o) (ry:RelV y u) (h:∀s',Inv X pins σ H s'->Q (.bool (!o.isSome)) s') :
  wpAny (model X.prog X.w) A (compareOp .NotIn u (.ref a)) Q E s:=by
 rcases g with ⟨kvs,k,e,ey,l⟩ | ⟨kvs,k,b,e,ey,eb,l⟩
 ·subst ey
  obtain⟨z,hd,vs,rel,dd⟩:=dk_rd I.hok e
  refine wpAny_notIn_of (kV_is ry) hd dd.mapOf ?_
  rw [<- (rel.val k).isSome_eq,<- l]
  exact h _ (I.tok _)
 ·subst ey
  cases (show u=Value.ref b from ry)
  obtain⟨z,hd,xs,rel,dd⟩:=dt_rd I.hok e
  refine wpAny_notIn_heap (tupleKind_room_in1 hu) (key_of I.hok eb) hd dd ?_
  have q:=(rel.val k).isSome_eq
  rw [Option.isSome_map] at q
  rw [<- q,<- l]
  exact h _ (I.tok _)
theorem d_write {h':Heap}{t':Nat}{ob:HO} (I:Inv X pins σ H s) (mu:Mut (H a)) (hs:Heap.SameBut a s.heap h') (he:∃q,h'.get? a=some q) (new:ObjOk X.prog X.w (upd H a ob) h' a ob) :
  Inv X pins σ (upd H a ob) { s with heap:=h',toks:=t' }:=
 I.write (x:=a) (e:=a) mu (.inl rfl) (fun b q hb z=>(hs.2 b hb).trans z) he new
theorem dk_new {P:Program}{w:World}{H':Hp}{h':Heap}{kvs:List (Key×V)}{vs:List (Key×Value)} (z:kvs.length≤sizeLine) (hd:(a == sysModules)=false) (rel:KV kvs vs) (dd:h'.DictOf (mixKind P w) a vs) :
  ObjOk P w H' h' a (.dK kvs):=⟨z,hd,vs,rel,dd⟩
theorem d_setItem {H':Hp}{Q:Unit->Shared->Prop} (hu:A.units+1 < cLine) (I:Inv X pins σ H s) (g:DPut H a y v H') (ry:RelV y u) (rv:RelV v r) (h:∀s',Inv X pins σ H' s'->Q () s') :
  wpAny (model X.prog X.w) A (setItem (.ref a) u r) Q E s:=by
 rcases g with ⟨kvs,k,e,ey,l,eH⟩ | ⟨kvs,k,b,e,ey,eb,l,eH⟩
 ·subst ey eH
  obtain⟨z,hd,vs,rel,dd⟩:=dk_of I.hok e
  have hz:vs.length≤sizeLine:=by rw [<- rel.length];exact z
  have hl:(putK kvs k v).length≤sizeLine:=by have:=length_putK kvs k v;omega
  refine wpAny_setItem_pairs (hsz:=hz) (kV_is ry) dd fun h' dd' hs=>h _ ?_
  have he:∃q,h'.get? a=some q:=let ⟨q,_,_,hq,_⟩:=dd';⟨q,hq⟩
  exact d_write I (by rw [e];exact True.intro) hs he (dk_new hl hd (rel.put k rv) dd')
 ·subst ey eH
  cases (show u=Value.ref b from ry)
  obtain⟨z,hd,xs,rel,dd⟩:=dt_of I.hok e
  have hz:xs.length≤sizeLine:=by rw [<- Paired.length rel];exact z
  have hl:(putK kvs k v).length≤sizeLine:=by have:=length_putK kvs k v;omega
  refine wpAny_setItem_heap (hsz:=hz) (tupleKind_room_in1 hu) (key_of I.hok eb) dd fun h' dd' hs=>h _ ?_
  obtain⟨q,es,ep,hq,h2,h3,h4,_,h5⟩:=dd'
  refine d_write I (by rw [e];exact True.intro) hs ⟨q,hq⟩ ⟨hl,hd,_,(rel.put k eb rv).keeps fun c ys ec=>?_,q,es,ep,hq,h2,h3,h4,h5⟩
  rw [upd_ne (ne_of ec e (fun z=>nomatch z))]
  exact ec
end
section
variable {X:Cx}{pins:List (Addr×Obj)}{σ:St}{H:Hp}{s:Shared}{a:Addr}{kvs:List (Key×V)}{k:Key}{u:Value}{A:Around}{E:Value->Shared->Prop}
end
noncomputable def sDPut (td ty tv:TE):TS:=fun D σ H=>tv σ H fun v H1=>td σ H1 fun x H2=>ty σ H2 fun y H3=>∃a H4,x=.ref a/\DPut H3 a y v H4/\D.nx σ H4
section
variable {X:Cx}{o i e value:Expr}{pos pos' tpos:Pos}{td ty tv:TE}
theorem ps_dput (hu:X.A.units+1 < cLine) (ho:PE X o td) (hi:PE X i ty) (hv:PE X value tv) (hs:swapsWith value (some (.Subscript o i pos')) pos.line X.env=pure false) :
  PS X (.Assign [.Subscript o i pos'] value pos) (sDPut td ty tv):=by
 intro pins s σ H D I h
 refine wpAny_Assign_Subscript (thn (hv pins s σ H _ I h) fun r s1 ⟨v,H1,I1,rv,q1⟩=>thn (ho pins s1 σ H1 _ I1 q1) fun u s2 ⟨x,H2,I2,rx,q2⟩=>thn (hi pins s2 σ H2 _ I2 q2) fun iv s3 hz=>?_) hs
 obtain⟨y,H3,I3,ry,a,H4,ex,g,q3⟩:=hz
 subst ex
 obtain rfl:u=Value.ref a:=rx
 exact d_setItem hu I3 g ry rv fun s4 I4=>⟨σ,H4,I4,q3⟩
end
theorem dk_empty {P:Program}{w:World}{H:Hp} (h:Heap) (hb:sysModules < h.objs.size):ObjOk P w H (h.push { cls:=.type "dict",data:=.dict #[] }) h.objs.size (.dK []):=
 ⟨Nat.zero_le _,beq_eq_false_iff_ne.mpr (Ne.symm (Nat.ne_of_lt hb)),[],.nil,Heap.DictOf.new h⟩
noncomputable def tDNewK:TE:=fun _ H Q=>∀p,H p=none->Q (.ref p) (upd H p (.dK []))
section
variable {X:Cx}{pos:Pos}
theorem pe_dnewK:PE X (.Dict [] [] pos) tDNewK:=fun pins s σ H Q I h=>
 wpAny_Dict_empty ⟨.ref s.heap.objs.size,_,I.laid (a:=s.heap.objs.size) (o:=.dK []) (t':=s.toks) (fun _ _ q=>Heap.get?_push_of_some _ q) (Nat.le_refl _) (dk_empty s.heap I.big),rfl,h _ (I.hok.fresh (Nat.le_refl _))⟩
end
noncomputable def tPairs:List (TE×TE)->St->Hp->(List (V×V)->Hp->Prop)->Prop
 | [],_,H,Q=>Q [] H
 | (tk,tv)::r,σ,H,Q=>tk σ H fun x H1=>tv σ H1 fun y H2=>tPairs r σ H2 fun ps H3=>Q ((x,y)::ps) H3
noncomputable abbrev VV:List (V×V)->List (Value×Value)->Prop:=Paired fun p q=>RelV p.1 q.1/\RelV p.2 q.2
noncomputable def PPs (X:Cx) (pos:Pos) (keys:List (Option Expr)) (values:List Expr) (trs:List (TE×TE)):Prop:=
 ∀(pins:List (Addr×Obj)) (s:Shared) (σ:St) (H:Hp) (Q:List (V×V)->Hp->Prop),Inv X pins σ H s->tPairs trs σ H Q ->
  wpAny (model X.prog X.w) X.A (evalPairs (pairTrees keys values X.env pos)) (fun vs s'=>∃ps H',Inv X pins σ H' s'/\VV ps vs/\Q ps H') X.xe s
theorem pps_nil {X:Cx}{pos:Pos}:PPs X pos [] [] []:=fun pins s σ H Q I h=>pairTrees_nil_walk ⟨[],H,I,.nil,h⟩
theorem pps_cons {X:Cx}{pos:Pos}{k v:Expr}{ks:List (Option Expr)}{vs:List Expr}{tk tv:TE}{trs:List (TE×TE)} (hk:PE X k tk) (hv:PE X v tv) (hr:PPs X pos ks vs trs) :
  PPs X pos (some k::ks) (v::vs) ((tk,tv)::trs):=fun pins s σ H Q I h=>
 pairTrees_cons_walk (thn (hk pins s σ H _ I h) fun u s1 ⟨x,H1,I1,rx,q1⟩=>thn (hv pins s1 σ H1 _ I1 q1) fun w2 s2 ⟨y,H2,I2,ry,q2⟩=>
  thn (hr pins s2 σ H2 _ I2 q2) fun ws s3 ⟨ps,H3,I3,rel,q3⟩=>⟨(x,y)::ps,H3,I3,.cons ⟨rx,ry⟩ rel,q3⟩)
noncomputable def mergeK (kvs more:List (Key×V)):List (Key×V):=more.foldl (fun acc kv=>putK acc kv.1 kv.2) kvs
theorem KV.merge:∀{more:List (Key×V)}{rs:List (Key×Value)}{kvs:List (Key×V)}{vs:List (Key×Value)},KV more rs->KV kvs vs->KV (mergeK kvs more) (merged vs rs):=by
 intro more rs kvs vs r
 unfold KV at r
 induction r generalizing kvs vs with
 | nil=>intro q;exact q
 | @cons p q ps qs h t ih=>
  intro r0
  have e:KV (putK kvs p.1 p.2) (stored vs q.1 q.2):=by
   have:=r0.put p.1 h.2
   rw [<- h.1];exact this
  exact ih e
theorem length_mergeK:∀(more kvs:List (Key×V)),(mergeK kvs more).length≤kvs.length+more.length
 | [],kvs=>by show kvs.length≤kvs.length+0;omega
 | p::r,kvs=>by
  have h1:=length_mergeK r (putK kvs p.1 p.2)
  have h2:=length_putK kvs p.1 p.2
  show (mergeK (putK kvs p.1 p.2) r).length≤_
  rw [List.length_cons];omega
theorem carries_of {P:Program}{w:World}:∀{kvs:List (Key×V)}{ws:List (Value×Value)},VV (kvs.map fun kv=>(kV kv.1,kv.2)) ws->∃rs,Carries (mixKind P w) ws rs/\KV kvs rs
 | [],_,r=>by rw [List.map_nil] at r;cases r;exact⟨[],True.intro,.nil⟩
 | p::kvs,_,r=>by
  rw [List.map_cons] at r
  cases r with
  | @cons a b as bs h t=>
   obtain⟨rs,c,q⟩:=carries_of (P:=P) (w:=w) t
   obtain⟨b1,b2⟩:=b
   exact⟨(p.1,b2)::rs,⟨kV_is h.1,rfl,c⟩,.cons ⟨rfl,h.2⟩ q⟩
noncomputable def tDisp (trs:List (TE×TE)):TE:=fun σ H Q=>∀p,H p=none->tPairs trs σ (upd H p (.dK [])) fun ps H2=>H2 p=some (.dK [])/\∃kvs:List (Key×V),ps=kvs.map (fun kv=>(kV kv.1,kv.2))/\kvs.length≤15/\Q (.ref p) (upd H2 p (.dK (mergeK [] kvs)))
theorem pe_disp {X:Cx}{pos:Pos}{keys:List (Option Expr)}{values:List Expr}{trs:List (TE×TE)} (h:PPs X pos keys values trs) (hall:keys.all (·.isSome)=true) (hl:keys.length=values.length) (h0:keys≠[])
  (h15:keys.length≤15):PE X (.Dict keys values pos) (tDisp trs):=by
 intro pins s σ H Q I q
 have hn:=I.hok.fresh (Nat.le_refl s.heap.objs.size)
 have I1:=I.laid (a:=s.heap.objs.size) (o:=.dK []) (h':=s.heap.push { cls:=.type "dict",data:=.dict #[] }) (t':=s.toks) (fun _ _ q=>Heap.get?_push_of_some _ q) (Nat.le_refl _) (dk_empty s.heap I.big)
 refine wpAny_Dict_walk (knd:=mixKind X.prog X.w) hall hl h0 h15 (thn (h pins _ σ _ _ I1 (q _ hn)) fun ws s2 hz=>?_)
 obtain⟨ps,H2,I2,rel,e,kvs,ep,lk,q2⟩:=hz
 subst ep
 obtain⟨rs,c,rk⟩:=carries_of (P:=X.prog) (w:=X.w) rel
 obtain⟨z,hd,vs0,r0,dd⟩:=dk_of I2.hok e
 cases r0
 refine⟨rs,c,dd,fun h' dd' hs=>⟨.ref s.heap.objs.size,_,?_,rfl,q2⟩⟩
 have hz:(mergeK [] kvs).length≤sizeLine:=by
  have h1:=length_mergeK kvs []
  rw [List.length_nil] at h1
  rw [sizeLine_eq];omega
 have he:∃q,h'.get? s.heap.objs.size=some q:=let ⟨q,_,_,hq,_⟩:=dd';⟨q,hq⟩
 exact d_write I2 (by rw [e];exact True.intro) hs he (dk_new hz hd (rk.merge .nil) dd')
structure M1 (X:Cx) (o:Expr) (m:Str) (apos:Pos) (e:Expr) (cpos:Pos):Prop where
 base:attributeBase o m X.env (eval o X.env)=eval o X.env
 few:((backTo cpos (starEach [e] X.env)).all (fun x=>!x.1) && (backToKw cpos (keywordEach [] X.env)).all (fun x=>x.1.isSome)
  && decide (([e]:List Expr).length+([]:List Keyword).length+(if ([]:List Keyword).isEmpty then 0 else 1) < 30))=true
 line:(apos.endLine == cpos.line)=true
 trees:backTo cpos (starEach [e] X.env)=[(false,eval e X.env)]
structure M2 (X:Cx) (o:Expr) (m:Str) (apos:Pos) (e f:Expr) (cpos:Pos):Prop where
 base:attributeBase o m X.env (eval o X.env)=eval o X.env
 few:((backTo cpos (starEach [e,f] X.env)).all (fun x=>!x.1) && (backToKw cpos (keywordEach [] X.env)).all (fun x=>x.1.isSome)
  && decide (([e,f]:List Expr).length+([]:List Keyword).length+(if ([]:List Keyword).isEmpty then 0 else 1) < 30))=true
 line:(apos.endLine == cpos.line)=true
 trees:backTo cpos (starEach [e,f] X.env)=[(false,eval e X.env),(false,eval f X.env)]
noncomputable def IsD (H:Hp) (a:Addr):Prop:=(∃kvs,Rd H a (.dK kvs))\/∃kvs,Rd H a (.dT kvs)
theorem isD_at {X:Cx}{pins:List (Addr×Obj)}{σ:St}{H:Hp}{s:Shared}{a:Addr} (I:Inv X pins σ H s) (d:IsD H a) :
  s.TypeIs (.ref a) "dict"/\(∀b,Value.ref a=.ref b->∃ob,s.heap.get? b=some ob/\ob.dict=none)/\(a == sysModules)=false:=by
 rcases d with ⟨kvs,e⟩ | ⟨kvs,e⟩
 ·obtain⟨_,hd,vs,_,dd⟩:=dk_rd I.hok e
  refine⟨dd.typeIs,fun b q=>?_,hd⟩
  cases q
  obtain⟨ob,_,_,h1,h2,_⟩:=dd
  exact⟨ob,h1,h2.2.1⟩
 ·obtain⟨_,hd,xs,_,dd⟩:=dt_rd I.hok e
  refine⟨dd.typeIs,fun b q=>?_,hd⟩
  cases q
  obtain⟨ob,_,_,h1,h2,_⟩:=dd
  exact⟨ob,h1,h2.2.1⟩
section
variable {X:Cx}{pins:List (Addr×Obj)}{σ:St}{H:Hp}{s:Shared}{a:Addr}{y d:V}{u r:Value}{o:Option V}{A:Around}{E:Value->Shared->Prop}
theorem d_get2 {Q:Value->Shared->Prop} (hu:A.units+1 < cLine) (I:Inv X pins σ H s) (g:DGet H a y o) (ry:RelV y u) (rd:RelV d r) (h:∀w' s',Inv X pins σ H s'->RelV (o.getD d) w'->Q w' s') :
  wpAny (model X.prog X.w) A (call (.builtin "dict.get") [.ref a,u,r]) Q E s:=by
 rcases g with ⟨kvs,k,e,ey,l⟩ | ⟨kvs,k,b,e,ey,eb,l⟩
 ·subst ey
  obtain⟨z,hd,vs,rel,dd⟩:=dk_rd I.hok e
  refine call_meetsIn PySem.F.slot_dict_get dd.typeIs PySem.F.entry_dict_get (PySem.F.args_dict_get_3 _ _ _) (meets_dict_get_default (mixKind X.prog X.w) a (kV_is ry) hd r) ⟨_,dd.mapOf,h _ _ (I.tok _) ?_⟩
  rw [l]
  exact (rel.val k).getD rd
 ·subst ey
  cases (show u=Value.ref b from ry)
  obtain⟨z,hd,xs,rel,dd⟩:=dt_rd I.hok e
  refine call_meetsIn PySem.F.slot_dict_get dd.typeIs PySem.F.entry_dict_get (PySem.F.args_dict_get_3 _ _ _) (meetsH_dict_get_default (tupleKind (mixKind X.prog X.w)) a b hd r) ⟨tupleKind_room_in1 hu,k,xs,key_of I.hok eb,dd,h _ _ (I.tok _) ?_⟩
  rw [l]
  exact (rel.val k).getD rd
end
noncomputable def tDGet2 (td ty tx:TE):TE:=fun σ H Q=>td σ H fun x H1=>∃a,x=.ref a/\IsD H1 a/\ty σ H1 fun y H2=>tx σ H2 fun z H3=>∃o,DGet H3 a y o/\Q (o.getD z) H3
section
variable {X:Cx}{o e f:Expr}{apos cpos:Pos}{td ty tx:TE}
theorem pe_dget2 (hu:X.A.units+1 < cLine) (ho:PE X o td) (he:PE X e ty) (hf:PE X f tx) (m:M2 X o "get" apos e f cpos):PE X (.Call (.Attribute o "get" apos) [e,f] [] cpos) (tDGet2 td ty tx):=by
 intro pins s σ H Q I h
 refine wpAny_Call_method m.base m.few m.line PySem.F.plainAttrs_dict PySem.F.slot_dict_get PySem.F.type_dict_get (thn (ho pins s σ H _ I h) fun u s1 hz=>?_)
 obtain⟨x,H1,I1,rx,a,ex,d,q1⟩:=hz
 subst ex
 obtain rfl:u=Value.ref a:=rx
 obtain⟨t1,t2,_⟩:=isD_at I1 d
 refine⟨t1,t2,?_⟩
 rw [m.trees]
 refine Calls.callWith_builtin rfl (Calls.evalArgs_plain (Calls.spliced_cons (thn (he pins s1 σ H1 _ I1 q1) fun iv s2 ⟨y,H2,I2,ry,q2⟩=>
  Calls.spliced_cons (thn (hf pins s2 σ H2 _ I2 q2) fun fv s3 ⟨z,H3,I3,rz,ov,g,q3⟩=>Calls.spliced_nil ?_))))
 exact d_get2 hu I3 g ry rz fun w' s4 I4 rw'=>⟨_,H3,I4,rw',q3⟩
end
section
variable {X:Cx}{pins:List (Addr×Obj)}{σ:St}{H:Hp}{s:Shared}{a:Addr}{kvs:List (Key×V)}{A:Around}{E:Value->Shared->Prop}
theorem d_copyOf {Q:Value->Shared->Prop} (I:Inv X pins σ H s) (e:Rd H a (.dK kvs)) (h:∀p s',H p=none->Inv X pins σ (upd H p (.dK kvs)) s'->Q (.ref p) s'):wpAny (model X.prog X.w) A (call (.type "dict") [.ref a]) Q E s:=by
 obtain⟨z,hd,vs,rel,dd⟩:=dk_rd I.hok e
 refine kt_call_dict hd dd (by rw [<- rel.length];exact z) fun h' dd' hs=>?_
 refine h _ _ (I.hok.fresh (Nat.le_refl _)) (I.laid (a:=s.heap.objs.size) (o:=.dK kvs) (t':=s.toks) (fun b q hq=>?_) (Nat.le_refl _) (dk_new z (beq_eq_false_iff_ne.mpr (Ne.symm (Nat.ne_of_lt I.big))) rel dd'))
 exact (hs.2 b (Nat.ne_of_lt (Heap.lt_size hq))).trans (Heap.get?_push_of_some _ hq)
end
section
variable {X:Cx}{pins:List (Addr×Obj)}{σ:St}{H:Hp}{s:Shared}{a:Addr}{y:V}{u:Value}{A:Around}{E:Value->Shared->Prop}
end
end L2
namespace Att
open PySem PySem.W PySem.Calls PyProof.Rows
theorem ints_of_wellAll {P:Params}{h:Heap}:∀(ns:List Int) (vs:List Value),WellAll P h vs (ns.map WData.int)->IntsAre vs ns:=by
 intro ns
 induction ns with
 | nil=>
  intro vs w
  rw [List.map_nil] at w
  cases w
  exact .nil
 | cons n ns ih=>
  intro vs w
  rw [List.map_cons] at w
  cases w with
  | cons a b=>
   cases a
   exact .cons _ _ (ih _ b)
theorem script_of {l:OpenLaw}{n:Nat} (hn:l.most=some n) {P:Params}{h:Heap}{args:List WData}{vals:List Value}
  (hpre:l.row.toRowW.claim.pre args=true) (hwl:WellAll P h vals args) :
  ∃a vs ns,vals=[Value.ref a]/\args=[WData.list (ns.map WData.int)]/\h.get? a=some { cls:=.type "list",data:=.seq vs.toArray }/\IntsAre vs ns/\ns.length≤n:=by
 have hsh:WShape.hasAll [] args [.list .int]=true:=(pre_splitW hpre).1
 have hc:l.pre.holds [] { args:=args }=true:=(pre_splitW hpre).2
 obtain⟨d,r,rfl,h1,h2⟩:=hasAllW_cons hsh
 obtain rfl:=hasAllW_nil h2
 obtain⟨xs,rfl,h3⟩:=hasW_list h1
 obtain⟨ns,rfl⟩:=items_int h3
 have hlen:ns.length≤n:=by
  unfold OpenLaw.pre at hc
  have h4:(WTm.not (.lt (.lit (.int (n:Int))) (.len (.arg 0)))).holds [] { args:=[.list (ns.map .int)] }=true:=by
   have h4:=(holds_andW hc).1
   rw [hn] at h4
   exact h4
  have h5:=condW_of h4 (w_not (w_lt w_lit (w_len_list (w_arg rfl))))
  rw [List.length_map] at h5
  refine Nat.le_of_not_lt fun q=>?_
  have q':(n:Int) < ((ns.length:Nat):Int):=by omega
  first
   | (rw [decide_eq_true q'] at h5;exact absurd h5 (by decide))
   | (simp at h5;omega)
 cases hwl with
 | cons w1 w2=>
  cases w2
  cases w1 with
  | list ho hall=>exact⟨_,_,ns,rfl,rfl,ho,ints_of_wellAll ns _ hall,hlen⟩
theorem post_true (l:OpenLaw) (args:List WData):l.row.toRowW.claim.post args (.bool true) args=true:=
 postW_of (r:=l.row.toRowW) (X:=(true == true))
  (show WShape.has [] (.bool true) .bool=true by first | rfl | decide | simp [WShape.has,WShape.arms,WShape.armsAll])
  (show (WTm.eq .res (.lit (.bool true))).value [] { args:=args,res:=some (.bool true),after:=args }=some (.bool (true == true)) from w_eq_bool (w_res rfl) w_lit) rfl
theorem attach_call {l:OpenLaw}{n:Nat}{q:Program}{loose:List Str}{XP:(Str->Option Value)->Heap->Prop}{YP:World->Heap->Prop}{d:DefRec}
  (hn:l.most=some n) (hdf:d.params.defaults=[])
  (call:∀(w:World) (s₀ s₁:Shared) (mg mb:Str->Option Value) (fa:Addr) (o:Obj) (pm cd doc:Value) (a:Addr) (vs:List Value) (ns:List Int),
   Ground q loose [] XP w s₀ mg mb s₁.heap->YP w s₁.heap ->
   s₁.heap.get? fa=some o->o.data=.func (docDef d.name d.params d.body d.scope pm cd doc)->s₁.heap.CodeRec cd d.name->mg d.name=some (.ref fa) ->
   s₁.heap.get? a=some { cls:=.type "list",data:=.seq vs.toArray }->IntsAre vs ns->ns.length≤n->s₁.gens=#[] ->
   codeAny (model l.prog w) callerA (.call (.ref fa) ⟨[.ref a],[]⟩) (fun r s'=>r=.ok (.ret (.bool true))/\OldK s₁.heap s'.heap/\s'.os=s₁.os/\AllBare s'.gens) s₁) :
  WalkO q loose XP YP l.row.toRowW d [] (fun f vs=>PySem.call f vs):=by
 intro w s₀ s₁ mg mb G Y fa o pm cd doc dV kV ho hd hcd hD hmg hg args vals as hpre hlay hrd hwl hlo
 obtain rfl:dV=.none:=Dflts.none hD hdf
 obtain rfl:kV=.none:=Dflts.noKw hD
 obtain⟨a,vs,ns,rfl,rfl,hobj,hints,hlen⟩:=script_of hn hpre hwl
 refine enter_call (codeAny_mono (call w s₀ s₁ mg mb fa o pm cd doc a vs ns G Y ho (fd_plain hd) hcd hmg hobj hints hlen hg) fun r s' hq=>?_)
 obtain⟨rfl,h2,h3,h4⟩:=hq
 exact⟨.inl ⟨.bool true,.bool true,[],rfl,fun _=>rfl,.bool true,post_true l _,fun _=>⟨List.Pairwise.nil,fun _ hm=>(nomatch hm)⟩⟩,h2,h3,h4⟩
section
variable {prog:Program}{w:World}{A:Around}{E:Value->Shared->Prop}{s:Shared}{K:Frag}
end
end Att
namespace L2
open PySem PySem.Spec PyProof.Rows
theorem vals_ints:∀{vs:List Value}{ns:List Int},IntsAre vs ns->Vals (ns.map V.int) vs
 | _,_,.nil=>.nil
 | _,_,.cons n t h=>.cons ⟨t,rfl⟩ (vals_ints h)
noncomputable def Only (H:Hp):Prop:=∀b,H b=none\/∃o xs,H b=some (.frz o (.lst xs))
theorem law_call {P:Program}{w:World}{K:PySem.W.Frag}{mg mb:Str->Option Value}{CX:CXT}{k:Nat}{fa a:Addr}{fd:FuncData}{x:Str}{sp:Sp}{s₁:Shared}{vs:List Value}{ns:List Int}
  (KX:K.In s₁.heap) (hns:s₁.heap.Ns mainGlobals mg) (hb:s₁.heap.Ns builtinsNs mb) (hbb:∀x:Str,x≠"__name__"->mb x=bootBuiltins x) (hlim:s₁.heap.NoLimit) (hg:s₁.gens=#[])
  (ha:s₁.heap.get? a=some { cls:=.type "list",data:=.seq vs.toArray }) (hi:IntsAre vs ns) (hl:ns.length≤sizeLine) (hr:Room k callerA)
  (F:∀base:Heap,K.In base->base.Ns mainGlobals mg->FnOk P w K mg base CX k fa fd [x] sp) (hbind:∀(s:Shared) (u:Value),BindsTo s fd ⟨[u],[]⟩ [(x,u)])
  (hsp:∀H:Hp,Only H->SqL K H a (ns.map V.int)->sp [.ref a] H (fun v _=>v=.bl true) fun _ _ _=>False)
  (hCX:∀H e s',CX [] H s₁ (fun _ _ _=>False) e s'->False) :
  codeAny (model P w) callerA (.call (.ref fa) ⟨[.ref a],[]⟩) (fun r s'=>r=.ok (.ret (.bool true))/\OldK s₁.heap s'.heap/\s'.os=s₁.os/\AllBare s'.gens) s₁:=by
 have rv:=vals_ints hi
 have lenV:=hi.length
 have core:∀H:Hp,Only H->SqL K H a (ns.map V.int)->HOk P w H s₁.heap->(∀b,H b≠none->b=a)->(H a≠none->K.lookup a=none) ->
   codeAny (model P w) callerA (.call (.ref fa) ⟨[.ref a],[]⟩) (fun r s'=>r=.ok (.ret (.bool true))/\OldK s₁.heap s'.heap/\s'.os=s₁.os/\AllBare s'.gens) s₁:=by
  intro H hO hS hok hA hK
  have base_of:∀{b:Addr}{o:Obj},s₁.heap.get? b=some o->H b=none->(hidT s₁.heap H).get? b=some o:=fun e n=>hidT_get e n
  have noA:∀{b:Addr}{o:Obj}{es:Array DictEntry}{ep:Nat},s₁.heap.get? b=some o->o.data=.dict es ep->H b=none:=fun {b o es ep} e d=>by
   cases q:H b with
   | none=>rfl
   | some u=>
    have e':b=a:=hA b (by rw [q];simp)
    subst e'
    rw [ha] at e;cases e
    have d':Data.seq vs.toArray _=Data.dict es ep:=d
    cases d'
  have nsK:∀{b:Addr}{m:Str->Option Value},s₁.heap.Ns b m->(hidT s₁.heap H).Ns b m:=fun {b m} ⟨o,es,ep,e,d,r⟩=>⟨o,es,ep,base_of e (noA e d),d,r⟩
  have hKb:K.In (hidT s₁.heap H):=fun b o e=>base_of (KX b o e) (by
   cases q:H b with
   | none=>rfl
   | some u=>
    have e':b=a:=hA b (by rw [q];simp)
    subst e'
    rw [hK (by rw [q];simp)] at e;cases e)
  have hM:Mod K mg (hidT s₁.heap H):=⟨hKb,nsK hns,⟨mb,nsK hb,hbb⟩,let ⟨mc,h1,h2⟩:=hlim;⟨mc,nsK h1,h2⟩⟩
  have e0:Env0 P w K mg (hidT s₁.heap H) callerA [] s₁ H:=⟨rfl,hM,fun b o e=>of_hidT e,Nat.le_of_eq (hidT_size _ _),trivial,fun b hb=>absurd (show b ∈ ([]:List Addr) from hb) (by simp),hok,.of_eq hg⟩
  refine codeAny_mono ((F _ hKb (nsK hns)).run callerA [] s₁ H ⟨[.ref a],[]⟩ [.ref a] [.ref a] _ _ hr e0 (hbind s₁ (.ref a)) (.cons rfl .nil) (hsp H hO hS)) fun r s' h=>?_
  cases r with
  | error e=>exact (hCX H e s' h).elim
  | ok fl=>
   cases fl with
   | next=>exact False.elim h
   | brk=>exact False.elim h
   | cont=>exact False.elim h
   | ret u=>
    obtain⟨v,H',os,bare,un,hok',r',q⟩:=h
    have q':v=.bl true:=q
    subst q'
    obtain rfl:u=Value.bool true:=r'
    refine⟨rfl,OldK.of_keep fun b o e=>?_,os,bare⟩
    cases q:H b with
    | none=>exact un.keep b o e q (by intro z;exact absurd (show b ∈ ([]:List Addr) from z) (by simp)) (by simp)
    | some u=>
     rcases hO b with z | ⟨ob,xs,z⟩
     ·rw [q] at z;cases z
     ·have z2:=un.frzs b ob _ z
      obtain⟨e1,_⟩:=hok b _ z
      obtain⟨e2,_⟩:=hok' b _ z2
      rw [e] at e1;cases e1
      exact e2
 cases hk:K.lookup a with
 | some o=>
  have e:=KX a o hk
  rw [ha] at e
  cases e
  refine core (fun _=>none) (fun _=>.inl rfl) (.inr ⟨_,vs.toArray,_,hk,rfl,rfl,rfl,by rw [List.size_toArray,lenV];exact hl,by simpa using rv⟩) (fun b u z=>by have z':(none:Option HO)=some u:=z;cases z') (fun b z=>absurd rfl z) fun z=>absurd rfl z
 | none=>
  refine core (fun b=>if b=a then some (.frz { cls:=.type "list",data:=.seq vs.toArray } (.lst (ns.map V.int))) else none) (fun b=>?_) (.inl (.inr ⟨{ cls:=.type "list",data:=.seq vs.toArray },if_pos rfl⟩)) (fun b u z=>?_) (fun b z=>?_) fun _=>hk
  ·by_cases hb:b=a
   ·exact .inr ⟨_,_,if_pos hb⟩
   ·exact .inl (if_neg hb)
  ·by_cases hb:b=a
   ·have z':=(if_pos hb).symm.trans z
    cases z'
    subst hb
    exact⟨ha,by rw [List.length_map];exact hl,vs,_,rv,ha⟩
   ·have z':=(if_neg hb).symm.trans z
    cases z'
  ·by_cases hb:b=a
   ·exact hb
   ·exact absurd (if_neg hb) z
end L2
namespace L2
open PySem PySem.Spec PyProof.Rows
noncomputable abbrev KOf {K:PySem.W.Frag}{h:Heap} (_:K.In h):PySem.W.Frag:=K
theorem walk_of {l:PySem.W.OpenLaw}{n k:Nat}{q:Program}{loose:List Str}{XP:(Str->Option Value)->Heap->Prop}{YP:World->Heap->Prop}{d:DefRec}{K:Params->PySem.W.Frag}{CX:World->CXT}{sp:World->Sp}{x:Str}
  (hn:l.most=some n) (hn2:n≤sizeLine) (hdf:d.params.defaults=[]) (hr:Room k callerA)
  (hY:∀(w:World) (h:Heap),YP w h->(K w.params).In h)
  (F:∀(w:World) (mg:Str->Option Value) (fa:Addr) (h:Heap),(K w.params).In h->h.Ns mainGlobals mg->mg d.name=some (.ref fa) ->
   ∃fd:FuncData,(∀(s:Shared) (u:Value),BindsTo s fd ⟨[u],[]⟩ [(x,u)]) /\
    ∀base:Heap,(K w.params).In base->base.Ns mainGlobals mg->FnOk l.prog w (K w.params) mg base (CX w) k fa fd [x] (sp w))
  (hsp:∀(w:World) (H:Hp) (a:Addr) (ns:List Int),ns.length≤n->Only H->SqL (K w.params) H a (ns.map V.int)->sp w [.ref a] H (fun v _=>v=.bl true) fun _ _ _=>False)
  (hCX:∀(w:World) (H:Hp) (s:Shared) (e:Value) (s':Shared),CX w [] H s (fun _ _ _=>False) e s'->False) :
  PySem.W.WalkO q loose XP YP l.row.toRowW d [] (fun f vs=>PySem.call f vs):=by
 refine Att.attach_call hn hdf fun w s₀ s₁ mg mb fa o pm cd doc a vs ns G Y ho hd hcd hmg hobj hints hlen hg=>?_
 have KX:=hY w _ Y
 obtain⟨fd,hb,hF⟩:=F w mg fa _ KX G.T.g hmg
 exact law_call KX G.T.g G.T.b G.T.builtins G.T.nolimit hg hobj hints (Nat.le_trans hlen hn2) hr hF hb (fun H hO hS=>hsp w H a ns hlen hO hS) fun H e s'=>hCX w H s₁ e s'
theorem walk_ofK {l:PySem.W.OpenLaw}{n k:Nat}{q:Program}{loose:List Str}{XP:(Str->Option Value)->Heap->Prop}{YP:World->Heap->Prop}{d:DefRec}{K:Params->PySem.W.Frag}{CX:CXT}{sp:PySem.W.Frag->Sp}{x:Str}
  (hn:l.most=some n) (hn2:n≤sizeLine) (hdf:d.params.defaults=[]) (hr:Room k callerA)
  (hY:∀(w:World) (h:Heap),YP w h->(K w.params).In h)
  (F:∀(w:World) (mg:Str->Option Value) (fa:Addr) (h:Heap),(K w.params).In h->h.Ns mainGlobals mg->mg d.name=some (.ref fa) ->
   ∃fd:FuncData,(∀(s:Shared) (u:Value),BindsTo s fd ⟨[u],[]⟩ [(x,u)]) /\
    ∀base:Heap,(K w.params).In base->base.Ns mainGlobals mg->FnOk l.prog w (K w.params) mg base CX k fa fd [x] (sp (K w.params)))
  (hsp:∀(K:PySem.W.Frag) (H:Hp) (a:Addr) (ns:List Int),ns.length≤n->Only H->SqL K H a (ns.map V.int)->sp K [.ref a] H (fun v _=>v=.bl true) fun _ _ _=>False)
  (hCX:∀(H:Hp) (s:Shared) (e:Value) (s':Shared),CX [] H s (fun _ _ _=>False) e s'->False) :
  PySem.W.WalkO q loose XP YP l.row.toRowW d [] (fun f vs=>PySem.call f vs):=
 walk_of (K:=K) (CX:=fun _=>CX) (sp:=fun w=>sp (K w.params)) hn hn2 hdf hr hY F (fun w H a ns h1 h2 h3=>hsp (K w.params) H a ns h1 h2 h3) fun _ H s e s'=>hCX H s e s'
end L2
namespace L2
open PySem PySem.Spec PyProof.Rows
noncomputable def defArgs (s:Stmt):Arguments:=match s with
 | .FunctionDef _ a _ _ _ _ _ _ _ _=>a
 | _=>{ posonlyargs:=[],args:=[],vararg:=none,kwonlyargs:=[],kw_defaults:=[],kwarg:=none,defaults:=[] }
noncomputable def defBody (s:Stmt):List Stmt:=match s with
 | .FunctionDef _ _ b _ _ _ _ _ _ _=>b
 | _=>[]
noncomputable def defScope (s:Stmt):Scope:=match s with
 | .FunctionDef _ _ _ _ _ _ sc _ _ _=>sc
 | _=>{ kind:=.function,names:=[],isGenerator:=false,isCoroutine:=false }
noncomputable abbrev CX0:CXT:=fun _ _ _ _ _ _=>False
noncomputable abbrev E0:XK:=fun _ _ _=>False
theorem pass0 {X:Cx}:Passes CX0 X E0:=fun _ _ _ _ _ _ _ h=>h.elim
structure Fun (K:PySem.W.Frag) (x qual:Str) (st:Stmt) (f:Addr) (fd:FuncData):Prop where
 ex:∃(oc:Value) (od:Option Addr) (kV doc pm:Value) (an:Option Addr) (cdv ct:Value) (osl:Array (Option Value)),
  fd=PySem.W.fnOf x qual (defArgs st) (defBody st) (defScope st) .none kV doc pm an cdv ct/\K.lookup f=some ⟨oc,od,.func fd,osl⟩/\PySem.W.codeIn K cdv qual=true
 kp:PySem.W.keepIn K (.ref f)=true
section
variable {P:Program}{w:World}{K:PySem.W.Frag}{mg:Str->Option Value}{base:Heap}
theorem Fun.ok {x qual:Str}{st:Stmt}{f:Addr}{fd:FuncData}{N ps:List Str}{k:Nat}{sp:Sp} (F:Fun K x qual st f fd) (S:FnScope N ps (defScope st)) (len:∀vs H Q E,sp vs H Q E->vs.length=ps.length)
  (hbody:∀(cdv:Value) (A:Around) (outer:List Env) (s:Shared) (H:Hp) (vs:List V) (Q:VK) (E:XK),Room k (A.deeper (envOfC qual (defScope st) s.heap.objs.size f cdv))->sp vs H Q E ->
   ∃t,PSs (cxOf CX0 P w K mg base N qual (defScope st) f cdv A outer s H E).nox (defBody st) t/\t { nx:=fun _ H'=>Q .non H',rt:=Q } (start N vs) H):FnOk P w K mg base CX0 (k+1) f fd ps sp:=by
 obtain⟨oc,od,kV,doc,pm,an,cdv,ct,osl,rfl,lk,hcd⟩:=F.ex
 refine fn_of lk hcd S len fun A outer s H vs Q E hr hsp=>?_
 obtain⟨t,h,q⟩:=hbody cdv A outer s H vs Q E hr hsp
 exact⟨t,h.nox,q⟩
theorem Fun.binds {x qual:Str}{st:Stmt}{f:Addr}{fd:FuncData}{ps:List Str} (F:Fun K x qual st f fd)
  (h:∀(kV doc pm:Value) (an:Option Addr) (cdv ct:Value) (us:List Value),us.length=ps.length->bindArgs (PySem.W.fnOf x qual (defArgs st) (defBody st) (defScope st) .none kV doc pm an cdv ct) ⟨us,[]⟩=pure (ps.zip us)):Binds K fd ps []:=by
 obtain⟨oc,od,kV,doc,pm,an,cdv,ct,osl,rfl,lk,hcd⟩:=F.ex
 exact .all (h kV doc pm an cdv ct)
theorem fun_mk {x qual:Str}{st:Stmt}{f:Addr}{oc:Value}{od an:Option Addr}{osl:Array (Option Value)}{kV doc pm cdv ct:Value} (l:K.lookup f=some ⟨oc,od,.func (PySem.W.fnOf x qual (defArgs st) (defBody st) (defScope st) .none kV doc pm an cdv ct),osl⟩)
  (c:PySem.W.codeIn K cdv qual=true) (k:PySem.W.keepIn K (.ref f)=true):Fun K x qual st f (PySem.W.fnOf x qual (defArgs st) (defBody st) (defScope st) .none kV doc pm an cdv ct):=⟨⟨oc,od,kV,doc,pm,an,cdv,ct,osl,rfl,l,c⟩,k⟩
end
section
variable {X:Cx}
theorem pv (i:Nat) {x:Str}{pos:Pos} (hN:X.N[i]? = some x:=by rfl) (hv:Vis X.env.scope x:=by first | exact Or.inl rfl | exact Or.inr (Or.inl rfl) | exact Or.inr (Or.inr rfl)) (hd:(x == ("__debug__":Str))=false:=by decide)
  (hcd:(x == ("__classdict__":Str))=false:=by decide):PE X (.Name x pos) (tVar i):=pe_var hN hv hd hcd
end
noncomputable def Same (H H':Hp):Prop:=∀b o,H b=some o->H' b=some o
theorem Same.refl (H:Hp):Same H H:=fun _ _ h=>h
theorem Same.trans {H H1 H2:Hp} (a:Same H H1) (b:Same H1 H2):Same H H2:=fun c o h=>b c o (a c o h)
theorem Same.free {H H':Hp} (e:Same H H') {l:Addr} (h:H' l=Option.none):H l=Option.none:=by
 cases q:H l with
 | none=>rfl
 | some o=>
  rw [e l o q] at h
  cases h
theorem Same.seq {K:PySem.W.Frag}{H H':Hp}{a:Addr}{xs:List V} (e:Same H H') (h:SqL K H a xs):SqL K H' a xs:=by
 rcases h with (h | ⟨o,h⟩) | h
 ·exact .inl (.inl (e _ _ h))
 ·exact .inl (.inr ⟨o,e _ _ h⟩)
 ·exact .inr h
section
variable {κ:Type} [DecidableEq κ]
end
end L2
namespace PySem
open PySem PyProof.Rows
namespace F
theorem entry_dict_update_loop:entryFor table "dict.update.loop"=some Builtin.«dict.update.loop»:=entryFor_of_tree (by kernel_rfl)
theorem plain_dict_update_loop:plainId "dict.update.loop"=true:=by decide +kernel
theorem list_no_keys:typeLookup (.type "list") "keys"=pure none:=by rw [typeLookup_type,builtinLookup_eq_fast];kernel_rfl
end F
section
variable {prog:Program}{w:World}{A:Around}{E:Value->Shared->Prop}{s:Shared}
theorem list_lacks {a:Addr}{o:Obj}{xs:Array Value}{k0:Nat}{name:Str}{Q:Option Value->Shared->Prop}
  (hx:s.heap.get? a=some o) (hc:o.cls=.type "list") (hdat:o.data=.seq xs k0) (hd:o.dict=none) (hmiss:typeLookup (.type "list") name=pure none) (hname:(["__module__","__name__","__qualname__","__doc__","__annotations__"]:List Str).contains name=false) (hA:A.handled=none)
  (h:∀h' tk,(∀b o,s.heap.get? b=some o->h'.get? b=some o)->Q none { s with heap:=h',toks:=tk }) (hsz:name.length+100≤sizeLine:=by size_fits) :
  wpAny (model prog w) A (getAttr? (.ref a) name) Q E s:=by
 obtain⟨c,dct,dat,sl⟩:=o
 simp only at hc hdat hd
 subst hc hdat hd
 obtain⟨hp,g,d,tk,os⟩:=s
 have hT:∀tk',(⟨hp,g,d,tk',os⟩:Shared).TypeIs (.ref a) "list":=fun _=>⟨_,hx,rfl⟩
 have f1:=sub_AttributeError
 have f3:=F.slot_list_getattribute.lookup
 have f4:=F.slot_list_getattribute.bind (.ref a)
 have f5:=am_list_getattr_none
 have step:∀(tk1:Nat) (u:Tok) (Q1:Value->Shared->Prop) (E1:Value->Shared->Prop),(∀h' tk2 e,Heap.NewAttrErr hp h' e (.ref a) name->E1 (.ref e) ⟨h',g,d,tk2,os⟩) ->
   wpAny (model prog w) A (call (Value.builtin "list.__getattribute__") ([Value.ref a]++[Value.str name u]) []) Q1 E1 ⟨hp,g,d,tk1,os⟩:=fun tk1 u Q1 E1 k=>
  call_meets F.slot_list_getattribute (hT _) am_entry_list_getattribute (F.args_list_getattribute_2 _ _) (meets_getattribute_miss_list a xs k0 sl name u hmiss hname hsz) ⟨hx,hA,k⟩
 unfold getAttr?
 unfold getAttrBy?
 unfold getAttrBy
 repeat any_goals first | assumption | exact hT _ | (with_reducible refine step _ _ _ _ fun h' tk' e hx'=>?_) | wp_step
 have he:=hx'.there
 obtain⟨t',u',he⟩:=he
 repeat any_goals first | assumption | wp_step
 exact h _ _ hx'.keeps
inductive PairsAt {K:Type} [DecidableEq K] (knd:KeyKind prog w K) (h:Heap):List Value->List (K×Value)->Prop
 | nil:PairsAt knd h [] []
 | cons {t:Addr}{key v:Value}{k:K}{us:List Value}{kvs:List (K×Value)}:IsTup h t #[key,v]->knd.is k key=true->PairsAt knd h us kvs->PairsAt knd h (.ref t::us) ((k,v)::kvs)
end
section
variable {prog:Program}{w:World}{K:Type} [DecidableEq K] {knd:KeyKind prog w K}{A:Around}{E:Value->Shared->Prop}{R:Result->Shared->Prop}
theorem dict_loop (hh:A.handled=none) {h₀:Heap}{d it l:Addr}{items:Array Value} (hd₀:h₀.get? d=none) (hi₀:h₀.get? it=none) (hdi:d≠it) (hl:h₀.IsList l items) :
  ∀(rest:List (K×Value)) (i:Nat) (acc:List (K×Value)) (s:Shared),(∀b o,h₀.get? b=some o->s.heap.get? b=some o)->s.heap.IsListIter it l i->s.heap.DictOf knd d acc->PairsAt knd h₀ (items.toList.drop i) rest ->
   ((acc++rest).map (·.1)).Nodup->(acc++rest).length≤sizeLine->i+rest.length=items.size ->
   (∀h' t',(∀b o,h₀.get? b=some o->h'.get? b=some o)->h'.DictOf knd d (acc++rest)->R (.ok (.ret .none)) { s with heap:=h',toks:=t' }) ->
   codeAny (model prog w) A (.builtin "dict.update.loop" ⟨[.ref d,.ref it,rawInt i,.none],[]⟩) R s:=by
 intro rest
 induction rest with
 | nil=>
  intro i acc s kp hit hd hp hn hz hi h
  have hend:items[i]? = none:=by simp at hi ⊢;omega
  have hl':s.heap.IsList l items:=by obtain⟨o,ho,r⟩:=hl;exact⟨o,kp _ _ ho,r⟩
  refine codeAny_builtin F.entry_dict_update_loop ?_
  rw [Around.under_plainId F.plain_dict_update_loop _]
  unfold Builtin.«dict.update.loop»
  show wpAny _ A.in1 (pyNext (.ref it) >>= _) _ _ s
  refine wpAny_bind (wpAny_pyNext_list_end hh hit hl' hend fun h' eb=>?_)
  show wpAny _ A.in1 (Builtin.Dict.addKeywords d [] >>= _) _ _ _
  rw [List.append_nil] at h
  apply wpAny_bind
  apply wpAny_pure
  apply wpAny_pure
  refine h h' s.toks (fun b o e=>eb b o (fun z=>by rw [z,hi₀] at e;cases e) (kp b o e)) ?_
  exact hd.extBut eb hdi
 | cons kv rest ih=>
  intro i acc s kp hit hd hp hn hz hi h
  have hl':s.heap.IsList l items:=by obtain⟨o,ho,r⟩:=hl;exact⟨o,kp _ _ ho,r⟩
  generalize er:items.toList.drop i=us at hp
  cases hp with
  | cons hpt hk hps=>
   rename_i t key v k us'
   have hx:items[i]? = some (.ref t):=by
    have:=congrArg (·[0]?) er
    simpa using this
   have er':items.toList.drop (i+1)=us':=by
    rw [<- List.drop_drop,er];rfl
   refine codeAny_builtin F.entry_dict_update_loop ?_
   rw [Around.under_plainId F.plain_dict_update_loop _]
   unfold Builtin.«dict.update.loop»
   show wpAny _ A.in1 (pyNext (.ref it) >>= _) _ _ s
   refine wpAny_bind (wpAny_pyNext_list_item hit hl' hx fun h1 hit1 sb1=>?_)
   have kp1:∀b o,h₀.get? b=some o->h1.get? b=some o:=fun b o e=>(sb1.2 b (fun z=>by rw [z,hi₀] at e;cases e)).trans (kp b o e)
   have hd1:h1.DictOf knd d acc:=by obtain⟨o,es,ep,ho,r⟩:=hd;exact⟨o,es,ep,(sb1.2 d hdi).trans ho,r⟩
   obtain⟨ot,hot,hct,nt,hdt⟩:=hpt
   have hot1:=kp1 _ _ hot
   show wpAny _ A.in1 (holding [Value.ref t] _ >>= _) _ _ _
   apply wpAny_bind
   apply wpAny_holding
   apply wpAny_bind
   apply wpAny_tryCatch
   unfold Builtin.Dict.pairItems
   refine wpAny_bind (wpAny_typeOf (T:="tuple") ⟨ot,hot1,hct⟩ ?_)
   rw [if_pos (by decide)]
   refine wpAny_bind (wpAny_seqItems hot1 hdt (wpAny_pure ?_))
   show wpAny _ A.in1 (holding [key,v] (dictSet d key v)) _ _ _
   refine wpAny_holding ?_
   refine wpAny_dictSet_pairs (s:={ s with heap:=h1 }) hk hd1 (fun h2 hd2 sb2=>?_) (by simp at hz;omega)
   have hnk:k ∉ acc.map (·.1):=by
    intro hm
    rw [List.map_append,List.nodup_append] at hn
    exact hn.2.2 _ hm _ (by simp) rfl
   have est:stored acc k v=acc++[(k,v)]:=by
    unfold stored
    rw [if_neg]
    intro hany
    obtain⟨x,hx1,hx2⟩:=List.any_eq_true.mp hany
    exact hnk (List.mem_map.mpr ⟨x,hx1,of_decide_eq_true hx2⟩)
   rw [est] at hd2
   refine wpAny_pure ⟨plainId_quiet F.plain_dict_update_loop _,?_⟩
   have kp2:∀b o,h₀.get? b=some o->h2.get? b=some o:=fun b o e=>(sb2.2 b (fun z=>by rw [z,hd₀] at e;cases e)).trans (kp1 b o e)
   have hit2:h2.IsListIter it l (i+1):=by obtain⟨o,ho,r⟩:=hit1;exact⟨o,(sb2.2 it (Ne.symm hdi)).trans ho,r⟩
   have e1:acc++(k,v)::rest=(acc++[(k,v)])++rest:=by simp
   rw [e1] at hn hz h
   exact ih (i+1) (acc++[(k,v)]) { s with heap:=h2,toks:=s.toks+1 } kp2 hit2 hd2 (er' ▸ hps) hn hz (by simp at hi;omega) fun h' t' k1 k2=>h h' t' k1 k2
theorem call_dict_pairs {s:Shared}{a:Addr}{its:Array Value}{n:Nat}{kvs:List (K×Value)}{Q:Value->Shared->Prop} (hh:A.handled=none) (hl:s.heap.get? a=some { cls:=.type "list",data:=.seq its n }) (hp:PairsAt knd s.heap its.toList kvs)
  (hn:(kvs.map (·.1)).Nodup) (hz:kvs.length≤sizeLine) (hi:kvs.length=its.size)
  (h:∀h' t',(∀b o,s.heap.get? b=some o->h'.get? b=some o)->h'.DictOf knd s.heap.objs.size kvs->Q (.ref s.heap.objs.size) { s with heap:=h',toks:=t' }) :
  wpAny (model prog w) A (call (.type "dict") [.ref a]) Q E s:=by
 have fresh:(s.heap.push { cls:=.type "dict",data:=.dict #[] }).DictOf knd s.heap.objs.size []:=.new s.heap
 have old:∀b o,s.heap.get? b=some o->(s.heap.push { cls:=.type "dict",data:=.dict #[] }).get? b=some o:=fun b o=>Heap.get?_push_of_some _
 have made:=kt_code_dict_new (prog:=prog) (w:=w) (A:=A.in1) (E:=E) (s:=s) (Value.ref a) (Q₁:=fun v z=>v=.ref s.heap.objs.size/\z={ s with heap:=s.heap.push { cls:=.type "dict",data:=.dict #[] } }) ⟨rfl,rfl⟩
 apply callType_codes F.kt_called_dict (F.kt_typeCall_dict_1 (.ref a)) F.entry_dict_init made
 rintro _ _ ⟨e,e'⟩
 subst e e'
 generalize s.heap.push { cls:=.type "dict",data:=.dict #[] }=h1 at fresh old
 have la:=old _ _ hl
 refine⟨fresh.typeIs,F.args_dict_init_2 (.ref s.heap.objs.size) (.ref a),?_⟩
 unfold Builtin.«dict.__init__» Builtin.Dict.selfAndRest
 apply wpAny_bind
 apply wpAny_bind
 apply wpAny_notOrdered_dict fresh.typeIs
 apply wpAny_pure
 show wpAny _ _ (Builtin.Dict.updateFrom "dict.__init__" s.heap.objs.size (.ref a) [] .none) _ _ _
 unfold Builtin.Dict.updateFrom
 refine wpAny_bind (wpAny_typeOf (T:="list") ⟨_,la,rfl⟩ ?_)
 rw [if_pos (by decide)]
 refine wpAny_bind (list_lacks (name:="keys") la rfl rfl rfl F.list_no_keys (by decide) hh fun h2 tk k2=>?_)
 rw [if_pos (by rfl)]
 refine wpAny_bind (wpAny_rule ?_)
 have hl2:=k2 _ _ la
 have k3:∀b o,s.heap.get? b=some o->h2.get? b=some o:=fun b o e=>k2 b o (old b o e)
 have hd2:h2.DictOf knd s.heap.objs.size []:=by obtain⟨o,es,ep,ho,r⟩:=fresh;exact⟨o,es,ep,k2 _ _ ho,r⟩
 refine wpAny_bind (wpAny_pyIter_list (l:=a) (items:=its) ⟨_,hl2,rfl,n,rfl⟩ ?_)
 refine wpAny_pure ⟨plainId_quiet F.plain_dict_update_loop _,?_⟩
 have lt2:s.heap.objs.size < h2.objs.size:=by obtain⟨o,_,_,ho,_⟩:=hd2;exact Heap.lt_size ho
 have e0:s.heap.get? h2.objs.size=none:=by
  cases e:s.heap.get? h2.objs.size with
  | none=>rfl
  | some o=>exact absurd (Heap.lt_size e) (Nat.not_lt.mpr (Nat.le_of_lt lt2))
 have e1:s.heap.get? s.heap.objs.size=none:=by
  cases e:s.heap.get? s.heap.objs.size with
  | none=>rfl
  | some o=>exact absurd (Heap.lt_size e) (Nat.lt_irrefl _)
 refine dict_loop (A:=A.in1) (knd:=knd) (h₀:=s.heap) (items:=its) (l:=a) hh e1 e0 (Nat.ne_of_lt lt2) ⟨_,hl,rfl,n,rfl⟩ kvs 0 [] _ (fun b o e=>Heap.get?_push_of_some _ (k3 b o e)) ?_ (hd2.push _) (by simpa using hp) (by simpa using hn) (by simpa using hz) (by omega) fun h' t' q1 q2=>?_
 ·exact⟨_,Heap.get?_push_size _ rfl,rfl,rfl⟩
 ·exact⟨rfl,h h' t' q1 q2⟩
end
end PySem
namespace Ev
open PySem L2
noncomputable def isExc (a C:Addr):Heap->Prop:=fun h=>∃o,h.get? a=some o/\o.cls=.ref C
inductive P where
 | non | bl (b:Bool) | int (i:Int) | str (x:Str) | tup (xs:List P) | lst (xs:List P) | ro (xs:List P) | dct (ks:List Key) (vs:List P)
inductive D where
 | p (v:P) | ref (i:Nat)
inductive SO where
 | lst (xs:List D) | dct (ks:List Key) (vs:List D) | fz (v:P) | ins (c:Str) (ks:List Str) (vs:List D) | exc (c:Str)
noncomputable abbrev Sto:=List SO
noncomputable abbrev Lc:=List (Option D)
noncomputable def KTup (K:PySem.W.Frag) (a:Addr) (xs:List V):Prop:=SqT K (fun _=>none) a xs
noncomputable def KLst (K:PySem.W.Frag) (a:Addr) (xs:List V):Prop:=SqL K (fun _=>none) a xs
noncomputable def TupAt (K:PySem.W.Frag) (H:Hp) (a:Addr) (xs:List V):Prop:=H a=some (.tup xs)\/KTup K a xs
noncomputable def LstAt (F:Addr->Prop) (H:Hp) (a:Addr) (xs:List V):Prop:=F a/\H a=some (.lst xs)
noncomputable def RoAt (K:PySem.W.Frag) (F:Addr->Prop) (H:Hp) (a:Addr) (xs:List V):Prop:=(F a/\∃o,H a=some (.frz o (.lst xs)))\/KLst K a xs
theorem TupAt.sq {K:PySem.W.Frag}{H:Hp}{a:Addr}{xs:List V} (h:TupAt K H a xs):SqT K H a xs:=by
 rcases h with h | (h | h)
 ·exact .inl (.inl h)
 ·rcases h with h | ⟨o,h⟩ <;> cases h
 ·exact .inr h
theorem LstAt.sq {K:PySem.W.Frag}{F:Addr->Prop}{H:Hp}{a:Addr}{xs:List V} (h:LstAt F H a xs):SqL K H a xs:=.inl (.inl h.2)
theorem RoAt.sq {K:PySem.W.Frag}{F:Addr->Prop}{H:Hp}{a:Addr}{xs:List V} (h:RoAt K F H a xs):SqL K H a xs:=by
 rcases h with ⟨_,o,h⟩ | (h | h)
 ·exact .inl (.inr ⟨o,h⟩)
 ·rcases h with h | ⟨o,h⟩ <;> cases h
 ·exact .inr h
section
variable (K:PySem.W.Frag) (F:Addr->Prop) (H:Hp)
mutual
noncomputable def RP:P->V->Prop
 | .non,v=>v=.non
 | .bl b,v=>v=.bl b
 | .int i,v=>v=.int i
 | .str x,v=>v=.str x
 | .tup ds,v=>∃a xs,v=.ref a/\TupAt K H a xs/\RPs ds xs
 | .lst ds,v=>∃a xs,v=.ref a/\LstAt F H a xs/\RPs ds xs
 | .ro ds,v=>∃a xs,v=.ref a/\RoAt K F H a xs/\RPs ds xs
 | .dct ks ds,v=>∃a kvs,v=.ref a/\F a/\H a=some (.dK kvs)/\kvs.map (·.1)=ks/\RPs ds (kvs.map (·.2))
noncomputable def RPs:List P->List V->Prop
 | [],xs=>xs=[]
 | d::ds,xs=>∃x r,xs=x::r/\RP d x/\RPs ds r
end
noncomputable def RD (m:List Addr):D->V->Prop
 | .p d,v=>RP K F H d v
 | .ref i,v=>∃a,v=.ref a/\m[i]? = some a
noncomputable def RDs (m:List Addr):List D->List V->Prop
 | [],xs=>xs=[]
 | d::ds,xs=>∃x r,xs=x::r/\RD K F H m d x/\RDs m ds r
noncomputable def RO (m:List Addr) (a:Addr):SO->Prop
 | .lst ds=>∃xs,H a=some (.lst xs)/\RDs K F H m ds xs
 | .dct ks ds=>∃kvs,H a=some (.dK kvs)/\kvs.map (·.1)=ks/\RDs K F H m ds (kvs.map (·.2))
 | .fz v=>RP K F H v (.ref a)
 | .ins c ks ds=>∃C dx kvs,PySem.W.nsIn K mainGlobals c=some (some (.ref C))/\H a=some (.ins C dx kvs)/\kvs.map (·.1)=ks/\RDs K F H m ds (kvs.map (·.2))
 | .exc c=>∃C,PySem.W.nsIn K mainGlobals c=some (some (.ref C))/\H a=some (.ext (isExc a C))
noncomputable def SO.own:SO->Prop
 | .fz _=>False
 | _=>True
structure Rel (m:List Addr) (S:Sto):Prop where
 len:m.length=S.length
 nd:m.Nodup
 obj:∀(i:Nat) a o,m[i]? = some a->S[i]? = some o->RO K F H m a o
 sep:∀(i:Nat) a o,m[i]? = some a->S[i]? = some o->o.own->¬F a
 trk:∀a ∈ m,H a≠none
 ft:∀a,F a->H a≠none
end
structure Kp (F:Addr->Prop) (m:List Addr) (H:Hp) (F':Addr->Prop) (m':List Addr) (H':Hp):Prop where
 pre:∃n,m'=m++n
 frz:∀b,F b->F' b
 frk:∀b o,F b->H b=some o->H' b=some o
 tup:∀b xs,H b=some (.tup xs)->H' b=some (.tup xs)
structure Stp (F:Addr->Prop) (m:List Addr) (H:Hp) (F':Addr->Prop) (m':List Addr) (H':Hp):Prop where
 pre:∃n,m'=m++n
 oth:∀b o,H b=some o->b ∉ m->H' b=some o
 frz:∀b,F b->F' b
 frk:∀b o,F b->H b=some o->H' b=some o
 tup:∀b xs,H b=some (.tup xs)->H' b=some (.tup xs)
 trk:∀b,H b≠none->H' b≠none
 nf:∀b,F' b->F b\/H b=none\/b ∈ m
 nm:∀b,b ∈ m'->b ∈ m\/H b=none
theorem Stp.kp {F F':Addr->Prop}{m m':List Addr}{H H':Hp} (s:Stp F m H F' m' H'):Kp F m H F' m' H':=⟨s.pre,s.frz,s.frk,s.tup⟩
theorem Stp.refl {F:Addr->Prop}{m:List Addr}{H:Hp}:Stp F m H F m H:=
 ⟨⟨[],by simp⟩,fun _ _ h _=>h,fun _ h=>h,fun _ _ _ h=>h,fun _ _ h=>h,fun _ h=>h,fun _ h=>.inl h,fun _ h=>.inl h⟩
theorem Stp.trans {F F1 F2:Addr->Prop}{m m1 m2:List Addr}{H H1 H2:Hp} (a:Stp F m H F1 m1 H1) (b:Stp F1 m1 H1 F2 m2 H2):Stp F m H F2 m2 H2 where
 pre:=by
  obtain⟨n1,e1⟩:=a.pre
  obtain⟨n2,e2⟩:=b.pre
  exact⟨n1++n2,by rw [e2,e1,List.append_assoc]⟩
 oth:=fun c o h hc=>b.oth c o (a.oth c o h hc) fun z=>by
  rcases a.nm c z with z | z
  ·exact hc z
  ·rw [h] at z;cases z
 frz:=fun c h=>b.frz c (a.frz c h)
 frk:=fun c o h e=>b.frk c o (a.frz c h) (a.frk c o h e)
 tup:=fun c xs h=>b.tup c xs (a.tup c xs h)
 trk:=fun c h=>b.trk c (a.trk c h)
 nf:=fun c h=>by
  rcases b.nf c h with h | h | h
  ·exact a.nf c h
  ·by_cases e:H c=none
   ·exact .inr (.inl e)
   ·exact absurd h (a.trk c e)
  ·rcases a.nm c h with h | h
   ·exact .inr (.inr h)
   ·exact .inr (.inl h)
 nm:=fun c h=>by
  rcases b.nm c h with h | h
  ·exact a.nm c h
  ·by_cases e:H c=none
   ·exact .inr e
   ·exact absurd h (a.trk c e)
section
variable {K:PySem.W.Frag}{F F':Addr->Prop}{H H':Hp}{m m':List Addr}{S S':Sto}
theorem TupAt.kp {a:Addr}{xs:List V} (s:Kp F m H F' m' H') (h:TupAt K H a xs):TupAt K H' a xs:=by
 rcases h with h | h
 ·exact .inl (s.tup _ _ h)
 ·exact .inr h
theorem LstAt.kp {a:Addr}{xs:List V} (s:Kp F m H F' m' H') (h:LstAt F H a xs):LstAt F' H' a xs:=⟨s.frz _ h.1,s.frk _ _ h.1 h.2⟩
theorem RoAt.kp {a:Addr}{xs:List V} (s:Kp F m H F' m' H') (h:RoAt K F H a xs):RoAt K F' H' a xs:=by
 rcases h with ⟨f,o,h⟩ | h
 ·exact .inl ⟨s.frz _ f,o,s.frk _ _ f h⟩
 ·exact .inr h
mutual
theorem RP.kp (s:Kp F m H F' m' H'):∀{d:P}{v:V},RP K F H d v->RP K F' H' d v
 | .non,_,h=>h
 | .bl _,_,h=>h
 | .int _,_,h=>h
 | .str _,_,h=>h
 | .tup _,_,h=>by
  obtain⟨a,xs,e,t,r⟩:=h
  exact⟨a,xs,e,t.kp s,RPs.kp s r⟩
 | .lst _,_,h=>by
  obtain⟨a,xs,e,t,r⟩:=h
  exact⟨a,xs,e,t.kp s,RPs.kp s r⟩
 | .ro _,_,h=>by
  obtain⟨a,xs,e,t,r⟩:=h
  exact⟨a,xs,e,t.kp s,RPs.kp s r⟩
 | .dct _ _,_,h=>by
  obtain⟨a,kvs,e,f,t,k,r⟩:=h
  exact⟨a,kvs,e,s.frz _ f,s.frk _ _ f t,k,RPs.kp s r⟩
theorem RPs.kp (s:Kp F m H F' m' H'):∀{ds:List P}{xs:List V},RPs K F H ds xs->RPs K F' H' ds xs
 | [],_,h=>h
 | _::_,_,h=>by
  obtain⟨x,r,e,h1,h2⟩:=h
  exact⟨x,r,e,RP.kp s h1,RPs.kp s h2⟩
end
theorem RD.kp (s:Kp F m H F' m' H'):∀{d:D}{v:V},RD K F H m d v->RD K F' H' m' d v
 | .p _,_,h=>RP.kp s h
 | .ref i,_,h=>by
  obtain⟨a,e,h⟩:=h
  obtain⟨n,e2⟩:=s.pre
  refine⟨a,e,?_⟩
  rw [e2]
  have hi:i < m.length:=(List.getElem?_eq_some_iff.mp h).1
  rw [List.getElem?_append_left hi];exact h
theorem RDs.kp (s:Kp F m H F' m' H'):∀{ds:List D}{xs:List V},RDs K F H m ds xs->RDs K F' H' m' ds xs
 | [],_,h=>h
 | _::_,_,h=>by
  obtain⟨x,r,e,h1,h2⟩:=h
  exact⟨x,r,e,RD.kp s h1,RDs.kp s h2⟩
theorem RP.mono (s:Stp F m H F' m' H') {d:P}{v:V} (h:RP K F H d v):RP K F' H' d v:=RP.kp s.kp h
theorem RPs.mono (s:Stp F m H F' m' H') {d:List P}{v:List V} (h:RPs K F H d v):RPs K F' H' d v:=RPs.kp s.kp h
theorem RD.mono (s:Stp F m H F' m' H') {d:D}{v:V} (h:RD K F H m d v):RD K F' H' m' d v:=RD.kp s.kp h
theorem RDs.mono (s:Stp F m H F' m' H') {d:List D}{v:List V} (h:RDs K F H m d v):RDs K F' H' m' d v:=RDs.kp s.kp h
theorem RPs.length:∀{ds:List P}{xs:List V},RPs K F H ds xs->ds.length=xs.length
 | [],_,h=>by rw [show _=([]:List V) from h] <;> rfl
 | _::_,_,h=>by
  obtain⟨x,r,e,_,h2⟩:=h
  rw [e,List.length_cons,List.length_cons,RPs.length h2]
theorem RDs.length:∀{ds:List D}{xs:List V},RDs K F H m ds xs->ds.length=xs.length
 | [],_,h=>by rw [show _=([]:List V) from h] <;> rfl
 | _::_,_,h=>by
  obtain⟨x,r,e,_,h2⟩:=h
  rw [e,List.length_cons,List.length_cons,RDs.length h2]
theorem RPs.get:∀{ds:List P}{xs:List V}{i:Nat}{d:P},RPs K F H ds xs->ds[i]? = some d->∃x,xs[i]? = some x/\RP K F H d x
 | [],_,_,_,_,e=>by simp at e
 | _::_,_,0,_,h,e=>by
  obtain⟨x,r,rfl,h1,_⟩:=h
  simp at e;subst e
  exact⟨x,rfl,h1⟩
 | _::_,_,i+1,d,h,e=>by
  obtain⟨x,r,rfl,_,h2⟩:=h
  obtain⟨y,e1,h3⟩:=RPs.get (i:=i) h2 (by simpa using e)
  exact⟨y,by simpa using e1,h3⟩
theorem RPs.append:∀{ds es:List P}{xs ys:List V},RPs K F H ds xs->RPs K F H es ys->RPs K F H (ds++es) (xs++ys)
 | [],_,_,_,h,g=>by rw [show _=([]:List V) from h];exact g
 | _::_,_,_,_,h,g=>by
  obtain⟨x,r,rfl,h1,h2⟩:=h
  exact⟨x,r++_,rfl,h1,RPs.append h2 g⟩
theorem RDs.append:∀{ds es:List D}{xs ys:List V},RDs K F H m ds xs->RDs K F H m es ys->RDs K F H m (ds++es) (xs++ys)
 | [],_,_,_,h,g=>by rw [show _=([]:List V) from h];exact g
 | _::_,_,_,_,h,g=>by
  obtain⟨x,r,rfl,h1,h2⟩:=h
  exact⟨x,r++_,rfl,h1,RDs.append h2 g⟩
theorem RPs.take:∀(n:Nat) {ds:List P}{xs:List V},RPs K F H ds xs->RPs K F H (ds.take n) (xs.take n)
 | 0,_,_,_=>rfl
 | _+1,[],_,h=>by rw [show _=([]:List V) from h];rfl
 | n+1,_::_,_,h=>by
  obtain⟨x,r,rfl,h1,h2⟩:=h
  exact⟨x,r.take n,rfl,h1,RPs.take n h2⟩
theorem RPs.drop:∀(n:Nat) {ds:List P}{xs:List V},RPs K F H ds xs->RPs K F H (ds.drop n) (xs.drop n)
 | 0,_,_,h=>h
 | _+1,[],_,h=>by rw [show _=([]:List V) from h];rfl
 | n+1,_::_,_,h=>by
  obtain⟨x,r,rfl,_,h2⟩:=h
  exact RPs.drop n h2
theorem RDs.take:∀(n:Nat) {ds:List D}{xs:List V},RDs K F H m ds xs->RDs K F H m (ds.take n) (xs.take n)
 | 0,_,_,_=>rfl
 | _+1,[],_,h=>by rw [show _=([]:List V) from h];rfl
 | n+1,_::_,_,h=>by
  obtain⟨x,r,rfl,h1,h2⟩:=h
  exact⟨x,r.take n,rfl,h1,RDs.take n h2⟩
theorem RDs.get:∀{ds:List D}{xs:List V}{i:Nat}{d:D},RDs K F H m ds xs->ds[i]? = some d->∃x,xs[i]? = some x/\RD K F H m d x
 | [],_,_,_,_,e=>by simp at e
 | _::_,_,0,_,h,e=>by
  obtain⟨x,r,rfl,h1,_⟩:=h
  simp at e;subst e
  exact⟨x,rfl,h1⟩
 | _::_,_,i+1,d,h,e=>by
  obtain⟨x,r,rfl,_,h2⟩:=h
  obtain⟨y,e1,h3⟩:=RDs.get (i:=i) h2 (by simpa using e)
  exact⟨y,by simpa using e1,h3⟩
theorem RDs.ofP:∀{ds:List P}{xs:List V},RPs K F H ds xs->RDs K F H m (ds.map .p) xs
 | [],_,h=>h
 | _::_,_,h=>by
  obtain⟨x,r,e,h1,h2⟩:=h
  exact⟨x,r,e,h1,RDs.ofP h2⟩
theorem Rel.fresh_m (r:Rel K F H m S) {p:Addr} (hp:H p=none):p ∉ m:=fun z=>r.trk p z hp
theorem Rel.fresh_F (r:Rel K F H m S) {p:Addr} (hp:H p=none):¬F p:=fun z=>r.ft p z hp
theorem stp_new {p:Addr}{o:HO} (hp:H p=none):Stp F m H F m (upd H p o) where
 pre:=⟨[],by simp⟩
 oth:=fun b u h _=>by rw [upd_ne (by rintro rfl;rw [hp] at h;cases h)];exact h
 frz:=fun _ h=>h
 frk:=fun b u _ h=>by rw [upd_ne (by rintro rfl;rw [hp] at h;cases h)];exact h
 tup:=fun b u h=>by rw [upd_ne (by rintro rfl;rw [hp] at h;cases h)];exact h
 trk:=fun b h=>by
  by_cases e:b=p
  ·subst e;rw [upd_same];exact fun z=>nomatch z
  ·rw [upd_ne e];exact h
 nf:=fun _ h=>.inl h
 nm:=fun _ h=>.inl h
theorem RO.kp (s:Kp F m H F' m' H') {a:Addr}{o:SO} (k:∀u,H a=some u->H' a=some u) (h:RO K F H m a o):RO K F' H' m' a o:=by
 cases o with
 | lst ds=>
  obtain⟨xs,e,r⟩:=h
  exact⟨xs,k _ e,RDs.kp s r⟩
 | dct ks ds=>
  obtain⟨kvs,e,e2,r⟩:=h
  exact⟨kvs,k _ e,e2,RDs.kp s r⟩
 | fz v=>exact RP.kp s (show RP K F H v (.ref a) from h)
 | ins c ks ds=>
  obtain⟨C,dx,kvs,n,e,e2,r⟩:=h
  exact⟨C,dx,kvs,n,k _ e,e2,RDs.kp s r⟩
 | exc c=>
  obtain⟨C,n,e⟩:=h
  exact⟨C,n,k _ e⟩
theorem RO.mono (s:Stp F m H F' m' H') {a:Addr}{o:SO} (k:∀u,H a=some u->H' a=some u) (h:RO K F H m a o):RO K F' H' m' a o:=RO.kp s.kp k h
theorem Rel.stayK (r:Rel K F H m S) (s:Kp F m H F' m H') (k:∀a u,a ∈ m->H a=some u->H' a=some u) (nF:∀a,F' a->F a\/H a=none) (ft:∀a,F' a->H' a≠none):Rel K F' H' m S where
 len:=r.len
 nd:=r.nd
 obj:=fun i a o e1 e2=>(r.obj i a o e1 e2).kp s fun u h=>k a u (List.mem_of_getElem? e1) h
 sep:=fun i a o e1 e2 w f=>by
  rcases nF a f with f | f
  ·exact r.sep i a o e1 e2 w f
  ·exact r.trk a (List.mem_of_getElem? e1) f
 trk:=fun a h=>by
  cases q:H a with
  | none=>exact absurd q (r.trk a h)
  | some u=>rw [k a u h q];exact fun z=>nomatch z
 ft:=ft
theorem Rel.stay (r:Rel K F H m S) (s:Stp F m H F' m H') (k:∀a u,a ∈ m->H a=some u->H' a=some u) (nF:∀a,F' a->F a\/H a=none) (ft:∀a,F' a->H' a≠none):Rel K F' H' m S where
 len:=r.len
 nd:=r.nd
 obj:=fun i a o e1 e2=>(r.obj i a o e1 e2).mono s fun u h=>k a u (List.mem_of_getElem? e1) h
 sep:=fun i a o e1 e2 w f=>by
  rcases nF a f with f | f
  ·exact r.sep i a o e1 e2 w f
  ·exact r.trk a (List.mem_of_getElem? e1) f
 trk:=fun a h=>s.trk a (r.trk a h)
 ft:=ft
theorem Rel.new (r:Rel K F H m S) {p:Addr}{o:HO} (hp:H p=none):Rel K F (upd H p o) m S:=
 r.stay (stp_new hp) (fun a u ha h=>by rw [upd_ne (by rintro rfl;exact r.fresh_m hp ha)];exact h) (fun _ f=>.inl f) fun a f=>(stp_new (F:=F) (m:=m) hp).trk a (r.ft a f)
theorem stp_own {p:Addr}{o:HO} (hp:H p=none):Stp F m H F (m++[p]) (upd H p o) where
 pre:=⟨[p],rfl⟩
 oth:=(stp_new (F:=F) (m:=m) (o:=o) hp).oth
 frz:=fun _ h=>h
 frk:=(stp_new (F:=F) (m:=m) (o:=o) hp).frk
 tup:=(stp_new (F:=F) (m:=m) (o:=o) hp).tup
 trk:=(stp_new (F:=F) (m:=m) (o:=o) hp).trk
 nf:=fun _ h=>.inl h
 nm:=fun b h=>by
  rcases List.mem_append.mp h with h | h
  ·exact .inl h
  ·have:b=p:=by simpa using h
   subst this;exact .inr hp
theorem Rel.own (r:Rel K F H m S) {p:Addr}{o:HO}{so:SO} (hp:H p=none) (ho:RO K F (upd H p o) (m++[p]) p so):Rel K F (upd H p o) (m++[p]) (S++[so]) where
 len:=by rw [List.length_append,List.length_append,r.len];rfl
 nd:=by
  rw [List.nodup_append]
  refine⟨r.nd,by simp,fun a ha b hb e=>?_⟩
  have:b=p:=by simpa using hb
  subst this;subst e
  exact r.fresh_m hp ha
 obj:=fun i a u e1 e2=>by
  by_cases hi:i < m.length
  ·rw [List.getElem?_append_left hi] at e1
   rw [List.getElem?_append_left (by rw [<- r.len];exact hi)] at e2
   exact (r.obj i a u e1 e2).mono (stp_own hp) fun w h=>by rw [upd_ne (by rintro rfl;rw [hp] at h;cases h)];exact h
  ·have hl:i=m.length:=by
    have:=(List.getElem?_eq_some_iff.mp e1).1
    rw [List.length_append] at this;simp at this;omega
   subst hl
   rw [List.getElem?_append_right (Nat.le_refl _)] at e1
   rw [r.len,List.getElem?_append_right (Nat.le_refl _)] at e2
   simp at e1 e2
   subst e1;subst e2;exact ho
 sep:=fun i a u e1 e2 w f=>by
  by_cases hi:i < m.length
  ·rw [List.getElem?_append_left hi] at e1
   rw [List.getElem?_append_left (by rw [<- r.len];exact hi)] at e2
   exact r.sep i a u e1 e2 w f
  ·have hl:i=m.length:=by
    have:=(List.getElem?_eq_some_iff.mp e1).1
    rw [List.length_append] at this;simp at this;omega
   subst hl
   rw [List.getElem?_append_right (Nat.le_refl _)] at e1
   simp at e1
   subst e1;exact r.fresh_F hp f
 trk:=fun a h=>by
  rcases List.mem_append.mp h with h | h
  ·exact (stp_own (F:=F) (m:=m) hp).trk a (r.trk a h)
  ·have:a=p:=by simpa using h
   subst this;rw [upd_same];exact fun z=>nomatch z
 ft:=fun a f=>(stp_own (F:=F) (m:=m) hp).trk a (r.ft a f)
theorem stp_set (r:Rel K F H m S) {i:Nat}{p:Addr}{so:SO}{o:HO} (hm:m[i]? = some p) (hs:S[i]? = some so) (hw:so.own) (ht:∀xs,H p≠some (.tup xs)):Stp F m H F m (upd H p o) where
 pre:=⟨[],by simp⟩
 oth:=fun b u h hb=>by rw [upd_ne (by rintro rfl;exact hb (List.mem_of_getElem? hm))];exact h
 frz:=fun _ h=>h
 frk:=fun b u f h=>by rw [upd_ne (by rintro rfl;exact r.sep i _ so hm hs hw f)];exact h
 tup:=fun b xs h=>by rw [upd_ne (by rintro rfl;exact ht xs h)];exact h
 trk:=fun b h=>by
  by_cases e:b=p
  ·subst e;rw [upd_same];exact fun z=>nomatch z
  ·rw [upd_ne e];exact h
 nf:=fun _ h=>.inl h
 nm:=fun _ h=>.inl h
theorem nodup_at {m:List Addr} (h:m.Nodup) {i j:Nat}{a:Addr} (e1:m[i]? = some a) (e2:m[j]? = some a):i=j:=by
 exact (List.getElem?_inj (List.getElem?_eq_some_iff.mp e1).1 h).mp (e1.trans e2.symm)
theorem Rel.set (r:Rel K F H m S) {i:Nat}{p:Addr}{so so':SO}{o:HO} (hm:m[i]? = some p) (hs:S[i]? = some so) (hw:so.own) (ht:∀xs,H p≠some (.tup xs)) (ho:RO K F (upd H p o) m p so') :
  Rel K F (upd H p o) m (S.set i so') where
 len:=by rw [List.length_set];exact r.len
 nd:=r.nd
 obj:=fun j a u e1 e2=>by
  by_cases hj:i=j
  ·subst hj
   rw [hm] at e1;cases e1
   rw [List.getElem?_set_self (by exact (List.getElem?_eq_some_iff.mp hs).1)] at e2
   cases e2;exact ho
  ·rw [List.getElem?_set_ne hj] at e2
   exact (r.obj j a u e1 e2).mono (stp_set r hm hs hw ht) fun w h=>by rw [upd_ne (by rintro rfl;exact hj (nodup_at r.nd hm e1))];exact h
 sep:=fun j a u e1 e2 w f=>by
  by_cases hj:i=j
  ·subst hj
   rw [hm] at e1;cases e1
   exact r.sep i p so hm hs hw f
  ·rw [List.getElem?_set_ne hj] at e2
   exact r.sep j a u e1 e2 w f
 trk:=fun a h=>(stp_set (o:=o) r hm hs hw ht).trk a (r.trk a h)
 ft:=fun a f=>(stp_set (o:=o) r hm hs hw ht).trk a (r.ft a f)
theorem stp_frz {p:Addr} (hm:p ∈ m):Stp F m H (fun b=>F b\/b=p) m H:=
 ⟨⟨[],by simp⟩,fun _ _ h _=>h,fun _ h=>.inl h,fun _ _ _ h=>h,fun _ _ h=>h,fun _ h=>h,fun b h=>by
  rcases h with h | h
  ·exact .inl h
  ·subst h;exact .inr (.inr hm),fun _ h=>.inl h⟩
theorem Rel.frz (r:Rel K F H m S) {i:Nat}{p:Addr}{so:SO}{v:P} (hm:m[i]? = some p) (hs:S[i]? = some so) (ho:RP K (fun b=>F b\/b=p) H v (.ref p)):Rel K (fun b=>F b\/b=p) H m (S.set i (.fz v)) where
 len:=by rw [List.length_set];exact r.len
 nd:=r.nd
 obj:=fun j a u e1 e2=>by
  by_cases hj:i=j
  ·subst hj
   rw [hm] at e1;cases e1
   rw [List.getElem?_set_self (by exact (List.getElem?_eq_some_iff.mp hs).1)] at e2
   cases e2;exact ho
  ·rw [List.getElem?_set_ne hj] at e2
   exact (r.obj j a u e1 e2).mono (stp_frz (List.mem_of_getElem? hm)) fun w h=>h
 sep:=fun j a u e1 e2 w f=>by
  by_cases hj:i=j
  ·subst hj
   rw [List.getElem?_set_self (by exact (List.getElem?_eq_some_iff.mp hs).1)] at e2
   cases e2;exact w
  ·rw [List.getElem?_set_ne hj] at e2
   rcases f with f | f
   ·exact r.sep j a u e1 e2 w f
   ·subst f;exact hj (nodup_at r.nd hm e1)
 trk:=r.trk
 ft:=fun a f=>by
  rcases f with f | f
  ·exact r.ft a f
  ·subst f;exact r.trk _ (List.mem_of_getElem? hm)
end
end Ev
namespace Ev
open PySem L2
noncomputable abbrev EE:=Lc->Sto->Option (D×Sto)
noncomputable abbrev EV:=Lc->Sto->Option (P×Sto)
noncomputable abbrev EB:=Lc->Sto->Option (Bool×Sto)
noncomputable abbrev EVs:=Lc->Sto->Option (List P×Sto)
inductive Fl where
 | nx | rt (d:D) | bk | ct
noncomputable abbrev ES:=Lc->Sto->Option (Fl×Lc×Sto)
noncomputable def bnd {α β:Type} (x:Option (α×Sto)) (f:α->Sto->Option β):Option β:=match x with
 | some (a,S)=>f a S
 | none=>none
@[simp] theorem bnd_some {α β:Type} (a:α) (S:Sto) (f:α->Sto->Option β):bnd (some (a,S)) f=f a S:=rfl
@[simp] theorem bnd_none {α β:Type} (f:α->Sto->Option β):bnd none f=none:=rfl
theorem bnd_eq {α β:Type}{x:Option (α×Sto)}{f:α->Sto->Option β}{r:β} (h:bnd x f=some r):∃a S,x=some (a,S)/\f a S=some r:=by
 cases x with
 | none=>cases h
 | some p=>exact⟨p.1,p.2,rfl,h⟩
noncomputable def mapS (f:D->Sto->Option (P×Sto)):List D->Sto->Option (List P×Sto)
 | [],S=>some ([],S)
 | d::r,S=>bnd (f d S) fun v S1=>bnd (mapS f r S1) fun vs S2=>some (v::vs,S2)
noncomputable def toP:Nat->D->Sto->Option (P×Sto)
 | _,.p v,S=>some (v,S)
 | 0,.ref _,_=>none
 | n+1,.ref i,S=>match S[i]? with
  | some (.lst ds)=>bnd (mapS (toP n) ds S) fun vs S1=>some (.lst vs,S1.set i (.fz (.lst vs)))
  | some (.dct ks ds)=>bnd (mapS (toP n) ds S) fun vs S1=>some (.dct ks vs,S1.set i (.fz (.dct ks vs)))
  | some (.fz v)=>some (v,S)
  | some (.ins _ _ _)=>none
  | some (.exc _)=>none
  | none=>none
@[simp] theorem toP_p (n:Nat) (v:P) (S:Sto):toP n (.p v) S=some (v,S):=by cases n <;> rfl
section
variable {K:PySem.W.Frag}{F:Addr->Prop}{H:Hp}{m:List Addr}{S S':Sto}
theorem mapS_ok {f:D->Sto->Option (P×Sto)}
  (hf:∀{d:D}{x:V}{v:P}{F:Addr->Prop}{S S':Sto},f d S=some (v,S')->Rel K F H m S->RD K F H m d x->∃F',Stp F m H F' m H/\Rel K F' H m S'/\S'.length=S.length/\RP K F' H v x) :
  ∀{ds:List D}{xs:List V}{vs:List P}{F:Addr->Prop}{S S':Sto},mapS f ds S=some (vs,S')->Rel K F H m S->RDs K F H m ds xs->∃F',Stp F m H F' m H/\Rel K F' H m S'/\S'.length=S.length/\RPs K F' H vs xs
 | [],xs,vs,F,S,S',h,r,rd=>by
  cases h
  exact⟨F,.refl,r,rfl,rd⟩
 | d::ds,xs,vs,F,S,S',h,r,rd=>by
  obtain⟨x,xr,e,h1,h2⟩:=rd
  obtain⟨v,S1,e1,h⟩:=bnd_eq h
  obtain⟨vr,S2,e2,h⟩:=bnd_eq h
  cases h
  obtain⟨F1,s1,r1,l1,p1⟩:=hf e1 r h1
  obtain⟨F2,s2,r2,l2,p2⟩:=mapS_ok hf e2 r1 (RDs.mono s1 h2)
  exact⟨F2,s1.trans s2,r2,l2.trans l1,x,xr,e,RP.mono s2 p1,p2⟩
theorem toP_ok:∀(n:Nat) {d:D}{x:V}{v:P}{F:Addr->Prop}{S S':Sto},toP n d S=some (v,S')->Rel K F H m S->RD K F H m d x->∃F',Stp F m H F' m H/\Rel K F' H m S'/\S'.length=S.length/\RP K F' H v x
 | n,.p w,x,v,F,S,S',h,r,rd=>by
  rw [toP_p] at h;cases h
  exact⟨F,.refl,r,rfl,rd⟩
 | 0,.ref i,x,v,F,S,S',h,r,rd=>by cases h
 | n+1,.ref i,x,v,F,S,S',h,r,rd=>by
  obtain⟨a,e,hm⟩:=rd
  subst e
  have hi:i < S.length:=by rw [<- r.len];exact (List.getElem?_eq_some_iff.mp hm).1
  obtain⟨o,ho⟩:∃o,S[i]? = some o:=⟨S[i],by simp [hi]⟩
  have ob:=r.obj i a o hm ho
  simp only [toP,ho] at h
  cases o with
  | fz w=>
   cases h
   exact⟨F,.refl,r,rfl,ob⟩
  | ins c ks ds=>cases h
  | exc c=>cases h
  | lst ds=>
   obtain⟨vs,S1,e1,h⟩:=bnd_eq h
   cases h
   obtain⟨xs,hH,rs⟩:=ob
   obtain⟨F1,s1,r1,l1,p1⟩:=mapS_ok (fun h=>toP_ok n h) e1 r rs
   obtain⟨o1,ho1⟩:∃o,S1[i]? = some o:=⟨S1[i]'(by rw [l1];exact hi),by simp [l1,hi]⟩
   have st:Stp F1 m H (fun b=>F1 b\/b=a) m H:=stp_frz (List.mem_of_getElem? hm)
   have q:RP K (fun b=>F1 b\/b=a) H (.lst vs) (.ref a):=⟨a,xs,rfl,⟨.inr rfl,hH⟩,RPs.mono st p1⟩
   exact⟨_,s1.trans st,r1.frz hm ho1 q,by rw [List.length_set];exact l1,q⟩
  | dct ks ds=>
   obtain⟨vs,S1,e1,h⟩:=bnd_eq h
   cases h
   obtain⟨kvs,hH,hk,rs⟩:=ob
   obtain⟨F1,s1,r1,l1,p1⟩:=mapS_ok (fun h=>toP_ok n h) e1 r rs
   obtain⟨o1,ho1⟩:∃o,S1[i]? = some o:=⟨S1[i]'(by rw [l1];exact hi),by simp [l1,hi]⟩
   have st:Stp F1 m H (fun b=>F1 b\/b=a) m H:=stp_frz (List.mem_of_getElem? hm)
   have q:RP K (fun b=>F1 b\/b=a) H (.dct ks vs) (.ref a):=⟨a,kvs,rfl,.inr rfl,hH,hk,RPs.mono st p1⟩
   exact⟨_,s1.trans st,r1.frz hm ho1 q,by rw [List.length_set];exact l1,q⟩
end
structure Grow (F:Addr->Prop) (H:Hp) (F':Addr->Prop) (H':Hp):Prop where
 keep:∀b o,H b=some o->H' b=some o
 frz:∀b,F b->F' b
 nf:∀b,F' b->F b\/(H b=none/\H' b≠none)
section
variable {K:PySem.W.Frag}{F F' F1 F2:Addr->Prop}{H H' H1 H2:Hp}{m:List Addr}{S S':Sto}
theorem Grow.refl:Grow F H F H:=⟨fun _ _ h=>h,fun _ h=>h,fun _ h=>.inl h⟩
theorem Grow.trans (a:Grow F H F1 H1) (b:Grow F1 H1 F2 H2):Grow F H F2 H2:=
 ⟨fun c o h=>b.keep c o (a.keep c o h),fun c h=>b.frz c (a.frz c h),fun c h=>by
  rcases b.nf c h with h | ⟨h,h2⟩
  ·rcases a.nf c h with h | ⟨h,h2⟩
   ·exact .inl h
   ·refine .inr ⟨h,?_⟩
    cases q:H1 c with
    | none=>exact absurd q h2
    | some o=>rw [b.keep c o q];exact fun z=>nomatch z
  ·refine .inr ⟨?_,h2⟩
   cases q:H c with
   | none=>rfl
   | some o=>rw [a.keep c o q] at h;cases h⟩
theorem Grow.stp (g:Grow F H F' H'):Stp F m H F' m H' where
 pre:=⟨[],by simp⟩
 oth:=fun b o h _=>g.keep b o h
 frz:=g.frz
 frk:=fun b o _ h=>g.keep b o h
 tup:=fun b xs h=>g.keep b _ h
 trk:=fun b h=>by
  cases q:H b with
  | none=>exact absurd q h
  | some o=>rw [g.keep b o q];exact fun z=>nomatch z
 nf:=fun b h=>by
  rcases g.nf b h with h | ⟨h,_⟩
  ·exact .inl h
  ·exact .inr (.inl h)
 nm:=fun _ h=>.inl h
theorem Rel.grow (r:Rel K F H m S) (g:Grow F H F' H'):Rel K F' H' m S:=
 r.stay g.stp (fun a u _ h=>g.keep a u h) (fun a f=>by
  rcases g.nf a f with f | ⟨f,_⟩
  ·exact .inl f
  ·exact .inr f) fun a f=>by
  rcases g.nf a f with f | ⟨_,f⟩
  ·exact (g.stp (m:=m)).trk a (r.ft a f)
  ·exact f
theorem grow_new {p:Addr}{o:HO} (hp:H p=none):Grow F H F (upd H p o):=
 ⟨fun b u h=>by rw [upd_ne (by rintro rfl;rw [hp] at h;cases h)];exact h,fun _ h=>h,fun _ h=>.inl h⟩
theorem grow_frz {p:Addr}{o:HO} (hp:H p=none):Grow F H (fun b=>F b\/b=p) (upd H p o):=
 ⟨fun b u h=>by rw [upd_ne (by rintro rfl;rw [hp] at h;cases h)];exact h,fun _ h=>.inl h,fun b h=>by
  rcases h with h | h
  ·exact .inl h
  ·subst h;exact .inr ⟨hp,by rw [upd_same];exact fun z=>nomatch z⟩⟩
theorem RP.grow {d:P}{v:V} (g:Grow F H F' H') (h:RP K F H d v):RP K F' H' d v:=RP.mono (m:=[]) g.stp h
theorem RPs.grow {d:List P}{v:List V} (g:Grow F H F' H') (h:RPs K F H d v):RPs K F' H' d v:=RPs.mono (m:=[]) g.stp h
theorem RP.newTup {p:Addr}{ds:List P}{xs:List V} (hp:H p=none) (r:RPs K F H ds xs):RP K F (upd H p (.tup xs)) (.tup ds) (.ref p):=⟨p,xs,rfl,.inl upd_same,r.grow (grow_new hp)⟩
theorem RP.newLst {p:Addr}{ds:List P}{xs:List V} (hp:H p=none) (r:RPs K F H ds xs):RP K (fun b=>F b\/b=p) (upd H p (.lst xs)) (.lst ds) (.ref p):=⟨p,xs,rfl,⟨.inr rfl,upd_same⟩,r.grow (grow_frz hp)⟩
end
noncomputable def vC (v:P):EV:=fun _ S=>some (v,S)
noncomputable def eVar (i:Nat):EE:=fun L S=>match L[i]? with
 | some (some d)=>some (d,S)
 | _=>none
noncomputable def vE (f:EE):EV:=fun L S=>bnd (f L S) (toP 9)
noncomputable def eV (f:EV):EE:=fun L S=>bnd (f L S) fun v S1=>some (.p v,S1)
noncomputable def vVar (i:Nat):EV:=vE (eVar i)
noncomputable def vOp (g:P->P->Option P) (a b:EV):EV:=fun L S=>bnd (a L S) fun x S1=>bnd (b L S1) fun y S2=>(g x y).map fun v=>(v,S2)
noncomputable def vUn (g:P->Option P) (a:EV):EV:=fun L S=>bnd (a L S) fun x S1=>(g x).map fun v=>(v,S1)
noncomputable def bV (a:EV):EB:=fun L S=>bnd (a L S) fun x S1=>match x with
 | .bl b=>some (b,S1)
 | _=>none
noncomputable def bAnd (a b:EB):EB:=fun L S=>bnd (a L S) fun c S1=>if c=true then b L S1 else some (false,S1)
noncomputable def bOr (a b:EB):EB:=fun L S=>bnd (a L S) fun c S1=>if c=true then some (true,S1) else b L S1
noncomputable def bNot (a:EB):EB:=fun L S=>bnd (a L S) fun c S1=>some (!c,S1)
noncomputable def vB (a:EB):EV:=fun L S=>bnd (a L S) fun c S1=>some (.bl c,S1)
noncomputable def vsNil:EVs:=fun _ S=>some ([],S)
noncomputable def vsCons (a:EV) (r:EVs):EVs:=fun L S=>bnd (a L S) fun x S1=>bnd (r L S1) fun xs S2=>some (x::xs,S2)
noncomputable def vCall (g:List P->Option P) (a:EVs):EV:=fun L S=>bnd (a L S) fun xs S1=>(g xs).map fun v=>(v,S1)
noncomputable def sNx:ES:=fun L S=>some (.nx,L,S)
noncomputable def sSeq (f g:ES):ES:=fun L S=>match f L S with
 | some (.nx,L1,S1)=>g L1 S1
 | r=>r
noncomputable def sSet (i:Nat) (f:EE):ES:=fun L S=>bnd (f L S) fun d S1=>some (.nx,L.set i (some d),S1)
noncomputable def sRet (f:EE):ES:=fun L S=>bnd (f L S) fun d S1=>some (.rt d,L,S1)
noncomputable def sDrop (f:EE):ES:=fun L S=>bnd (f L S) fun _ S1=>some (.nx,L,S1)
noncomputable def sIf (c:EB) (a b:ES):ES:=fun L S=>bnd (c L S) fun k S1=>if k=true then a L S1 else b L S1
noncomputable def sNever:ES:=fun _ _=>none
noncomputable abbrev TGv:=P->Lc->Option Lc
noncomputable def gSet (i:Nat):TGv:=fun v L=>some (L.set i (some (.p v)))
noncomputable def forGo (g:TGv) (b:ES):List P->Lc->Sto->Option (Fl×Lc×Sto)
 | [],L,S=>some (.nx,L,S)
 | v::r,L,S=>match g v L with
  | none=>none
  | some L1=>match b L1 S with
   | some (.nx,L2,S2)=>forGo g b r L2 S2
   | some (.ct,L2,S2)=>forGo g b r L2 S2
   | some (.bk,L2,S2)=>some (.nx,L2,S2)
   | x=>x
noncomputable def sFor (it:EVs) (g:TGv) (b:ES):ES:=fun L S=>bnd (it L S) fun xs S1=>forGo g b xs L S1
noncomputable def whileGo (c:EB) (b:ES):Nat->Lc->Sto->Option (Fl×Lc×Sto)
 | 0,_,_=>none
 | n+1,L,S=>bnd (c L S) fun k S1=>if k=true then match b L S1 with
   | some (.nx,L2,S2)=>whileGo c b n L2 S2
   | some (.ct,L2,S2)=>whileGo c b n L2 S2
   | some (.bk,L2,S2)=>some (.nx,L2,S2)
   | x=>x
  else some (.nx,L,S1)
noncomputable def sWhile (n:Nat) (c:EB) (b:ES):ES:=whileGo c b n
end Ev
namespace Ev
open PySem PySem.Spec PyProof.Rows L2
section
variable (K:PySem.W.Frag)
structure RL (F:Addr->Prop) (H:Hp) (m:List Addr) (σ:L2.St) (L:Lc):Prop where
 len:σ.length=L.length
 at':∀(i:Nat) d,L[i]? = some (some d)->∃v,σ[i]? = some (some v)/\RD K F H m d v
noncomputable def tE (f:EE):TE:=fun σ H Q=>∃F m L S d S',Rel K F H m S/\RL K F H m σ L/\f L S=some (d,S')/\∀v F' m' H',Stp F m H F' m' H'->Rel K F' H' m' S'->RD K F' H' m' d v->Q v H'
noncomputable def tV (f:EV):TE:=fun σ H Q=>∃F m L S d S',Rel K F H m S/\RL K F H m σ L/\f L S=some (d,S')/\∀v F' m' H',Stp F m H F' m' H'->Rel K F' H' m' S'->RP K F' H' d v->Q v H'
noncomputable def tQ (f:EB):TT:=fun σ H Q=>∃F m L S b S',Rel K F H m S/\RL K F H m σ L/\f L S=some (b,S')/\∀F' m' H',Stp F m H F' m' H'->Rel K F' H' m' S'->Q b H'
noncomputable def tVs (f:EVs):TA:=fun σ H Q=>∃F m L S ds S',Rel K F H m S/\RL K F H m σ L/\f L S=some (ds,S')/\∀xs F' m' H',Stp F m H F' m' H'->Rel K F' H' m' S'->RPs K F' H' ds xs->Q xs H'
noncomputable def tFin (D:Ends) (F:Addr->Prop) (m:List Addr) (σ:L2.St) (H:Hp):Fl->Prop
 | .nx=>D.nx σ H
 | .bk=>D.bk σ H
 | .ct=>D.ct σ H
 | .rt d=>∀v,RD K F H m d v->D.rt v H
noncomputable def tSt (f:ES):TS:=fun D σ H=>∃F m L S fl L' S',Rel K F H m S/\RL K F H m σ L/\f L S=some (fl,L',S') /\
 ∀σ' F' m' H',Stp F m H F' m' H'->Rel K F' H' m' S'->RL K F' H' m' σ' L'->tFin K D F' m' σ' H' fl
end
section
variable {K:PySem.W.Frag}{F F':Addr->Prop}{H H':Hp}{m m':List Addr}{σ:L2.St}{L:Lc}{S:Sto}
theorem RL.mono (s:Stp F m H F' m' H') (h:RL K F H m σ L):RL K F' H' m' σ L:=⟨h.len,fun i d e=>by
 obtain⟨v,e1,r⟩:=h.at' i d e
 exact⟨v,e1,RD.mono s r⟩⟩
theorem RL.set (h:RL K F H m σ L) {d:D}{v:V} (r:RD K F H m d v) (i:Nat):RL K F H m (σ.set i (some v)) (L.set i (some d)):=⟨by rw [List.length_set,List.length_set];exact h.len,fun j e q=>by
 by_cases hj:i=j
 ·subst hj
  by_cases hi:i < L.length
  ·rw [List.getElem?_set_self hi] at q
   cases q
   exact⟨v,List.getElem?_set_self (by rw [h.len];exact hi),r⟩
  ·rw [List.getElem?_eq_none (by rw [List.length_set];omega)] at q;cases q
 ·rw [List.getElem?_set_ne hj] at q
  rw [List.getElem?_set_ne hj]
  exact h.at' j e q⟩
end
section
variable {X:Cx}{e:Expr}{es:List Expr}{st:Stmt}{sts:List Stmt}
theorem _root_.L2.PE.imp' {t t':TE} (h:PE X e t) (i:∀σ H Q,t' σ H Q->t σ H Q):PE X e t':=fun pins s σ H Q I q=>h pins s σ H Q I (i σ H Q q)
theorem _root_.L2.PT.imp' {t t':TT} (h:PT X e t) (i:∀σ H Q,t' σ H Q->t σ H Q):PT X e t':=fun pins s σ H Q I q=>h pins s σ H Q I (i σ H Q q)
theorem _root_.L2.PW.imp' {t t':TT} (h:PW X e t) (i:∀σ H Q,t' σ H Q->t σ H Q):PW X e t':=fun wh pins s σ H Q I q=>h wh pins s σ H Q I (i σ H Q q)
theorem _root_.L2.PA.imp' {t t':TA} (h:PA X es t) (i:∀σ H Q,t' σ H Q->t σ H Q):PA X es t':=fun pos pins s σ H Q I q=>h pos pins s σ H Q I (i σ H Q q)
theorem _root_.L2.PS.imp' {t t':TS} (h:PS X st t) (i:∀D σ H,t' D σ H->t D σ H):PS X st t':=fun pins s σ H D I q=>h pins s σ H D I (i D σ H q)
theorem _root_.L2.PSs.imp' {t t':TS} (h:PSs X sts t) (i:∀D σ H,t' D σ H->t D σ H):PSs X sts t':=fun pins s σ H D I q=>h pins s σ H D I (i D σ H q)
end
section
variable {X:Cx}{a b c e:Expr}{es:List Expr}{fa fb:EV}{fe:EE}{pos:Pos}
theorem xVE (h:PE X e (tE X.K fe)):PE X e (tV X.K (vE fe)):=h.imp' fun σ H Q hz=>by
 obtain⟨F,m,L,S,d,S',r,l,q,k⟩:=hz
 obtain⟨d0,S1,e1,e2⟩:=bnd_eq q
 refine⟨F,m,L,S,d0,S1,r,l,e1,fun v F' m' H' s r' rd=>?_⟩
 obtain⟨F2,s2,r2,_,p⟩:=toP_ok 9 e2 r' rd
 exact k v F2 m' H' (s.trans s2) r2 p
theorem xEV (h:PE X e (tV X.K fa)):PE X e (tE X.K (eV fa)):=h.imp' fun σ H Q hz=>by
 obtain⟨F,m,L,S,d,S',r,l,q,k⟩:=hz
 obtain⟨d0,S1,e1,e2⟩:=bnd_eq q
 cases e2
 exact⟨F,m,L,S,d0,S',r,l,e1,fun v F' m' H' s r' rd=>k v F' m' H' s r' rd⟩
theorem xVar (i:Nat) {x:Str}{pos:Pos} (hN:X.N[i]? = some x:=by rfl) (hv:Vis X.env.scope x:=by first | exact Or.inl rfl | exact Or.inr (Or.inl rfl) | exact Or.inr (Or.inr rfl)) (hd:(x == ("__debug__":Str))=false:=by decide)
  (hcd:(x == ("__classdict__":Str))=false:=by decide):PE X (.Name x pos) (tE X.K (eVar i)):=(pe_var hN hv hd hcd).imp' fun σ H Q hz=>by
 obtain⟨F,m,L,S,d,S',r,l,q,k⟩:=hz
 unfold eVar at q
 split at q
 ·rename_i d' e
  cases q
  obtain⟨v,e1,rd⟩:=l.at' i _ e
  exact⟨v,e1,k v F m H .refl r rd⟩
 ·cases q
theorem xC {v:V}{d:P} (h:PE X e (tC v)) (r:∀F H,RP X.K F H d v):PE X e (tV X.K (vC d)):=h.imp' fun σ H Q hz=>by
 obtain⟨F,m,L,S,d',S',r',l,q,k⟩:=hz
 cases q
 exact k v F m H .refl r' (r F H)
theorem xInt {i j pos}:PE X (.Constant (.int i) j pos) (tV X.K (vC (.int i))):=xC pe_int fun _ _=>rfl
theorem xBl {i j pos}:PE X (.Constant (.bool i) j pos) (tV X.K (vC (.bl i))):=xC pe_bl fun _ _=>rfl
theorem xNon {j pos}:PE X (.Constant .none j pos) (tV X.K (vC .non)):=xC pe_non fun _ _=>rfl
theorem xStr {i j pos}:PE X (.Constant (.str i) j pos) (tV X.K (vC (.str i))):=xC pe_str fun _ _=>rfl
noncomputable def rP (K:PySem.W.Frag) (g:P->P->Option P):R2:=fun x y H Q=>∃F dx dy d,(∀a,F a->H a≠none)/\RP K F H dx x/\RP K F H dy y/\g dx dy=some d/\∀v F' H',Grow F H F' H'->RP K F' H' d v->Q v H'
noncomputable def OpP (X:Cx) (f:Value->Value->Sem Value) (g:P->P->Option P):Prop:=OpR X f (rP X.K g)
theorem tOp_of {g:P->P->Option P}{σ:L2.St}{H:Hp}{Q:VK} (h:tV X.K (vOp g fa fb) σ H Q):tOp (rP X.K g) (tV X.K fa) (tV X.K fb) σ H Q:=by
 obtain⟨F,m,L,S,d,S',r,l,q,k⟩:=h
 obtain⟨x,S1,e1,q⟩:=bnd_eq q
 obtain⟨y,S2,e2,q⟩:=bnd_eq q
 refine⟨F,m,L,S,x,S1,r,l,e1,fun v F1 m1 H1 s1 r1 p1=>?_⟩
 refine⟨F1,m1,L,S1,y,S2,r1,l.mono s1,e2,fun u F2 m2 H2 s2 r2 p2=>?_⟩
 cases eg:g x y with
 | none=>rw [eg] at q;cases q
 | some z=>
  rw [eg] at q
  cases q
  refine⟨F2,x,y,_,r2.ft,RP.mono s2 p1,p2,eg,fun w F3 H3 gr p3=>?_⟩
  exact k w F3 m2 H3 (s1.trans (s2.trans gr.stp)) (r2.grow gr) p3
theorem xOp {op:Operator}{g:P->P->Option P} (ho:OpP X (binaryOp op) g) (ha:PE X a (tV X.K fa)) (hb:PE X b (tV X.K fb)):PE X (.BinOp a op b pos) (tV X.K (vOp g fa fb)):=
 (pe_op ho ha hb).imp' fun _ _ _ h=>tOp_of h
theorem xCmp {op:CmpOp}{g:P->P->Option P} (ho:OpP X (compareOp op) g) (ha:PE X a (tV X.K fa)) (hb:PE X b (tV X.K fb)) (hm:behindInMarks op b=false):PE X (.Compare a [op] [b] pos) (tV X.K (vOp g fa fb)):=
 (pe_cmpR ho ha hb hm).imp' fun _ _ _ h=>tOp_of h
theorem tTest_of {g:P->P->Option P}{σ:L2.St}{H:Hp}{Q:Bool->Hp->Prop} (h:tQ X.K (bV (vOp g fa fb)) σ H Q):tTest (tOp (rP X.K g) (tV X.K fa) (tV X.K fb)) σ H Q:=by
 refine tOp_of ?_
 obtain⟨F,m,L,S,d,S',r,l,q,k⟩:=h
 obtain⟨x,S1,e1,q⟩:=bnd_eq q
 cases x with
 | bl b=>cases q;exact⟨F,m,L,S,_,_,r,l,e1,fun v F' m' H' s r' p=>⟨_,p,k F' m' H' s r'⟩⟩
 | _=>cases q
theorem yCmp {op:CmpOp}{g:P->P->Option P} (ho:OpP X (compareOp op) g) (ha:PE X a (tV X.K fa)) (hb:PE X b (tV X.K fb)) (hm:behindInMarks op b=false):PT X (.Compare a [op] [b] pos) (tQ X.K (bV (vOp g fa fb))):=
 (pt_cmpR ho ha hb hm).imp' fun _ _ _ h=>tTest_of h
variable {qa qb:EB}{rest:List Expr}
theorem yAnd1 (ha:PT X a (tQ X.K qa)):PW X (.BoolOp .And [a] pos) (tQ X.K qa):=pw_and1 ha
theorem yOr1 (ha:PT X a (tQ X.K qa)):PW X (.BoolOp .Or [a] pos) (tQ X.K qa):=pw_or1 ha
theorem yAnd (ha:PT X a (tQ X.K qa)) (hb:PW X (.BoolOp .And (b::rest) pos) (tQ X.K qb)):PW X (.BoolOp .And (a::b::rest) pos) (tQ X.K (bAnd qa qb)):=
 (pw_and ha hb).imp' fun σ H Q hz=>by
  obtain⟨F,m,L,S,d,S',r,l,q,k⟩:=hz
  obtain⟨c,S1,e1,q⟩:=bnd_eq q
  refine⟨F,m,L,S,c,S1,r,l,e1,fun F' m' H' s r'=>?_⟩
  cases c with
  | true=>rw [if_pos rfl] at q ⊢;exact⟨F',m',L,S1,d,S',r',l.mono s,q,fun F2 m2 H2 s2 r2=>k F2 m2 H2 (s.trans s2) r2⟩
  | false=>rw [if_neg Bool.false_ne_true] at q ⊢;cases q;exact k F' m' H' s r'
theorem yOr (ha:PT X a (tQ X.K qa)) (hb:PW X (.BoolOp .Or (b::rest) pos) (tQ X.K qb)):PW X (.BoolOp .Or (a::b::rest) pos) (tQ X.K (bOr qa qb)):=
 (pw_or ha hb).imp' fun σ H Q hz=>by
  obtain⟨F,m,L,S,d,S',r,l,q,k⟩:=hz
  obtain⟨c,S1,e1,q⟩:=bnd_eq q
  refine⟨F,m,L,S,c,S1,r,l,e1,fun F' m' H' s r'=>?_⟩
  cases c with
  | false=>rw [if_neg Bool.false_ne_true] at q ⊢;exact⟨F',m',L,S1,d,S',r',l.mono s,q,fun F2 m2 H2 s2 r2=>k F2 m2 H2 (s.trans s2) r2⟩
  | true=>rw [if_pos rfl] at q ⊢;cases q;exact k F' m' H' s r'
theorem yNot (ha:PT X a (tQ X.K qa)):PT X (.UnaryOp .Not a pos) (tQ X.K (bNot qa)):=
 (pt_not ha).imp' fun σ H Q hz=>by
  obtain⟨F,m,L,S,d,S',r,l,q,k⟩:=hz
  obtain⟨c,S1,e1,q⟩:=bnd_eq q
  cases q
  exact⟨F,m,L,S,c,S',r,l,e1,fun F' m' H' s r'=>k F' m' H' s r'⟩
theorem xAnd1 {op} (h:PE X a (tV X.K (vB qa))):PE X (.BoolOp op [a] pos) (tV X.K (vB qa)):=pe_one h
theorem vB_of {σ:L2.St}{H:Hp}{Q:VK}{k:Bool->Hp->Prop} (h:tQ X.K qa σ H k) (hk:∀b H',k b H'->Q (.bl b) H'):tV X.K (vB qa) σ H Q:=by
 obtain⟨F,m,L,S,d,S',r,l,q,kk⟩:=h
 exact⟨F,m,L,S,.bl d,S',r,l,by unfold vB;rw [q];rfl,fun v F' m' H' s r' p=>by rw [show v=.bl d from p];exact hk _ _ (kk F' m' H' s r')⟩
theorem of_vB {σ:L2.St}{H:Hp}{Q:VK} (h:tV X.K (vB qa) σ H Q):tQ X.K qa σ H fun b H'=>Q (.bl b) H':=by
 obtain⟨F,m,L,S,d,S',r,l,q,kk⟩:=h
 obtain⟨c,S1,e1,q⟩:=bnd_eq q
 cases q
 exact⟨F,m,L,S,c,S',r,l,e1,fun F' m' H' s r'=>kk _ F' m' H' s r' rfl⟩
theorem xAnd (ha:PE X a (tV X.K (vB qa))) (hb:PE X (.BoolOp .And (b::rest) pos) (tV X.K (vB qb))):PE X (.BoolOp .And (a::b::rest) pos) (tV X.K (vB (bAnd qa qb))):=
 (pe_and ha hb).imp' fun σ H Q h=>by
  obtain⟨F,m,L,S,d,S',r,l,q,k⟩:=of_vB h
  obtain⟨c,S1,e1,q⟩:=bnd_eq q
  refine vB_of (k:=fun c H1=>if c=true then tV X.K (vB qb) σ H1 Q else Q (.bl false) H1) ⟨F,m,L,S,c,S1,r,l,e1,fun F' m' H' s r'=>?_⟩ fun b H' q=>⟨b,rfl,q⟩
  cases c with
  | true=>rw [if_pos rfl] at q ⊢;exact vB_of (k:=fun b H2=>Q (.bl b) H2) ⟨F',m',L,S1,d,S',r',l.mono s,q,fun F2 m2 H2 s2 r2=>k F2 m2 H2 (s.trans s2) r2⟩ fun _ _ q=>q
  | false=>rw [if_neg Bool.false_ne_true] at q ⊢;cases q;exact k F' m' H' s r'
theorem xOr (ha:PE X a (tV X.K (vB qa))) (hb:PE X (.BoolOp .Or (b::rest) pos) (tV X.K (vB qb))):PE X (.BoolOp .Or (a::b::rest) pos) (tV X.K (vB (bOr qa qb))):=
 (pe_or ha hb).imp' fun σ H Q h=>by
  obtain⟨F,m,L,S,d,S',r,l,q,k⟩:=of_vB h
  obtain⟨c,S1,e1,q⟩:=bnd_eq q
  refine vB_of (k:=fun c H1=>if c=true then Q (.bl true) H1 else tV X.K (vB qb) σ H1 Q) ⟨F,m,L,S,c,S1,r,l,e1,fun F' m' H' s r'=>?_⟩ fun b H' q=>⟨b,rfl,q⟩
  cases c with
  | false=>rw [if_neg Bool.false_ne_true] at q ⊢;exact vB_of (k:=fun b H2=>Q (.bl b) H2) ⟨F',m',L,S1,d,S',r',l.mono s,q,fun F2 m2 H2 s2 r2=>k F2 m2 H2 (s.trans s2) r2⟩ fun _ _ q=>q
  | true=>rw [if_pos rfl] at q ⊢;cases q;exact k F' m' H' s r'
theorem xNot (ha:PE X a (tV X.K (vB qa))):PE X (.UnaryOp .Not a pos) (tV X.K (vB (bNot qa))):=
 (pe_not ha).imp' fun σ H Q h=>by
  obtain⟨F,m,L,S,d,S',r,l,q,k⟩:=of_vB h
  obtain⟨c,S1,e1,q⟩:=bnd_eq q
  cases q
  exact vB_of (k:=fun b H'=>Q (.bl (!b)) H') ⟨F,m,L,S,c,S',r,l,e1,fun F' m' H' s r'=>k F' m' H' s r'⟩ fun b H' q=>⟨b,rfl,q⟩
theorem xBool (h:PE X e (tV X.K fa)):PE X e (tV X.K (vB (bV fa))):=h.imp' fun σ H Q h=>by
 obtain⟨F,m,L,S,d,S',r,l,q,k⟩:=of_vB h
 obtain⟨x,S1,e1,q⟩:=bnd_eq q
 cases x with
 | bl b=>cases q;exact⟨F,m,L,S,_,_,r,l,e1,fun v F' m' H' s r' p=>by cases (show v=.bl d from p);exact k F' m' H' s r'⟩
 | _=>cases q
variable {fs:EVs}
theorem aNil:PA X [] (tVs X.K vsNil):=pa_nil.imp' fun σ H Q hz=>by
 obtain⟨F,m,L,S,d,S',r,l,q,k⟩:=hz
 cases q
 exact k [] F m H .refl r rfl
theorem aCons (ha:PE X e (tV X.K fa)) (hr:PA X es (tVs X.K fs)) (hs:starEach (e::es) X.env=(false,eval e X.env)::starEach es X.env:=by rfl):PA X (e::es) (tVs X.K (vsCons fa fs)):=
 (pa_cons ha hr hs).imp' fun σ H Q hz=>by
  obtain⟨F,m,L,S,d,S',r,l,q,k⟩:=hz
  obtain⟨x,S1,e1,q⟩:=bnd_eq q
  obtain⟨xs,S2,e2,q⟩:=bnd_eq q
  cases q
  refine⟨F,m,L,S,x,S1,r,l,e1,fun v F1 m1 H1 s1 r1 p1=>?_⟩
  refine⟨F1,m1,L,S1,xs,S',r1,l.mono s1,e2,fun vs F2 m2 H2 s2 r2 p2=>?_⟩
  exact k (v::vs) F2 m2 H2 (s1.trans s2) r2 ⟨v,vs,rfl,RP.mono s2 p1,p2⟩
noncomputable def few {α:Type} (xs:List α):Bool:=decide (xs.length≤1000000)
theorem few_le {α:Type}{xs:List α} (h:few xs=true):xs.length≤sizeLine:=Nat.le_trans (of_decide_eq_true h) (by decide)
noncomputable def vTup' (a:EVs):EV:=fun L S=>bnd (a L S) fun xs S1=>if few xs=true then some (.tup xs,S1) else none
noncomputable def vLst' (a:EVs):EV:=fun L S=>bnd (a L S) fun xs S1=>if few xs=true then some (.lst xs,S1) else none
noncomputable def eLst' (a:EVs):EE:=fun L S=>bnd (a L S) fun xs S1=>if few xs=true then some (.ref S1.length,S1++[.lst (xs.map .p)]) else none
theorem xTup {x1} (h:PA X es (tVs X.K fs)):PE X (.Tuple es x1 pos) (tV X.K (vTup' fs)):=(pe_tup h).imp' fun σ H Q hz=>by
 obtain⟨F,m,L,S,d,S',r,l,q,k⟩:=hz
 obtain⟨xs,S1,e1,q⟩:=bnd_eq q
 split at q
 ·rename_i hf
  cases q
  refine⟨F,m,L,S,xs,S',r,l,e1,fun vs F1 m1 H1 s1 r1 p1=>⟨by rw [<- p1.length];exact few_le hf,fun p hp=>?_⟩⟩
  exact k (.ref p) F1 m1 _ (s1.trans (grow_new hp).stp) (r1.grow (grow_new hp)) (.newTup hp p1)
 ·cases q
theorem xLst (h:PA X es (tVs X.K fs)):PE X (.List es pos) (tV X.K (vLst' fs)):=(pe_lst h).imp' fun σ H Q hz=>by
 obtain⟨F,m,L,S,d,S',r,l,q,k⟩:=hz
 obtain⟨xs,S1,e1,q⟩:=bnd_eq q
 split at q
 ·rename_i hf
  cases q
  refine⟨F,m,L,S,xs,S',r,l,e1,fun vs F1 m1 H1 s1 r1 p1=>⟨by rw [<- p1.length];exact few_le hf,fun p hp=>?_⟩⟩
  exact k (.ref p) _ m1 _ (s1.trans (grow_frz hp).stp) (r1.grow (grow_frz hp)) (.newLst hp p1)
 ·cases q
theorem xLstE (h:PA X es (tVs X.K fs)):PE X (.List es pos) (tE X.K (eLst' fs)):=(pe_lst h).imp' fun σ H Q hz=>by
 obtain⟨F,m,L,S,d,S',r,l,q,k⟩:=hz
 obtain⟨xs,S1,e1,q⟩:=bnd_eq q
 split at q
 ·rename_i hf
  cases q
  refine⟨F,m,L,S,xs,S1,r,l,e1,fun vs F1 m1 H1 s1 r1 p1=>⟨by rw [<- p1.length];exact few_le hf,fun p hp=>?_⟩⟩
  have s2:Stp F1 m1 H1 F1 (m1++[p]) (upd H1 p (.lst vs)):=stp_own hp
  refine k (.ref p) F1 (m1++[p]) _ (s1.trans s2) (r1.own hp ⟨vs,upd_same,RDs.ofP (RPs.mono s2 p1)⟩) ⟨p,rfl,?_⟩
  rw [<- r1.len,List.getElem?_append_right (Nat.le_refl _)];simp
 ·cases q
noncomputable def rC (K:PySem.W.Frag) (g:List P->Option P):List V->Hp->VK->Prop:=fun xs H Q=>∃F ds d,(∀a,F a->H a≠none)/\RPs K F H ds xs/\g ds=some d/\∀v F' H',Grow F H F' H'->RP K F' H' d v->Q v H'
theorem tCB_of {g:List P->Option P}{σ:L2.St}{H:Hp}{Q:VK} (h:tV X.K (vCall g fs) σ H Q):tVs X.K fs σ H fun vs H1=>rC X.K g vs H1 Q:=by
 obtain⟨F,m,L,S,d,S',r,l,q,k⟩:=h
 obtain⟨xs,S1,e1,q⟩:=bnd_eq q
 cases eg:g xs with
 | none=>rw [eg] at q;cases q
 | some z=>
  rw [eg] at q
  cases q
  exact⟨F,m,L,S,xs,_,r,l,e1,fun vs F1 m1 H1 s1 r1 p1=>⟨F1,xs,_,r1.ft,p1,eg,fun v F2 H2 gr p=>k v F2 m1 H2 (s1.trans gr.stp) (r1.grow gr) p⟩⟩
theorem xCallB {x:Str}{p:Pos}{id:String}{g:List P->Option P} (hc:CallR X (.builtin id) (rC X.K g)) (hg:Gl X x) (hm:X.mg x=none) (hv:bootBuiltins x=some (.builtin id)) (ha:PA X (e::es) (tVs X.K fs)) (hn:x≠"__name__":=by decide) (hdb:(x == ("__debug__":Str))=false:=by decide)
  (he:starEach (e::es) X.env=(false,eval e X.env)::starEach es X.env:=by rfl) (hpl:(backTo pos (starEach es X.env)).any (·.1)=false:=by rfl):PE X (.Call (.Name x p) (e::es) [] pos) (tV X.K (vCall g fs)):=
 (pe_callB hc hg hm hv ha hn hdb he hpl).imp' fun _ _ _ h=>tCB_of h
theorem xCallT {x:Str}{p:Pos}{T:String}{g:List P->Option P} (hc:CallR X (.type T) (rC X.K g)) (hg:Gl X x) (hm:X.mg x=none) (hv:bootBuiltins x=some (.type T)) (ha:PA X (e::es) (tVs X.K fs)) (hn:x≠"__name__":=by decide) (hdb:(x == ("__debug__":Str))=false:=by decide)
  (he:starEach (e::es) X.env=(false,eval e X.env)::starEach es X.env:=by rfl) (hpl:(backTo pos (starEach es X.env)).any (·.1)=false:=by rfl):PE X (.Call (.Name x p) (e::es) [] pos) (tV X.K (vCall g fs)):=
 (pe_callTy hc hg hm hv ha hn hdb he hpl).imp' fun _ _ _ h=>tCB_of h
noncomputable def spV (K:PySem.W.Frag) (g:List P->Option P):Sp:=fun vs H Q _=>rC K g vs H Q
theorem xCall {f:Addr}{fd:FuncData}{ps:List Str}{k:Nat}{x:Str}{p:Pos}{g:List P->Option P} (G:FnOk X.prog X.w X.K X.mg X.base CX0 k f fd ps (spV X.K g)) (hr:Room k X.A) (hg:Gl X x) (hm:X.mg x=some (.ref f)) (hk:PySem.W.keepIn X.K (.ref f)=true) (hb:Binds X.K fd ps [])
  (ha:PA X (e::es) (tVs X.K fs)) (hdb:(x == ("__debug__":Str))=false:=by decide) (he:starEach (e::es) X.env=(false,eval e X.env)::starEach es X.env:=by rfl) (hpl:(backTo pos (starEach es X.env)).any (·.1)=false:=by rfl) :
  PE X (.Call (.Name x p) (e::es) [] pos) (tV X.K (vCall g fs)):=
 (pe_call G hr hg hm hk hb .nil pass0 ha hdb he hpl).imp' fun σ H Q h=>by
  obtain⟨F,m,L,S,ds,S',r,l,q,k⟩:=tCB_of h
  exact⟨F,m,L,S,ds,S',r,l,q,fun xs F' m' H' s r' p=>by show spV X.K g (xs++[]) H' Q E0;rw [List.append_nil];exact k xs F' m' H' s r' p⟩
end
section
variable {X:Cx}{a b e:Expr}{st:Stmt}{rest bs cs:List Stmt}{f g:ES}{fe:EE}{qa:EB}{pos:Pos}
theorem zNil:PSs X [] (tSt X.K sNx):=pss_nil.imp' fun D σ H hz=>by
 obtain⟨F,m,L,S,fl,L',S',r,l,q,k⟩:=hz
 cases q
 exact k σ F m H .refl r l
theorem zCons (h1:PS X st (tSt X.K f)) (h2:PSs X rest (tSt X.K g)):PSs X (st::rest) (tSt X.K (sSeq f g)):=(pss_cons h1 h2).imp' fun D σ H hz=>by
 obtain⟨F,m,L,S,fl,L',S',r,l,q,k⟩:=hz
 cases ef:f L S with
 | none=>rw [show sSeq f g L S=none by unfold sSeq;rw [ef]] at q;cases q
 | some x=>
  obtain⟨fl1,L1,S1⟩:=x
  cases fl1 with
  | nx=>
   have q':g L1 S1=some (fl,L',S'):=by have:=q;unfold sSeq at this;rw [ef] at this;exact this
   exact⟨F,m,L,S,.nx,L1,S1,r,l,ef,fun σ1 F1 m1 H1 s1 r1 l1=>⟨F1,m1,L1,S1,fl,L',S',r1,l1,q',fun σ2 F2 m2 H2 s2 r2 l2=>k σ2 F2 m2 H2 (s1.trans s2) r2 l2⟩⟩
  | rt d=>
   have q':some (Fl.rt d,L1,S1)=some (fl,L',S'):=by have:=q;unfold sSeq at this;rw [ef] at this;exact this
   cases q'
   exact⟨F,m,L,S,_,_,_,r,l,ef,fun σ1 F1 m1 H1 s1 r1 l1=>k σ1 F1 m1 H1 s1 r1 l1⟩
  | bk=>
   have q':some (Fl.bk,L1,S1)=some (fl,L',S'):=by have:=q;unfold sSeq at this;rw [ef] at this;exact this
   cases q'
   exact⟨F,m,L,S,_,_,_,r,l,ef,fun σ1 F1 m1 H1 s1 r1 l1=>k σ1 F1 m1 H1 s1 r1 l1⟩
  | ct=>
   have q':some (Fl.ct,L1,S1)=some (fl,L',S'):=by have:=q;unfold sSeq at this;rw [ef] at this;exact this
   cases q'
   exact⟨F,m,L,S,_,_,_,r,l,ef,fun σ1 F1 m1 H1 s1 r1 l1=>k σ1 F1 m1 H1 s1 r1 l1⟩
theorem zOne (h1:PS X st (tSt X.K f)):PSs X [st] (tSt X.K f):=pss_one h1
theorem zRet (h:PE X e (tE X.K fe)):PS X (.Return (some e) pos) (tSt X.K (sRet fe)):=(ps_ret h).imp' fun D σ H hz=>by
 obtain⟨F,m,L,S,fl,L',S',r,l,q,k⟩:=hz
 obtain⟨d,S1,e1,q⟩:=bnd_eq q
 cases q
 exact⟨F,m,L,S,d,S',r,l,e1,fun v F' m' H' s r' p=>k σ F' m' H' s r' (l.mono s) v p⟩
theorem zDrop (h:PE X e (tE X.K fe)) (hs:swapsWith e none pos.line X.env=pure false:=by rfl):PS X (.Expr e pos) (tSt X.K (sDrop fe)):=(ps_expr h hs).imp' fun D σ H hz=>by
 obtain⟨F,m,L,S,fl,L',S',r,l,q,k⟩:=hz
 obtain⟨d,S1,e1,q⟩:=bnd_eq q
 cases q
 exact⟨F,m,L,S,d,S',r,l,e1,fun v F' m' H' s r' p=>k σ F' m' H' s r' (l.mono s)⟩
theorem zSet (i:Nat) {x:Str}{pos':Pos} (hN:X.N.Nodup) (h:PE X e (tE X.K fe)) (hi:X.N[i]? = some x:=by rfl) (hx:Loc X.env.scope x:=by first | exact Or.inl rfl | exact Or.inr rfl) (hs:swapsWith e (some (.Name x pos')) pos.line X.env=pure false:=by rfl)
  (hf:X.fn x=true\/X.env.scope.names.lookup x=some .local:=by first | exact .inl rfl | exact .inr rfl | assumption):PS X (.Assign [.Name x pos'] e pos) (tSt X.K (sSet i fe)):=
 (ps_set hN hi hx h hs hf).imp' fun D σ H hz=>by
  obtain⟨F,m,L,S,fl,L',S',r,l,q,k⟩:=hz
  obtain⟨d,S1,e1,q⟩:=bnd_eq q
  cases q
  exact⟨F,m,L,S,d,S',r,l,e1,fun v F' m' H' s r' p=>k (σ.set i (some v)) F' m' H' s r' ((l.mono s).set p i)⟩
theorem zIf {c:Expr} (hc:PT X c (tQ X.K qa)) (ha:PSs X bs (tSt X.K f)) (hb:PSs X cs (tSt X.K g)):PS X (.If c bs cs pos) (tSt X.K (sIf qa f g)):=(ps_if hc ha hb).imp' fun D σ H hz=>by
 obtain⟨F,m,L,S,fl,L',S',r,l,q,k⟩:=hz
 obtain⟨c,S1,e1,q⟩:=bnd_eq q
 refine⟨F,m,L,S,c,S1,r,l,e1,fun F' m' H' s r'=>?_⟩
 cases c with
 | true=>rw [if_pos rfl] at q ⊢;exact⟨F',m',L,S1,fl,L',S',r',l.mono s,q,fun σ2 F2 m2 H2 s2 r2 l2=>k σ2 F2 m2 H2 (s.trans s2) r2 l2⟩
 | false=>rw [if_neg Bool.false_ne_true] at q ⊢;exact⟨F',m',L,S1,fl,L',S',r',l.mono s,q,fun σ2 F2 m2 H2 s2 r2 l2=>k σ2 F2 m2 H2 (s.trans s2) r2 l2⟩
theorem zNever:PS X st (tSt X.K sNever):=ps_never.imp' fun D σ H hz=>by obtain⟨F,m,L,S,fl,L',S',r,l,q,k⟩:=hz;cases q
noncomputable def gT (K:PySem.W.Frag) (g:TGv):TG:=fun x σ H Q=>∃F m L v L',RL K F H m σ L/\RP K F H v x/\g v L=some L'/\∀σ',RL K F H m σ' L'->Q σ' H
theorem _root_.L2.PG.imp' {tg:Expr}{t t':TG} (h:PG X tg t) (i:∀v σ H Q,t' v σ H Q->t v σ H Q):PG X tg t':=fun pins s σ H v u Q I r q=>h pins s σ H v u Q I r (i v σ H Q q)
theorem gName' (i:Nat) {x:Str} (hN:X.N.Nodup) (hi:X.N[i]? = some x:=by rfl) (hx:Loc X.env.scope x:=by first | exact Or.inl rfl | exact Or.inr rfl) (hf:X.fn x=true\/X.env.scope.names.lookup x=some .local:=by first | exact .inl rfl | exact .inr rfl | assumption) :
  PG X (.Name x pos) (gT X.K (gSet i)):=(pg_name hN hi hx hf).imp' fun v σ H Q hz=>by
 obtain⟨F,m,L,d,L',l,p,q,k⟩:=hz
 cases q
 exact k _ (l.set (d:=.p d) p i)
noncomputable def ItP (K:PySem.W.Frag) (J:It) (vs:List P) (F:Addr->Prop) (m:List Addr) (H:Hp):Prop:=∀F2 m2 H2,Stp F m H F2 m2 H2 ->
 (∀(i:Nat) v,vs[i]? = some v->J.go i H2/\∀x H3,J.yld i H2 x H3->∃F3,Grow F2 H2 F3 H3/\RP K F3 H3 v x)/\J.stop vs.length H2
noncomputable def tI (K:PySem.W.Frag) (f:EVs):TI:=fun σ H R=>∃F m L S vs S',Rel K F H m S/\RL K F H m σ L/\f L S=some (vs,S')/\∀J F' m' H',Stp F m H F' m' H'->Rel K F' H' m' S'->ItP K J vs F' m' H'->R J H'
theorem zFor {tg iter:Expr}{fi:EVs}{g:TGv}{body:List Stmt}{fb:ES} (hp:PassesOwn (model X.prog X.w) X.A X.env X.xe) (hc:X.calm=true) (hi:PI X tg iter (tI X.K fi)) (hg:PG X tg (gT X.K g)) (hb:PSs X body (tSt X.K fb))
  (hs:∀x,foldedSetIterable iter X.env x=pure x:=by intro _;rfl):PS X (.For tg iter body [] pos) (tSt X.K (sFor fi g fb)):=
 (ps_for hp hc hi hg hb hs).imp' fun D σ H hz=>by
  obtain⟨F,m,L,S,fl,L',S',r,l,q,k⟩:=hz
  obtain⟨vs,S1,e1,q⟩:=bnd_eq q
  refine⟨F,m,L,S,vs,S1,r,l,e1,fun J F1 m1 H1 s1 r1 it=>?_⟩
  refine⟨fun i n σ2 H2=>n=vs.length-i/\i≤vs.length/\∃F2 m2 L2 S2,Stp F1 m1 H1 F2 m2 H2/\Rel X.K F2 H2 m2 S2/\RL X.K F2 H2 m2 σ2 L2/\forGo g fb (vs.drop i) L2 S2=some (fl,L',S'),
   ⟨vs.length,rfl,Nat.zero_le _,F1,m1,L,S1,.refl,r1,l.mono s1,by rw [List.drop_zero];exact q⟩,?_⟩
  rintro i n σ2 H2 ⟨rfl,hi,F2,m2,L2,S2,s2,r2,l2,q2⟩
  obtain⟨go,stop⟩:=it F2 m2 H2 s2
  by_cases hlt:i < vs.length
  ·right
   have hv:vs[i]? = some vs[i]:=by simp [hlt]
   rw [List.drop_eq_getElem_cons hlt] at q2
   obtain⟨hgo,hy⟩:=go i _ hv
   refine⟨hgo,fun σ3 H3=>∃n',n' < vs.length-i/\(n'=vs.length-(i+1)/\i+1≤vs.length/\∃F2 m2 L2 S2,Stp F1 m1 H1 F2 m2 H3/\Rel X.K F2 H3 m2 S2/\RL X.K F2 H3 m2 σ3 L2/\forGo g fb (vs.drop (i+1)) L2 S2=some (fl,L',S')),fun _ _ z=>z,fun x H3 y=>?_⟩
   obtain⟨F3,gr,p3⟩:=hy x H3 y
   unfold forGo at q2
   cases eg:g vs[i] L2 with
   | none=>rw [eg] at q2;cases q2
   | some L3=>
    rw [eg] at q2
    dsimp only at q2
    refine⟨F3,m2,L2,vs[i],L3,l2.mono gr.stp,p3,eg,fun σ3 l3=>?_⟩
    have s3:Stp F1 m1 H1 F3 m2 H3:=s2.trans gr.stp
    have r3:=r2.grow gr
    cases eb:fb L3 S2 with
    | none=>rw [eb] at q2;cases q2
    | some z=>
     obtain⟨flb,L4,S4⟩:=z
     rw [eb] at q2
     refine⟨F3,m2,L3,S2,flb,L4,S4,r3,l3,eb,fun σ4 F4 m4 H4 s4 r4 l4=>?_⟩
     cases flb with
     | nx=>exact⟨vs.length-(i+1),by omega,rfl,hlt,F4,m4,L4,S4,s3.trans s4,r4,l4,q2⟩
     | ct=>exact⟨vs.length-(i+1),by omega,rfl,hlt,F4,m4,L4,S4,s3.trans s4,r4,l4,q2⟩
     | bk=>cases q2;exact k σ4 F4 m4 H4 (s1.trans (s3.trans s4)) r4 l4
     | rt d=>cases q2;exact k σ4 F4 m4 H4 (s1.trans (s3.trans s4)) r4 l4
  ·left
   have e:i=vs.length:=by omega
   subst e
   rw [List.drop_length] at q2
   cases q2
   exact⟨stop,k σ2 F2 m2 H2 (s1.trans s2) r2 l2⟩
theorem zWhile {c:Expr}{n:Nat}{fb:ES}{body:List Stmt} (hp:PassesOwn (model X.prog X.w) X.A X.env X.xe) (hc:PT X c (tQ X.K qa)) (hb:PSs X body (tSt X.K fb)):PS X (.While c body [] pos) (tSt X.K (sWhile n qa fb)):=
 (ps_while hp hc hb).imp' fun D σ H hz=>by
  obtain⟨F,m,L,S,fl,L',S',r,l,q,k⟩:=hz
  refine⟨fun n σ2 H2=>∃F2 m2 L2 S2,Stp F m H F2 m2 H2/\Rel X.K F2 H2 m2 S2/\RL X.K F2 H2 m2 σ2 L2/\whileGo qa fb n L2 S2=some (fl,L',S'),⟨n,F,m,L,S,.refl,r,l,q⟩,?_⟩
  rintro n σ2 H2 ⟨F2,m2,L2,S2,s2,r2,l2,q2⟩
  cases n with
  | zero=>cases q2
  | succ n=>
   obtain⟨c,S3,e3,q3⟩:=bnd_eq (show bnd (qa L2 S2) _=_ from q2)
   refine⟨F2,m2,L2,S2,c,S3,r2,l2,e3,fun F3 m3 H3 s3 r3=>?_⟩
   cases c with
   | false=>
    rw [if_neg Bool.false_ne_true] at q3 ⊢
    cases q3
    exact k σ2 F3 m3 H3 (s2.trans s3) r3 (l2.mono s3)
   | true=>
    rw [if_pos rfl] at q3 ⊢
    cases eb:fb L2 S3 with
    | none=>rw [eb] at q3;cases q3
    | some z=>
     obtain⟨flb,L4,S4⟩:=z
     rw [eb] at q3
     refine⟨fun σ4 H4=>∃m',m' < n+1/\∃F2 m2 L2 S2,Stp F m H F2 m2 H4/\Rel X.K F2 H4 m2 S2/\RL X.K F2 H4 m2 σ4 L2/\whileGo qa fb m' L2 S2=some (fl,L',S'),fun _ _ z=>z,F3,m3,L2,S3,flb,L4,S4,r3,l2.mono s3,eb,fun σ4 F4 m4 H4 s4 r4 l4=>?_⟩
     cases flb with
     | nx=>exact⟨n,Nat.lt_succ_self _,F4,m4,L4,S4,s2.trans (s3.trans s4),r4,l4,q3⟩
     | ct=>exact⟨n,Nat.lt_succ_self _,F4,m4,L4,S4,s2.trans (s3.trans s4),r4,l4,q3⟩
     | bk=>cases q3;exact k σ4 F4 m4 H4 (s2.trans (s3.trans s4)) r4 l4
     | rt d=>cases q3;exact k σ4 F4 m4 H4 (s2.trans (s3.trans s4)) r4 l4
end
theorem Stp.toGrow {F F':Addr->Prop}{m':List Addr}{H H':Hp} (s:Stp F [] H F' m' H') (ft:∀a,F' a->H' a≠none):Grow F H F' H':=
 ⟨fun b o h=>s.oth b o h (by simp),s.frz,fun b h=>by
  rcases s.nf b h with q | q | q
  ·exact .inl q
  ·exact .inr ⟨q,ft b h⟩
  ·simp at q⟩
end Ev
namespace Ev
open PySem PySem.Spec PyProof.Rows L2
theorem noS {α:Prop}{β:Type}{d:β} (h:(none:Option β)=some d):α:=nomatch h
noncomputable def capN (n:Nat):Bool:=decide (n≤1000000)
theorem capN_le {n:Nat} (h:capN n=true):n≤sizeLine:=Nat.le_trans (of_decide_eq_true h) (by decide)
section
variable {X:Cx}
noncomputable def dAdd:P->P->Option P
 | .int i,.int j=>some (.int (i+j))
 | .str x,.str y=>if capN (x.length+y.length)=true then some (.str (x++y)) else none
 | .tup xs,.tup ys=>if (!xs.isEmpty && capN (xs.length+ys.length))=true then some (.tup (xs++ys)) else none
 | .lst xs,.lst ys=>if capN (xs.length+ys.length)=true then some (.lst (xs++ys)) else none
 | _,_=>none
theorem opAdd:OpP X (binaryOp .Add) dAdd:=by
 intro pins s σ H x y v u Q I rx ry h
 obtain⟨F,dx,dy,d,ft,px,py,q,k⟩:=h
 cases dx with
 | int i=>
  cases dy with
  | int j=>
   cases q
   cases (show x=.int i from px);cases (show y=.int j from py)
   exact op_add pins s σ H _ _ v u Q I rx ry ⟨i,j,rfl,rfl,k _ F H .refl rfl⟩
  | _=>exact noS q
 | str i=>
  cases dy with
  | str j=>
   simp only [dAdd] at q
   split at q
   ·rename_i hc
    cases q
    cases (show x=.str i from px);cases (show y=.str j from py)
    exact op_add_str pins s σ H _ _ v u Q I rx ry ⟨i,j,rfl,rfl,capN_le hc,k _ F H .refl rfl⟩
   ·cases q
  | _=>exact noS q
 | tup ds=>
  cases dy with
  | tup es=>
   simp only [dAdd] at q
   split at q
   ·rename_i hc
    rw [Bool.and_eq_true] at hc
    cases q
    obtain⟨a,xs,rfl,ta,ra⟩:=px
    obtain⟨b,ys,rfl,tb,rb⟩:=py
    have la:=ra.length
    have lb:=rb.length
    have nx:xs≠[]:=fun z=>by
     subst z
     have:ds=[]:=List.eq_nil_of_length_eq_zero la
     subst this
     simp at hc
    refine op_catT pins s σ H _ _ v u Q I rx ry ⟨a,b,xs,ys,rfl,rfl,ta.sq,tb.sq,nx,by rw [<- la,<- lb];exact capN_le hc.2,fun z=>?_,fun _ p hp=>?_⟩
    ·subst z
     have e:es=[]:=List.eq_nil_of_length_eq_zero lb
     subst e
     refine k _ F H .refl ?_
     rw [List.append_nil]
     exact⟨a,xs,rfl,ta,ra⟩
    ·exact k _ F _ (grow_new hp) (.newTup hp (ra.append rb))
   ·cases q
  | _=>exact noS q
 | lst ds=>
  cases dy with
  | lst es=>
   simp only [dAdd] at q
   split at q
   ·rename_i hc
    cases q
    obtain⟨a,xs,rfl,ta,ra⟩:=px
    obtain⟨b,ys,rfl,tb,rb⟩:=py
    exact op_cat pins s σ H _ _ v u Q I rx ry ⟨a,b,xs,ys,rfl,rfl,ta.2,tb.2,by rw [<- ra.length,<- rb.length];exact capN_le hc,fun p hp=>k _ _ _ (grow_frz hp) (.newLst hp (ra.append rb))⟩
   ·cases q
  | _=>exact noS q
 | _=>exact noS q
noncomputable def dII (c:Int->Int->Bool) (g:Int->Int->P):P->P->Option P
 | .int i,.int j=>if c i j=true then some (g i j) else none
 | _,_=>none
@[simp] theorem dII_int (c:Int->Int->Bool) (g:Int->Int->P) (i j:Int):dII c g (.int i) (.int j)=if c i j=true then some (g i j) else none:=rfl
theorem opII {f:Value->Value->Sem Value}{C:Int->Int->Prop}{gv:Int->Int->V}{c:Int->Int->Bool}{g:Int->Int->P} (ho:OpR X f (rI C gv)) (hc:∀i j,c i j=true->C i j) (hg:∀K F H i j,RP K F H (g i j) (gv i j)):OpP X f (dII c g):=by
 intro pins s σ H x y v u Q I rx ry h
 obtain⟨F,dx,dy,d,ft,px,py,q,k⟩:=h
 cases dx with
 | int i=>
  cases dy with
  | int j=>
   rw [dII_int] at q
   split at q
   ·rename_i hh
    cases q
    cases (show x=.int i from px);cases (show y=.int j from py)
    exact ho pins s σ H _ _ v u Q I rx ry ⟨i,j,rfl,rfl,hc i j hh,k _ F H .refl (hg _ _ _ _ _)⟩
   ·cases q
  | _=>exact noS q
 | _=>exact noS q
theorem rI_of0 {f:Value->Value->Sem Value}{gv:Int->Int->V} (h:OpR X f (rI0 gv)):OpR X f (rI (fun _ _=>True) gv):=fun pins s σ H x y v u Q I rx ry ⟨i,j,e1,e2,_,q⟩=>h pins s σ H x y v u Q I rx ry ⟨i,j,e1,e2,q⟩
noncomputable abbrev yes2:Int->Int->Bool:=fun _ _=>true
noncomputable abbrev dSub:=dII yes2 fun i j=>.int (i-j)
theorem opSub:OpP X (binaryOp .Sub) dSub:=opII (rI_of0 op_sub) (fun _ _ _=>trivial) fun _ _ _ _ _=>rfl
noncomputable abbrev posDiv:Int->Int->Bool:=fun _ j=>decide (0 < j) && decide (j < 1152921504606846976)
noncomputable abbrev dFloor:=dII posDiv fun i j=>.int (i / j)
noncomputable abbrev dMod:=dII (fun _ j=>decide (0 < j)) fun i j=>.int (i % j)
theorem opMod:OpP X (binaryOp .Mod) dMod:=opII op_mod (fun i j h=>of_decide_eq_true h) fun _ _ _ _ _=>rfl
noncomputable abbrev dPow:=dII (fun i j=>decide (0≤j) && decide (j≤1000000) && decide (i.natAbs < 2 ^ 64)) fun i j=>.int (i ^ j.toNat)
theorem opPow:OpP X (binaryOp .Pow) dPow:=opII op_pow (fun i j h=>by simp only [Bool.and_eq_true] at h;exact⟨of_decide_eq_true h.1.1,of_decide_eq_true h.1.2,of_decide_eq_true h.2⟩) fun _ _ _ _ _=>rfl
noncomputable abbrev dLt:=dII yes2 fun i j=>.bl (decide (i < j))
theorem opLt:OpP X (compareOp .Lt) dLt:=opII (rI_of0 op_lt) (fun _ _ _=>trivial) fun _ _ _ _ _=>rfl
noncomputable abbrev dLe:=dII yes2 fun i j=>.bl (decide (i≤j))
theorem opLe:OpP X (compareOp .LtE) dLe:=opII (rI_of0 op_le) (fun _ _ _=>trivial) fun _ _ _ _ _=>rfl
noncomputable abbrev dGt:=dII yes2 fun i j=>.bl (decide (j < i))
theorem opGt:OpP X (compareOp .Gt) dGt:=opII (rI_of0 op_gt) (fun _ _ _=>trivial) fun _ _ _ _ _=>rfl
noncomputable abbrev dGe:=dII yes2 fun i j=>.bl (decide (j≤i))
theorem opGe:OpP X (compareOp .GtE) dGe:=opII (rI_of0 op_ge) (fun _ _ _=>trivial) fun _ _ _ _ _=>rfl
noncomputable def mulOk (i j:Int):Bool:=decide (i.natAbs.log2+j.natAbs.log2 < 100000000)
theorem mulOk_ok {i j:Int} (h:mulOk i j=true):IntMulOk i j:=by
 have h':i.natAbs.log2+j.natAbs.log2 < 100000000:=of_decide_eq_true h
 have b:∀x:Int,Builtin.Int.intBits x≤x.natAbs.log2+1:=fun x=>by
  unfold Builtin.Int.intBits
  split
  ·exact Nat.zero_le _
  ·exact Nat.le_refl _
 exact IntMulOk.of_le (b i) (b j) (by omega)
theorem op_mulG:OpR X (binaryOp .Mult) (rI (fun i j=>IntMulOk i j) fun i j=>.int (i * j)):=opI fun _ _ _ _ _ _ _ hc q=>mul_int q hc
noncomputable def strRep (x:Str) (n:Nat):Str:=⟨(List.replicate n x.cps).foldl (·++·) #[]⟩
theorem strRep_one (x:Str):strRep x 1=x:=by
 unfold strRep
 cases x
 simp
theorem foldl_nil (n:Nat):(List.replicate n (#[]:Array Nat)).foldl (·++·) #[]=#[]:=by
 induction n with
 | zero=>rfl
 | succ n ih=>rw [List.replicate_succ,List.foldl_cons];simpa using ih
theorem strRep_empty (x:Str) (n:Nat) (h:x.length=0):strRep x n=x:=by
 have e:x.cps=#[]:=Array.eq_empty_of_size_eq_zero (by simpa [Str.length] using h)
 unfold strRep
 cases x
 simp only at e
 subst e
 rw [foldl_nil]
theorem foldl_size (a:Array Nat) (n:Nat):∀b:Array Nat,((List.replicate n a).foldl (·++·) b).size=b.size+n * a.size:=by
 induction n with
 | zero=>intro b;simp
 | succ n ih=>intro b;rw [List.replicate_succ,List.foldl_cons,ih,Array.size_append,Nat.succ_mul];omega
theorem strRep_length (x:Str) (n:Nat):(strRep x n).length=n * x.length:=by
 unfold strRep Str.length
 simp only
 rw [foldl_size];simp
noncomputable def dMul:P->P->Option P
 | .int i,.int j=>if mulOk i j=true then some (.int (i * j)) else none
 | .str x,.int n=>if (capN (n.toNat * x.length) && decide (n.natAbs < 1000000))=true then some (.str (strRep x n.toNat)) else none
 | _,_=>none
theorem RPs.rep {K:PySem.W.Frag}{F:Addr->Prop}{H:Hp}{ds:List P}{xs:List V} (h:RPs K F H ds xs):∀k:Nat,RPs K F H (List.replicate k ds).flatten (List.replicate k xs).flatten
 | 0=>rfl
 | k+1=>by
  rw [List.replicate_succ,List.replicate_succ,List.flatten_cons,List.flatten_cons]
  exact h.append (RPs.rep h k)
theorem opMul:OpP X (binaryOp .Mult) dMul:=by
 intro pins s σ H x y v u Q I rx ry h
 obtain⟨F,dx,dy,d,ft,px,py,q,k⟩:=h
 cases dx with
 | int i=>
  cases dy with
  | int j=>
   simp only [dMul] at q
   split at q
   ·rename_i hc
    cases q
    cases (show x=.int i from px);cases (show y=.int j from py)
    exact op_mulG pins s σ H _ _ v u Q I rx ry ⟨i,j,rfl,rfl,mulOk_ok hc,k _ F H .refl rfl⟩
   ·cases q
  | _=>exact noS q
 | str i=>
  cases dy with
  | int n=>
   simp only [dMul] at q
   split at q
   ·rename_i hc
    rw [Bool.and_eq_true] at hc
    have h1:=of_decide_eq_true hc.2
    have h2:n.toNat * i.length≤1000000:=of_decide_eq_true hc.1
    have hn:=line63
    have hz:(1000000:Nat)≤sizeLine:=by decide
    cases q
    cases (show x=.str i from px);cases (show y=.int n from py)
    obtain⟨t,rfl⟩:=rx
    obtain⟨t',rfl⟩:=ry
    refine PySem.P.mul_str (by
      have e1:decide (n < -(2 ^ 63:Int))=false:=decide_eq_false (by omega)
      have e2:decide (n ≥ 2 ^ 63)=false:=decide_eq_false (by omega)
      rw [e1,e2];rfl) (fun a b=>?_) (fun a b=>?_) ?_
    ·intro z
     have hb:((i.length:Nat):Int)≤(2 ^ 63-1) / n:=by
      refine (Int.le_ediv_iff_mul_le (by omega)).mpr ?_
      have e:((i.length:Nat):Int) * n=((n.toNat * i.length:Nat):Int):=by
       rw [Int.natCast_mul,Int.toNat_of_nonneg (by omega),Int.mul_comm]
      rw [e];omega
     omega
    ·unfold Builtin.Str.tooLong
     first
      | exact decide_eq_false (by rw [Nat.mul_comm];omega)
      | (rw [Nat.mul_comm];exact decide_eq_false (by omega))
    ·have key:Q (.str (strRep i n.toNat)) H:=k _ F H .refl rfl
     by_cases c1:n < 1
     ·rw [if_pos c1]
      have e:n.toNat=0:=by omega
      rw [e] at key
      exact⟨by decide,⟨.str Str.empty,H,I.tok _,⟨_,rfl⟩,key⟩⟩
     ·rw [if_neg c1]
      by_cases c2:(n == 1 || i.length == 0)=true
      ·rw [if_pos c2]
       rw [Bool.or_eq_true] at c2
       have e:strRep i n.toNat=i:=by
        rcases c2 with c2 | c2
        ·have:n=1:=by simpa using c2
         subst this;exact strRep_one i
        ·exact strRep_empty i _ (by simpa using c2)
       rw [e] at key
       exact⟨.str i,H,I,⟨_,rfl⟩,key⟩
      ·rw [if_neg c2]
       refine⟨?_,⟨.str (strRep i n.toNat),H,I.tok _,⟨_,rfl⟩,key⟩⟩
       have:=strRep_length i n.toNat
       unfold strRep at this
       rw [this];omega
   ·cases q
  | _=>exact noS q
 | _=>exact noS q
noncomputable def dEq:P->P->Option P
 | .int i,.int j=>some (.bl (decide (i=j)))
 | .str x,.str y=>some (.bl (decide (x=y)))
 | .bl a,.bl b=>some (.bl (decide (a=b)))
 | _,_=>none
noncomputable def dNe:P->P->Option P
 | .int i,.int j=>some (.bl (!decide (i=j)))
 | .str x,.str y=>some (.bl (!decide (x=y)))
 | .bl a,.bl b=>some (.bl (!decide (a=b)))
 | _,_=>none
theorem dec_inj_int {i j:Int}:decide (V.int i=V.int j)=decide (i=j):=by
 by_cases h:i=j
 ·subst h;simp
 ·rw [decide_eq_false h,decide_eq_false fun z=>h (V.int.inj z)]
theorem dec_inj_str {i j:Str}:decide (V.str i=V.str j)=decide (i=j):=by
 by_cases h:i=j
 ·subst h;simp
 ·rw [decide_eq_false h,decide_eq_false fun z=>h (V.str.inj z)]
theorem dec_inj_bl {i j:Bool}:decide (V.bl i=V.bl j)=decide (i=j):=by
 by_cases h:i=j
 ·subst h;simp
 ·rw [decide_eq_false h,decide_eq_false fun z=>h (V.bl.inj z)]
theorem opEq:OpP X (compareOp .Eq) dEq:=by
 intro pins s σ H x y v u Q I rx ry h
 obtain⟨F,dx,dy,d,ft,px,py,q,k⟩:=h
 cases dx with
 | int i=>
  cases dy with
  | int j=>
   cases q
   cases (show x=.int i from px);cases (show y=.int j from py)
   exact op_eq pins s σ H _ _ v u Q I rx ry ⟨rfl,by rw [dec_inj_int];exact k _ F H .refl rfl⟩
  | _=>exact noS q
 | str i=>
  cases dy with
  | str j=>
   cases q
   cases (show x=.str i from px);cases (show y=.str j from py)
   exact op_eq pins s σ H _ _ v u Q I rx ry ⟨rfl,by rw [dec_inj_str];exact k _ F H .refl rfl⟩
  | _=>exact noS q
 | bl i=>
  cases dy with
  | bl j=>
   cases q
   cases (show x=.bl i from px);cases (show y=.bl j from py)
   exact op_eq pins s σ H _ _ v u Q I rx ry ⟨rfl,by rw [dec_inj_bl];exact k _ F H .refl rfl⟩
  | _=>exact noS q
 | _=>exact noS q
theorem opNe:OpP X (compareOp .NotEq) dNe:=by
 intro pins s σ H x y v u Q I rx ry h
 obtain⟨F,dx,dy,d,ft,px,py,q,k⟩:=h
 cases dx with
 | int i=>
  cases dy with
  | int j=>
   cases q
   cases (show x=.int i from px);cases (show y=.int j from py)
   exact op_ne pins s σ H _ _ v u Q I rx ry ⟨rfl,by rw [dec_inj_int];exact k _ F H .refl rfl⟩
  | _=>exact noS q
 | str i=>
  cases dy with
  | str j=>
   cases q
   cases (show x=.str i from px);cases (show y=.str j from py)
   exact op_ne pins s σ H _ _ v u Q I rx ry ⟨rfl,by rw [dec_inj_str];exact k _ F H .refl rfl⟩
  | _=>exact noS q
 | bl i=>
  cases dy with
  | bl j=>
   cases q
   cases (show x=.bl i from px);cases (show y=.bl j from py)
   exact op_ne pins s σ H _ _ v u Q I rx ry ⟨rfl,by rw [dec_inj_bl];exact k _ F H .refl rfl⟩
  | _=>exact noS q
 | _=>exact noS q
theorem atI_len {α β:Type}{xs:List α}{ys:List β}{i:Int}{d:α} (hl:xs.length=ys.length) (h:L2.atI xs i=some d):∃j:Nat,xs[j]? = some d/\∀y,ys[j]? = some y->L2.atI ys i=some y:=by
 unfold L2.atI at h ⊢
 rw [hl] at h
 cases e:ixN ys.length i with
 | none=>rw [e] at h;cases h
 | some j=>rw [e] at h;exact⟨j,h,fun y hy=>hy⟩
theorem RPs.atI {K:PySem.W.Frag}{F:Addr->Prop}{H:Hp}{ds:List P}{xs:List V}{i:Int}{d:P} (r:RPs K F H ds xs) (h:L2.atI ds i=some d):∃x,L2.atI xs i=some x/\RP K F H d x:=by
 obtain⟨j,h1,h2⟩:=atI_len r.length h
 obtain⟨x,e,p⟩:=r.get h1
 exact⟨x,h2 x e,p⟩
theorem RDs.atI {K:PySem.W.Frag}{F:Addr->Prop}{H:Hp}{m:List Addr}{ds:List D}{xs:List V}{i:Int}{d:D} (r:RDs K F H m ds xs) (h:L2.atI ds i=some d):∃x,L2.atI xs i=some x/\RD K F H m d x:=by
 obtain⟨j,h1,h2⟩:=atI_len r.length h
 obtain⟨x,e,p⟩:=r.get h1
 exact⟨x,h2 x e,p⟩
noncomputable def dLook {α:Type} (k:Key):List Key->List α->Option α
 | k'::ks,v::vs=>if k'=k then some v else dLook k ks vs
 | _,_=>none
noncomputable def keyOf:P->Option Key
 | .int i=>some (.inl i)
 | .str x=>some (.inr x)
 | _=>none
noncomputable def dIx:P->P->Option P
 | .tup xs,.int i=>L2.atI xs i
 | .lst xs,.int i=>L2.atI xs i
 | .ro xs,.int i=>L2.atI xs i
 | .str x,.int i=>if capN x.length=true then (L2.atI x.cps.toList i).map fun c=>.str ⟨#[c]⟩ else none
 | .dct ks vs,y=>match keyOf y with
  | some k=>dLook k ks vs
  | none=>none
 | _,_=>none
theorem valV_look {K:PySem.W.Frag}{F:Addr->Prop}{H:Hp}{k:Key}:∀{kvs:List (Key×V)}{ds:List P}{d:P},RPs K F H ds (kvs.map (·.2))->dLook k (kvs.map (·.1)) ds=some d->∃v,valV kvs k=some v/\RP K F H d v
 | [],ds,d,r,h=>by cases ds <;> exact noS h
 | (k',v)::kvs,[],d,r,h=>noS h
 | (k',v)::kvs,d0::ds,d,r,h=>by
  obtain⟨x,xr,e,p,rr⟩:=r
  rw [List.map_cons] at e
  injection e with e1 e2
  simp only [List.map_cons,dLook] at h
  by_cases hk:k'=k
  ·rw [if_pos hk] at h
   cases h
   exact⟨v,valV_pos (p:=(k',v)) hk,by rw [show v=x from e1];exact p⟩
  ·rw [if_neg hk] at h
   rw [<- e2] at rr
   obtain⟨w,h1,h2⟩:=valV_look rr h
   exact⟨w,by rw [valV_neg (p:=(k',v)) hk];exact h1,h2⟩
theorem keyOf_kV {K:PySem.W.Frag}{F:Addr->Prop}{H:Hp}{y:P}{k:Key}{v:V} (h:keyOf y=some k) (r:RP K F H y v):v=kV k:=by
 cases y with
 | int i=>cases h;exact r
 | str x=>cases h;exact r
 | _=>exact noS h
theorem ixDict (hu:X.A.units+1 < cLine):IxR X (fun x y H Q=>∃a v,x=.ref a/\DGet H a y (some v)/\(∃kvs,H a=some (.dK kvs))/\Q v H):=by
 intro value slice pins s σ H x y v u Q I rx ry h hs
 obtain⟨a,w,rfl,g,⟨kvs,hk⟩,q⟩:=h
 cases rx
 have ex:∃o,s.heap.get? a=some o/\o.ExactDict:=by
  obtain⟨_,_,_,_,o,_,_,e,ex,_⟩:=I.hok a _ hk
  exact⟨o,e,ex⟩
 obtain⟨o,e,ex⟩:=ex
 exact tail_any ⟨o,e,ex.1⟩ slot_dict_getitem.lookup (d_getItem hu I g ry fun w' s' I' r'=>⟨w,H,I',r',q⟩) hs
theorem ixP (hu:X.A.units+1 < cLine):IxR X (rP X.K dIx):=by
 intro value slice pins s σ H x y v u Q I rx ry h hs
 obtain⟨F,dx,dy,d,ft,px,py,q,k⟩:=h
 cases dx with
 | tup ds=>
  cases dy with
  | int i=>
   obtain⟨a,xs,rfl,ta,ra⟩:=px
   cases (show y=.int i from py)
   obtain⟨z,e,p⟩:=ra.atI (show L2.atI ds i=some d from q)
   exact ix_tup value slice pins s σ H _ _ v u Q I rx ry ⟨a,xs,i,z,rfl,rfl,ta.sq,e,k z F H .refl p⟩ hs
  | _=>exact noS q
 | lst ds=>
  cases dy with
  | int i=>
   obtain⟨a,xs,rfl,ta,ra⟩:=px
   cases (show y=.int i from py)
   obtain⟨z,e,p⟩:=ra.atI (show L2.atI ds i=some d from q)
   exact ix_list value slice pins s σ H _ _ v u Q I rx ry ⟨a,xs,i,z,rfl,rfl,ta.sq,e,k z F H .refl p⟩ hs
  | _=>exact noS q
 | ro ds=>
  cases dy with
  | int i=>
   obtain⟨a,xs,rfl,ta,ra⟩:=px
   cases (show y=.int i from py)
   obtain⟨z,e,p⟩:=ra.atI (show L2.atI ds i=some d from q)
   exact ix_list value slice pins s σ H _ _ v u Q I rx ry ⟨a,xs,i,z,rfl,rfl,ta.sq,e,k z F H .refl p⟩ hs
  | _=>exact noS q
 | str z=>
  cases dy with
  | int i=>
   cases (show x=.str z from px);cases (show y=.int i from py)
   simp only [dIx] at q
   split at q
   ·rename_i hc
    cases e:L2.atI z.cps.toList i with
    | none=>rw [e] at q;exact noS q
    | some c=>
     rw [e] at q
     cases q
     exact ix_str value slice pins s σ H _ _ v u Q I rx ry ⟨z,i,c,rfl,rfl,capN_le hc,e,k _ F H .refl rfl⟩ hs
   ·cases q
  | _=>exact noS q
 | dct ks ds=>
  obtain⟨a,kvs,rfl,fa,hk,ek,ra⟩:=px
  simp only [dIx] at q
  cases ey:keyOf dy with
  | none=>rw [ey] at q;exact noS q
  | some key=>
   rw [ey] at q
   dsimp only at q
   subst ek
   obtain⟨w,e1,p⟩:=valV_look ra q
   have eyv:=keyOf_kV ey py
   subst eyv
   exact ixDict hu value slice pins s σ H _ _ v u Q I rx ry ⟨a,w,rfl,by rw [<- e1];exact DGet.k hk,⟨kvs,hk⟩,k w F H .refl p⟩ hs
 | _=>exact noS q
theorem xIx {a b:Expr}{fa fb:EV}{pos:Pos} (hu:X.A.units+1 < cLine) (ha:PE X a (tV X.K fa)) (hb:PE X b (tV X.K fb)) (hs:PlainIx b):PE X (.Subscript a b pos) (tV X.K (vOp dIx fa fb)):=
 (pe_ix (ixP hu) ha hb hs).imp' fun _ _ _ h=>tOp_of h
end
end Ev
namespace Ev
open PySem PySem.Spec PyProof.Rows L2
section
variable {X:Cx}
theorem valV_lookD {K:PySem.W.Frag}{F:Addr->Prop}{H:Hp}{m:List Addr}{k:Key}:∀{kvs:List (Key×V)}{ds:List D}{d:D},RDs K F H m ds (kvs.map (·.2))->dLook k (kvs.map (·.1)) ds=some d->∃v,valV kvs k=some v/\RD K F H m d v
 | [],ds,d,r,h=>by cases ds <;> exact noS h
 | (k',v)::kvs,[],d,r,h=>noS h
 | (k',v)::kvs,d0::ds,d,r,h=>by
  obtain⟨x,xr,e,p,rr⟩:=r
  rw [List.map_cons] at e
  injection e with e1 e2
  simp only [List.map_cons,dLook] at h
  by_cases hk:k'=k
  ·rw [if_pos hk] at h
   cases h
   exact⟨v,valV_pos (p:=(k',v)) hk,by rw [show v=x from e1];exact p⟩
  ·rw [if_neg hk] at h
   rw [<- e2] at rr
   obtain⟨w,h1,h2⟩:=valV_lookD rr h
   exact⟨w,by rw [valV_neg (p:=(k',v)) hk];exact h1,h2⟩
noncomputable def eIx (r:EE) (k:EV):EE:=fun L S=>bnd (r L S) fun d S1=>bnd (k L S1) fun y S2=>match d with
 | .p v=>(dIx v y).map fun z=>(.p z,S2)
 | .ref i=>match S2[i]? with
  | some (.lst ds)=>(match y with
   | .int j=>(L2.atI ds j).map fun z=>(z,S2)
   | _=>none)
  | some (.fz v)=>(dIx v y).map fun z=>(.p z,S2)
  | some (.dct ks vs)=>(match keyOf y with
   | some k=>(dLook k ks vs).map fun z=>(z,S2)
   | none=>none)
  | _=>none
theorem xIxE {a b:Expr}{fa:EE}{fb:EV}{pos:Pos} (hu:X.A.units+1 < cLine) (ha:PE X a (tE X.K fa)) (hb:PE X b (tV X.K fb)) (hs:PlainIx b):PE X (.Subscript a b pos) (tE X.K (eIx fa fb)):=
 (pe_ix (((ixP hu).or ix_list).or (ixDict hu)) ha hb hs).imp' fun σ H Q hz=>by
  obtain⟨F,m,L,S,d,S',r,l,q,k⟩:=hz
  obtain⟨x,S1,e1,q⟩:=bnd_eq q
  obtain⟨y,S2,e2,q⟩:=bnd_eq q
  refine⟨F,m,L,S,x,S1,r,l,e1,fun v F1 m1 H1 s1 r1 p1=>?_⟩
  refine⟨F1,m1,L,S1,y,S2,r1,l.mono s1,e2,fun u F2 m2 H2 s2 r2 p2=>?_⟩
  have px:=RD.mono s2 p1
  have pure':∀w:P,RP X.K F2 H2 w v->(dIx w y).map (fun z=>(D.p z,S2))=some (d,S')->rP X.K dIx v u H2 Q:=fun w pw q=>by
   cases eg:dIx w y with
   | none=>rw [eg] at q;cases q
   | some z=>
    rw [eg] at q
    cases q
    exact⟨F2,w,y,z,r2.ft,pw,p2,eg,fun t F3 H3 gr p3=>k t F3 m2 H3 (s1.trans (s2.trans gr.stp)) (r2.grow gr) p3⟩
  cases x with
  | p w=>exact .inl (.inl (pure' w px q))
  | ref i=>
   obtain⟨a,rfl,hm⟩:=px
   dsimp only at q
   cases es:S2[i]? with
   | none=>rw [es] at q;cases q
   | some so=>
    rw [es] at q
    have ob:=r2.obj i a so hm es
    cases so with
    | fz w=>exact .inl (.inl (pure' w ob q))
    | dct ks vs=>
     dsimp only at q
     obtain⟨kvs,hk,ek,ra⟩:=ob
     cases ey:keyOf y with
     | none=>rw [ey] at q;cases q
     | some key=>
      rw [ey] at q
      dsimp only at q
      subst ek
      cases eg:dLook key (kvs.map (·.1)) vs with
      | none=>rw [eg] at q;cases q
      | some z=>
       rw [eg] at q
       cases q
       obtain⟨w,e1,p⟩:=valV_lookD ra eg
       have eyv:=keyOf_kV ey p2
       subst eyv
       exact .inr ⟨a,w,rfl,by rw [<- e1];exact DGet.k hk,⟨kvs,hk⟩,k w F2 m2 H2 (s1.trans s2) r2 p⟩
    | ins _ _ _=>cases q
    | exc _=>cases q
    | lst ds=>
     dsimp only at q
     cases y with
     | int j=>
      dsimp only at q
      obtain⟨xs,hH,rs⟩:=ob
      cases eg:L2.atI ds j with
      | none=>rw [eg] at q;cases q
      | some z=>
       rw [eg] at q
       cases q
       obtain⟨t,e3,p3⟩:=rs.atI eg
       cases (show u=.int j from p2)
       exact .inl (.inr ⟨a,xs,j,t,rfl,rfl,SqL.of hH,e3,k t F2 m2 H2 (s1.trans s2) r2 p3⟩)
     | _=>cases q
noncomputable def lenP:P->Option Nat
 | .tup xs=>some xs.length
 | .lst xs=>some xs.length
 | .ro xs=>some xs.length
 | .str x=>if capN x.length=true then some x.length else none
 | _=>none
noncomputable def lenD:D->Sto->Option Nat
 | .p v,_=>lenP v
 | .ref i,S=>match S[i]? with
  | some (.lst ds)=>some ds.length
  | some (.fz v)=>lenP v
  | _=>none
noncomputable def vLen (r:EE):EV:=fun L S=>bnd (r L S) fun d S1=>(lenD d S1).map fun n=>(.int n,S1)
theorem lenP_ok {F:Addr->Prop}{H:Hp}{w:P}{v:V}{n:Nat}{Q:VK} (p:RP X.K F H w v) (h:lenP w=some n) (q:Q (.int n) H) :
  (∃p ys,[v]=[V.ref p]/\(SqL X.K H p ys\/SqT X.K H p ys)/\Q (.int ys.length) H)\/(∃z,[v]=[V.str z]/\z.length≤sizeLine/\Q (.int z.length) H):=by
 cases w with
 | tup ds=>
  obtain⟨a,xs,rfl,ta,ra⟩:=p
  cases h
  exact .inl ⟨a,xs,rfl,.inr ta.sq,by rw [<- ra.length];exact q⟩
 | lst ds=>
  obtain⟨a,xs,rfl,ta,ra⟩:=p
  cases h
  exact .inl ⟨a,xs,rfl,.inl ta.sq,by rw [<- ra.length];exact q⟩
 | ro ds=>
  obtain⟨a,xs,rfl,ta,ra⟩:=p
  cases h
  exact .inl ⟨a,xs,rfl,.inl ta.sq,by rw [<- ra.length];exact q⟩
 | str x=>
  cases (show v=.str x from p)
  simp only [lenP] at h
  split at h
  ·rename_i hc
   cases h
   exact .inr ⟨x,rfl,capN_le hc,q⟩
  ·cases h
 | _=>exact noS h
theorem xLen {e:Expr}{fe:EE}{p pos:Pos} (hg:Gl X "len") (hm:X.mg "len"=none) (he:PE X e (tE X.K fe)) (hs:starEach [e] X.env=[(false,eval e X.env)]:=by rfl):PE X (.Call (.Name "len" p) [e] [] pos) (tV X.K (vLen fe)):=
 (pe_callB (call_len_seq.or call_len_str) hg hm PySem.boot_len (pa_cons he pa_nil (by rw [hs];rfl)) (by decide) (by decide) (by rw [hs];rfl) rfl).imp' fun σ H Q hz=>by
  obtain⟨F,m,L,S,d,S',r,l,q,k⟩:=hz
  obtain⟨x,S1,e1,q⟩:=bnd_eq q
  refine⟨F,m,L,S,x,S1,r,l,e1,fun v F1 m1 H1 s1 r1 p1=>?_⟩
  cases en:lenD x S1 with
  | none=>rw [en] at q;cases q
  | some n=>
   rw [en] at q
   cases q
   have key:Q (.int n) H1:=k _ F1 m1 H1 s1 r1 rfl
   cases x with
   | p w=>exact lenP_ok p1 en key
   | ref i=>
    obtain⟨a,rfl,hm⟩:=p1
    simp only [lenD] at en
    cases es:S'[i]? with
    | none=>rw [es] at en;cases en
    | some so=>
     rw [es] at en
     have ob:=r1.obj i a so hm es
     cases so with
     | fz w=>exact lenP_ok ob en key
     | dct ks vs=>cases en
     | ins _ _ _=>cases en
     | exc _=>cases en
     | lst ds=>
      cases en
      obtain⟨xs,hH,rs⟩:=ob
      exact .inl ⟨a,xs,rfl,.inl (SqL.of hH),by rw [<- rs.length];exact key⟩
noncomputable def ownL (d:D) (S:Sto):Option (Nat×List D):=match d with
 | .ref i=>match S[i]? with
  | some (.lst ds)=>some (i,ds)
  | _=>none
 | _=>none
theorem ownL_eq {d:D}{S:Sto}{i:Nat}{ds:List D} (h:ownL d S=some (i,ds)):d=.ref i/\S[i]? = some (.lst ds):=by
 unfold ownL at h
 split at h
 ·split at h
  ·rename_i e;cases h;exact⟨rfl,e⟩
  ·cases h
 ·cases h
noncomputable def eAppend (r:EE) (a:EE):EE:=fun L S=>bnd (r L S) fun d S1=>match ownL d S1 with
 | none=>none
 | some _=>bnd (a L S1) fun x S2=>match ownL d S2 with
  | some (i,ds)=>if few ds=true then some (.p .non,S2.set i (.lst (ds++[x]))) else none
  | none=>none
theorem xAppend {o e:Expr}{fo fe:EE}{apos cpos:Pos} (ho:PE X o (tE X.K fo)) (he:PE X e (tE X.K fe)) (hs:starEach [e] X.env=[(false,eval e X.env)]:=by rfl)
  (hbase:attributeBase o "append" X.env (eval o X.env)=eval o X.env:=by rfl) (hline:(apos.endLine == cpos.line)=true:=by rfl):PE X (.Call (.Attribute o "append" apos) [e] [] cpos) (tE X.K (eAppend fo fe)):=
 (pe_bm PySem.F.plainAttrs_list PySem.F.slot_list_append PySem.F.type_list_append mt_append ho (pa_cons he pa_nil (by rw [hs];rfl)) hbase (by rw [hs];rfl) hline (by rw [hs];rfl) rfl).imp' fun σ H Q hz=>by
  obtain⟨F,m,L,S,d,S',r,l,q,k⟩:=hz
  obtain⟨x,S1,e1,q⟩:=bnd_eq q
  refine⟨F,m,L,S,x,S1,r,l,e1,fun v F1 m1 H1 s1 r1 p1=>?_⟩
  cases eo:ownL x S1 with
  | none=>rw [eo] at q;cases q
  | some z=>
   obtain⟨i,ds⟩:=z
   rw [eo] at q
   dsimp only at q
   obtain⟨rfl,es⟩:=ownL_eq eo
   obtain⟨a,rfl,hm⟩:=id p1
   obtain⟨xs,hH,rs⟩:=r1.obj i a _ hm es
   refine⟨.inl ⟨rfl,xs,SqL.of hH⟩,?_⟩
   obtain⟨y,S2,e2,q⟩:=bnd_eq q
   refine⟨F1,m1,L,S1,y,S2,r1,l.mono s1,e2,fun u F2 m2 H2 s2 r2 p2=>?_⟩
   cases eo2:ownL (.ref i) S2 with
   | none=>rw [eo2] at q;cases q
   | some z=>
    obtain⟨i2,ds2⟩:=z
    rw [eo2] at q
    dsimp only at q
    obtain⟨e3,es2⟩:=ownL_eq eo2
    cases e3
    split at q
    ·rename_i hf
     cases q
     obtain⟨a2,e4,hm2⟩:=RD.mono s2 p1
     cases e4
     obtain⟨xs2,hH2,rs2⟩:=r2.obj i a _ hm2 es2
     have hl:=few_le hf
     have hl':xs2.length < sizeLine:=by
      have:ds2.length≤1000000:=of_decide_eq_true hf
      rw [<- rs2.length]
      exact Nat.lt_of_le_of_lt this (by decide)
     have nt:∀zs,H2 a≠some (.tup zs):=fun zs z=>by rw [hH2] at z;cases z
     have st:Stp F2 m2 H2 F2 m2 (upd H2 a (.lst (xs2++[u]))):=stp_set r2 hm2 es2 trivial nt
     refine⟨a,xs2,u,rfl,rfl,hH2,hl',?_⟩
     exact k .non F2 m2 _ (s1.trans (s2.trans st)) (r2.set hm2 es2 trivial nt ⟨_,upd_same,RDs.mono st (rs2.append ⟨u,[],rfl,p2,rfl⟩)⟩) rfl
    ·cases q
noncomputable def ePop (r:EE):EE:=fun L S=>bnd (r L S) fun d S1=>match ownL d S1 with
 | some (i,ds)=>match ds[ds.length-1]? with
  | some x=>some (x,S1.set i (.lst ds.dropLast))
  | none=>none
 | none=>none
theorem RDs.dropLast {K:PySem.W.Frag}{F:Addr->Prop}{H:Hp}{m:List Addr}{ds:List D}{xs:List V} (r:RDs K F H m ds xs):RDs K F H m ds.dropLast xs.dropLast:=by
 rw [List.dropLast_eq_take,List.dropLast_eq_take,r.length]
 exact r.take _
theorem xPop {o:Expr}{fo:EE}{apos cpos:Pos} (ho:PE X o (tE X.K fo))
  (hbase:attributeBase o "pop" X.env (eval o X.env)=eval o X.env:=by rfl) (hline:(apos.endLine == cpos.line)=true:=by rfl):PE X (.Call (.Attribute o "pop" apos) [] [] cpos) (tE X.K (ePop fo)):=
 (pe_bm0 PySem.F.plainAttrs_list PySem.F.slot_list_pop PySem.F.type_list_pop mt_pop ho hbase hline).imp' fun σ H Q hz=>by
  obtain⟨F,m,L,S,d,S',r,l,q,k⟩:=hz
  obtain⟨x,S1,e1,q⟩:=bnd_eq q
  refine⟨F,m,L,S,x,S1,r,l,e1,fun v F1 m1 H1 s1 r1 p1=>?_⟩
  cases eo:ownL x S1 with
  | none=>rw [eo] at q;cases q
  | some z=>
   obtain⟨i,ds⟩:=z
   rw [eo] at q
   dsimp only at q
   obtain⟨rfl,es⟩:=ownL_eq eo
   obtain⟨a,rfl,hm⟩:=id p1
   obtain⟨xs,hH,rs⟩:=r1.obj i a _ hm es
   refine⟨.inl ⟨rfl,xs,SqL.of hH⟩,?_⟩
   cases ex:ds[ds.length-1]? with
   | none=>rw [ex] at q;cases q
   | some y=>
    rw [ex] at q
    cases q
    obtain⟨u,e2,p2⟩:=rs.get ex
    have nt:∀zs,H1 a≠some (.tup zs):=fun zs z=>by rw [hH] at z;cases z
    have st:Stp F1 m1 H1 F1 m1 (upd H1 a (.lst xs.dropLast)):=stp_set r1 hm es trivial nt
    refine⟨a,xs,u,rfl,rfl,hH,by rw [<- rs.length];exact e2,?_⟩
    exact k u F1 m1 _ (s1.trans st) (r1.set hm es trivial nt ⟨_,upd_same,RDs.mono st rs.dropLast⟩) (RD.mono st p2)
noncomputable abbrev EO:=Lc->Sto->Option (Option Int×Sto)
noncomputable def oNone:EO:=fun _ S=>some (none,S)
noncomputable def oSome (a:EV):EO:=fun L S=>bnd (a L S) fun v S1=>match v with
 | .int i=>some (some i,S1)
 | _=>none
noncomputable def tO (K:PySem.W.Frag) (f:EO):TO:=fun σ H Q=>∃F m L S b S',Rel K F H m S/\RL K F H m σ L/\f L S=some (b,S')/\∀F' m' H',Stp F m H F' m' H'->Rel K F' H' m' S'->Q b H'
theorem _root_.L2.PO.imp' {e:Option Expr}{t t':TO} (h:PO X e t) (i:∀σ H Q,t' σ H Q->t σ H Q):PO X e t':=fun pins s σ H Q I q=>h pins s σ H Q I (i σ H Q q)
theorem oNone':PO X none (tO X.K oNone):=po_none.imp' fun σ H Q hz=>by
 obtain⟨F,m,L,S,d,S',r,l,q,k⟩:=hz
 cases q
 exact k F m H .refl r
theorem oSome' {e:Expr}{fa:EV} (h:PE X e (tV X.K fa)):PO X (some e) (tO X.K (oSome fa)):=(po_some h).imp' fun σ H Q hz=>by
 obtain⟨F,m,L,S,d,S',r,l,q,k⟩:=hz
 obtain⟨x,S1,e1,q⟩:=bnd_eq q
 cases x with
 | int i=>cases q;exact⟨F,m,L,S,_,_,r,l,e1,fun v F1 m1 H1 s1 r1 p1=>⟨i,p1,k F1 m1 H1 s1 r1⟩⟩
 | _=>cases q
noncomputable def cut {α:Type} (xs:List α) (lo hi:Option Int):List α:=(xs.drop (HT.sIx xs.length 0 lo)).take (HT.sIx xs.length xs.length hi-HT.sIx xs.length 0 lo)
theorem RPs.cut {K:PySem.W.Frag}{F:Addr->Prop}{H:Hp}{ds:List P}{xs:List V} (r:RPs K F H ds xs) (lo hi:Option Int):RPs K F H (Ev.cut ds lo hi) (cutV xs lo hi):=by
 unfold Ev.cut cutV
 rw [r.length]
 exact (r.drop _).take _
noncomputable def dSl:P->Option Int->Option Int->Option P
 | .lst xs,lo,hi=>some (.lst (cut xs lo hi))
 | .ro xs,lo,hi=>some (.lst (cut xs lo hi))
 | .tup xs,lo,hi=>if HT.sIx xs.length 0 lo=0/\HT.sIx xs.length xs.length hi=xs.length then none else some (.tup (cut xs lo hi))
 | _,_,_=>none
noncomputable def itT (a:EV):EVs:=fun L S=>bnd (a L S) fun v S1=>match v with
 | .tup xs=>some (xs,S1)
 | _=>none
theorem _root_.L2.PI.imp' {tg iter:Expr}{t t':TI} (h:PI X tg iter t) (i:∀σ H R,t' σ H R->t σ H R):PI X tg iter t':=fun pins s σ H R I q=>h pins s σ H R I (i σ H R q)
theorem itl_ok {K:PySem.W.Frag}{F:Addr->Prop}{m:List Addr}{H:Hp}{a:Addr}{vs:List P}{xs:List V} (hs:∀F2 m2 H2,Stp F m H F2 m2 H2->SqL K H2 a xs) (r:RPs K F H vs xs):ItP K (Itl K a) vs F m H:=by
 intro F2 m2 H2 s
 have q:=hs F2 m2 H2 s
 have r2:=RPs.mono s r
 refine⟨fun i v e=>?_,⟨xs,q,by rw [r2.length];exact Nat.le_refl _⟩⟩
 obtain⟨x,e1,p⟩:=r2.get e
 refine⟨⟨xs,x,q,e1⟩,fun y H3 z=>?_⟩
 obtain⟨rfl,z⟩:=z
 have:=z xs q
 rw [e1] at this
 cases this
 exact⟨F2,.refl,p⟩
theorem itt_ok {K:PySem.W.Frag}{F:Addr->Prop}{m:List Addr}{H:Hp}{a:Addr}{vs:List P}{xs:List V} (hs:TupAt K H a xs) (r:RPs K F H vs xs):ItP K (Itt K a) vs F m H:=by
 intro F2 m2 H2 s
 have q:=(hs.kp s.kp).sq
 have r2:=RPs.mono s r
 refine⟨fun i v e=>?_,⟨xs,q,by rw [r2.length];exact Nat.le_refl _⟩⟩
 obtain⟨x,e1,p⟩:=r2.get e
 refine⟨⟨xs,x,q,e1⟩,fun y H3 z=>?_⟩
 obtain⟨rfl,z⟩:=z
 have:=z xs q
 rw [e1] at this
 cases this
 exact⟨F2,.refl,p⟩
noncomputable def intsFrom (lo:Int) (n:Nat):List P:=(List.range n).map fun (i:Nat)=>.int (lo+(i:Int))
noncomputable def itR1 (a:EV):EVs:=fun L S=>bnd (a L S) fun v S1=>match v with
 | .int j=>if decide (j.natAbs < 1000000)=true then some (intsFrom 0 j.toNat,S1) else none
 | _=>none
theorem itr_ok {K:PySem.W.Frag}{F:Addr->Prop}{m:List Addr}{H:Hp}{lo:Int}{n:Nat}:ItP K (Itr lo n) (intsFrom lo n) F m H:=by
 intro F2 m2 H2 s
 have hl:(intsFrom lo n).length=n:=by unfold intsFrom;simp
 refine⟨fun i v e=>?_,by show n≤(intsFrom lo n).length;rw [hl];exact Nat.le_refl _⟩
 have hi:i < n:=by rw [<- hl];exact (List.getElem?_eq_some_iff.mp e).1
 refine⟨hi,fun x H3 z=>?_⟩
 obtain⟨rfl,rfl⟩:=z
 refine⟨F2,.refl,?_⟩
 unfold intsFrom at e
 simp [hi] at e
 subst e
 exact rfl
theorem iR1 {tg a:Expr}{fa:EV}{p pos:Pos} (hg:Gl X "range") (hm:X.mg "range"=none) (ha:PE X a (tV X.K fa)) (hs:starEach [a] X.env=[(false,eval a X.env)]:=by rfl):PI X tg (.Call (.Name "range" p) [a] [] pos) (tI X.K (itR1 fa)):=
 (pi_range1 hg hm (pa_cons ha pa_nil (by rw [hs];rfl)) hs).imp' fun σ H R hz=>by
  obtain⟨F,m,L,S,vs,S',r,l,q,k⟩:=hz
  obtain⟨v,S1,e1,q⟩:=bnd_eq q
  cases v with
  | int j=>
   dsimp only at q
   split at q
   ·rename_i hc
    have hj:j.natAbs < 1000000:=of_decide_eq_true hc
    cases q
    refine⟨F,m,L,S,_,_,r,l,e1,fun x F1 m1 H1 s1 r1 p1=>?_⟩
    cases (show x=.int j from p1)
    exact⟨j,rfl,by omega,by omega,k _ F1 m1 H1 s1 r1 itr_ok⟩
   ·cases q
  | _=>cases q
end
end Ev
namespace Ev
open PySem PySem.Spec PyProof.Rows L2
noncomputable def compGo (g:TGv) (c:EB) (e:EV):List P->Lc->Sto->Option (List P×Sto)
 | [],_,S=>some ([],S)
 | v::r,L,S=>match g v L with
  | none=>none
  | some L1=>bnd (c L1 S) fun k S1=>if k=true then bnd (e L1 S1) fun y S2=>bnd (compGo g c e r L1 S2) fun ys S3=>some (y::ys,S3) else compGo g c e r L1 S1
noncomputable def upL {α:Type} (ts:List Nat) (n:Nat) (L:List (Option α)):List (Option α):=(ts.foldl (fun L i=>L.set i none) L)++List.replicate n none
noncomputable def vComp (it:EVs) (ts:List Nat) (n:Nat) (g:TGv) (c:EB) (e:EV):EV:=fun L S=>bnd (it L S) fun xs S1=>if few xs=true then bnd (compGo g c e xs (upL ts n L) S1) fun ys S2=>some (.lst ys,S2) else none
noncomputable def bYes:EB:=fun _ S=>some (true,S)
theorem foldl_set_len {α:Type} (ts:List Nat):∀L:List (Option α),(ts.foldl (fun L i=>L.set i none) L).length=L.length:=by
 induction ts with
 | nil=>intro L;rfl
 | cons t ts ih=>intro L;rw [List.foldl_cons,ih,List.length_set]
theorem foldl_set_get {α:Type} (ts:List Nat):∀(L:List (Option α)) (i:Nat) (d:α),(ts.foldl (fun L i=>L.set i none) L)[i]? = some (some d)->L[i]? = some (some d)/\i ∉ ts:=by
 induction ts with
 | nil=>intro L i d h;exact⟨h,by simp⟩
 | cons t ts ih=>
  intro L i d h
  rw [List.foldl_cons] at h
  obtain⟨h1,h2⟩:=ih _ _ _ h
  by_cases e:t=i
  ·subst e
   by_cases hl:t < L.length
   ·rw [List.getElem?_set_self hl] at h1;cases h1
   ·rw [List.getElem?_eq_none (by rw [List.length_set];omega)] at h1;cases h1
  ·rw [List.getElem?_set_ne e] at h1
   exact⟨h1,by simp [h2];exact fun z=>e z.symm⟩
theorem upL_len {α:Type} (ts:List Nat) (n:Nat) (L:List (Option α)):(upL ts n L).length=L.length+n:=by
 unfold upL
 rw [List.length_append,foldl_set_len,List.length_replicate]
theorem upL_get {α:Type}{ts:List Nat}{n:Nat}{L:List (Option α)}{i:Nat}{d:α} (h:(upL ts n L)[i]? = some (some d)):L[i]? = some (some d)/\i ∉ ts/\i < L.length:=by
 unfold upL at h
 by_cases hi:i < L.length
 ·rw [List.getElem?_append_left (by rw [foldl_set_len];exact hi)] at h
  obtain⟨h1,h2⟩:=foldl_set_get ts L i d h
  exact⟨h1,h2,hi⟩
 ·rw [List.getElem?_append_right (by rw [foldl_set_len];omega),List.getElem?_replicate] at h
  split at h <;> cases h
theorem RL.up {K:PySem.W.Frag}{F:Addr->Prop}{H:Hp}{m:List Addr}{σ:L2.St}{L:Lc} (l:RL K F H m σ L) (ts:List Nat) (n:Nat):RL K F H m (upL ts n σ) (upL ts n L):=by
 refine⟨by rw [upL_len,upL_len,l.len],fun i d h=>?_⟩
 obtain⟨h1,h2,h3⟩:=upL_get h
 obtain⟨v,e,r⟩:=l.at' i d h1
 refine⟨v,?_,r⟩
 unfold upL
 rw [List.getElem?_append_left (by rw [foldl_set_len,l.len];exact h3)]
 have keep:∀(ts:List Nat) (σ:L2.St),i ∉ ts->σ[i]? = some (some v)->(ts.foldl (fun L i=>L.set i none) σ)[i]? = some (some v):=by
  intro ts
  induction ts with
  | nil=>intro σ _ e;exact e
  | cons t ts ih=>
   intro σ hn e
   rw [List.foldl_cons]
   refine ih _ (fun z=>hn (List.mem_cons_of_mem _ z)) ?_
   rw [List.getElem?_set_ne (fun z=>hn (by rw [z];exact List.mem_cons_self))]
   exact e
 exact keep ts σ h2 e
noncomputable def clOf (scope:Scope) (env:Env):List (Str×Addr):=((scope.names.filter fun x=>x.2 == .free).map fun x=>(x.1,(env.cells.lookup x.1).getD 0)).reverse
noncomputable def inn (X:Cx) (scope:Scope) (N':List Str) (s:Shared) (H:Hp) (C:Addr) (fp:List Addr):Cx:=
 { X with N:=N',s₀:=s,H₀:=H,env:=compEnvC scope (clOf scope X.env) C X.env,outer:=X.stack,ex:=fp,fn:=fun _=>false,pn:=[],xe:=fun _ _=>False }
structure BlockOk (X:Cx) (scope:Scope) (N':List Str) (ts:List Nat) (n:Nat):Prop where
 kind:scope.kind=.function
 cell:∀x ∈ scope.names,x.2≠.cell
 loc:∀x ∈ scope.names,x.2=.local->scope.names.lookup x.1=some .local
 fr:∀x ∈ scope.names,x.2=.free->scope.names.lookup x.1=some .free/\(X.env.kindOf x.1=some .cell\/X.env.kindOf x.1=some .free)
 names:X.N=N'.take X.N.length
 more:N'.length=X.N.length+n
 ts:∀x ∈ scope.names,x.2=.local->∀i:Nat,X.N[i]? = some x.1->i ∈ ts
theorem mem_of_lookup' {α:Type}:∀{l:List (Str×α)}{x:Str}{v:α},l.lookup x=some v->(x,v) ∈ l
 | [],_,_,h=>by simp at h
 | (y,w)::r,x,v,h=>by
  rw [List.lookup_cons] at h
  cases e:x == y with
  | true=>rw [e] at h;cases h;rw [show x=y from by simpa using e];exact List.mem_cons_self
  | false=>rw [e] at h;exact List.mem_cons_of_mem _ (mem_of_lookup' h)
theorem lookup_of_mem {α:Type}:∀{l:List (Str×α)}{x:Str}{v:α},(x,v) ∈ l->∃w,l.lookup x=some w
 | [],_,_,h=>by simp at h
 | (y,w)::r,x,v,h=>by
  rw [List.lookup_cons]
  cases e:x == y with
  | true=>exact⟨w,rfl⟩
  | false=>
   rcases List.mem_cons.mp h with h | h
   ·injection h with h1 _
    subst h1
    simp at e
   ·exact lookup_of_mem h
theorem relabel_kind {scope:Scope}{env:Env}{x:Str}{k:NameKind} (h:(relabel scope env).names.lookup x=some k):∃k0,(x,k0) ∈ scope.names/\(k=k0\/(k=.cell/\k0=.free)):=by
 have h1:=mem_of_lookup' h
 unfold relabel at h1
 obtain⟨⟨n,k0⟩,hm,e⟩:=List.mem_map.mp h1
 by_cases c:(k0 == NameKind.free && env.scope.kind == .function && env.kindOf n == some .cell)=true
 ·have e':(n,NameKind.cell)=(x,k):=by simpa [c] using e
  injection e' with e1 e2
  subst e1
  rw [Bool.and_eq_true,Bool.and_eq_true] at c
  exact⟨k0,hm,.inr ⟨e2.symm,by simpa using c.1.1⟩⟩
 ·have e':(n,k0)=(x,k):=by simpa [c] using e
  injection e' with e1 e2
  subst e1
  exact⟨k0,hm,.inl e2.symm⟩
section
variable {X:Cx}{scope:Scope}{N':List Str}{ts:List Nat}{n:Nat}
theorem BlockOk.cl {pins:List (Addr×Obj)}{σ:L2.St}{H:Hp}{s:Shared} (B:BlockOk X scope N' ts n) (I:Inv X pins σ H s) {x:Str}{c:Addr} (h:(clOf scope X.env).lookup x=some c):X.env.cells.lookup x=some c/\(x,NameKind.free) ∈ scope.names:=by
 have h1:=mem_of_lookup' h
 unfold clOf at h1
 obtain⟨⟨y,k⟩,hm,e⟩:=List.mem_map.mp (List.mem_reverse.mp h1)
 obtain⟨hm,hk⟩:=List.mem_filter.mp hm
 have hk':k=.free:=by simpa using hk
 subst hk'
 injection e with e1 e2
 subst e1
 obtain⟨_,hc⟩:=B.fr _ hm rfl
 obtain⟨c',hc'⟩:=I.ok.has y hc
 dsimp only at e2
 rw [hc'] at e2
 have e2':c'=c:=e2
 subst e2'
 exact⟨hc',hm⟩
theorem BlockOk.has (B:BlockOk X scope N' ts n) {x:Str} (h:(x,NameKind.free) ∈ scope.names):∃c,(clOf scope X.env).lookup x=some c:=by
 unfold clOf
 exact lookup_of_mem (v:=(X.env.cells.lookup x).getD 0) (List.mem_reverse.mpr (List.mem_map.mpr ⟨(x,.free),List.mem_filter.mpr ⟨h,by simp⟩,rfl⟩))
theorem inn_ok {pins:List (Addr×Obj)}{σ:L2.St}{H:Hp}{s:Shared}{C:Addr}{fp:List Addr} (B:BlockOk X scope N' ts n) (I:Inv X pins σ H s) (hC:s.heap.objs.size≤C) (hf:∀b ∈ fp,FpOk X pins H b) (hb:∀b ∈ fp,b < s.heap.objs.size) :
  (inn X scope N' s H C fp).Ok where
 mod:=I.ok.mod
 kind:=B.kind
 glob:=I.ok.glob
 blt:=I.ok.blt
 above:=hC
 inj:=fun x y c h1 h2=>I.ok.inj x y c (B.cl I h1).1 (B.cl I h2).1
 has:=fun x h=>by
  have h':(relabel scope X.env).names.lookup x=some .cell\/(relabel scope X.env).names.lookup x=some .free:=h
  rcases h' with h | h
  ·obtain⟨k0,hm,e | ⟨_,e⟩⟩:=relabel_kind h
   ·subst e;exact absurd rfl (B.cell _ hm)
   ·subst e;exact B.has hm
  ·obtain⟨k0,hm,e | ⟨e,_⟩⟩:=relabel_kind h
   ·subst e;exact B.has hm
   ·cases e
 cab:=fun x c h=>nomatch h
 hd:=I.ok.hd
 frames:=I.ok.frames
 stk:=.inl rfl
 exf:=fun b hb'=>⟨Nat.ne_of_lt (Nat.lt_of_lt_of_le (hb b hb') hC),fun x c h=>(hf b hb').2.2.2.2.1 x c (B.cl I h).1⟩
 bs:=I.bs
 bsz:=Nat.le_trans I.ok.bsz I.sz
 noex:=fun b o e hb'=>by
  rcases (hf b hb').2.2.2.1 with z | z
  ·exact I.ok.noex b o e z
  ·exact absurd (Nat.lt_of_lt_of_le (Heap.lt_size (I.ok.bs b o e).1) z) (Nat.lt_irrefl _)
 exfs:=fun b hb' z=>by
  rcases List.mem_cons.mp (I.stkSub b z) with z | z
  ·exact (hf b hb').2.1 z
  ·exact (hf b hb').2.2.1 z
 funs:=I.stack
 frf:=I.stkFree
theorem _root_.L2.Un.sameBut {fs ex:List Addr}{H H':Hp}{h h1 h2:Heap}{C:Addr} (u:Un fs ex H H' h h1) (sb:Heap.SameBut C h1 h2) (hC:∀b o,h.get? b=some o->b≠C):Un fs ex H H' h h2 where
 keep:=fun b o e n hb hx=>sb.extBut b o (hC b o e) (u.keep b o e n hb hx)
 slot:=fun b o e n hb hx=>by
  obtain⟨sl,q⟩:=u.slot b o e n hb hx
  exact⟨sl,sb.extBut b _ (hC b o e) q⟩
 free:=u.free
 there:=fun b o e hx=>by
  obtain⟨o',q⟩:=u.there b o e hx
  exact⟨o',sb.extBut b _ (hC b o e) q⟩
 tups:=u.tups
 frzs:=u.frzs
 tbls:=u.tbls
theorem _root_.L2.HOk.sameBut {P:Program}{w:World}{H:Hp}{h1 h2:Heap}{C:Addr} (ok:HOk P w H h1) (sb:Heap.SameBut C h1 h2) (hC:H C=none):HOk P w H h2:=fun b u e=>
 (ok b u e).stay (fun c v hc q=>sb.extBut c v (by
  rintro rfl
  rcases hc with z | z
  ·subst z;rw [hC] at e;cases e
  ·rw [hC] at z;cases z) q) (fun _ q=>q) fun _ _ q=>q
inductive PIfs (X:Cx):List Expr->EB->Prop where
 | none:PIfs X [] bYes
 | one {c:Expr}{q:EB}:PT X c (tQ X.K q)->PIfs X [c] q
theorem Kp.bump {F:Addr->Prop}{m:List Addr}{H:Hp}{p:Addr}{o:HO} (hF:¬F p) (ht:∀xs,H p≠some (.tup xs)):Kp F m H F m (upd H p o):=
 ⟨⟨[],by simp⟩,fun _ h=>h,fun b u f h=>by rw [upd_ne (by rintro rfl;exact hF f)];exact h,fun b xs h=>by rw [upd_ne (by rintro rfl;exact ht xs h)];exact h⟩
theorem Stp.bump {F F':Addr->Prop}{m m':List Addr}{H H':Hp}{p:Addr}{o:HO} (s:Stp F m H F' m' H') (hp:H p=none):Stp F m H F' m' (upd H' p o) where
 pre:=s.pre
 oth:=fun b u h hb=>by rw [upd_ne (by rintro rfl;rw [hp] at h;cases h)];exact s.oth b u h hb
 frz:=s.frz
 frk:=fun b u f h=>by rw [upd_ne (by rintro rfl;rw [hp] at h;cases h)];exact s.frk b u f h
 tup:=fun b xs h=>by rw [upd_ne (by rintro rfl;rw [hp] at h;cases h)];exact s.tup b xs h
 trk:=fun b h=>by
  by_cases e:b=p
  ·subst e;rw [upd_same];exact fun z=>nomatch z
  ·rw [upd_ne e];exact s.trk b h
 nf:=s.nf
 nm:=s.nm
theorem Rel.bump {K:PySem.W.Frag}{F:Addr->Prop}{m:List Addr}{H:Hp}{S:Sto}{p:Addr}{o:HO} (r:Rel K F H m S) (hF:¬F p) (hm:p ∉ m) (ht:∀xs,H p≠some (.tup xs)):Rel K F (upd H p o) m S:=
 r.stayK (Kp.bump hF ht) (fun a u ha h=>by rw [upd_ne (by rintro rfl;exact hm ha)];exact h) (fun _ f=>.inl f) fun a f=>by rw [upd_ne (by rintro rfl;exact hF f)];exact r.ft a f
theorem kpF {F:Addr->Prop}{m:List Addr}{H:Hp}{p:Addr}:Kp F m H (fun b=>F b\/b=p) m H:=⟨⟨[],by simp⟩,fun _ h=>.inl h,fun _ _ _ h=>h,fun _ _ h=>h⟩
theorem Stp.addF {F F':Addr->Prop}{m m':List Addr}{H H':Hp}{p:Addr} (s:Stp F m H F' m' H') (hp:H p=none):Stp F m H (fun b=>F' b\/b=p) m' H':=
 ⟨s.pre,s.oth,fun b h=>.inl (s.frz b h),s.frk,s.tup,s.trk,fun b h=>by
  rcases h with h | h
  ·exact s.nf b h
  ·subst h;exact .inr (.inl hp),s.nm⟩
theorem Rel.addF {K:PySem.W.Frag}{F:Addr->Prop}{m:List Addr}{H:Hp}{S:Sto}{p:Addr} (r:Rel K F H m S) (hm:p ∉ m) (hp:H p≠none):Rel K (fun b=>F b\/b=p) H m S where
 len:=r.len
 nd:=r.nd
 obj:=fun i a o e1 e2=>(r.obj i a o e1 e2).kp kpF fun u h=>h
 sep:=fun i a o e1 e2 w f=>by
  rcases f with f | f
  ·exact r.sep i a o e1 e2 w f
  ·subst f;exact hm (List.mem_of_getElem? e1)
 trk:=r.trk
 ft:=fun a f=>by
  rcases f with f | f
  ·exact r.ft a f
  ·subst f;exact hp
theorem _root_.L2.Inv.letGo {pins:List (Addr×Obj)}{σ:L2.St}{H:Hp}{s:Shared}{C:Addr}{h':Heap} (I:Inv X pins σ H s) (sb:Heap.SameBut C s.heap h') (hC:H C=none) (h0:X.s₀.heap.objs.size≤C) (h1:C≠X.env.locals)
  (h2:∀x c,X.env.cells.lookup x=some c->c≠C) (h3:∀p ∈ X.pn++pins,p.1≠C):Inv X pins σ H { s with heap:=h' }:=by
 have ne:∀b:Addr,b ∉ [C]->b≠C:=fun b hb z=>hb (by simp [z])
 refine I.call' (s':={ s with heap:=h' }) (ch:=[C]) rfl ⟨fun b o e _ _ hx=>sb.extBut b o (ne b hx) e,fun b o e _ _ hx=>⟨o.slots,sb.extBut b o (ne b hx) e⟩,fun _ _ _ n _=>n,fun b o e hx=>⟨o,sb.extBut b o (ne b hx) e⟩,fun _ _ q=>q,fun _ _ _ q=>q,fun b ps q=>⟨#[],by rw [q];simp⟩⟩ (I.hok.sameBut sb hC) I.bare fun b hb=>?_
 have e:b=C:=by simpa using hb
 subst e
 exact⟨.inr h0,h1,h2,h3⟩
theorem compLoopT {Pg:Program}{w:World}{A:Around}{R:Result->Shared->Prop}{s:Shared}{elt tg iter:Expr}{ifs:List Expr}{scope:Scope}{pos:Pos}{it acc:Value}{env:Env} (I:Nat->Shared->Prop)
  (turn:∀n s,I n s->wpAny (model Pg w) A (pyNext it) (fun r s1=>match r with
   | none=>R (.ok .next) s1
   | some v=>wpAny (model Pg w) A (letOwnedTupleGo tg it v) (fun _ s2=>wpAny (model Pg w) A (assign tg env v) (fun _ s3=>
     wpAny (model Pg w) A (forIn ifs true fun c r=>if r=true then do let ok <- isTrue c env (eval c env);pure (ForInStep.yield ok) else pure (ForInStep.yield r)) (fun ok s4=>
      if ok=true then wpAny (model Pg w) A (eval elt env) (fun x s5=>
       wpAny (model Pg w) A (call (.builtin "list.append") [acc,x]) (fun _ s6=>∃m,m < n/\I m s6) (notedBy (model Pg w) A env fun e s'=>R (.error e) s') s5) (notedBy (model Pg w) A env fun e s'=>R (.error e) s') s4
      else ∃m,m < n/\I m s4) (notedBy (model Pg w) A env fun e s'=>R (.error e) s') s3) (notedBy (model Pg w) A env fun e s'=>R (.error e) s') s2) (notedBy (model Pg w) A env fun e s'=>R (.error e) s') s1) (notedBy (model Pg w) A env fun e s'=>R (.error e) s') s)
  (n:Nat) (h:I n s):codeAny (model Pg w) A (.compLoop (.ListComp elt [⟨tg,iter,ifs,0⟩] scope pos) 0 it acc env) R s:=by
 refine codeAny_loop rfl I (fun n s hI=>?_) n h
 show wpAny _ A ((compTurn (.ListComp elt [⟨tg,iter,ifs,0⟩] scope pos) 0 it acc env).onRaise (fun x=>do noteFrame x env;theTreesLotGoes x)) _ _ s
 refine wpAny_noted ?_
 rw [compTurn_list]
 refine wpAny_bind (wpAny_standAt (wpAny_bind (wpAny_mono (turn n s hI) (fun r s1 h1=>?_) fun _ _ z=>z)))
 cases r with
 | none=>exact wpAny_pure h1
 | some v=>
  refine wpAny_bind (wpAny_mono h1 (fun _ s2 h2=>wpAny_bind (wpAny_mono h2 (fun _ s3 h3=>wpAny_bind (wpAny_mono h3 (fun ok s4 h4=>?_) fun _ _ z=>z)) fun _ _ z=>z)) fun _ _ z=>z)
  cases ok with
  | false=>exact wpAny_pure ⟨rfl,h4⟩
  | true=>exact wpAny_bind (wpAny_bind (wpAny_mono h4 (fun x s5 h5=>wpAny_bind (wpAny_mono h5 (fun _ s6 h6=>wpAny_pure (wpAny_pure ⟨rfl,h6⟩)) fun _ _ z=>z)) fun _ _ z=>z))
theorem comp_core {elt iter tg:Expr}{ifs:List Expr}{pos p2:Pos}{fi:EVs}{g:TGv}{fc:EB}{fe:EV}{pins:List (Addr×Obj)}{s:Shared}{σ:L2.St}{H:Hp}{use:Option (Value->Sem Unit)}{Q:Value->Shared->Prop}
  {F:Addr->Prop}{m:List Addr}{L:Lc}{S S2:Sto}{d:P}
  (B:BlockOk X scope N' ts n) (hcalm:X.calm=true)
  (hi:PI X tg iter (tI X.K fi)) (hg:∀s H C fp,PG (inn X scope N' s H C fp) tg (gT X.K g)) (hc:∀s H C fp,PIfs (inn X scope N' s H C fp) ifs fc) (he:∀s H C fp,PE (inn X scope N' s H C fp) elt (tV X.K fe))
  (hclos:closureFor scope X.env=pure (clOf scope X.env)) (hs:∀x,foldedSetIterable iter X.env x=pure x)
  (I:Inv X pins σ H s) (r:Rel X.K F H m S) (l:RL X.K F H m σ L) (q:vComp fi ts n g fc fe L S=some (d,S2))
  (fin:∀p F' m' H' sx C,Inv X pins σ H' sx->Stp F m H F' m' H'->Rel X.K F' H' m' S2->RP X.K F' H' d (.ref p)->H' C=none->X.s₀.heap.objs.size≤C->C≠X.env.locals->(∀x c,X.env.cells.lookup x=some c->c≠C)->(∀p ∈ X.pn++pins,p.1≠C) ->
   (∃mC,sx.heap.Ns C mC)->compPost (model X.prog X.w) X.A X.xe use Q (.ref p) C (.ok .next) sx) :
  wpAny (model X.prog X.w) X.A (comprehension (.ListComp elt [⟨tg,iter,ifs,0⟩] scope pos) scope X.env p2 (newList []) false (eval iter X.env) use) Q X.xe s:=by
 obtain⟨vs,S1,e1,q⟩:=bnd_eq q
 split at q
 case isFalse=>cases q
 rename_i hfew
 obtain⟨ys,S2',e2,q⟩:=bnd_eq q
 cases q
 refine wpAny_comprehension_free (use:=use) rfl hs hclos B.kind B.loc (thn (hi pins s σ H _ I ⟨F,m,L,S,vs,S1,r,l,e1,fun J F1 m1 H1 s1 r1 it=>(show (fun J H1=>∃F1 m1,Stp F m H F1 m1 H1/\Rel X.K F1 H1 m1 S1/\ItP X.K J vs F1 m1 H1) J H1 from ⟨F1,m1,s1,r1,it⟩)⟩) fun xv sA hA=>thn hA fun itv s2 h2=>?_)
 obtain⟨it,fp,tn,J,H2,rfl,I2,T,st2,f2,F1,m1,s1,r1,itp⟩:=h2
 have hfp:∀b ∈ fp,b < s2.heap.objs.size:=fun b hb=>by
  obtain⟨o,e,_⟩:=T.obj _ _ st2 b hb
  exact Heap.lt_size e
 refine wpAny_newObj_type ?_ (by show 0≤sizeLine;exact Nat.zero_le _)
 refine wpAny_newFunctionEnv B.cell (by intro y hy;simp at hy) (fun h1 hns1 hsb1=>?_) B.kind
 dsimp only at hns1 hsb1 ⊢
 have hD:H2 s2.heap.objs.size=none:=I2.hok.fresh (Nat.le_refl _)
 generalize hH2:s2.heap.push { cls:=.type "list",dict:=none,data:=.seq ([]:List Value).toArray }=hp2 at hns1 hsb1 ⊢
 have hC:hp2.objs.size=s2.heap.objs.size+1:=by rw [<- hH2,Heap.size_push]
 have hCle:s2.heap.objs.size≤hp2.objs.size:=by rw [hC];exact Nat.le_succ _
 have old:∀b o,s2.heap.get? b=some o->h1.get? b=some o:=fun b o e=>hsb1.extBut b o (Nat.ne_of_lt (Nat.lt_of_lt_of_le (Heap.lt_size e) hCle)) (Heap.get?_push_of_some _ (hH2 ▸ Heap.get?_push_of_some _ e))
 have hDC:s2.heap.objs.size≠hp2.objs.size:=by rw [hC];exact Nat.ne_of_lt (Nat.lt_succ_self _)
 have accO:h1.get? s2.heap.objs.size=some { cls:=.type "list",dict:=none,data:=.seq ([]:List Value).toArray }:=hsb1.extBut _ _ hDC (Heap.get?_push_of_some _ (hH2 ▸ Heap.get?_push_size _ rfl))
 have hCn:H2 hp2.objs.size=none:=I2.hok.fresh hCle
 have hCcell:∀x c,X.env.cells.lookup x=some c->c≠hp2.objs.size:=fun x c e z=>by
  obtain⟨v,o,ho,_⟩:=I2.cell x c e
  exact absurd (Heap.lt_size ho) (Nat.not_lt.mpr (by rw [z];exact hCle))
 have hCloc:hp2.objs.size≠X.env.locals:=Nat.ne_of_gt (Nat.lt_of_lt_of_le I2.lt hCle)
 have hCpin:∀p ∈ X.pn++pins,p.1≠hp2.objs.size:=fun p hp z=>absurd (Heap.lt_size (I2.pin p hp).1) (Nat.not_lt.mpr (by rw [z];exact hCle))
 have I3:Inv (inn X scope N' s2 H2 hp2.objs.size fp) [] (upL ts n σ) (upd H2 s2.heap.objs.size (.lst [])) { s2 with heap:=h1,toks:=s2.toks+([]:List (Str×Value)).length }:=by
  refine⟨inn_ok B I2 hCle f2 hfp,rfl,I2.bare,Un.laid old (Nat.le_refl _) hD,?_,fun x c e=>?_,?_,fun x c e=>?_,fun p hp=>absurd (show p ∈ ([]:List (Addr×Obj)) from hp) (by simp),?_,?_⟩
  ·obtain⟨m0,hn0,hl0⟩:=I2.loc
   refine⟨_,hns1,fun i x v e1 e2 hv=>?_⟩
   obtain⟨h1',h2',h3'⟩:=upL_get e2
   have hlen:σ.length=X.N.length:=I2.len
   have hx:X.N[i]? = some x:=by
    rw [B.names,List.getElem?_take_of_lt (by rw [<- hlen];exact h3')]
    exact e1
   have hv':(relabel scope X.env).names.lookup x=some .local\/(relabel scope X.env).names.lookup x=some .cell\/(relabel scope X.env).names.lookup x=some .free:=hv
   have nl:¬(relabel scope X.env).names.lookup x=some .local:=fun z=>by
    obtain⟨k0,hm,e | ⟨e,_⟩⟩:=relabel_kind z
    ·subst e;exact absurd (B.ts _ hm rfl i hx) h2'
    ·cases e
   have fr:(x,NameKind.free) ∈ scope.names:=by
    rcases hv' with z | z | z
    ·exact absurd z nl
    ·obtain⟨k0,hm,e | ⟨_,e⟩⟩:=relabel_kind z
     ·subst e;exact absurd rfl (B.cell _ hm)
     ·subst e;exact hm
    ·obtain⟨k0,hm,e | ⟨e,_⟩⟩:=relabel_kind z
     ·subst e;exact hm
     ·cases e
   obtain⟨_,hkc⟩:=B.fr _ fr rfl
   have vis:Vis X.env.scope x:=by
    rcases hkc with z | z
    ·exact .inr (.inl z)
    ·exact .inr (.inr z)
   obtain⟨u,ru,lk⟩:=hl0 i x v hx h1' vis
   refine⟨u,ru,.inr ⟨?_,?_⟩⟩
   ·rcases hv' with z | z | z
    ·exact absurd z nl
    ·exact .inl z
    ·exact .inr z
   ·rcases lk with ⟨z,_⟩ | ⟨_,c,ec,ic⟩
    ·rcases hkc with y | y
     ·rw [z] at y;cases y
     ·rw [z] at y;cases y
    ·obtain⟨c',hc'⟩:=B.has fr
     have:=(B.cl I2 hc').1
     rw [ec] at this
     cases this
     obtain⟨o,ho,hd⟩:=ic
     exact⟨c,hc',o,old c o ho,hd⟩
  ·obtain⟨v,o,ho,hd⟩:=I2.cell x c (B.cl I2 e).1
   exact⟨v,o,old c o ho,hd⟩
  ·show upd H2 s2.heap.objs.size (.lst []) hp2.objs.size=none
   rw [upd_ne (Ne.symm hDC)];exact hCn
  ·obtain⟨v,o,ho,hd⟩:=I2.cell x c (B.cl I2 e).1
   rw [upd_ne (Nat.ne_of_lt (Heap.lt_size ho))]
   exact I2.freeC x c (B.cl I2 e).1
  ·exact I2.hok.laid old (Nat.le_refl _) ⟨Nat.zero_le _,[],0,.nil,accO⟩
  ·show (upL ts n σ).length=N'.length
   rw [upL_len,I2.len,B.more]
 have okX:=inn_ok (C:=hp2.objs.size) B I2 hCle f2 hfp
 have fpH:∀{H':Hp},(∀b ∈ fp,H' b=none)->∀b ∈ fp,FpOk (inn X scope N' s2 H2 hp2.objs.size fp) [] H' b:=fun hn b hb=>
  ⟨hn b hb,Nat.ne_of_lt (Nat.lt_of_lt_of_le (hfp b hb) hCle),okX.exfs b hb,.inl hb,(okX.exf b hb).2,fun p hp=>absurd (show p ∈ ([]:List (Addr×Obj)) from hp) (by simp)⟩
 have tn1:tn 0 h1:=T.keep _ _ _ st2 fun b hb o e=>old b o e
 have loop:∀s3:Shared,s3={ s2 with heap:=h1,toks:=s2.toks+([]:List (Str×Value)).length } ->
   codeAny (model X.prog X.w) X.A (.compLoop (.ListComp elt [⟨tg,iter,ifs,0⟩] scope pos) 0 (.ref it) (.ref s2.heap.objs.size) (compEnvC scope (clOf scope X.env) hp2.objs.size X.env))
    (compPost (model X.prog X.w) X.A X.xe use Q (.ref s2.heap.objs.size) hp2.objs.size) s3:=by
  rintro s3 rfl
  refine compLoopT (fun nn sx=>∃(i:Nat) (σ':L2.St) (F':Addr->Prop) (m':List Addr) (H':Hp) (L':Lc) (S':Sto) (acc rest:List P) (xs:List V),
   Inv (inn X scope N' s2 H2 hp2.objs.size fp) [] σ' H' sx/\tn i sx.heap/\(∀b ∈ fp,H' b=none)/\nn=vs.length-i/\i≤vs.length/\Stp F1 m1 H2 F' m' H'/\Rel X.K F' H' m' S'/\RL X.K F' H' m' σ' L' /\
   H' s2.heap.objs.size=some (.lst xs)/\RPs X.K F' H' acc xs/\acc.length≤i/\¬F' s2.heap.objs.size/\s2.heap.objs.size ∉ m'/\compGo g fc fe (vs.drop i) L' S'=some (rest,S2)/\acc++rest=ys) ?_ vs.length ?_
  ·rintro nn sx ⟨i,σ',F',m',H',L',S',acc,rest,xs,I',tn',fr',rfl,hi',st',r',l',hacc,ra,hal,nF,nm,go,rfl⟩
   obtain⟨hgo,hstop⟩:=itp F' m' H' st'
   by_cases hlt:i < vs.length
   ·have hv:vs[i]? = some vs[i]:=by simp [hlt]
    rw [List.drop_eq_getElem_cons hlt] at go
    obtain⟨hgo1,hy⟩:=hgo i _ hv
    refine wpAny_mono (T.item (inn X scope N' s2 H2 hp2.objs.size fp) rfl rfl rfl hcalm i [] sx σ' H' (fun _ _=>False) I' (fpH fr') tn' hgo1) (fun rr sy hr=>?_) (fun _ _ f=>f.elim)
    obtain⟨u,rfl,hr⟩:=hr
    refine wpAny_mono hr (fun _ sz hz=>?_) (fun _ _ f=>f.elim)
    obtain⟨x,H3,I4,rx,yl,tn4,fr4⟩:=hz
    obtain⟨F3,gr,p3⟩:=hy x H3 yl
    have st4:Stp F1 m1 H2 F3 m' H3:=st'.trans gr.stp
    have r4:=r'.grow gr
    have l4:=l'.mono (gr.stp (m:=m'))
    have acc4:=gr.keep _ _ hacc
    have nF4:¬F3 s2.heap.objs.size:=fun z=>by
     rcases gr.nf _ z with z | ⟨z,_⟩
     ·exact nF z
     ·rw [hacc] at z;cases z
    have I4':=I4.pinned (fpH fr4) (T.obj _ _ tn4)
    have back:∀{σ7:L2.St}{H7:Hp}{s7:Shared},Inv (inn X scope N' s2 H2 hp2.objs.size fp) ([]++pinsAt fp sz.heap) σ7 H7 s7->tn (i+1) s7.heap/\∀b ∈ fp,H7 b=none:=fun {σ7 H7 s7} I7=>
     ⟨T.keep _ _ _ tn4 fun b hb o e=>(I7.pin (b,o) (List.mem_append_right _ (List.mem_append_right _ (mem_pinsAt hb e)))).1,fun b hb=>by
      obtain⟨o,e,dd⟩:=T.obj _ _ tn4 b hb
      exact (I7.pin (b,o) (List.mem_append_right _ (List.mem_append_right _ (mem_pinsAt hb e)))).2.1⟩
    unfold compGo at go
    cases eg:g vs[i] L' with
    | none=>rw [eg] at go;cases go
    | some L1=>
     rw [eg] at go
     dsimp only at go
     obtain⟨kk,S5,e5,go⟩:=bnd_eq go
     refine wpAny_mono (hg s2 H2 hp2.objs.size fp _ sz σ' H3 x u (fun σ5 H5=>H5=H3/\RL X.K F3 H3 m' σ5 L1) I4' rx ⟨F3,m',L',vs[i],L1,l4,p3,eg,fun σ5 l5=>⟨rfl,l5⟩⟩) (fun _ s5 h5=>?_) (fun _ _ f=>f.elim)
     obtain⟨σ5,H5,I5,rfl,l5⟩:=h5
     have test:wpAny (model X.prog X.w) X.A (forIn ifs true fun c r=>if r=true then do let ok <- isTrue c (compEnvC scope (clOf scope X.env) hp2.objs.size X.env) (eval c (compEnvC scope (clOf scope X.env) hp2.objs.size X.env));pure (ForInStep.yield ok) else pure (ForInStep.yield r))
       (fun ok s6=>ok=kk/\∃F6 m6 H6,Inv (inn X scope N' s2 H2 hp2.objs.size fp) ([]++pinsAt fp sz.heap) σ5 H6 s6/\Stp F3 m' H5 F6 m6 H6/\Rel X.K F6 H6 m6 S5) (fun _ _=>False) s5:=by
      have hcc:=hc s2 H2 hp2.objs.size fp
      cases hcc with
      | none=>
       cases e5
       exact wpAny_tests_nil ⟨rfl,F3,m',H5,I5,.refl,r4⟩
      | one hq=>
       refine wpAny_tests_one (wpAny_mono (hq _ s5 σ5 H5 (fun b H6=>b=kk/\∃F6 m6,Stp F3 m' H5 F6 m6 H6/\Rel X.K F6 H6 m6 S5) I5 ⟨F3,m',L1,S',kk,S5,r4,l5,e5,fun F6 m6 H6 s6 r6=>⟨rfl,F6,m6,s6,r6⟩⟩) (fun b s6 h6=>?_) fun _ _ f=>f)
       obtain⟨H6,I6,rfl,F6,m6,st6,r6⟩:=h6
       exact⟨rfl,F6,m6,H6,I6,st6,r6⟩
     refine wpAny_mono test (fun ok s6 h6=>?_) (fun _ _ f=>f.elim)
     obtain⟨rfl,F6,m6,H6,I6,st6,r6⟩:=h6
     have acc6:=st6.oth _ _ acc4 nm
     have nm6:s2.heap.objs.size ∉ m6:=fun z=>by
      rcases st6.nm _ z with z | z
      ·exact nm z
      ·rw [acc4] at z;cases z
     have nF6:¬F6 s2.heap.objs.size:=fun z=>by
      rcases st6.nf _ z with z | z | z
      ·exact nF4 z
      ·rw [acc4] at z;cases z
      ·exact nm z
     have ra6:=RPs.mono st6 (ra.grow gr)
     have l6:=l5.mono st6
     cases ok with
     | false=>
      rw [if_neg Bool.false_ne_true] at go ⊢
      obtain⟨t7,f7⟩:=back I6
      exact⟨vs.length-(i+1),by omega,i+1,σ5,F6,m6,H6,L1,S5,acc,rest,xs,I6.pins_of fun p hp=>absurd hp (by simp),t7,f7,rfl,hlt,st4.trans st6,r6,l6,acc6,ra6,Nat.le_succ_of_le hal,nF6,nm6,go,rfl⟩
     | true=>
      rw [if_pos rfl] at go ⊢
      obtain⟨y,S8,e8,go⟩:=bnd_eq go
      obtain⟨zs,S9,e9,go⟩:=bnd_eq go
      cases go
      refine wpAny_mono (he s2 H2 hp2.objs.size fp _ s6 σ5 H6 (fun v8 H8=>∃F8 m8,Stp F6 m6 H6 F8 m8 H8/\Rel X.K F8 H8 m8 S8/\RP X.K F8 H8 y v8) I6 ⟨F6,m6,L1,S5,y,S8,r6,l6,e8,fun v8 F8 m8 H8 s8 r8 p8=>⟨F8,m8,s8,r8,p8⟩⟩) (fun u8 s8 h8=>?_) (fun _ _ f=>f.elim)
      obtain⟨v8,H8,I8,rv8,F8,m8,st8,r8,p8⟩:=h8
      have acc8:=st8.oth _ _ acc6 nm6
      have nm8:s2.heap.objs.size ∉ m8:=fun z=>by
       rcases st8.nm _ z with z | z
       ·exact nm6 z
       ·rw [acc6] at z;cases z
      have nF8:¬F8 s2.heap.objs.size:=fun z=>by
       rcases st8.nf _ z with z | z | z
       ·exact nF6 z
       ·rw [acc6] at z;cases z
       ·exact nm6 z
      have ra8:=RPs.mono st8 ra6
      have nt8:∀zs,H8 s2.heap.objs.size≠some (.tup zs):=fun zs z=>by rw [acc8] at z;cases z
      have hl8:xs.length < sizeLine:=by
       have h9:vs.length≤1000000:=of_decide_eq_true hfew
       rw [<- ra8.length]
       exact Nat.lt_of_lt_of_le (Nat.lt_of_le_of_lt hal hlt) (Nat.le_trans h9 (by decide))
      refine wpAny_mono (mt_append (X:=inn X scope N' s2 H2 hp2.objs.size fp) _ s8 σ5 H8 (.ref s2.heap.objs.size) [v8] (.ref s2.heap.objs.size) [u8] (fun _ H9=>H9=upd H8 s2.heap.objs.size (.lst (xs++[v8]))) I8 rfl (.cons rv8 .nil) ⟨_,xs,v8,rfl,rfl,acc8,hl8,rfl⟩) (fun _ s9 h9=>?_) (fun _ _ f=>f.elim)
      obtain⟨_,H9,I9,_,rfl⟩:=h9
      obtain⟨t9,f9⟩:=back I9
      have kb:Kp F8 m8 H8 F8 m8 (upd H8 s2.heap.objs.size (.lst (xs++[v8]))):=Kp.bump nF8 nt8
      have st9:Stp F1 m1 H2 F8 m8 (upd H8 s2.heap.objs.size (.lst (xs++[v8]))):=(st4.trans (st6.trans st8)).bump hD
      have l9:RL X.K F8 (upd H8 s2.heap.objs.size (.lst (xs++[v8]))) m8 σ5 L1:=⟨l6.len,fun j dd e=>by
       obtain⟨v,e1,rr⟩:=(l6.mono st8).at' j dd e
       exact⟨v,e1,RD.kp kb rr⟩⟩
      exact⟨vs.length-(i+1),by omega,i+1,σ5,F8,m8,_,L1,S8,acc++[y],zs,xs++[v8],I9.pins_of fun p hp=>absurd hp (by simp),t9,f9,rfl,hlt,st9,r8.bump nF8 nm8 nt8,l9,upd_same,
       RPs.kp kb (ra8.append ⟨v8,[],rfl,p8,rfl⟩),by rw [List.length_append];exact Nat.succ_le_succ hal,nF8,nm8,e9,by simp⟩
   ·have e:i=vs.length:=by omega
    subst e
    rw [List.drop_length] at go
    cases go
    refine wpAny_mono (T.done (inn X scope N' s2 H2 hp2.objs.size fp) rfl rfl rfl hcalm vs.length [] sx σ' H' (fun _ _=>False) I' (fpH fr') tn' hstop) (fun rr sy hr=>?_) (fun _ _ f=>f.elim)
    obtain⟨rfl,I5⟩:=hr
    rw [List.append_nil] at *
    have Iout:Inv X pins σ H' sy:=I2.call' (ch:=fp) I5.os I5.base I5.hok I5.bare fun b hb=>⟨(f2 b hb).2.2.2.1,(f2 b hb).2.1,(f2 b hb).2.2.2.2.1,(f2 b hb).2.2.2.2.2⟩
    have hD0:H s2.heap.objs.size=none:=by
     cases q:H s2.heap.objs.size with
     | none=>rfl
     | some o=>exact absurd hD (s1.trk _ (by rw [q];exact fun z=>nomatch z))
    have hCH:H' hp2.objs.size=none:=I5.free
    obtain⟨mC,hmC,_⟩:=I5.loc
    exact fin s2.heap.objs.size (fun b=>F' b\/b=s2.heap.objs.size) m' H' sy hp2.objs.size Iout ((s1.trans st').addF hD0) (r'.addF nm (by rw [hacc];exact fun z=>nomatch z))
     ⟨_,xs,rfl,⟨.inr rfl,hacc⟩,RPs.kp (m:=m') kpF ra⟩ hCH (Nat.le_trans I2.sz hCle) hCloc hCcell hCpin ⟨mC,hmC⟩
  ·exact⟨0,_,F1,m1,_,upL ts n L,S1,[],ys,[],I3,tn1,fun b hb=>by rw [upd_ne (Nat.ne_of_lt (hfp b hb))];exact (f2 b hb).1,rfl,Nat.zero_le _,(grow_new hD).stp,r1.grow (grow_new hD),((l.mono s1).mono (grow_new hD).stp).up ts n,upd_same,rfl,Nat.zero_le _,r1.fresh_F hD,r1.fresh_m hD,by rw [List.drop_zero];exact e2,rfl⟩
 exact codeAny_compStart_list (loop _ rfl) (T.self X.A 0 _ _ _ tn1 (loop _ rfl))
theorem xComp {elt iter tg:Expr}{ifs:List Expr}{pos:Pos}{fi:EVs}{g:TGv}{fc:EB}{fe:EV} (B:BlockOk X scope N' ts n) (hcalm:X.calm=true)
  (hi:PI X tg iter (tI X.K fi)) (hg:∀s H C fp,PG (inn X scope N' s H C fp) tg (gT X.K g)) (hc:∀s H C fp,PIfs (inn X scope N' s H C fp) ifs fc) (he:∀s H C fp,PE (inn X scope N' s H C fp) elt (tV X.K fe))
  (hclos:closureFor scope X.env=pure (clOf scope X.env)) (hs:∀x,foldedSetIterable iter X.env x=pure x:=by intro _;rfl) :
  PE X (.ListComp elt [⟨tg,iter,ifs,0⟩] scope pos) (tV X.K (vComp fi ts n g fc fe)):=by
 intro pins s σ H Q I ⟨F,m,L,S,d,S',r,l,q,k⟩
 rw [eval_ListComp]
 refine comp_core B hcalm hi hg hc he hclos hs I r l q fun p F' m' H' sx C I' st r' rp hC h0 h1 h2 h3 hz=>?_
 obtain⟨mC,hmC⟩:=hz
 exact⟨mC,hmC,fun h' sb=>⟨.ref p,H',I'.letGo sb hC h0 h1 h2 h3,rfl,k _ F' m' H' st r' rp⟩⟩
theorem zComp (i:Nat) {x:Str}{px spos:Pos}{elt iter tg:Expr}{ifs:List Expr}{pos:Pos}{fi:EVs}{g:TGv}{fc:EB}{fe:EV} (hN:X.N.Nodup) (B:BlockOk X scope N' ts n) (hcalm:X.calm=true)
  (hi:PI X tg iter (tI X.K fi)) (hg:∀s H C fp,PG (inn X scope N' s H C fp) tg (gT X.K g)) (hc:∀s H C fp,PIfs (inn X scope N' s H C fp) ifs fc) (he:∀s H C fp,PE (inn X scope N' s H C fp) elt (tV X.K fe))
  (hclos:closureFor scope X.env=pure (clOf scope X.env)) (hsw:swapsWith (.ListComp elt [⟨tg,iter,ifs,0⟩] scope pos) (some (.Name x px)) spos.line X.env=pure true:=by rfl)
  (hs:∀x,foldedSetIterable iter X.env x=pure x:=by intro _;rfl) (hix:X.N[i]? = some x:=by rfl) (hx:Loc X.env.scope x:=by first | exact Or.inl rfl | exact Or.inr rfl)
  (hf:X.fn x=true\/X.env.scope.names.lookup x=some .local:=by first | exact .inl rfl | exact .inr rfl | assumption) :
  PS X (.Assign [.Name x px] (.ListComp elt [⟨tg,iter,ifs,0⟩] scope pos) spos) (tSt X.K (sSet i (eV (vComp fi ts n g fc fe)))):=by
 intro pins s σ H D I ⟨F,m,L,S,fl,L',S',r,l,q,k⟩
 obtain⟨d,S1,e1,q⟩:=bnd_eq q
 cases q
 obtain⟨v,S2,e2,e3⟩:=bnd_eq e1
 cases e3
 rw [exec_Assign_Name_used _ _ _ _ hsw]
 refine wpAny_bind (wpAny_standAt (wpAny_bind ?_))
 show wpAny _ _ (do let _ <- comprehension (.ListComp elt [⟨tg,iter,ifs,0⟩] scope pos) scope X.env _ (newList []) false (eval iter X.env) (some (assign (.Name x px) X.env))) _ _ s
 refine wpAny_bind (wpAny_mono (comp_core (use:=some (assign (.Name x px) X.env)) (Q:=fun _ s'=>SP X pins D .next s') B hcalm hi hg hc he hclos hs I r l e2 fun p F' m' H' sx C I' st r' rp hC h0 h1 h2 h3 hz=>?_) (fun _ s' hq=>wpAny_pure (wpAny_pure hq)) fun _ _ e=>e)
 obtain⟨mC,hmC⟩:=hz
 refine wpAny_assign_Name (store_ok2 I' hN hix hx (v:=.ref p) rfl (fun s' I'' keep=>?_) hf)
 refine⟨mC,?_,fun h' sb=>⟨_,H',I''.letGo sb hC h0 h1 h2 h3,k _ F' m' H' st r' ((l.mono st).set (d:=.p v) rp i)⟩⟩
 obtain⟨a,sbA,ha⟩:=keep
 refine hmC.sameBut sbA ?_
 rcases ha with ha | ha
 ·rw [ha];exact h1
 ·exact Ne.symm (h2 x a ha)
end
end Ev
namespace Ev
open PySem PySem.Spec PyProof.Rows L2
section
variable {X:Cx}{a b e:Expr}{es:List Expr}{fa fb:EV}{fs:EVs}{pos p:Pos}
noncomputable def dNeg:P->Option P
 | .int i=>some (.int (-i))
 | _=>none
noncomputable def tyN:P->String
 | .non=>"NoneType"
 | .bl _=>"bool"
 | .int _=>"int"
 | .str _=>"str"
 | .tup _=>"tuple"
 | .lst _=>"list"
 | .ro _=>"list"
 | .dct _ _=>"dict"
noncomputable def isiP (T:String) (v:P):Bool:=tyN v == T || (T == "int" && tyN v == "bool")
theorem call_isi {T:String} (hT:∀K:PySem.W.Frag,∀v:P,PySem.W.kitOne K (.type (tyN v)) (.type T)=some (isiP T v)) :
  CallR X (.builtin "isinstance") (fun xs H Q=>∃F d x,xs=[x,.ty T]/\RP X.K F H d x/\Q (.bl (isiP T d)) H):=by
 intro pins s σ H xs us Q I r h
 obtain⟨F,d,x,rfl,pd,q⟩:=h
 obtain⟨u,w',rfl,ru,rw'⟩:=vals2 r
 cases (show w'=Value.type T from rw')
 have e:=hT X.K d
 have fin:∀tk,EP X pins σ Q (.bool (isiP T d)) { s with toks:=tk }:=fun tk=>⟨.bl (isiP T d),H,I.tok _,rfl,q⟩
 cases d with
 | non=>cases (show x=.non from pd);exact isinst_ok I ru (.non) e fin
 | bl y=>cases (show x=.bl y from pd);exact isinst_ok I ru (.bl y) e fin
 | int y=>cases (show x=.int y from pd);exact isinst_ok I ru (.int y) e fin
 | str y=>cases (show x=.str y from pd);exact isinst_ok I ru (.str y) e fin
 | tup ds=>
  obtain⟨a,xs,rfl,ta,ra⟩:=pd
  cases ru
  obtain⟨its,_,⟨o,h1,h2,_⟩,_⟩:=I.tuple ta.sq
  exact PySem.W.kia_one PySem.W.kitx_tuple I.kIn ⟨o,h1,h2⟩ e (fun z=>nomatch z) fin
 | lst ds=>
  obtain⟨a,xs,rfl,ta,ra⟩:=pd
  cases ru
  obtain⟨its,_,pl,_⟩:=I.list ta.sq
  obtain⟨o,n,h1,h2,_⟩:=pl
  exact PySem.W.kia_one PySem.W.kitx_list I.kIn ⟨o,h1,h2⟩ e (fun z=>nomatch z) fin
 | ro ds=>
  obtain⟨a,xs,rfl,ta,ra⟩:=pd
  cases ru
  obtain⟨its,_,pl,_⟩:=I.list ta.sq
  obtain⟨o,n,h1,h2,_⟩:=pl
  exact PySem.W.kia_one PySem.W.kitx_list I.kIn ⟨o,h1,h2⟩ e (fun z=>nomatch z) fin
 | dct ks vs=>
  obtain⟨a,kvs,rfl,_,hk,_⟩:=pd
  exact isinst_ok I ru (.dK hk) e fin
theorem kit_tuple (K:PySem.W.Frag) (v:P):PySem.W.kitOne K (.type (tyN v)) (.type "tuple")=some (isiP "tuple" v):=by cases v <;> rfl
theorem rps2 {K:PySem.W.Frag}{F:Addr->Prop}{H:Hp}{d d':P}{xs:List V} (r:RPs K F H [d,d'] xs):∃x y,xs=[x,y]/\RP K F H d x/\RP K F H d' y:=by
 obtain⟨x,r1,rfl,p1,r2⟩:=r
 obtain⟨y,r3,rfl,p2,r4⟩:=r2
 cases (show r3=[] from r4)
 exact⟨x,y,rfl,p1,p2⟩
theorem rps1 {K:PySem.W.Frag}{F:Addr->Prop}{H:Hp}{d:P}{xs:List V} (r:RPs K F H [d] xs):∃x,xs=[x]/\RP K F H d x:=by
 obtain⟨x,r1,rfl,p1,r2⟩:=r
 cases (show r1=[] from r2)
 exact⟨x,rfl,p1⟩
noncomputable def pairsOf:List P->Option (List Key×List P)
 | []=>some ([],[])
 | .tup [k,v]::r=>match keyOf k,pairsOf r with
  | some a,some z=>some (a::z.1,v::z.2)
  | _,_=>none
 | _=>none
noncomputable def c_dict:List P->Option P
 | [.dct ks vs]=>some (.dct ks vs)
 | [.lst ps]=>match pairsOf ps with
  | some z=>if z.1.Nodup then some (.dct z.1 z.2) else none
  | none=>none
 | _=>none
theorem pairs_at {X:Cx}{pins:List (Addr×Obj)}{s:Shared}{σ:L2.St}{H:Hp}{F:Addr->Prop} (I:Inv X pins σ H s):∀{ps:List P}{z:List Key×List P}{xs:List V}{us:List Value},RPs X.K F H ps xs->Vals xs us->pairsOf ps=some z ->
  ∃(kvs:List (Key×V)) (ws:List (Key×Value)),kvs.map (·.1)=z.1/\RPs X.K F H z.2 (kvs.map (·.2))/\KV kvs ws/\PySem.PairsAt (mixKind X.prog X.w) s.heap us ws/\kvs.length=us.length
 | [],z,xs,us,r,v,e=>by
  cases e
  cases (show xs=[] from r)
  cases v
  exact⟨[],[],rfl,rfl,.nil,.nil,rfl⟩
 | p::ps,z,xs,us,r,v,e=>by
  obtain⟨x,xr,rfl,p1,p2⟩:=r
  unfold pairsOf at e
  split at e
  ·rename_i h;cases h
  ·rename_i k w r' h
   cases h
   split at e
   ·rename_i a z' ek ez
    cases e
    obtain⟨t,ys,rfl,ta,rr⟩:=p1
    obtain⟨y1,y2,rfl,q1,q2⟩:=rps2 rr
    cases keyOf_kV ek q1
    cases v with
    | cons v1 v2=>
     rename_i u us'
     cases (show u=Value.ref t from v1)
     obtain⟨its,rv,it,_⟩:=I.tuple ta.sq
     obtain⟨w1,w2,rfl,g1,g2⟩:=vals2 rv
     obtain⟨kvs,ws,a1,a2,a3,a4,a5⟩:=pairs_at I p2 v2 ez
     exact⟨(a,y2)::kvs,(a,w2)::ws,by rw [List.map_cons,a1],⟨y2,_,rfl,q2,a2⟩,.cons ⟨rfl,g2⟩ a3,.cons it (kV_is g1) a4,by simp [a5]⟩
   ·cases e
  ·cases e
theorem callDict (hc:X.calm=true):CallR X (.type "dict") (rC X.K c_dict):=by
 intro pins s σ H xs us Q I r h
 obtain⟨F,ds,d,ft,rs,q,k⟩:=h
 unfold c_dict at q
 split at q
 ·cases q
  obtain⟨x,rfl,p1⟩:=rps1 rs
  obtain⟨a,kvs,rfl,fa,hk,e,ra⟩:=p1
  obtain⟨u,rfl,ru⟩:=vals1 r
  cases ru
  refine d_copyOf I (.inl hk) fun p s' hp I'=>⟨.ref p,_,I',rfl,k _ (fun b=>F b\/b=p) _ (grow_frz hp) ⟨p,kvs,rfl,.inr rfl,upd_same,e,ra.grow (grow_frz hp)⟩⟩
 ·rename_i ps
  split at q
  ·rename_i z ez
   split at q
   ·rename_i nd
    cases q
    obtain⟨x,rfl,p1⟩:=rps1 rs
    obtain⟨a,ys,rfl,la,ra⟩:=p1
    obtain⟨u,rfl,ru⟩:=vals1 r
    cases (show u=Value.ref a from ru)
    obtain⟨zl,its,n,vs,ho⟩:ys.length≤sizeLine/\∃(its:List Value) (n:Nat),Vals ys its/\s.heap.get? a=some { cls:=.type "list",data:=.seq its.toArray n }:=I.hok a _ la.2
    obtain⟨kvs,ws,a1,a2,a3,a4,a5⟩:=pairs_at I ra vs ez
    have el:kvs.length=ws.length:=Paired.length a3
    have ek:ws.map (·.1)=kvs.map (·.1):=by
     clear a1 a2 a4 a5 el
     induction a3 with
     | nil=>rfl
     | cons h _ ih=>rw [List.map_cons,List.map_cons,ih,h.1]
    have e2:=vs.length
    have hp:H s.heap.objs.size=none:=I.hok.fresh (Nat.le_refl _)
    refine PySem.call_dict_pairs (I.ok.hd hc) ho (by simpa using a4) (by rw [ek,a1];exact nd) (by omega) (by simp;omega) fun h' t' k1 k2=>?_
    refine⟨.ref s.heap.objs.size,_,I.laid (a:=s.heap.objs.size) (o:=.dK kvs) (t':=t') k1 (Nat.le_refl _) (dk_new (by omega) (beq_eq_false_iff_ne.mpr (Ne.symm (Nat.ne_of_lt I.big))) a3 k2),rfl,k _ (fun b=>F b\/b=s.heap.objs.size) _ (grow_frz hp) ⟨_,kvs,rfl,.inr rfl,upd_same,a1,a2.grow (grow_frz hp)⟩⟩
   ·cases q
  ·cases q
 ·cases q
theorem x_dict (hg:Gl X "dict") (hm:X.mg "dict"=none) (ha:PA X (e::es) (tVs X.K fs)) (hc:X.calm=true:=by rfl)
  (he:starEach (e::es) X.env=(false,eval e X.env)::starEach es X.env:=by rfl) (hpl:(backTo pos (starEach es X.env)).any (·.1)=false:=by rfl):PE X (.Call (.Name "dict" p) (e::es) [] pos) (tV X.K (vCall c_dict fs)):=xCallT (callDict hc) hg hm PyProof.Rows.boot_dict ha (by decide) (by decide) he hpl
noncomputable def eDict:EE:=fun _ S=>some (.ref S.length,S++[.dct [] []])
theorem xDictE:PE X (.Dict [] [] pos) (tE X.K eDict):=pe_dnewK.imp' fun σ H Q hz=>by
 obtain⟨F,m,L,S,d,S',r,l,q,k⟩:=hz
 cases q
 intro p hp
 refine k (.ref p) F (m++[p]) _ (stp_own hp) (r.own hp ⟨[],upd_same,rfl,rfl⟩) ⟨p,rfl,?_⟩
 rw [<- r.len,List.getElem?_append_right (Nat.le_refl _)];simp
noncomputable def dPut (k:Key) (v:D):List Key->List D->List Key×List D
 | k'::ks,w::ws=>if k'=k then (k'::ks,v::ws) else (k'::(dPut k v ks ws).1,w::(dPut k v ks ws).2)
 | _,_=>([k],[v])
noncomputable def ownD (d:D) (S:Sto):Option (Nat×List Key×List D):=match d with
 | .ref i=>match S[i]? with
  | some (.dct ks vs)=>some (i,ks,vs)
  | _=>none
 | _=>none
theorem ownD_eq {d:D}{S:Sto}{i:Nat}{ks:List Key}{vs:List D} (h:ownD d S=some (i,ks,vs)):d=.ref i/\S[i]? = some (.dct ks vs):=by
 unfold ownD at h
 split at h
 ·split at h
  ·rename_i e;cases h;exact⟨rfl,e⟩
  ·cases h
 ·cases h
noncomputable def sPut (o:EE) (k v:EV):ES:=fun L S=>bnd (v L S) fun y S1=>bnd (o L S1) fun d S2=>bnd (k L S2) fun z S3=>match ownD d S3,keyOf z with
 | some (i,ks,vs),some key=>if (ks.Nodup/\few ks=true) then some (.nx,L,S3.set i (.dct (dPut key (.p y) ks vs).1 (dPut key (.p y) ks vs).2)) else none
 | _,_=>none
theorem putK_dPut {K:PySem.W.Frag}{F:Addr->Prop}{H:Hp}{m:List Addr}{k:Key}{y:D}{u:V} (hu:RD K F H m y u):∀{kvs:List (Key×V)}{ds:List D},(kvs.map (·.1)).Nodup->RDs K F H m ds (kvs.map (·.2)) ->
  (putK kvs k u).map (·.1)=(dPut k y (kvs.map (·.1)) ds).1/\RDs K F H m (dPut k y (kvs.map (·.1)) ds).2 ((putK kvs k u).map (·.2))
 | [],ds,_,r=>by
  have:ds=[]:=List.eq_nil_of_length_eq_zero r.length
  subst this
  exact⟨rfl,u,[],rfl,hu,rfl⟩
 | (k',w)::kvs,[],_,r=>by have:=r.length;simp at this
 | (k',w)::kvs,d::ds,nd,r=>by
  obtain⟨x,xr,e,p1,p2⟩:=r
  rw [List.map_cons] at e nd
  injection e with e1 e2
  subst e1;subst e2
  obtain⟨nd1,nd2⟩:=List.nodup_cons.mp nd
  simp only [List.map_cons,dPut]
  by_cases hk:k'=k
  ·subst hk
   rw [if_pos rfl]
   have e3:putK ((k',w)::kvs) k' u=(k',u)::kvs:=by
    unfold putK
    rw [if_pos (by simp)]
    rw [List.map_cons,if_pos rfl]
    congr 1
    have:∀l:List (Key×V),k' ∉ l.map (·.1)->l.map (fun kv=>if kv.1=k' then (kv.1,u) else kv)=l:=by
     intro l
     induction l with
     | nil=>intro _;rfl
     | cons q l ih=>
      intro hn
      rw [List.map_cons] at hn
      have h1:¬q.1=k':=fun z=>hn (by rw [<- z];exact List.mem_cons_self)
      rw [List.map_cons,if_neg h1,ih fun z=>hn (List.mem_cons_of_mem _ z)]
    exact this kvs nd1
   rw [e3]
   exact⟨rfl,u,_,rfl,hu,p2⟩
  ·rw [if_neg hk]
   obtain⟨i1,i2⟩:=putK_dPut hu nd2 p2
   have e3:putK ((k',w)::kvs) k u=(k',w)::putK kvs k u:=by
    unfold putK
    rw [List.any_cons,decide_eq_false (show ¬(k',w).1=k from hk),Bool.false_or]
    by_cases c:(kvs.any fun kv=>decide (kv.1=k))=true
    ·rw [if_pos c,if_pos c,List.map_cons,if_neg (show ¬(k',w).1=k from hk)]
    ·rw [if_neg c,if_neg c];rfl
   rw [e3,List.map_cons,List.map_cons,i1]
   exact⟨rfl,w,_,rfl,p1,i2⟩
theorem zPut {o i value:Expr}{fo:EE}{fk fv:EV}{pos':Pos} (hu:X.A.units+1 < cLine) (ho:PE X o (tE X.K fo)) (hi:PE X i (tV X.K fk)) (hv:PE X value (tV X.K fv)) (hs:swapsWith value (some (.Subscript o i pos')) pos.line X.env=pure false:=by rfl) :
  PS X (.Assign [.Subscript o i pos'] value pos) (tSt X.K (sPut fo fk fv)):=(ps_dput hu ho hi hv hs).imp' fun D σ H hz=>by
 obtain⟨F,m,L,S,fl,L',S',r,l,q,k⟩:=hz
 obtain⟨y,S1,e1,q⟩:=bnd_eq q
 obtain⟨d,S2,e2,q⟩:=bnd_eq q
 obtain⟨z,S3,e3,q⟩:=bnd_eq q
 refine⟨F,m,L,S,y,S1,r,l,e1,fun v F1 m1 H1 s1 r1 p1=>?_⟩
 refine⟨F1,m1,L,S1,d,S2,r1,l.mono s1,e2,fun x F2 m2 H2 s2 r2 p2=>?_⟩
 refine⟨F2,m2,L,S2,z,S3,r2,(l.mono s1).mono s2,e3,fun w F3 m3 H3 s3 r3 p3=>?_⟩
 cases eo:ownD d S3 with
 | none=>rw [eo] at q;cases q
 | some t=>
  obtain⟨j,ks,vs⟩:=t
  rw [eo] at q
  cases ek:keyOf z with
  | none=>rw [ek] at q;cases q
  | some key=>
   rw [ek] at q
   dsimp only at q
   split at q
   ·rename_i hc
    cases q
    obtain⟨rfl,es⟩:=ownD_eq eo
    obtain⟨a,rfl,hm⟩:=RD.mono s3 p2
    obtain⟨kvs,hH,hk,rs⟩:=r3.obj j a _ hm es
    subst hk
    have pv:RD X.K F3 H3 m3 (.p y) v:=RD.mono s3 (RD.mono s2 (show RD X.K F1 H1 m1 (.p y) v from p1))
    obtain⟨h1,h2⟩:=putK_dPut (k:=key) pv hc.1 rs
    cases (keyOf_kV ek p3)
    have nt:∀zs,H3 a≠some (.tup zs):=fun zs z=>by rw [hH] at z;cases z
    have st:Stp F3 m3 H3 F3 m3 (upd H3 a (.dK (putK kvs key v))):=stp_set r3 hm es trivial nt
    have hl:kvs.length < sizeLine:=by
     have h9:(kvs.map (·.1)).length≤1000000:=of_decide_eq_true hc.2
     rw [List.length_map] at h9
     exact Nat.lt_of_le_of_lt h9 (by decide)
    refine⟨a,_,rfl,DPut.k hH hl,?_⟩
    exact k σ F3 m3 _ (s1.trans (s2.trans (s3.trans st))) (r3.set hm es trivial nt ⟨_,upd_same,h1,RDs.mono st h2⟩) (((l.mono s1).mono s2).mono (s3.trans st))
   ·cases q
end
end Ev
namespace Ev
open PySem PySem.Spec PyProof.Rows L2
section
variable {X:Cx}{a b c e:Expr}{es:List Expr}{fa fb fc:EV}{fs:EVs}{pos p:Pos}
noncomputable def intsOf:List P->Option (List Int)
 | []=>some []
 | .int i::r=>(intsOf r).map (i::·)
 | _::_=>none
noncomputable def dEqD:P->P->Option P
 | .dct ks vs,.dct ks' vs'=>if ks=ks'/\ks.Nodup/\(intsOf vs).isSome=true/\intsOf vs=intsOf vs' then some (.bl true) else none
 | x,y=>dEq x y
theorem valueAt_cons_ne {k k':Key}{v:Value}{r:List (Key×Value)} (h:¬k'=k):valueAt ((k',v)::r) k=valueAt r k:=by simp [valueAt,List.find?_cons,h]
theorem valueAt_cons_eq {k:Key}{v:Value}{r:List (Key×Value)}:valueAt ((k,v)::r) k=some v:=by simp [valueAt,List.find?_cons]
theorem keq_hits {K:PySem.W.Frag}{F:Addr->Prop}{H:Hp}{A:Around}{s:Shared}:∀{kvs kvs':List (Key×V)}{ws ws':List (Key×Value)}{ds ds':List P}{is:List Int},(kvs.map (·.1)).Nodup->kvs.map (·.1)=kvs'.map (·.1)->KV kvs ws->KV kvs' ws' ->
  RPs K F H ds (kvs.map (·.2))->RPs K F H ds' (kvs'.map (·.2))->intsOf ds=some is->intsOf ds'=some is->∀{kb:List (Key×Value)},(∀k v,valueAt ws' k=some v->k ∈ kvs'.map (·.1)->valueAt kb k=some v)->PySem.W.KeqHits A s kb ws true
 | [],[],ws,ws',ds,ds',is,nd,e,k1,k2,r1,r2,i1,i2,kb,hk=>by cases k1;exact .nil
 | [],_::_,_,_,_,_,_,_,e,_,_,_,_,_,_,_,_=>by simp at e
 | _::_,[],_,_,_,_,_,_,e,_,_,_,_,_,_,_,_=>by simp at e
 | (k,v)::kvs,(k',v')::kvs',ws,ws',ds,ds',is,nd,e,k1,k2,r1,r2,i1,i2,kb,hk=>by
  cases k1 with
  | @cons _ q _ qs h1 t1=>
   cases k2 with
   | @cons _ q' _ qs' h2 t2=>
    obtain⟨kq,u⟩:=q
    obtain⟨kq',u'⟩:=q'
    obtain⟨e1,rv⟩:=h1
    obtain⟨e2,rv'⟩:=h2
    dsimp only at e1 e2 rv rv'
    subst e1;subst e2
    rw [List.map_cons,List.map_cons] at e
    injection e with ek er
    dsimp only at ek
    subst ek
    rw [List.map_cons] at nd
    obtain⟨nd1,nd2⟩:=List.nodup_cons.mp nd
    cases ds with
    | nil=>have:=RPs.length r1;simp at this
    | cons d dr=>
     cases ds' with
     | nil=>have:=RPs.length r2;simp at this
     | cons d' dr'=>
      obtain⟨x,xr,ex,p1,q1⟩:=r1
      obtain⟨x',xr',ex',p1',q1'⟩:=r2
      rw [List.map_cons] at ex ex'
      injection ex with exa exb
      injection ex' with exa' exb'
      subst exa exb exa' exb'
      cases d with
      | int i=>
       cases d' with
       | int i'=>
        simp only [intsOf] at i1 i2
        cases ei:intsOf dr with
        | none=>rw [ei] at i1;cases i1
        | some js=>
         cases ei':intsOf dr' with
         | none=>rw [ei'] at i2;cases i2
         | some js'=>
          rw [ei] at i1;rw [ei'] at i2
          cases i1
          have i2':i'::js'=i::js:=Option.some.inj i2
          injection i2' with z1 z2
          subst z1;subst z2
          cases (show v=.int i' from p1)
          cases (show v'=.int i' from p1')
          obtain⟨t,rfl⟩:=rv
          obtain⟨t',rfl⟩:=rv'
          have hy:valueAt kb k=some (.int i' t'):=hk k _ valueAt_cons_eq (by simp)
          have eqa:SeqAt.EqAt A s (.int i' t) (.int i' t') true:=by
           have:=SeqAt.EqAt.int_int (A:=A) (s:=s) i' t i' t'
           simpa using this
          have rest:=keq_hits (A:=A) (s:=s) nd2 er t1 t2 q1 q1' ei ei' (kb:=kb) fun k2 v2 hv hm=>by
           refine hk k2 v2 ?_ (List.mem_cons_of_mem _ hm)
           have:¬k=k2:=fun z=>by subst z;rw [<- er] at hm;exact nd1 hm
           rw [valueAt_cons_ne this];exact hv
          have:=PySem.W.KeqHits.hit (e:=true) (b:=true) hy eqa rest
          exact this
       | _=>simp [intsOf] at i2
      | _=>simp [intsOf] at i1
theorem opEqD (hu:X.A.units+1 < cLine):OpP X (compareOp .Eq) dEqD:=by
 intro pins s σ H x y v u Q I rx ry h
 obtain⟨F,dx,dy,d,ft,px,py,q,k⟩:=h
 have other:dEq dx dy=some d->wpAny (model X.prog X.w) X.A (compareOp .Eq v u) (EP X pins σ Q) X.xe s:=fun q=>opEq pins s σ H x y v u Q I rx ry ⟨F,dx,dy,d,ft,px,py,q,k⟩
 cases dx with
 | dct ks vs=>
  cases dy with
  | dct ks' vs'=>
   simp only [dEqD] at q
   split at q
   ·rename_i hc
    cases q
    obtain⟨ek,nd,hs,hi⟩:=hc
    obtain⟨a,kvs,rfl,fa,hka,e1,ra⟩:=px
    obtain⟨b,kvs',rfl,fb,hkb,e2,rb⟩:=py
    cases rx;cases ry
    obtain⟨za,ha,ws,relA,da⟩:=dk_of I.hok hka
    obtain⟨zb,hb,ws',relB,db⟩:=dk_of I.hok hkb
    obtain⟨is,his⟩:=Option.isSome_iff_exists.mp hs
    subst e1
    have hits:=keq_hits (A:=X.A.in1) (s:=s) nd (by rw [e2];exact ek) relA relB ra rb his (by rw [<- hi];exact his) (kb:=ws') fun _ _ h _=>h
    refine PySem.W.keq_eq ha hb da db (by omega) (fun _=>hits) ?_
    have hl:ws.length=ws'.length:=by
     have l1:=relA.length
     have l2:=relB.length
     have l3:=congrArg List.length ek
     rw [<- e2,List.length_map,List.length_map] at l3
     omega
    rw [hl]
    simp only [beq_self_eq_true,Bool.and_self]
    exact⟨.bl true,H,I,rfl,k _ F H .refl rfl⟩
   ·cases q
  | _=>exact other q
 | _=>exact other q
noncomputable def itS (a:EV):EVs:=fun L S=>bnd (a L S) fun v S1=>match v with
 | .lst xs=>some (xs,S1)
 | .ro xs=>some (xs,S1)
 | .tup xs=>some (xs,S1)
 | _=>none
theorem iS {tg iter:Expr} (h:PE X iter (tV X.K fa)):PI X tg iter (tI X.K (itS fa)):=by
 intro pins s σ H R I ⟨F,m,L,S,vs,S',r,l,q,k⟩
 obtain⟨v,S1,e1,q⟩:=bnd_eq q
 refine thn (h pins s σ H (fun x H1=>∃F1 m1,Stp F m H F1 m1 H1/\Rel X.K F1 H1 m1 S1/\RP X.K F1 H1 v x) I ⟨F,m,L,S,v,S1,r,l,e1,fun x F1 m1 H1 s1 r1 p1=>⟨F1,m1,s1,r1,p1⟩⟩) fun u s1 hz=>?_
 obtain⟨x,H1,I1,rx,F1,m1,st,r1,p1⟩:=hz
 have mk:∀{J:It},ItP X.K J vs F1 m1 H1->S1=S'->R J H1:=fun it e=>by subst e;exact k _ F1 m1 H1 st r1 it
 have listCase:∀{a:Addr}{xs:List V},x=.ref a->SqL X.K H1 a xs->R (Itl X.K a) H1->wpAny (model X.prog X.w) X.A (pyIter u) (PIE X pins σ tg R) X.xe s1:=fun {a xs} e hq q=>by
  subst e
  cases rx
  obtain⟨its,rv,p,hz⟩:=I1.list hq
  refine wpAny_pyIter_list p.isList ?_
  refine⟨s1.heap.objs.size,[s1.heap.objs.size],_,_,H1,rfl,I1.kept (t':=s1.toks) fun b o e=>Heap.get?_push_of_some _ e,turn_list a _,⟨_,Heap.get?_push_size _ rfl,rfl,rfl⟩,fun b hb=>?_,q⟩
  have e:b=s1.heap.objs.size:=by simpa using hb
  subst e
  exact I1.fpOk (Nat.le_refl _) (I1.hok.fresh (Nat.le_refl _))
 cases v with
 | lst ds=>
  cases q
  obtain⟨a,xs,rfl,ta,ra⟩:=p1
  exact listCase rfl ta.sq (mk (itl_ok (fun F2 m2 H2 s=>(ta.kp s.kp).sq) ra) rfl)
 | ro ds=>
  cases q
  obtain⟨a,xs,rfl,ta,ra⟩:=p1
  exact listCase rfl ta.sq (mk (itl_ok (fun F2 m2 H2 s=>(ta.kp s.kp).sq) ra) rfl)
 | tup ds=>
  cases q
  obtain⟨a,xs,rfl,ta,ra⟩:=p1
  cases rx
  obtain⟨its,rv,pp,hz⟩:=I1.tuple ta.sq
  refine wpAny_pyIter_tuple (show s1.heap.IsTuple a its.toArray from pp) ?_
  refine⟨s1.heap.objs.size,[s1.heap.objs.size],_,_,H1,rfl,I1.kept (t':=s1.toks) fun b o e=>Heap.get?_push_of_some _ e,turn_tuple a _,⟨_,Heap.get?_push_size _ rfl,rfl,rfl⟩,fun b hb=>?_,mk (itt_ok ta ra) rfl⟩
  have e:b=s1.heap.objs.size:=by simpa using hb
  subst e
  exact I1.fpOk (Nat.le_refl _) (I1.hok.fresh (Nat.le_refl _))
 | _=>cases q
end
end Ev
namespace Ev
open PySem PySem.Spec PyProof.Rows L2
section
variable {X:Cx}{pos p:Pos}
noncomputable abbrev DE:=List (Str×EV)
noncomputable def dNil:DE:=[]
noncomputable def dCons (k:Str) (f:EV) (r:DE):DE:=(k,f)::r
noncomputable def valsGo:DE->EVs
 | []=>vsNil
 | (_,f)::r=>vsCons f (valsGo r)
noncomputable def keysD (l:DE):List Key:=l.map fun x=>.inr x.1
noncomputable def vDict (l:DE):EV:=fun L S=>bnd (valsGo l L S) fun vs S1=>if (keysD l).Nodup/\l.length≤15 then some (.dct (keysD l) vs,S1) else none
noncomputable def trsD (K:PySem.W.Frag) (l:DE):List (TE×TE):=l.map fun x=>(tV K (vC (.str x.1)),tV K x.2)
noncomputable def KD (X:Cx) (pos:Pos) (keys:List (Option Expr)) (values:List Expr) (l:DE):Prop:=PPs X pos keys values (trsD X.K l)
theorem kNil:KD X pos [] [] dNil:=pps_nil
theorem kCons {k v:Expr}{ks:List (Option Expr)}{vs:List Expr}{x:Str}{f:EV}{l:DE} (hk:PE X k (tV X.K (vC (.str x)))) (hv:PE X v (tV X.K f)) (hr:KD X pos ks vs l):KD X pos (some k::ks) (v::vs) (dCons x f l):=pps_cons hk hv hr
theorem pairs_ok {K:PySem.W.Frag}{σ:L2.St}{L:Lc}:∀{l:DE}{F:Addr->Prop}{m:List Addr}{H:Hp}{S S':Sto}{vs:List P}{Q:List (V×V)->Hp->Prop},Rel K F H m S->RL K F H m σ L->valsGo l L S=some (vs,S') ->
  (∀xs F' m' H',Stp F m H F' m' H'->Rel K F' H' m' S'->RPs K F' H' vs xs->Q ((l.map (·.1)).zipWith (fun k x=>(V.str k,x)) xs) H')->tPairs (trsD K l) σ H Q
 | [],F,m,H,S,S',vs,Q,r,l,q,k=>by
  cases q
  exact k [] F m H .refl r rfl
 | (x,f)::rest,F,m,H,S,S',vs,Q,r,l,q,k=>by
  obtain⟨y,S1,e1,q⟩:=bnd_eq (show bnd (f L S) _=_ from q)
  obtain⟨ys,S2,e2,q⟩:=bnd_eq q
  cases q
  refine⟨F,m,L,S,.str x,S,r,l,rfl,fun v F0 m0 H0 s0 r0 p0=>?_⟩
  refine⟨F0,m0,L,S,y,S1,r0,l.mono s0,e1,fun w F1 m1 H1 s1 r1 p1=>?_⟩
  refine pairs_ok r1 ((l.mono s0).mono s1) e2 fun xs F2 m2 H2 s2 r2 p2=>?_
  cases (show v=.str x from p0)
  exact k (w::xs) F2 m2 H2 (s0.trans (s1.trans s2)) r2 ⟨w,xs,rfl,RP.mono s2 p1,p2⟩
theorem mergeK_nodup:∀{more kvs:List (Key×V)},((kvs++more).map (·.1)).Nodup->mergeK kvs more=kvs++more
 | [],kvs,_=>by simp [mergeK]
 | (k,v)::more,kvs,nd=>by
  have hk:valV kvs k=none:=by
   cases e:valV kvs k with
   | none=>rfl
   | some w=>
    exfalso
    unfold valV at e
    cases ef:kvs.find? (fun kv=>decide (kv.1=k)) with
    | none=>rw [ef] at e;cases e
    | some q=>
     have h1:=List.mem_of_find?_eq_some ef
     have h2:=List.find?_some ef
     have h3:q.1=k:=of_decide_eq_true h2
     rw [List.map_append,List.nodup_append] at nd
     exact nd.2.2 q.1 (List.mem_map.mpr ⟨q,h1,rfl⟩) k (by simp) h3
  show mergeK (putK kvs k v) more=_
  rw [putK_new v hk,mergeK_nodup (by simpa using nd)]
  simp
theorem valsGo_len:∀{l:DE}{L:Lc}{S S':Sto}{vs:List P},valsGo l L S=some (vs,S')->vs.length=l.length
 | [],L,S,S',vs,h=>by cases h;rfl
 | (x,f)::r,L,S,S',vs,h=>by
  obtain⟨y,S1,e1,q⟩:=bnd_eq (show bnd (f L S) _=_ from h)
  obtain⟨ys,S2,e2,q⟩:=bnd_eq q
  cases q
  rw [List.length_cons,List.length_cons,valsGo_len e2]
theorem zip_keys {l:DE}{xs:List V} (h:xs.length=l.length):(l.map (·.1)).zipWith (fun k x=>(V.str k,x)) xs=((keysD l).zip xs).map (fun kv=>(kV kv.1,kv.2)):=by
 unfold keysD
 induction l generalizing xs with
 | nil=>cases xs <;> rfl
 | cons q l ih=>
  cases xs with
  | nil=>rfl
  | cons x xs=>simp only [List.map_cons,List.zipWith_cons_cons,List.zip_cons_cons];rw [ih (by simpa using h)];rfl
theorem zip_fst {α β:Type}:∀{xs:List α}{ys:List β},xs.length=ys.length->(xs.zip ys).map (·.1)=xs
 | [],[],_=>rfl
 | x::xs,y::ys,h=>by rw [List.zip_cons_cons,List.map_cons,zip_fst (by simpa using h)]
theorem zip_snd {α β:Type}:∀{xs:List α}{ys:List β},xs.length=ys.length->(xs.zip ys).map (·.2)=ys
 | [],[],_=>rfl
 | x::xs,y::ys,h=>by rw [List.zip_cons_cons,List.map_cons,zip_snd (by simpa using h)]
theorem xDict {keys:List (Option Expr)}{values:List Expr}{l:DE} (h:KD X pos keys values l) (hall:keys.all (·.isSome)=true) (hl:keys.length=values.length) (h0:keys≠[]) (h15:keys.length≤15):PE X (.Dict keys values pos) (tV X.K (vDict l)):=
 (pe_disp h hall hl h0 h15).imp' fun σ H Q hz=>by
  obtain⟨F,m,L,S,d,S',r,rl,q,k⟩:=hz
  obtain⟨vs,S1,e1,q⟩:=bnd_eq q
  split at q
  ·rename_i hc
   cases q
   intro p hp
   have g0:Grow F H F (upd H p (.dK [])):=grow_new hp
   refine pairs_ok (r.grow g0) (rl.mono (g0.stp (m:=m))) e1 fun xs F' m' H' s' r' p'=>?_
   have hlen:xs.length=l.length:=by rw [<- p'.length,valsGo_len e1]
   have hkl:(keysD l).length=xs.length:=by unfold keysD;rw [List.length_map,hlen]
   have hp':H' p=some (.dK []):=s'.oth p _ upd_same (r.fresh_m hp)
   refine⟨hp',(keysD l).zip xs,zip_keys hlen,by rw [List.length_zip,hkl,hlen];simpa using hc.2,?_⟩
   rw [mergeK_nodup (kvs:=[]) (by rw [List.nil_append,zip_fst hkl];exact hc.1),List.nil_append]
   have nF:¬F' p:=fun z=>by
    rcases s'.nf p z with z | z | z
    ·exact r.fresh_F hp z
    ·rw [upd_same] at z;cases z
    ·exact r.fresh_m hp z
   have nm:p ∉ m':=fun z=>by
    rcases s'.nm p z with z | z
    ·exact r.fresh_m hp z
    ·rw [upd_same] at z;cases z
   have nt:∀zs,H' p≠some (.tup zs):=fun zs z=>by rw [hp'] at z;cases z
   have kb:Kp F' m' H' F' m' (upd H' p (.dK ((keysD l).zip xs))):=Kp.bump nF nt
   have st:Stp F m H F' m' (upd H' p (.dK ((keysD l).zip xs))):=((g0.stp (m:=m)).trans s').bump hp
   refine k (.ref p) (fun b=>F' b\/b=p) m' _ (st.addF hp) ((r'.bump nF nm nt).addF nm (by rw [upd_same];exact fun z=>nomatch z)) ⟨p,_,rfl,.inr rfl,upd_same,zip_fst hkl,?_⟩
   rw [zip_snd hkl]
   exact RPs.kp (m:=m') kpF (RPs.kp kb p')
  ·cases q
end
end Ev
namespace Ev
open PySem PySem.Spec PyProof.Rows L2
mutual
noncomputable def pd:P->PyData
 | .non=>.none
 | .bl b=>.bool b
 | .int i=>.int i
 | .str x=>.str x
 | .tup xs=>.tuple (pds xs)
 | .lst xs=>.list (pds xs)
 | .ro xs=>.list (pds xs)
 | .dct _ _=>.none
noncomputable def pds:List P->List PyData
 | []=>[]
 | x::r=>pd x::pds r
end
noncomputable def okP:Nat->P->Bool
 | _,.non=>true
 | _,.bl _=>true
 | _,.int _=>true
 | _,.str x=>PyData.strOk x
 | n+1,.tup xs=>xs.all (okP n)
 | n+1,.lst xs=>xs.all (okP n)
 | n+1,.ro xs=>xs.all (okP n)
 | _,_=>false
theorem okP_lay:∀(n:Nat) (p:P),okP n p=true->(pd p).canLay0=true/\(pd p).depth≤n:=by
 have all:∀(n:Nat),(∀p,okP n p=true->(pd p).canLay0=true/\(pd p).depth≤n)->∀ds:List P,(∀d ∈ ds,okP n d=true)->PyData.canLayAll0 (pds ds)=true/\PyData.depthAll (pds ds)≤n:=by
  intro n ih ds
  induction ds with
  | nil=>intro _;simp [pds,PyData.canLayAll0,PyData.depthAll]
  | cons d ds hi=>
   intro h
   have h1:=ih d (h d (.head _))
   have h2:=hi fun e he=>h e (.tail _ he)
   simp only [pds,PyData.canLayAll0,PyData.depthAll,h1.1,h2.1,Bool.and_self,true_and]
   have a1:=h1.2
   have a2:=h2.2
   omega
 intro n
 induction n with
 | zero=>
  intro p h
  cases p <;> simp_all [okP,pd,PyData.canLay0,PyData.depth]
 | succ n ih=>
  intro p h
  cases p with
  | non=>simp [pd,PyData.canLay0,PyData.depth]
  | bl b=>simp [pd,PyData.canLay0,PyData.depth]
  | int i=>simp [pd,PyData.canLay0,PyData.depth]
  | str x=>simp [okP] at h;simp [pd,PyData.canLay0,PyData.depth,h]
  | dct ks vs=>simp [okP] at h
  | tup ds=>
   have q:=all n ih ds (by simpa [okP] using h)
   have q2:=q.2
   simp only [pd,PyData.canLay0,PyData.depth,q.1,true_and]
   omega
  | lst ds=>
   have q:=all n ih ds (by simpa [okP] using h)
   have q2:=q.2
   simp only [pd,PyData.canLay0,PyData.depth,q.1,true_and]
   omega
  | ro ds=>
   have q:=all n ih ds (by simpa [okP] using h)
   have q2:=q.2
   simp only [pd,PyData.canLay0,PyData.depth,q.1,true_and]
   omega
theorem okP_shaped {p:P} (h:okP 20 p=true):SeqAt.shaped (pd p)=true:=by
 obtain⟨h1,h2⟩:=okP_lay 20 p h
 unfold SeqAt.shaped
 rw [h1,Bool.true_and]
 exact decide_eq_true (by omega)
section
variable {X:Cx}{pins:List (Addr×Obj)}{σ:L2.St}{H:Hp}{s:Shared}{F:Addr->Prop}
theorem readsAll_of {n:Nat} (one:∀{p:P}{v:V}{u:Value},RP X.K F H p v->RelV v u->okP n p=true->∃as,Reads s.heap u (pd p) as) :
  ∀{ds:List P}{xs:List V}{us:List Value},RPs X.K F H ds xs->Vals xs us->(∀d ∈ ds,okP n d=true)->∃as,ReadsAll s.heap us (pds ds) as
 | [],xs,us,r,v,_=>by
  cases (show xs=[] from r)
  cases v
  exact⟨_,.nil⟩
 | d::ds,xs,us,r,v,h=>by
  obtain⟨x,xr,rfl,p,r⟩:=r
  cases v with
  | cons ru rr=>
   obtain⟨as,q⟩:=one p ru (h d (.head _))
   obtain⟨bs,q2⟩:=readsAll_of one r rr fun e he=>h e (.tail _ he)
   exact⟨_,.cons q q2⟩
theorem reads_of (I:Inv X pins σ H s):∀(n:Nat) {p:P}{v:V}{u:Value},RP X.K F H p v->RelV v u->okP n p=true->∃as,Reads s.heap u (pd p) as:=by
 intro n
 induction n with
 | zero=>
  intro p v u r rv h
  cases p with
  | non=>cases (show v=.non from r);cases rv;exact⟨_,.none⟩
  | bl b=>cases (show v=.bl b from r);cases rv;exact⟨_,.bool b⟩
  | int i=>cases (show v=.int i from r);obtain⟨t,rfl⟩:=rv;exact⟨_,.int i t⟩
  | str x=>cases (show v=.str x from r);obtain⟨t,rfl⟩:=rv;exact⟨_,.str x t⟩
  | _=>simp [okP] at h
 | succ n ih=>
  intro p v u r rv h
  cases p with
  | non=>cases (show v=.non from r);cases rv;exact⟨_,.none⟩
  | bl b=>cases (show v=.bl b from r);cases rv;exact⟨_,.bool b⟩
  | int i=>cases (show v=.int i from r);obtain⟨t,rfl⟩:=rv;exact⟨_,.int i t⟩
  | str x=>cases (show v=.str x from r);obtain⟨t,rfl⟩:=rv;exact⟨_,.str x t⟩
  | dct ks vs=>simp [okP] at h
  | tup ds=>
   obtain⟨a,xs,rfl,ta,ra⟩:=r
   cases rv
   obtain⟨its,rvs,⟨o,e,c,m,d⟩,hz⟩:=I.tuple ta.sq
   obtain⟨as,q⟩:=readsAll_of ih ra rvs (by simpa [okP] using h)
   rw [pd]
   exact⟨as,reads_tuple_at e c d (by simpa using q)⟩
  | lst ds=>
   obtain⟨a,xs,rfl,ta,ra⟩:=r
   cases rv
   obtain⟨its,rvs,⟨o,m,e,c,_,d⟩,hz⟩:=I.list ta.sq
   obtain⟨as,q⟩:=readsAll_of ih ra rvs (by simpa [okP] using h)
   rw [pd]
   exact⟨_,reads_list_at e c d (by simpa using q)⟩
  | ro ds=>
   obtain⟨a,xs,rfl,ta,ra⟩:=r
   cases rv
   obtain⟨its,rvs,⟨o,m,e,c,_,d⟩,hz⟩:=I.list ta.sq
   obtain⟨as,q⟩:=readsAll_of ih ra rvs (by simpa [okP] using h)
   rw [pd]
   exact⟨_,reads_list_at e c d (by simpa using q)⟩
end
noncomputable def mapO (f:D->Option P):List D->Option (List P)
 | []=>some []
 | d::r=>(f d).bind fun v=>(mapO f r).map fun vs=>v::vs
noncomputable def snap (S:Sto):Nat->D->Option P
 | _,.p v=>some v
 | 0,.ref _=>none
 | n+1,.ref i=>match S[i]? with
  | some (.lst ds)=>(mapO (snap S n) ds).map .lst
  | some (.fz v)=>some v
  | _=>none
@[simp] theorem snap_p (S:Sto) (n:Nat) (v:P):snap S n (.p v)=some v:=by cases n <;> rfl
section
variable {X:Cx}{pins:List (Addr×Obj)}{σ:L2.St}{H:Hp}{s:Shared}{F:Addr->Prop}{m:List Addr}{S:Sto}
theorem mapO_reads {k n:Nat} (one:∀{d:D}{v:V}{u:Value}{p:P},RD X.K F H m d v->RelV v u->snap S n d=some p->okP k p=true->∃as,Reads s.heap u (pd p) as) :
  ∀{ds:List D}{xs:List V}{us:List Value}{ps:List P},RDs X.K F H m ds xs->Vals xs us->mapO (snap S n) ds=some ps->(∀d ∈ ps,okP k d=true)->∃as,ReadsAll s.heap us (pds ps) as
 | [],xs,us,ps,r,v,q,_=>by
  cases (show xs=[] from r)
  cases v
  cases q
  exact⟨_,.nil⟩
 | d::ds,xs,us,ps,r,v,q,h=>by
  obtain⟨x,xr,rfl,p,r⟩:=r
  obtain⟨y,q1,q⟩:∃a,snap S n d=some a/\(mapO (snap S n) ds).map (fun vs=>a::vs)=some ps:=by
   cases e:snap S n d with
   | none=>simp [mapO,e] at q
   | some a=>exact⟨a,rfl,by simpa [mapO,e] using q⟩
  obtain⟨ys,q2,rfl⟩:∃a,mapO (snap S n) ds=some a/\ps=y::a:=by
   cases e:mapO (snap S n) ds with
   | none=>rw [e] at q;cases q
   | some a=>rw [e] at q;cases q;exact⟨a,rfl,rfl⟩
  cases v with
  | cons ru rr=>
   obtain⟨as,g1⟩:=one p ru q1 (h y (.head _))
   obtain⟨bs,g2⟩:=mapO_reads one r rr q2 fun e he=>h e (.tail _ he)
   exact⟨_,.cons g1 g2⟩
theorem snap_reads (I:Inv X pins σ H s) (rl:Rel X.K F H m S):∀(n k:Nat) {d:D}{v:V}{u:Value}{p:P},RD X.K F H m d v->RelV v u->snap S n d=some p->okP k p=true->∃as,Reads s.heap u (pd p) as:=by
 intro n
 induction n with
 | zero=>
  intro k d v u p r rv q h
  cases d with
  | p w=>rw [snap_p] at q;cases q;exact reads_of I k r rv h
  | ref i=>cases q
 | succ n ih=>
  intro k d v u p r rv q h
  cases d with
  | p w=>rw [snap_p] at q;cases q;exact reads_of I k r rv h
  | ref i=>
   obtain⟨a,rfl,hm⟩:=r
   have hi:i < S.length:=by rw [<- rl.len];exact (List.getElem?_eq_some_iff.mp hm).1
   obtain⟨o,ho⟩:∃o,S[i]? = some o:=⟨S[i],by simp [hi]⟩
   have ob:=rl.obj i a o hm ho
   simp only [snap,ho] at q
   cases o with
   | fz w=>cases q;exact reads_of I k ob rv h
   | dct ks ds=>cases q
   | ins _ _ _=>cases q
   | exc _=>cases q
   | lst ds=>
    dsimp only at q
    cases e:mapO (snap S n) ds with
    | none=>rw [e] at q;cases q
    | some ps=>
     rw [e] at q
     cases q
     cases k with
     | zero=>simp [okP] at h
     | succ k=>
      obtain⟨xs,hH,rs⟩:=ob
      cases rv
      obtain⟨its,rvs,⟨o,m',e',c,_,d⟩,hz⟩:=I.list (SqL.of hH)
      obtain⟨as,q⟩:=mapO_reads (k:=k) (fun r rv q h=>ih k r rv q h) rs rvs e (by simpa [okP] using h)
      rw [pd]
      exact⟨_,reads_list_at e' c d (by simpa using q)⟩
theorem snap_rp (rl:Rel X.K F H m S) {n:Nat}{d:D}{v:V}{p:P} (r:RD X.K F H m d v) (q:snap S n d=some p) (hp:∀xs,p≠.lst xs):RP X.K F H p v:=by
 cases d with
 | p w=>rw [snap_p] at q;cases q;exact r
 | ref i=>
  cases n with
  | zero=>cases q
  | succ n=>
   obtain⟨a,rfl,hm⟩:=r
   have hi:i < S.length:=by rw [<- rl.len];exact (List.getElem?_eq_some_iff.mp hm).1
   obtain⟨o,ho⟩:∃o,S[i]? = some o:=⟨S[i],by simp [hi]⟩
   have ob:=rl.obj i a o hm ho
   simp only [snap,ho] at q
   cases o with
   | fz w=>cases q;exact ob
   | dct ks ds=>cases q
   | ins _ _ _=>cases q
   | exc _=>cases q
   | lst ds=>
    dsimp only at q
    cases e:mapO (snap S n) ds with
    | none=>rw [e] at q;cases q
    | some ps=>rw [e] at q;cases q;exact absurd rfl (hp ps)
end
noncomputable def rE (K:PySem.W.Frag) (g:D->D->Sto->Option P):R2:=fun x y H Q=>∃F m S d e v,Rel K F H m S/\RD K F H m d x/\RD K F H m e y/\g d e S=some v/\∀u F' H',Grow F H F' H'->RP K F' H' v u->Q u H'
noncomputable def vOpE (g:D->D->Sto->Option P) (a b:EE):EV:=fun L S=>bnd (a L S) fun x S1=>bnd (b L S1) fun y S2=>(g x y S2).map fun v=>(v,S2)
section
variable {X:Cx}{a b:Expr}{fa fb:EE}{pos:Pos}
theorem tOpE_of {g:D->D->Sto->Option P}{σ:L2.St}{H:Hp}{Q:VK} (h:tV X.K (vOpE g fa fb) σ H Q):tOp (rE X.K g) (tE X.K fa) (tE X.K fb) σ H Q:=by
 obtain⟨F,m,L,S,d,S',r,l,q,k⟩:=h
 obtain⟨x,S1,e1,q⟩:=bnd_eq q
 obtain⟨y,S2,e2,q⟩:=bnd_eq q
 refine⟨F,m,L,S,x,S1,r,l,e1,fun v F1 m1 H1 s1 r1 p1=>?_⟩
 refine⟨F1,m1,L,S1,y,S2,r1,l.mono s1,e2,fun u F2 m2 H2 s2 r2 p2=>?_⟩
 cases eg:g x y S2 with
 | none=>rw [eg] at q;cases q
 | some z=>
  rw [eg] at q
  cases q
  exact⟨F2,m2,S',x,y,_,r2,RD.mono s2 p1,p2,eg,fun w F3 H3 gr p3=>k w F3 m2 H3 (s1.trans (s2.trans gr.stp)) (r2.grow gr) p3⟩
theorem xCmpE {op:CmpOp}{g:D->D->Sto->Option P} (ho:OpR X (compareOp op) (rE X.K g)) (ha:PE X a (tE X.K fa)) (hb:PE X b (tE X.K fb)) (hm:behindInMarks op b=false):PE X (.Compare a [op] [b] pos) (tV X.K (vOpE g fa fb)):=
 (pe_cmpR ho ha hb hm).imp' fun _ _ _ h=>tOpE_of h
theorem yCmpE {op:CmpOp}{g:D->D->Sto->Option P} (ho:OpR X (compareOp op) (rE X.K g)) (ha:PE X a (tE X.K fa)) (hb:PE X b (tE X.K fb)) (hm:behindInMarks op b=false):PT X (.Compare a [op] [b] pos) (tQ X.K (bV (vOpE g fa fb))):=
 (pt_cmpR ho ha hb hm).imp' fun σ H Q h=>by
  refine tOpE_of ?_
  obtain⟨F,m,L,S,d,S',r,l,q,k⟩:=h
  obtain⟨x,S1,e1,q⟩:=bnd_eq q
  cases x with
  | bl b=>cases q;exact⟨F,m,L,S,_,_,r,l,e1,fun v F' m' H' s r' p=>⟨_,p,k F' m' H' s r'⟩⟩
  | _=>cases q
end
noncomputable def eqD (x y:P):Option Bool:=match dEqD x y with
 | some (.bl b)=>some b
 | _=>if (okP 20 x && okP 20 y)=true then some (PyData.eqv (pd x) (pd y)) else none
noncomputable def gEq (d e:D) (S:Sto):Option P:=(snap S 9 d).bind fun x=>(snap S 9 e).bind fun y=>(eqD x y).map .bl
noncomputable def neD (x y:P):Option Bool:=match dNe x y with
 | some (.bl b)=>some b
 | _=>if (okP 20 x && okP 20 y)=true then some (!PyData.eqv (pd x) (pd y)) else none
noncomputable def gNe (d e:D) (S:Sto):Option P:=(snap S 9 d).bind fun x=>(snap S 9 e).bind fun y=>(neD x y).map .bl
noncomputable def dKeys (c:D) (S:Sto):Option (List Key):=match c with
 | .p (.dct ks _)=>some ks
 | .ref i=>match S[i]? with
  | some (.dct ks _)=>some ks
  | some (.fz (.dct ks _))=>some ks
  | _=>none
 | _=>none
noncomputable def inP (x c:P):Option Bool:=match x,c with
 | .str i,.str j=>some (!(Builtin.Str.occurrences j i 0 j.length 1).isEmpty)
 | x,.lst xs=>if (xs.all (okP 19) && okP 19 x)=true then some (xs.any fun y=>PyData.eqv (pd y) (pd x)) else none
 | x,.ro xs=>if (xs.all (okP 19) && okP 19 x)=true then some (xs.any fun y=>PyData.eqv (pd y) (pd x)) else none
 | x,.tup xs=>if (xs.all (okP 19) && okP 19 x)=true then some (xs.any fun y=>PyData.eqv (pd y) (pd x)) else none
 | _,_=>none
noncomputable def hasK (k:Key) (ks:List Key):Bool:=ks.any fun k'=>decide (k'=k)
noncomputable def inG (d c:D) (S:Sto):Option Bool:=match dKeys c S with
 | some ks=>(snap S 9 d).bind fun x=>(keyOf x).map fun k=>hasK k ks
 | none=>(snap S 9 d).bind fun x=>(snap S 9 c).bind fun y=>inP x y
noncomputable def gIn (d c:D) (S:Sto):Option P:=(inG d c S).map .bl
noncomputable def gNotIn (d c:D) (S:Sto):Option P:=(inG d c S).map fun b=>.bl (!b)
noncomputable def isNon:D->Bool
 | .p .non=>true
 | _=>false
noncomputable def gIs (d e:D) (_:Sto):Option P:=match e with
 | .p .non=>some (.bl (isNon d))
 | _=>none
theorem dEqD_nolst {x y:P}{b:P} (h:dEqD x y=some b):(∀xs,x≠.lst xs)/\∀xs,y≠.lst xs:=by
 refine⟨fun xs e=>?_,fun xs e=>?_⟩
 ·subst e;cases y <;> cases h
 ·subst e;cases x <;> cases h
section
variable {X:Cx}
theorem opEqE (hu:X.A.units+64 < cLine):OpR X (compareOp .Eq) (rE X.K gEq):=by
 intro pins s σ H x y v u Q I rx ry h
 obtain⟨F,m,S,d,e,r,rl,px,py,q,k⟩:=h
 unfold gEq at q
 cases e1:snap S 9 d with
 | none=>rw [e1] at q;cases q
 | some a=>
  rw [e1] at q
  cases e2:snap S 9 e with
  | none=>rw [e2] at q;cases q
  | some b=>
   rw [e2] at q
   simp only [Option.bind_some] at q
   cases e3:eqD a b with
   | none=>rw [e3] at q;cases q
   | some c=>
    rw [e3] at q
    cases q
    unfold eqD at e3
    split at e3
    ·rename_i c' ec
     cases e3
     obtain⟨n1,n2⟩:=dEqD_nolst ec
     exact opEqD (by omega) pins s σ H x y v u Q I rx ry ⟨F,a,b,.bl c,rl.ft,snap_rp rl px e1 n1,snap_rp rl py e2 n2,ec,k⟩
    ·split at e3
     ·rename_i hc
      rw [Bool.and_eq_true] at hc
      cases e3
      obtain⟨as,ra⟩:=snap_reads I rl 9 20 px rx e1 hc.1
      obtain⟨bs,rb⟩:=snap_reads I rl 9 20 py ry e2 hc.2
      exact eq_dataH ra rb (okP_shaped hc.1) (okP_shaped hc.2) hu ⟨.bl _,H,I,rfl,k _ F H .refl rfl⟩
     ·cases e3
theorem dNe_nolst {x y:P}{b:P} (h:dNe x y=some b):(∀xs,x≠.lst xs)/\∀xs,y≠.lst xs:=by
 refine⟨fun xs e=>?_,fun xs e=>?_⟩
 ·subst e;cases y <;> cases h
 ·subst e;cases x <;> cases h
theorem opNeE (hu:X.A.units+64 < cLine):OpR X (compareOp .NotEq) (rE X.K gNe):=by
 intro pins s σ H x y v u Q I rx ry h
 obtain⟨F,m,S,d,e,r,rl,px,py,q,k⟩:=h
 unfold gNe at q
 cases e1:snap S 9 d with
 | none=>rw [e1] at q;cases q
 | some a=>
  rw [e1] at q
  cases e2:snap S 9 e with
  | none=>rw [e2] at q;cases q
  | some b=>
   rw [e2] at q
   simp only [Option.bind_some] at q
   cases e3:neD a b with
   | none=>rw [e3] at q;cases q
   | some c=>
    rw [e3] at q
    cases q
    unfold neD at e3
    split at e3
    ·rename_i c' ec
     cases e3
     obtain⟨n1,n2⟩:=dNe_nolst ec
     exact opNe pins s σ H x y v u Q I rx ry ⟨F,a,b,.bl c,rl.ft,snap_rp rl px e1 n1,snap_rp rl py e2 n2,ec,k⟩
    ·split at e3
     ·rename_i hc
      rw [Bool.and_eq_true] at hc
      cases e3
      obtain⟨as,ra⟩:=snap_reads I rl 9 20 px rx e1 hc.1
      obtain⟨bs,rb⟩:=snap_reads I rl 9 20 py ry e2 hc.2
      exact ne_dataH ra rb (okP_shaped hc.1) (okP_shaped hc.2) hu ⟨.bl _,H,I,rfl,k _ F H .refl rfl⟩
     ·cases e3
theorem pds_any (x:P):∀xs:List P,(pds xs).any (fun y=>PyData.eqv y (pd x))=xs.any fun y=>PyData.eqv (pd y) (pd x)
 | []=>rfl
 | y::r=>by rw [pds,List.any_cons,List.any_cons,pds_any x r]
theorem okAll {xs:List P} (h:xs.all (okP 19)=true):PyData.canLayAll0 (pds xs)=true/\PyData.depthAll (pds xs)≤20:=by
 have l:=okP_lay 20 (.lst xs) h
 simp only [pd,PyData.canLay0,PyData.depth] at l
 have l2:=l.2
 exact⟨l.1,by omega⟩
theorem valV_some {kvs:List (Key×V)}{k:Key}:(valV kvs k).isSome=hasK k (kvs.map (·.1)):=by
 induction kvs with
 | nil=>rfl
 | cons p r ih=>
  unfold hasK at ih ⊢
  by_cases h:p.1=k
  ·rw [valV_pos h,List.map_cons,List.any_cons,decide_eq_true h];rfl
  ·rw [valV_neg h,ih,List.map_cons,List.any_cons,decide_eq_false h];rfl
theorem dKeys_ok {K:PySem.W.Frag}{F:Addr->Prop}{H:Hp}{m:List Addr}{S:Sto}{c:D}{y:V}{ks:List Key} (rl:Rel K F H m S) (py:RD K F H m c y) (q:dKeys c S=some ks):∃a kvs,y=.ref a/\H a=some (.dK kvs)/\kvs.map (·.1)=ks:=by
 unfold dKeys at q
 split at q
 ·cases q
  obtain⟨a,kvs,e,_,hk,e2,_⟩:=py
  exact⟨a,kvs,e,hk,e2⟩
 ·rename_i i
  obtain⟨a,rfl,hm⟩:=py
  split at q
  ·rename_i o
   cases q
   obtain⟨kvs,hk,e2,_⟩:=rl.obj i a _ hm o
   exact⟨a,kvs,rfl,hk,e2⟩
  ·rename_i o
   cases q
   obtain⟨b,kvs,e,_,hk,e2,_⟩:=rl.obj i a _ hm o
   cases e
   exact⟨a,kvs,rfl,hk,e2⟩
  ·cases q
 ·cases q
theorem opInE (hu:X.A.units+64 < cLine):OpR X (compareOp .In) (rE X.K gIn):=by
  intro pins s σ H x y v u Q I rx ry h
  obtain⟨F,m,S,d,e,r,rl,px,py,q,k⟩:=h
  unfold gIn inG at q
  cases ek:dKeys e S with
  | some ks=>
    rw [ek] at q
    dsimp only at q
    cases e1:snap S 9 d with
    | none=>rw [e1] at q;cases q
    | some a=>
      rw [e1] at q
      simp only [Option.bind_some] at q
      cases e2:keyOf a with
      | none=>rw [e2] at q;cases q
      | some key=>
        rw [e2] at q
        cases q
        obtain⟨b,kvs,rfl,hk,e3⟩:=dKeys_ok rl py ek
        have pa:RP X.K F H a x:=snap_rp rl px e1 fun xs z=>by subst z;cases e2
        cases ry
        cases keyOf_kV e2 pa
        exact d_in (by omega) I (DGet.k hk) rx fun s3 I3=>⟨.bl _,H,I3,rfl,by rw [valV_some,e3];exact k _ F H .refl rfl⟩
  | none=>
    rw [ek] at q
    dsimp only at q
    cases e1:snap S 9 d with
    | none=>rw [e1] at q;cases q
    | some a=>
      rw [e1] at q
      cases e2:snap S 9 e with
      | none=>rw [e2] at q;cases q
      | some b=>
        rw [e2] at q
        simp only [Option.bind_some] at q
        cases e3:inP a b with
        | none=>rw [e3] at q;cases q
        | some c=>
          rw [e3] at q
          cases q
          unfold inP at e3
          split at e3
          · cases e3
            cases (show x=.str _ from snap_rp rl px e1 fun xs z=>by cases z)
            cases (show y=.str _ from snap_rp rl py e2 fun xs z=>by cases z)
            exact op_in_str pins s σ H _ _ v u Q I rx ry ⟨_,_,rfl,rfl,k _ F H .refl rfl⟩
          all_goals first
            | (cases e3;done)
            | (split at e3
               · rename_i hc
                 rw [Bool.and_eq_true] at hc
                 cases e3
                 obtain⟨as,ra⟩:=snap_reads I rl 9 20 py ry e2 (by simpa [okP] using hc.1)
                 obtain⟨bs,rb⟩:=snap_reads I rl 9 19 px rx e1 hc.2
                 have la:=okAll hc.1
                 have lb:=okP_lay 19 _ hc.2
                 rw [pd] at ra
                 first
                   | exact SeqAt.in_list_reads ra rb la.1 lb.1 (by omega) ⟨.bl _,H,I,rfl,by rw [pds_any];exact k _ F H .refl rfl⟩
                   | exact SeqAt.in_tuple_reads ra rb la.1 lb.1 (by omega) ⟨.bl _,H,I,rfl,by rw [pds_any];exact k _ F H .refl rfl⟩
               · cases e3)
theorem opNotInE (hu:X.A.units+64 < cLine):OpR X (compareOp .NotIn) (rE X.K gNotIn):=by
  intro pins s σ H x y v u Q I rx ry h
  obtain⟨F,m,S,d,e,r,rl,px,py,q,k⟩:=h
  unfold gNotIn inG at q
  cases ek:dKeys e S with
  | some ks=>
    rw [ek] at q
    dsimp only at q
    cases e1:snap S 9 d with
    | none=>rw [e1] at q;cases q
    | some a=>
      rw [e1] at q
      simp only [Option.bind_some] at q
      cases e2:keyOf a with
      | none=>rw [e2] at q;cases q
      | some key=>
        rw [e2] at q
        cases q
        obtain⟨b,kvs,rfl,hk,e3⟩:=dKeys_ok rl py ek
        have pa:RP X.K F H a x:=snap_rp rl px e1 fun xs z=>by subst z;cases e2
        cases ry
        cases keyOf_kV e2 pa
        exact d_notIn (by omega) I (DGet.k hk) rx fun s3 I3=>⟨.bl _,H,I3,rfl,by rw [valV_some,e3];exact k _ F H .refl rfl⟩
  | none=>
    rw [ek] at q
    dsimp only at q
    cases e1:snap S 9 d with
    | none=>rw [e1] at q;cases q
    | some a=>
      rw [e1] at q
      cases e2:snap S 9 e with
      | none=>rw [e2] at q;cases q
      | some b=>
        rw [e2] at q
        simp only [Option.bind_some] at q
        cases e3:inP a b with
        | none=>rw [e3] at q;cases q
        | some c=>
          rw [e3] at q
          cases q
          unfold inP at e3
          split at e3
          · cases e3
            cases (show x=.str _ from snap_rp rl px e1 fun xs z=>by cases z)
            cases (show y=.str _ from snap_rp rl py e2 fun xs z=>by cases z)
            exact op_notin_str pins s σ H _ _ v u Q I rx ry ⟨_,_,rfl,rfl,k _ F H .refl rfl⟩
          all_goals first
            | (cases e3;done)
            | (split at e3
               · rename_i hc
                 rw [Bool.and_eq_true] at hc
                 cases e3
                 obtain⟨as,ra⟩:=snap_reads I rl 9 20 py ry e2 (by simpa [okP] using hc.1)
                 obtain⟨bs,rb⟩:=snap_reads I rl 9 19 px rx e1 hc.2
                 have la:=okAll hc.1
                 have lb:=okP_lay 19 _ hc.2
                 rw [pd] at ra
                 first
                   | exact SeqAt.notIn_list_reads ra rb la.1 lb.1 (by omega) ⟨.bl _,H,I,rfl,by rw [pds_any];exact k _ F H .refl rfl⟩
                   | exact SeqAt.notIn_tuple_reads ra rb la.1 lb.1 (by omega) ⟨.bl _,H,I,rfl,by rw [pds_any];exact k _ F H .refl rfl⟩
               · cases e3)
theorem opIsE:OpR X (compareOp .Is) (rE X.K gIs):=by
 intro pins s σ H x y v u Q I rx ry h
 obtain⟨F,m,S,d,e,r,rl,px,py,q,k⟩:=h
 unfold gIs at q
 split at q
 ·cases q
  cases (show y=.non from py)
  refine op_isN pins s σ H x _ v u Q I rx ry ⟨rfl,?_⟩
  have:decide (x=.non)=isNon d:=by
   cases d with
   | ref i=>obtain⟨a,rfl,_⟩:=px;rfl
   | p w=>
    cases w with
    | non=>cases (show x=.non from px);rfl
    | bl b=>cases (show x=.bl b from px);rfl
    | int b=>cases (show x=.int b from px);rfl
    | str b=>cases (show x=.str b from px);rfl
    | _=>(obtain⟨a,xs,rfl,_⟩:=px;rfl)
  rw [this]
  exact k _ F H .refl rfl
 ·cases q
end
end Ev
namespace Ev
open PySem PySem.Spec PyProof.Rows L2
noncomputable def isNm:Expr->Bool
 | .Name _ _=>true
 | _=>false
inductive GsOk (X:Cx):List Expr->List TGv->Prop where
 | nil:GsOk X [] []
 | cons {e:Expr}{es:List Expr}{g:TGv}{gs:List TGv}:isNm e=true->PG X e (gT X.K g)->GsOk X es gs->GsOk X (e::es) (g::gs)
section
variable {X:Cx}{pos:Pos}
theorem assignEach_nm {e:Expr}{es:List Expr}{env:Env} (h:isNm e=true):assignEach (e::es) env=(false,assign e env)::assignEach es env:=by
 cases e <;> first | rfl | cases h
theorem GsOk.len {es:List Expr}{gs:List TGv} (h:GsOk X es gs) (env:Env):(assignEach es env).length=gs.length/\(assignEach es env).findIdx? (·.1)=none:=by
 induction h with
 | nil=>exact⟨rfl,rfl⟩
 | cons hn _ _ ih=>
  rw [assignEach_nm hn]
  refine⟨by rw [List.length_cons,List.length_cons,ih.1],?_⟩
  simp only [List.findIdx?_cons,ih.2]
  rfl
end
end Ev
namespace Ev
open PySem PySem.Spec PyProof.Rows L2
open PySem.AutoSeq1 (wpAny_loadPart')
section
variable {X:Cx}
noncomputable def dMul2:P->P->Option P:=dMul
theorem opMul2:OpP X (binaryOp .Mult) dMul2:=opMul
variable {e:Expr}{es:List Expr}{fs:EVs}{p pos:Pos}
noncomputable def eExtend (r:EE) (a:EV):EE:=fun L S=>bnd (r L S) fun d S1=>match ownL d S1 with
 | none=>none
 | some _=>bnd (a L S1) fun x S2=>match ownL d S2,x with
  | some (i,ds),.lst ys=>if capN (ds.length+ys.length)=true then some (.p .non,S2.set i (.lst (ds++ys.map .p))) else none
  | _,_=>none
end
end Ev
namespace Ev
open PySem PySem.Spec PyProof.Rows L2
section
variable {X:Cx}{o e:Expr}{fo fe:EE}{fa:EV}{apos cpos pos:Pos}
theorem xExtend (ho:PE X o (tE X.K fo)) (he:PE X e (tV X.K fa)) (hs:starEach [e] X.env=[(false,eval e X.env)])
  (hbase:attributeBase o "extend" X.env (eval o X.env)=eval o X.env) (hline:(apos.endLine == cpos.line)=true):PE X (.Call (.Attribute o "extend" apos) [e] [] cpos) (tE X.K (eExtend fo fa)):=
 (pe_bm PySem.F.plainAttrs_list PySem.F.slot_list_extend PySem.F.type_list_extend mt_extend ho (pa_cons he pa_nil (by rw [hs];rfl)) hbase (by rw [hs];rfl) hline (by rw [hs];rfl) rfl).imp' fun σ H Q hz=>by
  obtain⟨F,m,L,S,d,S',r,l,q,k⟩:=hz
  obtain⟨x,S1,e1,q⟩:=bnd_eq q
  refine⟨F,m,L,S,x,S1,r,l,e1,fun v F1 m1 H1 s1 r1 p1=>?_⟩
  cases eo:ownL x S1 with
  | none=>rw [eo] at q;cases q
  | some z=>
   obtain⟨i,ds⟩:=z
   rw [eo] at q
   dsimp only at q
   obtain⟨rfl,es⟩:=ownL_eq eo
   obtain⟨a,rfl,hm⟩:=id p1
   obtain⟨xs,hH,rs⟩:=r1.obj i a _ hm es
   refine⟨.inl ⟨rfl,xs,SqL.of hH⟩,?_⟩
   obtain⟨y,S2,e2,q⟩:=bnd_eq q
   refine⟨F1,m1,L,S1,y,S2,r1,l.mono s1,e2,fun u F2 m2 H2 s2 r2 p2=>?_⟩
   cases eo2:ownL (.ref i) S2 with
   | none=>rw [eo2] at q;cases q
   | some z=>
    obtain⟨i2,ds2⟩:=z
    rw [eo2] at q
    obtain⟨e3,es2⟩:=ownL_eq eo2
    cases e3
    cases y with
    | lst ys=>
     dsimp only at q
     split at q
     ·rename_i hf
      cases q
      obtain⟨a2,e4,hm2⟩:=RD.mono s2 p1
      cases e4
      obtain⟨xs2,hH2,rs2⟩:=r2.obj i a _ hm2 es2
      obtain⟨b,zs,rfl,tb,rb⟩:=p2
      have nt:∀zs,H2 a≠some (.tup zs):=fun zs z=>by rw [hH2] at z;cases z
      have st:Stp F2 m2 H2 F2 m2 (upd H2 a (.lst (xs2++zs))):=stp_set r2 hm2 es2 trivial nt
      refine⟨a,b,xs2,zs,rfl,rfl,hH2,tb.2,by rw [<- rs2.length,<- rb.length];exact capN_le hf,?_⟩
      exact k .non F2 m2 _ (s1.trans (s2.trans st)) (r2.set hm2 es2 trivial nt ⟨_,upd_same,RDs.mono st (rs2.append (RDs.ofP rb))⟩) rfl
     ·cases q
    | _=>cases q
noncomputable abbrev EDs:=Lc->Sto->Option (List D×Sto)
noncomputable def tDs (K:PySem.W.Frag) (f:EDs):TA:=fun σ H Q=>∃F m L S ds S',Rel K F H m S/\RL K F H m σ L/\f L S=some (ds,S')/\∀xs F' m' H',Stp F m H F' m' H'->Rel K F' H' m' S'->RDs K F' H' m' ds xs->Q xs H'
noncomputable def dsNil:EDs:=fun _ S=>some ([],S)
noncomputable def dsCons (a:EE) (r:EDs):EDs:=fun L S=>bnd (a L S) fun x S1=>bnd (r L S1) fun xs S2=>some (x::xs,S2)
variable {es:List Expr}{fs:EDs}
theorem daNil:PA X [] (tDs X.K dsNil):=pa_nil.imp' fun σ H Q hz=>by
 obtain⟨F,m,L,S,d,S',r,l,q,k⟩:=hz
 cases q
 exact k [] F m H .refl r rfl
theorem daCons (ha:PE X e (tE X.K fe)) (hr:PA X es (tDs X.K fs)) (hs:starEach (e::es) X.env=(false,eval e X.env)::starEach es X.env):PA X (e::es) (tDs X.K (dsCons fe fs)):=
 (pa_cons ha hr hs).imp' fun σ H Q hz=>by
  obtain⟨F,m,L,S,d,S',r,l,q,k⟩:=hz
  obtain⟨x,S1,e1,q⟩:=bnd_eq q
  obtain⟨xs,S2,e2,q⟩:=bnd_eq q
  cases q
  refine⟨F,m,L,S,x,S1,r,l,e1,fun v F1 m1 H1 s1 r1 p1=>?_⟩
  refine⟨F1,m1,L,S1,xs,S',r1,l.mono s1,e2,fun vs F2 m2 H2 s2 r2 p2=>?_⟩
  exact k (v::vs) F2 m2 H2 (s1.trans s2) r2 ⟨v,vs,rfl,RD.mono s2 p1,p2⟩
noncomputable abbrev GF:=List D->Sto->Option (D×Sto)
noncomputable def spR (K:PySem.W.Frag) (g:GF):Sp:=fun vs H Q _=>∃F m ds S d S',Rel K F H m S/\RDs K F H m ds vs/\g ds S=some (d,S')/\∀v F' m' H',Stp F m H F' m' H'->Rel K F' H' m' S'->RD K F' H' m' d v->Q v H'
noncomputable def lowD (n:Nat):D->Bool
 | .p _=>true
 | .ref i=>decide (i < n)
noncomputable def lowO (n:Nat):SO->Bool
 | .lst ds=>ds.all (lowD n)
 | .dct _ ds=>ds.all (lowD n)
 | .fz _=>true
 | .ins _ _ ds=>ds.all (lowD n)
 | .exc _=>true
noncomputable def trunc (n:Nat) (S:Sto):Sto:=if (S.take n).all (lowO n)=true then S.take n else S
end
section
variable {K:PySem.W.Frag}{F:Addr->Prop}{H:Hp}{m:List Addr}{S:Sto}
theorem RD.low {n:Nat}{d:D}{v:V} (h:RD K F H m d v) (hl:lowD n d=true):RD K F H (m.take n) d v:=by
 cases d with
 | p w=>exact h
 | ref i=>
  obtain⟨a,e,hm⟩:=h
  exact⟨a,e,by rw [List.getElem?_take_of_lt (of_decide_eq_true hl)];exact hm⟩
theorem RDs.low {n:Nat}:∀{ds:List D}{xs:List V},RDs K F H m ds xs->ds.all (lowD n)=true->RDs K F H (m.take n) ds xs
 | [],_,h,_=>h
 | d::ds,_,h,hl=>by
  obtain⟨x,r,e,h1,h2⟩:=h
  rw [List.all_cons,Bool.and_eq_true] at hl
  exact⟨x,r,e,h1.low hl.1,RDs.low h2 hl.2⟩
theorem Rel.trunc {n:Nat} (r:Rel K F H m S) (hn:n≤m.length) (h:(S.take n).all (lowO n)=true):Rel K F H (m.take n) (S.take n) where
 len:=by rw [List.length_take,List.length_take,r.len]
 nd:=r.nd.sublist (List.take_sublist _ _)
 obj:=fun i a o e1 e2=>by
  have hi:i < n:=by
   have:=(List.getElem?_eq_some_iff.mp e1).1
   rw [List.length_take] at this;omega
  rw [List.getElem?_take_of_lt hi] at e1
  have lo:=List.all_eq_true.mp h o (List.mem_of_getElem? e2)
  rw [List.getElem?_take_of_lt hi] at e2
  have ob:=r.obj i a o e1 e2
  cases o with
  | lst ds=>obtain⟨xs,hH,rs⟩:=ob;exact⟨xs,hH,rs.low lo⟩
  | dct ks ds=>obtain⟨kvs,hH,e,rs⟩:=ob;exact⟨kvs,hH,e,rs.low lo⟩
  | fz v=>exact ob
  | ins c ks ds=>obtain⟨C,dx,kvs,e0,hH,e,rs⟩:=ob;exact⟨C,dx,kvs,e0,hH,e,rs.low lo⟩
  | exc c=>exact ob
 sep:=fun i a o e1 e2 w f=>by
  have hi:i < n:=by
   have:=(List.getElem?_eq_some_iff.mp e1).1
   rw [List.length_take] at this;omega
  rw [List.getElem?_take_of_lt hi] at e1 e2
  exact r.sep i a o e1 e2 w f
 trk:=fun a h=>r.trk a (List.mem_of_mem_take h)
 ft:=r.ft
theorem Stp.trunc {F':Addr->Prop}{m':List Addr}{H':Hp} (s:Stp F m H F' m' H'):Stp F m H F' (m'.take m.length) H':=by
 obtain⟨n,e⟩:=s.pre
 have e2:m'.take m.length=m:=by rw [e];simp
 rw [e2]
 exact⟨⟨[],by simp⟩,s.oth,s.frz,s.frk,s.tup,s.trk,s.nf,fun _ h=>.inl h⟩
end
section
variable {X:Cx}{e:Expr}{es:List Expr}{fs:EDs}{pos:Pos}
end
end Ev
namespace Ev
open PySem PySem.Spec PyProof.Rows L2
section
variable {X:Cx}{a b c e o i value:Expr}{fa fb fc fk fv:EV}{fo fe:EE}{pos pos':Pos}
noncomputable def sPut2 (o:EE) (k v:EV):ES:=sPut o k v
theorem zPut2 (hu:X.A.units+1 < cLine) (ho:PE X o (tE X.K fo)) (hi:PE X i (tV X.K fk)) (hv:PE X value (tV X.K fv)) (hs:swapsWith value (some (.Subscript o i pos')) pos.line X.env=pure false) :
  PS X (.Assign [.Subscript o i pos'] value pos) (tSt X.K (sPut2 fo fk fv)):=zPut hu ho hi hv hs
noncomputable def truP:P->Option Bool
 | .non=>some false
 | .bl b=>some b
 | .int i=>some (i != 0)
 | .str x=>if capN x.length=true then some ((x.length:Int) != 0) else none
 | .tup xs=>some (!xs.isEmpty)
 | .lst xs=>some (!xs.isEmpty)
 | .ro xs=>some (!xs.isEmpty)
 | .dct ks _=>some (!ks.isEmpty)
noncomputable def truD:D->Sto->Option Bool
 | .p v,_=>truP v
 | .ref i,S=>match S[i]? with
  | some (.lst ds)=>some (!ds.isEmpty)
  | some (.dct ks _)=>some (!ks.isEmpty)
  | some (.fz v)=>truP v
  | _=>none
noncomputable def bT (f:EE):EB:=fun L S=>bnd (f L S) fun d S1=>(truD d S1).map fun b=>(b,S1)
theorem isEmpty_len {α β:Type}{xs:List α}{ys:List β} (h:xs.length=ys.length):xs.isEmpty=ys.isEmpty:=by
 cases xs <;> cases ys <;> first | rfl | simp at h
theorem truP_ok {F:Addr->Prop}{H:Hp}{w:P}{v:V}{t:Bool} (p:RP X.K F H w v) (h:truP w=some t):TruV X.K v H t:=by
 cases w with
 | non=>cases (show v=.non from p);cases h;rfl
 | bl b=>cases (show v=.bl b from p);cases h;rfl
 | int b=>cases (show v=.int b from p);cases h;rfl
 | str x=>
  cases (show v=.str x from p)
  simp only [truP] at h
  split at h
  ·rename_i hc;cases h;exact⟨capN_le hc,rfl⟩
  ·cases h
 | tup ds=>obtain⟨a,xs,rfl,ta,ra⟩:=p;cases h;exact .inr (.inl ⟨xs,ta.sq,by rw [isEmpty_len ra.length]⟩)
 | lst ds=>obtain⟨a,xs,rfl,ta,ra⟩:=p;cases h;exact .inl ⟨xs,ta.sq,by rw [isEmpty_len ra.length]⟩
 | ro ds=>obtain⟨a,xs,rfl,ta,ra⟩:=p;cases h;exact .inl ⟨xs,ta.sq,by rw [isEmpty_len ra.length]⟩
 | dct ks ds=>
  obtain⟨a,kvs,rfl,_,hk,ek,ra⟩:=p
  cases h
  exact .inr (.inr ⟨kvs,hk,by rw [<- ek];cases kvs <;> rfl⟩)
theorem yT (h:PE X e (tE X.K fe)) (he:∀whole,isTrue e X.env whole=(do let v <- whole;standAt e.pos;holding [v] (truthy v))):PT X e (tQ X.K (bT fe)):=
 (pt_truth h he).imp' fun σ H Q hz=>by
  obtain⟨F,m,L,S,d,S',r,l,q,k⟩:=hz
  obtain⟨x,S1,e1,q⟩:=bnd_eq q
  cases et:truD x S1 with
  | none=>rw [et] at q;cases q
  | some t=>
   rw [et] at q
   cases q
   refine⟨F,m,L,S,x,_,r,l,e1,fun v F1 m1 H1 s1 r1 p1=>⟨_,?_,k F1 m1 H1 s1 r1⟩⟩
   cases x with
   | p w=>exact truP_ok p1 et
   | ref j=>
    obtain⟨a,rfl,hm⟩:=p1
    simp only [truD] at et
    split at et
    ·rename_i ds ho
     cases et
     obtain⟨xs,hH,rs⟩:=r1.obj j a _ hm ho
     exact .inl ⟨xs,SqL.of hH,by rw [isEmpty_len rs.length]⟩
    ·rename_i ks ds ho
     cases et
     obtain⟨kvs,hH,ek,rs⟩:=r1.obj j a _ hm ho
     exact .inr (.inr ⟨kvs,hH,by rw [<- ek];cases kvs <;> rfl⟩)
    ·rename_i w ho
     exact truP_ok (r1.obj j a _ hm ho) et
    ·cases et
noncomputable def dAdd2:P->P->Option P
 | .tup [],.tup ys=>some (.tup ys)
 | x,y=>dAdd x y
theorem catNil {M:Program}{w:World}{A:Around}{E:Value->Shared->Prop}{s:Shared}{t b:Addr}{ws:List Value}{Q:Value->Shared->Prop} (ht:IsTup s.heap t #[]) (hb:IsTup s.heap b ws.toArray) (h:Q (.ref b) s):wpAny (model M w) A (binaryOp .Add (.ref t) (.ref b)) Q E s:=by
 obtain⟨⟨cls,dd,data,sl⟩,ho,hc,n,hd⟩:=id ht
 obtain⟨⟨cls2,dd2,data2,sl2⟩,ho2,hc2,n2,hd2⟩:=id hb
 simp only at hc hd hc2 hd2
 subst hc hd hc2 hd2
 exact concat_meets ⟨_,ho,rfl⟩ ⟨_,ho2,rfl⟩ noFill_tuple_add seq_tuple_add PySem.F.slot_tuple_add PySem.F.entry_tuple_add (PySem.F.args_tuple_add_2 _ _) (tuple_addW0 t b #[] ws.toArray n n2 dd dd2 sl sl2 rfl) ⟨ho,ho2,h⟩
theorem opAdd2:OpP X (binaryOp .Add) dAdd2:=by
 intro pins s σ H x y v u Q I rx ry h
 obtain⟨F,dx,dy,d,ft,px,py,q,k⟩:=h
 have other:dAdd dx dy=some d->wpAny (model X.prog X.w) X.A (binaryOp .Add v u) (EP X pins σ Q) X.xe s:=fun q=>opAdd pins s σ H x y v u Q I rx ry ⟨F,dx,dy,d,ft,px,py,q,k⟩
 cases dx with
 | tup ds=>
  cases dy with
  | tup es=>
   cases ds with
   | nil=>
    cases q
    obtain⟨a,xs,rfl,ta,ra⟩:=px
    obtain⟨b,ys,rfl,tb,rb⟩:=id py
    cases (show xs=[] from ra)
    cases rx;cases ry
    obtain⟨its,r1,p1,_⟩:=I.tuple ta.sq
    obtain⟨its2,r2,p2,_⟩:=I.tuple tb.sq
    cases r1
    exact catNil p1 p2 ⟨.ref b,H,I,rfl,k _ F H .refl py⟩
   | cons _ _=>exact other q
  | _=>cases ds <;> exact other q
 | _=>exact other q
noncomputable def GlobOk (K:PySem.W.Frag) (mg:Str->Option Value) (x:Str) (v:P):Prop:=∃u w,mg x=some u/\RelV w u/\∀F H,RP K F H v w
theorem xGlob {x:Str}{v:P} (hg:Gl X x) (h:GlobOk X.K X.mg x v) (hd:(x == ("__debug__":Str))=false):PE X (.Name x pos) (tV X.K (vC v)):=by
 obtain⟨u,w,hm,r,p⟩:=h
 exact xC (pe_glob hg hm r hd) p
end
end Ev
namespace Ev
open PySem PySem.Spec PyProof.Rows L2
section
variable {X:Cx}{a:Expr}{fa:EE}{p pos:Pos}
noncomputable def isiD (T:String):D->Sto->Option Bool
 | .p v,_=>some (isiP T v)
 | .ref i,S=>match S[i]? with
  | some (.lst _)=>some (isiP T (.lst []))
  | some (.dct _ _)=>some (isiP T (.dct [] []))
  | some (.fz v)=>some (isiP T v)
  | _=>none
noncomputable def vIsi (T:String) (f:EE):EV:=fun L S=>bnd (f L S) fun d S1=>(isiD T d S1).map fun b=>(.bl b,S1)
theorem call_isiE {T:String} (hT:∀K:PySem.W.Frag,∀v:P,PySem.W.kitOne K (.type (tyN v)) (.type T)=some (isiP T v)) :
  CallR X (.builtin "isinstance") (fun xs H Q=>∃F m S d b x,xs=[x,.ty T]/\Rel X.K F H m S/\RD X.K F H m d x/\isiD T d S=some b/\Q (.bl b) H):=by
 intro pins s σ H xs us Q I r h
 obtain⟨F,m,S,d,b,x,rfl,rl,pd,ei,q⟩:=h
 have plain:∀w:P,RP X.K F H w x->isiP T w=b->wpAny (model X.prog X.w) X.A _ _ _ _:=fun w hw e=>call_isi hT pins s σ H [x,.ty T] us Q I r ⟨F,w,x,rfl,hw,by rw [e];exact q⟩
 cases d with
 | p w=>cases ei;exact plain w pd rfl
 | ref j=>
  obtain⟨a,rfl,hm⟩:=pd
  simp only [isiD] at ei
  obtain⟨u,w',rfl,ru,rw'⟩:=vals2 r
  cases (show w'=Value.type T from rw')
  have fin:∀tk,EP X pins σ Q (.bool b) { s with toks:=tk }:=fun tk=>⟨.bl b,H,I.tok _,rfl,q⟩
  split at ei
  ·rename_i ds ho
   obtain⟨xs,hH,rs⟩:=rl.obj j a _ hm ho
   have e:=hT X.K (.lst [])
   rw [show isiP T (.lst [])=b by cases ei;rfl] at e
   cases ru
   obtain⟨its,_,pl,_⟩:=I.list (SqL.of hH)
   obtain⟨o,n,h1,h2,_⟩:=pl
   exact PySem.W.kia_one PySem.W.kitx_list I.kIn ⟨o,h1,h2⟩ e (fun z=>nomatch z) fin
  ·rename_i ks ds ho
   obtain⟨kvs,hH,ek,rs⟩:=rl.obj j a _ hm ho
   have e:=hT X.K (.dct [] [])
   rw [show isiP T (.dct [] [])=b by cases ei;rfl] at e
   exact isinst_ok I ru (.dK hH) e fin
  ·rename_i w ho
   exact plain w (rl.obj j a _ hm ho) (by cases ei;rfl)
  ·cases ei
theorem yIsi {T:String}{tn:Str}{p2:Pos} (hT:∀K:PySem.W.Frag,∀v:P,PySem.W.kitOne K (.type (tyN v)) (.type T)=some (isiP T v)) (hg:Gl X "isinstance") (hm:X.mg "isinstance"=none) (hg2:Gl X tn) (hm2:X.mg tn=none) (hb:bootBuiltins tn=some (.type T)) (ha:PE X a (tE X.K fa))
  (hn:tn≠"__name__") (hd:(tn == ("__debug__":Str))=false) (hs:starEach [a,.Name tn p2] X.env=[(false,eval a X.env),(false,eval (.Name tn p2) X.env)]):PE X (.Call (.Name "isinstance" p) [a,.Name tn p2] [] pos) (tV X.K (vIsi T fa)):=
 (pe_callB (call_isiE hT) hg hm PyProof.Rows.boot_isinstance (pa_cons ha (pa_cons (pe_bltn (v:=.ty T) hg2 hm2 hb rfl hn hd) pa_nil rfl) (by rw [hs];rfl)) (by decide) (by decide) (by rw [hs];rfl) rfl).imp' fun σ H Q hz=>by
  obtain⟨F,m,L,S,d,S',r,l,q,k⟩:=hz
  obtain⟨x,S1,e1,q⟩:=bnd_eq q
  cases ei:isiD T x S1 with
  | none=>rw [ei] at q;cases q
  | some b=>
   rw [ei] at q
   cases q
   exact⟨F,m,L,S,_,_,r,l,e1,fun v F' m' H' s r' pp=>⟨F',m',_,x,b,v,rfl,r',pp,ei,k _ F' m' H' s r' rfl⟩⟩
end
end Ev
namespace Ev
open PySem PySem.Spec PyProof.Rows L2
noncomputable def putK (f:Str):List Str->List Str
 | []=>[f]
 | k::ks=>if k=f then k::ks else k::putK f ks
noncomputable def ClsOf (K:PySem.W.Frag) (c:Str) (C:Addr):Prop:=PySem.W.nsIn K mainGlobals c=some (some (.ref C))
theorem ClsOf.inj {K:PySem.W.Frag}{c:Str}{C C':Addr} (h:ClsOf K c C) (h':ClsOf K c C'):C=C':=by
 have:=h.symm.trans h'
 cases this;rfl
noncomputable def AOk (K:PySem.W.Frag) (A:Str->Str->Bool):Prop:=∀c f,A c f=true->∃C,ClsOf K c C/\Cls K C/\NoAttr K C f
section
variable {K:PySem.W.Frag}{F:Addr->Prop}{H:Hp}{m:List Addr}
end
section
variable {X:Cx}{o e value:Expr}{f:Str}{pos pos' apos:Pos}{fo fv:EE}{A:Str->Str->Bool}{es:List Expr}{fs:EDs}
noncomputable def MOk (X:Cx) (M:Str->Str->Option GF):Prop:=∀c mn g,M c mn=some g->∃C k f fd ps,ClsOf X.K c C/\Cls X.K C/\Meth X.K C mn f/\FnOk X.prog X.w X.K X.mg X.base CX0 k f fd ps (spR X.K g)/\Room k X.A/\Binds X.K fd ps []
variable {M:Str->Str->Option GF}{mn:Str}
end
section
variable {X:Cx}{o e value:Expr}{f:Str}{pos pos' tpos:Pos}{fo:EE}{fv:EV}{A:Str->Str->Bool}
end
section
variable {X:Cx}{e:Expr}{es:List Expr}{fs:EVs}{p pos:Pos}
end
theorem strs_rps {K:PySem.W.Frag}{F:Addr->Prop}{H:Hp}:∀ss:List Str,RPs K F H (ss.map .str) (ss.map V.str)
 | []=>rfl
 | s::r=>⟨_,_,rfl,rfl,strs_rps r⟩
theorem glob_strs {K:PySem.W.Frag}{mg:Str->Option Value}{x:Str}{a:Addr}{od:Option Addr}{sl:Array (Option Value)}{n:Nat}{its:Array Value} (ss:List Str) (hm:mg x=some (.ref a)) (hk:K.lookup a=some ⟨.type "tuple",od,.seq its n,sl⟩) (hz:its.size≤sizeLine) (hv:Vals (ss.map V.str) its.toList):GlobOk K mg x (.tup (ss.map .str)):=
 ⟨.ref a,.ref a,hm,rfl,fun F H=>⟨a,ss.map V.str,rfl,.inr (.inr ⟨_,its,n,hk,rfl,rfl,hz,hv⟩),strs_rps ss⟩⟩
end Ev
namespace Ev
open PySem PySem.Spec PyProof.Rows L2
open PySem.W (KasT kas_sort kas_ask kas_item kat_run kat_snds kat_lt kat_kind KatTups KatLex kat_nil kat_cons kat_yes kat_no kat_one)
section
variable {prog:Program}{w:World}{A:Around}{E:Value->Shared->Prop}{s:Shared}{D:Addr}{vs:List Value}
end
noncomputable def isInt:P->Bool
 | .int _=>true
 | _=>false
noncomputable def IV (e:P) (u:Value):Prop:=∃i t,e=P.int i/\u=Value.int i t
noncomputable def KV (h:Heap) (d:P) (v:Value):Prop:=IV d v\/∃es a o n its,d=.tup es/\v=.ref a/\h.get? a=some o/\o.cls=.type "tuple"/\o.data=.seq (List.toArray its) n/\Paired IV es its
theorem KV.kp {h h':Heap} (k:∀b o,h.get? b=some o->h'.get? b=some o) {d:P}{v:Value} (q:KV h d v):KV h' d v:=by
 rcases q with q | ⟨es,a,o,n,its,e1,e2,ho,r⟩
 ·exact .inl q
 ·exact .inr ⟨es,a,o,n,its,e1,e2,k _ _ ho,r⟩
section
variable {prog:Program}{w:World}{A:Around}{E:Value->Shared->Prop}{s:Shared}
end
section
variable {X:Cx}
theorem inv_frame {pins:List (Addr×Obj)}{σ:L2.St}{H:Hp}{s:Shared}{h':Heap}{t':Nat}{m:Str->Option Value} (I:Inv X pins σ H s) (hn:s.heap.Ns X.env.locals m) (hn':h'.Ns X.env.locals m) (k:∀b o,b≠X.env.locals->s.heap.get? b=some o->h'.get? b=some o):Inv X pins σ H { s with heap:=h',toks:=t' }:=by
 have nL:∀b u,H b=some u->b≠X.env.locals:=fun b u e z=>by rw [z,I.free] at e;cases e
 refine I.step (g':=s.gens) (d':=s.drawn) (ch:=[]) (fun _ z=>nomatch z) (fun b o hL _ _ e _=>k b o hL e) (fun b o hL _ _ e _=>⟨o.slots,k b o hL e⟩) (fun _ _ _ _ n=>n) (fun b o _ e=>?_) (fun _ _ e=>e) (fun _ _ _ e=>e) (fun b ps e=>⟨#[],by rw [e];simp⟩) (fun m' hm=>?_) (fun b u e=>?_) I.bare
 ·by_cases hL:b=X.env.locals
  ·subst hL
   obtain⟨o',_,_,ho',_⟩:=hn'
   exact⟨o',ho'⟩
  ·exact⟨o,k b o hL e⟩
 ·obtain⟨o,es,ep,ho,hd,hs,hm1⟩:=hn
  obtain⟨o2,es2,ep2,ho2,hd2,hs2,hm2⟩:=hm
  rw [ho] at ho2;cases ho2
  rw [hd] at hd2;cases hd2
  have:m=m':=funext fun x=>(hm1 x).symm.trans (hm2 x)
  rw [<- this];exact hn'
 ·refine (I.hok b u e).stay (fun c v hc q=>k c v ?_ q) (fun _ q=>q) fun _ _ q=>q
  rcases hc with z | z
  ·rw [z];exact nL b u e
  ·exact nL c _ z
theorem kept_all {g h h':Heap}{L:Addr}{m:Str->Option Value} (k:∀b o,g.get? b=some o->h.get? b=some o) (F:Fr g L h' m) (N:News g L h' (allNews g h L)):∀b o,b≠L->h.get? b=some o->h'.get? b=some o:=fun b o h1 e=>by
 cases q:g.get? b with
 | some u=>
  have:=k b u q
  rw [e] at this;cases this
  exact F.keep b _ q
 | none=>exact (N (b,o) (mem_allNews h1 q e)).1
theorem obj_at {Pg:Program}{w:World}{H:Hp}{h:Heap}{a:Addr}{o:HO} (x:ObjOk Pg w H h a o):∃u,h.get? a=some u:=by
 cases o with
 | lst xs=>obtain⟨_,_,_,_,e⟩:=x;exact⟨_,e⟩
 | tup xs=>obtain⟨_,_,_,_,e,_⟩:=x;exact⟨_,e⟩
 | dK kvs=>obtain⟨_,_,_,_,_,_,_,e,_⟩:=x;exact⟨_,e⟩
 | dT kvs=>obtain⟨_,_,_,_,_,_,_,e,_⟩:=x;exact⟨_,e⟩
 | set S n=>obtain⟨_,_,_,_,e,_⟩:=x;exact⟨_,e⟩
 | ins C dx fs=>obtain⟨_,_,_,e,_⟩:=x;exact⟨_,e⟩
 | own y=>exact x
 | xd fs=>obtain⟨_,⟨_,_,_,e,_⟩,_⟩:=x;exact⟨_,e⟩
 | rng lo hi=>obtain⟨_,_,_,e⟩:=x;exact⟨_,e⟩
 | frz ob u=>exact⟨_,x.1⟩
 | tbl ps=>exact⟨_,(show h.get? a=some _ from x)⟩
 | met f y=>exact⟨_,(show h.get? a=some _ from x)⟩
 | ext φ=>exact x.2.1
theorem inv_no {pins:List (Addr×Obj)}{σ:L2.St}{H:Hp}{s:Shared}{D:Addr} (I:Inv X pins σ H s) (hD:s.heap.get? D=none):H D=none:=by
 cases q:H D with
 | none=>rfl
 | some v=>
  obtain⟨u,e⟩:=obj_at (I.hok D v q)
  rw [hD] at e;cases e
end
end Ev
namespace Ev
open PySem PySem.Spec PyProof.Rows L2
section
variable {X:Cx}{pos:Pos}
end
end Ev
namespace Ev
open PySem PySem.Spec PyProof.Rows L2
section
variable {X:Cx}{pos:Pos}
theorem sl_str:SlR X (fun x lo hi H Q=>∃z,x=.str z/\z.length≤sizeLine/\Q (.str (Txt.slice z lo hi)) H):=by
 intro pins s σ H x v vl vu lo hi sl Q I rx hs pl pu h
 obtain⟨z,rfl,hz,q⟩:=h
 obtain⟨t,rfl⟩:=rx
 refine⟨"str",_,PySem.F.slot_str_getitem.lookup,typeIs_str _ _ _,?_⟩
 have fin:∀lo hi:Option Int,Q (.str (Txt.slice z lo hi)) H->∀t' k,EP X pins σ Q (.str (Txt.slice z lo hi) t') { s with toks:=k }:=fun lo hi q t' k=>⟨.str _,H,I.tok _,⟨t',rfl⟩,q⟩
 obtain⟨o,e1,e2,e3⟩:=hs
 cases pl with
 | none=>
  cases pu with
  | none=>exact wpAny_getItem_str_slice (l:=none) (u:=none) (st:=none) ⟨o,e1,e2,e3⟩ rfl (post_val_or_str ⟨Nat.le_trans (Txt.slice_le z _ _) hz,fun t' k=>fin _ _ q t' k⟩)
  | int j uj=>exact wpAny_getItem_str_slice (l:=none) (u:=some (j,uj)) (st:=none) ⟨o,e1,e2,e3⟩ rfl (post_val_or_str ⟨Nat.le_trans (Txt.slice_le z _ _) hz,fun t' k=>fin _ _ q t' k⟩)
 | int i ui=>
  cases pu with
  | none=>exact wpAny_getItem_str_slice (l:=some (i,ui)) (u:=none) (st:=none) ⟨o,e1,e2,e3⟩ rfl (post_val_or_str ⟨Nat.le_trans (Txt.slice_le z _ _) hz,fun t' k=>fin _ _ q t' k⟩)
  | int j uj=>exact wpAny_getItem_str_slice (l:=some (i,ui)) (u:=some (j,uj)) (st:=none) ⟨o,e1,e2,e3⟩ rfl (post_val_or_str ⟨Nat.le_trans (Txt.slice_le z _ _) hz,fun t' k=>fin _ _ q t' k⟩)
noncomputable def dSl2:P->Option Int->Option Int->Option P
 | .str x,lo,hi=>if capN x.length=true then some (.str (Txt.slice x lo hi)) else none
 | x,lo,hi=>dSl x lo hi
noncomputable def vSl2 (a:EV) (lo hi:EO):EV:=fun L S=>bnd (a L S) fun x S1=>bnd (lo L S1) fun i S2=>bnd (hi L S2) fun j S3=>(dSl2 x i j).map fun v=>(v,S3)
theorem xSl2 {e:Expr}{lo hi:Option Expr}{fa:EV}{fl fh:EO}{pos p2:Pos} (he:PE X e (tV X.K fa)) (hl:PO X lo (tO X.K fl)) (hh:PO X hi (tO X.K fh)):PE X (.Subscript e (.Slice lo hi none p2) pos) (tV X.K (vSl2 fa fl fh)):=
 (pe_slice ((sl_list.or sl_tup).or sl_str) he hl hh).imp' fun σ H Q hz=>by
  obtain⟨F,m,L,S,d,S',r,l,q,k⟩:=hz
  obtain⟨x,S1,e1,q⟩:=bnd_eq q
  obtain⟨i,S2,e2,q⟩:=bnd_eq q
  obtain⟨j,S3,e3,q⟩:=bnd_eq q
  refine⟨F,m,L,S,x,S1,r,l,e1,fun v F1 m1 H1 s1 r1 p1=>?_⟩
  refine⟨F1,m1,L,S1,i,S2,r1,l.mono s1,e2,fun F2 m2 H2 s2 r2=>?_⟩
  refine⟨F2,m2,L,S2,j,S3,r2,(l.mono s1).mono s2,e3,fun F3 m3 H3 s3 r3=>?_⟩
  have px:=RP.mono s3 (RP.mono s2 p1)
  have ss:=s1.trans (s2.trans s3)
  cases x with
  | lst ds=>
   cases q
   obtain⟨a,xs,rfl,ta,ra⟩:=px
   exact .inl (.inl ⟨a,xs,rfl,ta.sq,fun p hp=>k _ _ m3 _ (ss.trans (grow_frz hp).stp) (r3.grow (grow_frz hp)) (.newLst hp (ra.cut i j))⟩)
  | ro ds=>
   cases q
   obtain⟨a,xs,rfl,ta,ra⟩:=px
   exact .inl (.inl ⟨a,xs,rfl,ta.sq,fun p hp=>k _ _ m3 _ (ss.trans (grow_frz hp).stp) (r3.grow (grow_frz hp)) (.newLst hp (ra.cut i j))⟩)
  | tup ds=>
   obtain⟨a,xs,rfl,ta,ra⟩:=px
   simp only [dSl2,dSl] at q
   split at q
   ·cases q
   ·rename_i hw
    cases q
    rw [ra.length] at hw
    exact .inl (.inr ⟨a,xs,rfl,ta.sq,hw,fun p hp=>k _ _ m3 _ (ss.trans (grow_new hp).stp) (r3.grow (grow_new hp)) (.newTup hp (ra.cut i j))⟩)
  | str z=>
   cases (show v=.str z from px)
   simp only [dSl2] at q
   split at q
   ·rename_i hc
    cases q
    exact .inr ⟨z,rfl,capN_le hc,k _ F3 m3 H3 ss r3 rfl⟩
   ·cases q
  | _=>cases q
variable {e:Expr}{es:List Expr}{fs:EVs}{p:Pos}
inductive PEs (X:Cx):List Expr->List EV->Prop
 | nil:PEs X [] []
 | cons {e es f fs}:PE X e (tV X.K f)->PEs X es fs->PEs X (e::es) (f::fs)
noncomputable def vGet2 (a b c:EV):EV:=fun L S=>bnd (a L S) fun d S1=>bnd (b L S1) fun y S2=>bnd (c L S2) fun z S3=>match d with
 | .dct ks vs=>match keyOf y with
  | some k=>some ((dLook k ks vs).getD z,S3)
  | none=>none
 | _=>none
theorem valV_miss {K:PySem.W.Frag}{F:Addr->Prop}{H:Hp}{k:Key}:∀{kvs:List (Key×V)}{ds:List P},RPs K F H ds (kvs.map (·.2))->dLook k (kvs.map (·.1)) ds=none->valV kvs k=none
 | [],ds,r,h=>rfl
 | (k',v)::kvs,[],r,h=>by
  have:=r.length
  simp at this
 | (k',v)::kvs,d0::ds,r,h=>by
  obtain⟨x,xr,e,p,rr⟩:=r
  rw [List.map_cons] at e
  injection e with e1 e2
  simp only [List.map_cons,dLook] at h
  by_cases hk:k'=k
  ·rw [if_pos hk] at h;cases h
  ·rw [if_neg hk] at h
   rw [<- e2] at rr
   rw [valV_neg (p:=(k',v)) hk]
   exact valV_miss rr h
theorem x_get2 {o a b:Expr}{fo fa fb:EV}{ap cp:Pos} (hu:X.A.units+1 < cLine) (ho:PE X o (tV X.K fo)) (ha:PE X a (tV X.K fa)) (hb:PE X b (tV X.K fb)) (m:M2 X o "get" ap a b cp):PE X (.Call (.Attribute o "get" ap) [a,b] [] cp) (tV X.K (vGet2 fo fa fb)):=
 (pe_dget2 hu ho ha hb m).imp' fun σ H Q hz=>by
  obtain⟨F,m,L,S,d,S',r,l,q,k⟩:=hz
  obtain⟨x,S1,e1,q⟩:=bnd_eq q
  obtain⟨y,S2,e2,q⟩:=bnd_eq q
  obtain⟨z,S3,e3,q⟩:=bnd_eq q
  refine⟨F,m,L,S,x,S1,r,l,e1,fun v F1 m1 H1 s1 r1 p1=>?_⟩
  cases x with
  | dct ks ds=>
   obtain⟨a,kvs,rfl,fa',hk,ek,ra⟩:=id p1
   refine⟨a,rfl,.inl ⟨kvs,.inl hk⟩,?_⟩
   refine⟨F1,m1,L,S1,y,S2,r1,l.mono s1,e2,fun vy F2 m2 H2 s2 r2 p2=>?_⟩
   refine⟨F2,m2,L,S2,z,S3,r2,(l.mono s1).mono s2,e3,fun vz F3 m3 H3 s3 r3 p3=>?_⟩
   have hk3:H3 a=some (.dK kvs):=(s2.trans s3).frk _ _ fa' hk
   have ra3:=RPs.mono s3 (RPs.mono s2 ra)
   have py:=RP.mono s3 p2
   dsimp only at q
   split at q
   ·rename_i key ek'
    cases q
    have eyv:=keyOf_kV ek' py
    subst eyv ek
    have ss:=s1.trans (s2.trans s3)
    cases el:dLook key (kvs.map (·.1)) ds with
    | none=>
     have hm:=valV_miss ra3 el
     refine⟨none,by rw [<- hm];exact DGet.k hk3,?_⟩
     rw [el] at k
     exact k vz F3 m3 H3 ss r3 p3
    | some w=>
     obtain⟨v,h1,h2⟩:=valV_look ra3 el
     refine⟨some v,by rw [<- h1];exact DGet.k hk3,?_⟩
     rw [el] at k
     exact k v F3 m3 H3 ss r3 h2
   ·cases q
  | _=>cases q
noncomputable def GEnt (w:World):List DictEntry->List (Str×P)->Prop
 | [],[]=>True
 | e::es,(k,p)::r=>(∃t,e.key=.str k t)/\e.hash=hashStr w k/\(∃v,RelV v e.val/\∀K F H,RP K F H p v)/\GEnt w es r
 | _,_=>False
noncomputable def GTab (w:World) (K:PySem.W.Frag) (mg:Str->Option Value) (x:Str) (kvs:List (Str×P)):Prop:=
 ∃a o es ep,mg x=some (.ref a)/\K.lookup a=some o/\o.ExactDict/\o.data=.dict es ep/\GEnt w es.toList kvs/\(kvs.map (·.1)).Nodup
end
noncomputable def tabP:List Key->List P->Option (List (Str×P))
 | [],[]=>some []
 | .inr k::ks,v::vs=>(tabP ks vs).map fun r=>(k,v)::r
 | _,_=>none
noncomputable def isDct:P->Bool
 | .dct _ _=>true
 | _=>false
noncomputable def GlobOk2 (w:World) (K:PySem.W.Frag) (mg:Str->Option Value) (x:Str) (v:P):Prop:=(isDct v=false->GlobOk K mg x v)/\∀ks vs,v=.dct ks vs->∃kvs,tabP ks vs=some kvs/\GTab w K mg x kvs
theorem GlobOk2.plain {w:World}{K:PySem.W.Frag}{mg:Str->Option Value}{x:Str}{v:P} (h:GlobOk K mg x v) (hv:isDct v=false):GlobOk2 w K mg x v:=⟨fun _=>h,fun ks vs e=>by subst e;cases hv⟩
end Ev
namespace Ev
open PySem PySem.Spec PyProof.Rows L2
section
variable {X:Cx}
theorem bools_are:∀{bs:List Bool}{us:List Value},Vals (bs.map V.bl) us->LSm.BoolsAre us bs
 | [],us,r=>by
  obtain rfl:us=[]:=List.eq_nil_of_length_eq_zero (by simpa using r.length.symm)
  exact .nil
 | b::bs,us,r=>by
  cases r with
  | cons q t=>
   cases (show _=Value.bool b from q)
   exact .cons b (bools_are t)
theorem intsAreQ:∀{ns:List Int}{us:List Value},Vals (ns.map V.int) us->IntsAre us ns
 | [],us,r=>by
  obtain rfl:us=[]:=List.eq_nil_of_length_eq_zero (by simpa using r.length.symm)
  exact .nil
 | b::bs,us,r=>by
  cases r with
  | cons q t=>
   obtain⟨tk,rfl⟩:=(show ∃tk,_=Value.int b tk from q)
   exact .cons _ _ (intsAreQ t)
theorem call_all (hc:X.calm=true):CallR X (.builtin "all") (fun xs H Q=>∃(p:Addr) (bs:List Bool),xs=[.ref p]/\SqL X.K H p (bs.map V.bl)/\Q (.bl (bs.all id)) H):=by
 intro pins s σ H xs us Q I r h
 obtain⟨p,bs,rfl,hq,q⟩:=h
 obtain⟨u,rfl,rx⟩:=vals1 r
 cases rx
 obtain⟨its,r',pl,hz⟩:=I.list hq
 obtain⟨m,F⟩:=I.fr
 exact LSm.all_bools F (news_all (g:=X.base)) (I.ok.hd hc) pl.isList (bools_are r') fun h' tk F' N'=>⟨.bl (bs.all id),H,inv_frame I F.ns F'.ns (kept_all I.bk F' N'),rfl,q⟩
theorem call_sum (hc:X.calm=true):CallR X (.builtin "sum") (fun xs H Q=>∃(p:Addr) (ns:List Int),xs=[.ref p]/\SqL X.K H p (ns.map V.int)/\Q (.int ns.sum) H):=by
 intro pins s σ H xs us Q I r h
 obtain⟨p,ns,rfl,hq,q⟩:=h
 obtain⟨u,rfl,rx⟩:=vals1 r
 cases rx
 obtain⟨its,r',pl,hz⟩:=I.list hq
 obtain⟨m,F⟩:=I.fr
 exact LSm.sum_ints F (news_all (g:=X.base)) (I.ok.hd hc) pl.isList (intsAreQ r') fun h' tk t' F' N'=>⟨.int ns.sum,H,inv_frame I F.ns F'.ns (kept_all I.bk F' N'),⟨_,rfl⟩,q⟩
noncomputable def blsOf:List P->Option (List Bool)
 | []=>some []
 | .bl b::r=>(blsOf r).map (b::·)
 | _=>none
noncomputable def numsOf:List P->Option (List Int)
 | []=>some []
 | .int b::r=>(numsOf r).map (b::·)
 | _=>none
noncomputable def c_all:List P->Option P
 | [.lst xs]=>(blsOf xs).map fun bs=>.bl (bs.all id)
 | _=>none
noncomputable def c_sum:List P->Option P
 | [.lst xs]=>(numsOf xs).map fun ns=>.int ns.sum
 | _=>none
theorem bls_rps {K:PySem.W.Frag}{F:Addr->Prop}{H:Hp}:∀{xs:List P}{bs:List Bool}{ys:List V},blsOf xs=some bs->RPs K F H xs ys->ys=bs.map V.bl
 | [],bs,ys,h,r=>by cases h;exact List.eq_nil_of_length_eq_zero r.length.symm
 | .bl b::xs,bs,ys,h,r=>by
  simp only [blsOf] at h
  obtain⟨bs',e,rfl⟩:=Option.map_eq_some_iff.mp h
  obtain⟨y,yr,rfl,p,r'⟩:=r
  cases (show y=.bl b from p)
  rw [bls_rps e r'];rfl
theorem nums_rps {K:PySem.W.Frag}{F:Addr->Prop}{H:Hp}:∀{xs:List P}{bs:List Int}{ys:List V},numsOf xs=some bs->RPs K F H xs ys->ys=bs.map V.int
 | [],bs,ys,h,r=>by cases h;exact List.eq_nil_of_length_eq_zero r.length.symm
 | .int b::xs,bs,ys,h,r=>by
  simp only [numsOf] at h
  obtain⟨bs',e,rfl⟩:=Option.map_eq_some_iff.mp h
  obtain⟨y,yr,rfl,p,r'⟩:=r
  cases (show y=.int b from p)
  rw [nums_rps e r'];rfl
theorem callAll (hc:X.calm=true):CallR X (.builtin "all") (rC X.K c_all):=by
 intro pins s σ H xs us Q I r h
 obtain⟨F,ds,d,ft,rs,q,k⟩:=h
 unfold c_all at q
 split at q
 ·obtain⟨bs,e,rfl⟩:=Option.map_eq_some_iff.mp q
  obtain⟨x,rfl,p1⟩:=rps1 rs
  obtain⟨a,ys,rfl,ta,ra⟩:=p1
  exact call_all hc pins s σ H _ us Q I r ⟨a,bs,rfl,by rw [<- bls_rps e ra];exact ta.sq,k _ F H .refl rfl⟩
 ·cases q
theorem callSum (hc:X.calm=true):CallR X (.builtin "sum") (rC X.K c_sum):=by
 intro pins s σ H xs us Q I r h
 obtain⟨F,ds,d,ft,rs,q,k⟩:=h
 unfold c_sum at q
 split at q
 ·obtain⟨bs,e,rfl⟩:=Option.map_eq_some_iff.mp q
  obtain⟨x,rfl,p1⟩:=rps1 rs
  obtain⟨a,ys,rfl,ta,ra⟩:=p1
  exact call_sum hc pins s σ H _ us Q I r ⟨a,bs,rfl,by rw [<- nums_rps e ra];exact ta.sq,k _ F H .refl rfl⟩
 ·cases q
variable {e:Expr}{es:List Expr}{fs:EVs}{p pos:Pos}
theorem x_all (hg:Gl X "all") (hm:X.mg "all"=none) (ha:PA X (e::es) (tVs X.K fs)) (hc:X.calm=true) (he:starEach (e::es) X.env=(false,eval e X.env)::starEach es X.env) (hpl:(backTo pos (starEach es X.env)).any (·.1)=false) :
  PE X (.Call (.Name "all" p) (e::es) [] pos) (tV X.K (vCall c_all fs)):=xCallB (callAll hc) hg hm PyProof.Rows.boot_all ha (by decide) (by decide) he hpl
theorem x_sum (hg:Gl X "sum") (hm:X.mg "sum"=none) (ha:PA X (e::es) (tVs X.K fs)) (hc:X.calm=true) (he:starEach (e::es) X.env=(false,eval e X.env)::starEach es X.env) (hpl:(backTo pos (starEach es X.env)).any (·.1)=false) :
  PE X (.Call (.Name "sum" p) (e::es) [] pos) (tV X.K (vCall c_sum fs)):=xCallB (callSum hc) hg hm PyProof.Rows.boot_sum ha (by decide) (by decide) he hpl
end
end Ev
namespace Ev
open PySem PySem.Spec PyProof.Rows L2
noncomputable def CXf (Pg:Program) (w:World):CXT:=fun outer H s E e s'=>∃(a:Addr) (cls a0:Value) (H':Hp) (B:Heap),e=.ref a/\s'.os=s.os/\AllBare s'.gens/\Un (frs outer) [] H H' s.heap s'.heap/\HOk Pg w H' s'.heap/\H' a=none /\
 (∀b o,s.heap.get? b=some o->b ∉ frs outer->∃o',B.get? b=some o')/\(∀b o,s.heap.get? b=some o->H b=none->b ∉ frs outer->B.get? b=some o)/\(∀b u o,H' b=some u->s'.heap.get? b=some o->B.get? b=some o) /\
 Heap.FlyingW B outer a cls a0 s'.heap/\E cls none H'
section
variable {X:Cx}{pins:List (Addr×Obj)}{σ:L2.St}{H:Hp}{s:Shared}
structure Leaves (X:Cx) (E:XK):Prop where
 ex:X.ex=[]
 stk:X.stack=X.env::X.outer
 frm:X.env.frame=some X.env.locals
 xe:X.xe=fun e s'=>wpAny (model X.prog X.w) X.A (leaving X.env e) (fun _ s''=>CXf X.prog X.w X.outer X.H₀ X.s₀ E e s'') (fun e' s''=>CXf X.prog X.w X.outer X.H₀ X.s₀ E e' s'') s'
theorem Leaves.mem {E:XK} (l:Leaves X E) (b:Addr):b ∈ frs X.stack↔b=X.env.locals\/b ∈ X.fs:=by
 rw [l.stk]
 unfold frs
 rw [List.filterMap_cons,l.frm]
 exact List.mem_cons
theorem Leaves.old {E:XK} (l:Leaves X E) (I:Inv X pins σ H s) {b:Addr}{o:Obj} (e:X.s₀.heap.get? b=some o) (n:b ∉ X.fs):b ∉ frs X.stack:=fun z=>by
 rcases (l.mem b).mp z with rfl | z
 ·exact absurd (Heap.lt_size e) (Nat.not_lt.mpr I.ok.above)
 ·exact n z
theorem un_left {Hn:Hp}{B h1 h2:Heap} (I:Inv X pins σ H s) {E:XK} (l:Leaves X E) (u:Un (frs X.stack) [] H Hn s.heap h1) (c0:∀b o,s.heap.get? b=some o->b ∉ frs X.stack->∃o',B.get? b=some o') (c1:∀b o,s.heap.get? b=some o->H b=none->b ∉ frs X.stack->B.get? b=some o)
  (st:B.StaysIn h2) (sl:h1.UpToSlots h2):Un (frs X.outer) [] X.H₀ Hn X.s₀.heap h2:=by
 have u1:Un X.fs [] X.H₀ H X.s₀.heap s.heap:=by have:=I.base;rw [l.ex] at this;exact this
 have fr:∀b o,X.s₀.heap.get? b=some o->X.H₀ b=none->b ∈ X.fs->∃sl,h2.get? b=some { o with slots:=sl }:=fun b o e n hb=>by
  obtain⟨sl1,e1⟩:=u1.slot b o e n hb (by simp)
  have n1:=u1.free b o e n (by simp)
  obtain⟨sl2,e2⟩:=u.slot b _ e1 n1 ((l.mem b).mpr (.inr hb)) (by simp)
  have nf:∀vs,o.data≠.fields vs:=fun vs z=>by
   obtain⟨_,o',ho',hd'⟩:=I.ok.funs.mem hb
   rw [e] at ho';cases ho'
   exact hd' vs z
  obtain⟨sl3,e3⟩:=sl b _ e2 nf
  exact⟨sl3,e3⟩
 refine⟨fun b o e n hb _=>?_,fun b o e n hb _=>fr b o e n hb,fun b o e n hx=>?_,fun b o e _=>?_,fun b xs e=>u.tups b xs (u1.tups b xs e),fun b o v e=>u.frzs b o v (u1.frzs b o v e),fun b ps e=>?_⟩
 ·exact st b o (c1 b o (u1.keep b o e n hb (by simp)) (u1.free b o e n (by simp)) (l.old I e hb))
 ·obtain⟨o1,e1⟩:=u1.there b o e (by simp)
  exact u.free b o1 e1 (u1.free b o e n (by simp)) (by simp)
 ·by_cases hb:b ∈ X.fs
  ·obtain⟨sl1,e1⟩:=fr b o e (I.ok.frf b hb) hb
   exact⟨_,e1⟩
  ·obtain⟨o1,e1⟩:=u1.there b o e (by simp)
   obtain⟨o2,e2⟩:=c0 b o1 e1 (l.old I e hb)
   exact⟨o2,st b o2 e2⟩
 ·obtain⟨m1,e1⟩:=u1.tbls b ps e
  obtain⟨m2,e2⟩:=u.tbls b _ e1
  exact⟨m1++m2,by rw [e2,Array.append_assoc]⟩
theorem hok_left {Hn:Hp}{B h1 h2:Heap} (hk:HOk X.prog X.w Hn h1) (c2:∀b u o,Hn b=some u->h1.get? b=some o->B.get? b=some o) (st:B.StaysIn h2):HOk X.prog X.w Hn h2:=fun b u e=>
 (hk b u e).stay (fun c v hc q=>st c v (by
  rcases hc with rfl | hc
  ·exact c2 _ u v e q
  ·exact c2 c _ v hc q)) (fun _ q=>q) fun _ _ q=>q
theorem leave_new {E:XK}{cls:Value}{vs:List Value}{h1:Heap}{e:Addr} (l:Leaves X E) (I:Inv X pins σ H s) (hx:Heap.MadeExcOf s.heap h1 e cls vs) (q:E cls none H):X.xe (.ref e) { s with heap:=h1 }:=by
 rw [l.xe]
 have hfr:X.A.frames=some (X.env::X.outer):=by rw [<- l.stk];exact I.ok.frames
 have inB:∀b o,s.heap.get? b=some o->b ∉ frs X.stack->(PySem.W.hideAll s.heap (frs X.stack)).get? b=some o:=fun b o e n=>PySem.W.hideAll_get _ e n
 have trk:∀b u,H b=some u->b ∉ frs X.stack:=fun b u e z=>by rw [I.stkFree b z] at e;cases e
 have hl:s.heap.FunFrames (PySem.W.hideAll s.heap (frs X.stack)) (X.env::X.outer):=by
  rw [<- l.stk]
  exact PySem.W.funFrames_hide I.stack fun env he b hb=>List.mem_filterMap.mpr ⟨env,he,hb⟩
 refine wpAny_leaves_madeW hfr l.frm (fun b o z=>PySem.W.of_hideAll _ z) hl hx fun h2 t fl _ _ sl=>?_
 have sl2:s.heap.UpToSlots h2:=(Heap.UpToSlots.of_keeps hx.keeps).trans sl
 have un0:Un (frs X.stack) [] H H s.heap s.heap:=Un.kept fun _ _ z=>z
 have u:=un_left I l un0 (fun b o z n=>⟨o,inB b o z n⟩) (fun b o z _ n=>inB b o z n) fl.1 sl2
 have c2:∀b u o,H b=some u->s.heap.get? b=some o->(PySem.W.hideAll s.heap (frs X.stack)).get? b=some o:=fun b u o z z2=>inB b o z2 (trk b u z)
 have u1:Un X.fs [] X.H₀ H X.s₀.heap s.heap:=by have:=I.base;rw [l.ex] at this;exact this
 refine⟨e,cls,.ref t,H,_,rfl,I.os,I.bare,u,hok_left I.hok c2 fl.1,inv_no I hx.new,fun b o z n=>?_,fun b o z z2 n=>?_,fun b v o z z2=>?_,fl,q⟩
 ·obtain⟨o1,e1⟩:=u1.there b o z (by simp)
  exact⟨o1,inB b o1 e1 (l.old I z n)⟩
 ·exact inB b o (u1.keep b o z z2 n (by simp)) (l.old I z n)
 ·obtain⟨o1,e1⟩:=obj_at (I.hok b v z)
  have e2:=c2 b v o1 z e1
  rw [fl.1 b o1 e2] at z2;cases z2
  exact e2
theorem leave_on {E E':XK}{e:Value}{s':Shared} (l:Leaves X E) (I:Inv X pins σ H s) (hx:CXf X.prog X.w X.stack H s E' e s') (q:∀cls H',E' cls none H'->E cls none H'):X.xe e s':=by
 rw [l.xe]
 obtain⟨a,cls,a0,H',B,rfl,os,bare,un,hok,hn,c0,c1,c2,fl,qe⟩:=hx
 have hfr:X.A.frames=some (X.env::X.outer):=by rw [<- l.stk];exact I.ok.frames
 rw [l.stk] at fl
 refine wpAny_leaves_onW hfr l.frm fl fun h2 fl2 sl=>?_
 have u1:Un X.fs [] X.H₀ H X.s₀.heap s.heap:=by have:=I.base;rw [l.ex] at this;exact this
 refine⟨a,cls,a0,H',B,rfl,os.trans I.os,bare,un_left I l un c0 c1 fl2.1 sl,hok_left hok c2 fl2.1,hn,fun b o z n=>?_,fun b o z z2 n=>?_,fun b v o z z2=>?_,fl2,q cls H' qe⟩
 ·obtain⟨o1,e1⟩:=u1.there b o z (by simp)
  exact c0 b o1 e1 (l.old I z n)
 ·exact c1 b o (u1.keep b o z z2 n (by simp)) (u1.free b o z z2 (by simp)) (l.old I z n)
 ·obtain⟨o1,e1⟩:=obj_at (hok b v z)
  have e2:=c2 b v o1 z e1
  rw [fl2.1 b o1 e2] at z2;cases z2
  exact e2
end
end Ev
namespace Ev
open PySem PySem.Spec PyProof.Rows L2
noncomputable abbrev suiteX (X:Cx) (e:Value):Cx:={ X with A:=X.A.mark (some e),calm:=false,xe:=fun _ _=>False }
section
variable {X:Cx}{pins:List (Addr×Obj)}{σ:L2.St}{H:Hp}{s:Shared}
theorem suite_inv (I:Inv X pins σ H s) (e:Value):Inv (suiteX X e) pins σ H s:=
 ⟨⟨I.ok.mod,I.ok.kind,I.ok.glob,I.ok.blt,I.ok.above,I.ok.inj,I.ok.has,I.ok.cab,(fun z=>nomatch z),I.ok.frames,I.ok.stk,I.ok.exf,I.ok.bs,I.ok.bsz,I.ok.noex,I.ok.exfs,I.ok.funs,I.ok.frf⟩,I.os,I.bare,I.base,I.loc,I.cell,I.free,I.freeC,I.pin,I.hok,I.len⟩
theorem suite_back {e:Value} (ok:X.Ok) (I:Inv (suiteX X e) pins σ H s):Inv X pins σ H s:=⟨ok,I.os,I.bare,I.base,I.loc,I.cell,I.free,I.freeC,I.pin,I.hok,I.len⟩
theorem un_stay {fs:List Addr}{Hn:Hp}{h0 h1 B h2:Heap} (u:Un fs [] H Hn h0 h1) (ff:∀b ∈ fs,H b=none/\∃o,h0.get? b=some o/\∀vs,o.data≠.fields vs) (c0:∀b o,h0.get? b=some o->b ∉ fs->∃o',B.get? b=some o') (c1:∀b o,h0.get? b=some o->H b=none->b ∉ fs->B.get? b=some o)
  (st:B.StaysIn h2) (sl:h1.UpToSlots h2):Un fs [] H Hn h0 h2:=by
 have fr:∀b o,h0.get? b=some o->b ∈ fs->∃sl,h2.get? b=some { o with slots:=sl }:=fun b o e hb=>by
  obtain⟨n,o1,e1,nf⟩:=ff b hb
  rw [e] at e1;cases e1
  obtain⟨s1,e1⟩:=u.slot b o e n hb (by simp)
  obtain⟨s2,e2⟩:=sl b _ e1 nf
  exact⟨s2,e2⟩
 refine⟨fun b o e n hb _=>st b o (c1 b o e n hb),fun b o e n hb _=>fr b o e hb,u.free,fun b o e _=>?_,u.tups,u.frzs,u.tbls⟩
 by_cases hb:b ∈ fs
 ·obtain⟨s1,e1⟩:=fr b o e hb
  exact⟨_,e1⟩
 ·obtain⟨o2,e2⟩:=c0 b o e hb
  exact⟨o2,st b o2 e2⟩
theorem inv_track (I:Inv X pins σ H s) {a:Addr}{u:HO} (h0:X.s₀.heap.get? a=none) (ha:H a=none) (hL:a≠X.env.locals) (hC:∀x c,X.env.cells.lookup x=some c->c≠a) (hp:∀p ∈ X.pn++pins,p.1≠a) (new:ObjOk X.prog X.w (upd H a u) s.heap a u):Inv X pins σ (upd H a u) s:=by
 have nH:∀b v,H b=some v->b≠a:=fun b v e z=>by rw [z,ha] at e;cases e
 refine⟨I.ok,I.os,I.bare,⟨I.base.keep,I.base.slot,fun b o e n hx=>?_,I.base.there,fun b xs e=>?_,fun b o v e=>?_,fun b ps e=>?_⟩,I.loc,I.cell,?_,fun x c e=>?_,fun p hq=>?_,fun b v e=>?_,I.len⟩
 ·rw [upd_ne (fun z=>by rw [z,h0] at e;cases e)]
  exact I.base.free b o e n hx
 ·have:=I.base.tups b xs e
  rw [upd_ne (nH _ _ this)];exact this
 ·have:=I.base.frzs b o v e
  rw [upd_ne (nH _ _ this)];exact this
 ·obtain⟨more,e1⟩:=I.base.tbls b ps e
  exact⟨more,by rw [upd_ne (nH _ _ e1)];exact e1⟩
 ·rw [upd_ne (Ne.symm hL)];exact I.free
 ·rw [upd_ne (hC x c e)];exact I.freeC x c e
 ·obtain⟨e1,e2,r⟩:=I.pin p hq
  exact⟨e1,by rw [upd_ne (hp p hq)];exact e2,r⟩
 ·by_cases hb:b=a
  ·subst hb;rw [upd_same] at e;cases e;exact new
  ·rw [upd_ne hb] at e
   exact (I.hok b v e).stay (fun _ _ _ q=>q) (fun c q=>by rw [upd_ne (nH _ _ q)];exact q) fun c xs q=>by rw [upd_ne (nH _ _ q)];exact q
theorem inv_gone {i:Nat}{n:Str}{h':Heap}{t':Nat}{m:Str->Option Value}{v:Option Value} (I:Inv X pins σ H s) (hN:X.N.Nodup) (hi:X.N[i]? = some n) (hl:∀(j:Nat) (x:Str) (w:V),X.N[j]? = some x->σ[j]? = some (some w)->Vis X.env.scope x->∃u,RelV w u/\Look X.env s.heap m x u)
  (hn':h'.Ns X.env.locals (fun x=>if x=n then v else m x)) (hs:Heap.SameBut X.env.locals s.heap h'):Inv X pins (σ.set i none) H { s with heap:=h',toks:=t' }:=by
 have nL:∀b o,X.s₀.heap.get? b=some o->b≠X.env.locals:=fun b o e=>Nat.ne_of_lt (Nat.lt_of_lt_of_le (Heap.lt_size e) I.ok.above)
 have hiσ:i < σ.length:=by rw [I.len];exact (List.getElem?_eq_some_iff.mp hi).1
 refine⟨I.ok,I.os,I.bare,⟨fun b o e n hb hx=>(hs.2 b (nL b o e)).trans (I.base.keep b o e n hb hx),fun b o e n hb hx=>?_,I.base.free,fun b o e hx=>?_,I.base.tups,I.base.frzs,I.base.tbls⟩,⟨_,hn',fun j y w e1 e2 e3=>?_⟩,fun y c e=>?_,I.free,I.freeC,fun p hp=>?_,fun b w e=>?_,by simpa using I.len⟩
 ·obtain⟨sl,e1⟩:=I.base.slot b o e n hb hx
  exact⟨sl,(hs.2 b (nL b o e)).trans e1⟩
 ·obtain⟨o',e1⟩:=I.base.there b o e hx
  exact⟨o',(hs.2 b (nL b o e)).trans e1⟩
 ·by_cases hj:j=i
  ·subst hj
   rw [List.getElem?_set_self hiσ] at e2;cases e2
  ·rw [List.getElem?_set_ne (Ne.symm hj)] at e2
   obtain⟨u,r,q⟩:=hl j y w e1 e2 e3
   refine⟨u,r,?_⟩
   rcases q with ⟨k,e⟩ | ⟨k,c,e,z⟩
   ·exact .inl ⟨k,by
     have ne:¬y=n:=fun z=>hj (nodup_ix hN e1 (by rw [z];exact hi))
     show (if y=n then v else m y)=some u
     rw [if_neg ne];exact e⟩
   ·exact .inr ⟨k,c,e,z.sameBut hs (I.cne y c e)⟩
 ·obtain⟨w',z⟩:=I.cell y c e
  exact⟨w',z.sameBut hs (I.cne y c e)⟩
 ·obtain⟨e,n,ne,nf,d⟩:=I.pin p hp
  exact⟨(hs.2 p.1 ne).trans e,n,ne,nf,d⟩
 ·refine (I.hok b w e).stay (fun c z hc q=>(hs.2 c ?_).trans q) (fun _ q=>q) fun _ _ q=>q
  rintro rfl
  rcases hc with rfl | hc
  ·rw [I.free] at e;cases e
  ·rw [I.free] at hc;cases hc
theorem land_inv {Hn:Hp}{B h1:Heap}{s1:Shared} (I:Inv X pins σ H s) (os:s1.os=s.os) (bare:AllBare s1.gens) (un:Un (frs X.stack) [] H Hn s.heap s1.heap) (hok:HOk X.prog X.w Hn s1.heap) (c0:∀b o,s.heap.get? b=some o->b ∉ frs X.stack->∃o',B.get? b=some o') (c1:∀b o,s.heap.get? b=some o->H b=none->b ∉ frs X.stack->B.get? b=some o)
  (c2:∀b u o,Hn b=some u->s1.heap.get? b=some o->B.get? b=some o) (st:B.StaysIn h1) (sl:s1.heap.UpToSlots h1):Inv X pins σ Hn { s1 with heap:=h1 }:=by
 have ff:∀b ∈ frs X.stack,H b=none/\∃o,s.heap.get? b=some o/\∀vs,o.data≠.fields vs:=fun b hb=>⟨I.stkFree b hb,(I.stack.mem hb).2⟩
 exact I.call' (s':={ s1 with heap:=h1 }) (ch:=[]) os (un_stay un ff c0 c1 st sl) (hok_left hok c2 st) bare fun _ z=>nomatch z
theorem catch_on {E':XK}{e:Value}{s1:Shared}{c n:Str}{C2:Addr}{i:Nat}{b0:Stmt}{suite:List Stmt}{np hpos:Pos}{rest:List ExceptHandler}{D:Ends}{ts:Value->TS} (stk:X.stack=X.env::X.outer) (frm:X.env.frame=some X.env.locals) (ex:X.ex=[]) (hN:X.N.Nodup) (I:Inv X pins σ H s) (hx:CXf X.prog X.w X.stack H s E' e s1)
  (gl:Gl X c) (mgc:X.mg c=some (.ref C2)) (hdb:(c == ("__debug__":Str))=false) (hi:X.N[i]? = some n) (hl:X.env.scope.names.lookup n=some .local) (hb:∀e,PSs (suiteX X e) (b0::suite) (ts e))
  (k:∀(a:Addr) (cls:Value) (Hn:Hp),e=.ref a->E' cls none Hn->Hn a=none->∃C,cls=.ref C/\PySem.W.exmOne X.K cls (.ref C2)=some true /\
   ts e { nx:=fun σ2 H2=>D.nx (σ2.set i none) H2,rt:=D.rt,bk:=fun σ2 H2=>D.bk (σ2.set i none) H2,ct:=fun σ2 H2=>D.ct (σ2.set i none) H2 } (σ.set i (some (.ref a))) (upd Hn a (.ext (isExc a C)))) :
  wpAny (model X.prog X.w) X.A (noteFrame e X.env) (fun _ s2=>wpAny (model X.prog X.w) X.A (setFlight e none) (fun _ s3=>wpAny (model X.prog X.w) X.A (handleBy e X.env (.ExceptHandler (some (.Name c np)) (some n) (b0::suite) hpos::rest)) (SP X pins D) X.xe s3) X.xe s2) X.xe s1:=by
 obtain⟨a,cls,a0,Hn,B,rfl,os,bare,un,hok,hn,c0,c1,c2,fl,qe⟩:=hx
 obtain⟨C,rfl,exm,go⟩:=k a cls Hn rfl qe hn
 have J:=fun h1 st sl=>land_inv (h1:=h1) I os bare un hok c0 c1 c2 st sl
 have hfr:X.A.frames=some (X.env::X.outer):=by rw [<- stk];exact I.ok.frames
 rw [stk] at fl
 refine wpAny_looks_onW hfr frm fl fun h4 held4 sl4=>?_
 refine wpAny_landsW held4 fun h5 fl5 sl5=>?_
 have sl5:=sl4.trans sl5
 have I5:=J h5 fl5.1 sl5
 refine wpAny_handleBy_cons (codeAny_handlers_test (ld_glob (suite_inv I5 (.ref a)) gl mgc ?_ hdb)) (by intro z;cases z)
 obtain⟨ob,hob,hobc⟩:=fl5.there
 have LT:PySem.W.Looks (model X.prog X.w) h5 (typeOf (.ref a)) (.ref C):=by rw [<- hobc];exact (PySem.W.Looks.ld hob).andThen .now
 refine (PySem.W.exm_one (M:=model X.prog X.w) I5.kIn LT exm).here ?_
 rw [if_pos rfl]
 refine codeAny_handlers_suite_as (lands_againW fl5 fun h6 fl6 sl6=>?_)
 have I6:=J h6 fl6.1 (sl5.trans sl6)
 obtain⟨oe,vs,T,oT,tvs,he,⟨hcls,_⟩,hd,_⟩:=fl6.2.2.2
 have notFr:a ∉ frs X.stack:=fun z=>by
  rw [stk] at z
  obtain⟨_,o,ho,nf⟩:=fl6.2.2.1.mem z
  rw [he] at ho;cases ho
  exact nf vs hd
 have notS:s.heap.get? a=none:=by
  cases q:s.heap.get? a with
  | none=>rfl
  | some o=>
   obtain⟨o',z⟩:=c0 a o q notFr
   rw [fl6.2.1] at z;cases z
 have not0:X.s₀.heap.get? a=none:=by
  cases q:X.s₀.heap.get? a with
  | none=>rfl
  | some o=>
   obtain⟨o',z⟩:=I.base.there a o q (by rw [ex];simp)
   rw [notS] at z;cases z
 have I7:=inv_track (u:=.ext (isExc a C)) I6 not0 hn (fun z=>notFr (by rw [stk,z];exact List.mem_filterMap.mpr ⟨X.env,.head _,frm⟩)) (fun x c' q z=>by
   obtain⟨v,o,ho,hv⟩:=I6.cell x c' q
   rw [z,he] at ho;cases ho
   rw [hd] at hv;cases hv) (fun p hp z=>by
   have:=(I.pin p hp).1
   rw [z,notS] at this;cases this) ⟨⟨oe,he,hcls⟩,⟨oe,he⟩,fun h1 h2 ⟨o,q1,q2⟩ st=>⟨o,st o q1,q2⟩⟩
 refine store_ok2 I7 hN hi (.inl hl) (v:=.ref a) (u:=.ref a) rfl (fun s8 I8 _=>?_) (.inr hl)
 refine wpAny_mono (hb (.ref a) pins s8 _ _ _ (suite_inv I8 (.ref a)) go) (fun f s9 h9=>?_) fun _ _ z=>z.elim
 have hp:(X.env.scope.kind == .class || (X.env.scope.kind == .module && X.env.locals != X.env.globals))=false:=by rw [I.ok.kind];rfl
 have fin:∀{σ2:L2.St}{H2:Hp},Inv (suiteX X (.ref a)) pins σ2 H2 s9->(∀s10,Inv X pins (σ2.set i none) H2 s10->SP X pins D f s10)->wpAny (model X.prog X.w) X.A (do bindName X.env n .none;unbindBehindTheSuite X.env n hpos) (fun _ s10=>SP X pins D f s10) X.xe s9:=fun I9 k9=>by
  have I9:=suite_back I.ok I9
  obtain⟨m,hm,hlook⟩:=id I9.loc
  exact wpAny_nameGoes_keeps hl hm hp fun h' v hn' hs=>k9 _ (inv_gone I9 hN hi hlook hn' hs)
 cases f with
 | next=>obtain⟨σ2,H2,I9,q⟩:=h9;exact fin I9 fun s10 I10=>⟨_,_,I10,q⟩
 | brk=>obtain⟨σ2,H2,I9,q⟩:=h9;exact fin I9 fun s10 I10=>⟨_,_,I10,q⟩
 | cont=>obtain⟨σ2,H2,I9,q⟩:=h9;exact fin I9 fun s10 I10=>⟨_,_,I10,q⟩
 | ret u=>obtain⟨v,σ2,H2,I9,r,q⟩:=h9;exact fin I9 fun s10 I10=>⟨v,_,_,I10,r,q⟩
end
end Ev
namespace Ev
open PySem PySem.Spec PyProof.Rows L2
noncomputable abbrev EX:=Lc->Sto->Option (Str×Lc×Sto)
noncomputable abbrev GX:=List D->Sto->Option (Str×Sto)
noncomputable def FliesOn (X:Cx) (c:Str) (σ:L2.St) (H:Hp):Prop:=∀C,PySem.W.nsIn X.K mainGlobals c=some (some (.ref C)) ->
 ∀(pins:List (Addr×Obj)) (H0:Hp) (s:Shared) (E:XK) (e:Value) (s':Shared),Inv X pins σ H0 s->CXf X.prog X.w X.stack H0 s E e s'->(∀cls H1,E cls none H1->cls=.ref C/\H1=H)->X.xe e s'
noncomputable def Flies (X:Cx) (c:Str) (σ:L2.St) (H:Hp):Prop:=(∀C,PySem.W.nsIn X.K mainGlobals c=some (some (.ref C)) ->
 ∀(pins:List (Addr×Obj)) (s:Shared) (h1:Heap) (e:Addr) (vs:List Value),Inv X pins σ H s->Heap.MadeExcOf s.heap h1 e (.ref C) vs->X.xe (.ref e) { s with heap:=h1 })/\FliesOn X c σ H
noncomputable def tX (X:Cx) (f:EX):TS:=fun _ σ H=>∃F m L S c L' S',Rel X.K F H m S/\RL X.K F H m σ L/\f L S=some (c,L',S')/\∀σ' F' m' H',Stp F m H F' m' H'->Rel X.K F' H' m' S'->RL X.K F' H' m' σ' L'->Flies X c σ' H'
noncomputable def tXE (X:Cx) (f:EX):TE:=fun σ H _=>∃F m L S c L' S',Rel X.K F H m S/\RL X.K F H m σ L/\f L S=some (c,L',S')/\∀σ' F' m' H',Stp F m H F' m' H'->Rel X.K F' H' m' S'->RL X.K F' H' m' σ' L'->FliesOn X c σ' H'
noncomputable def tXo (X:Cx) (f:EX):TS:=fun _ σ H=>tXE X f σ H fun _ _=>True
noncomputable def xNo:EX:=fun _ _=>none
noncomputable def xSeq (f0:ES) (f g:EX):EX:=fun L S=>match f0 L S with
 | some (.nx,L1,S1)=>g L1 S1
 | some _=>none
 | none=>f L S
noncomputable def xIfX (c:EB) (f g:EX):EX:=fun L S=>bnd (c L S) fun k S1=>if k=true then f L S1 else g L S1
noncomputable def xForGo (g:TGv) (b:ES) (bx:EX):List P->Lc->Sto->Option (Str×Lc×Sto)
 | [],_,_=>none
 | v::r,L,S=>match g v L with
  | none=>none
  | some L1=>match b L1 S with
   | some (.nx,L2,S2)=>xForGo g b bx r L2 S2
   | some (.ct,L2,S2)=>xForGo g b bx r L2 S2
   | some _=>none
   | none=>bx L1 S
noncomputable def xFor (it:EVs) (g:TGv) (b:ES) (bx:EX):EX:=fun L S=>bnd (it L S) fun xs S1=>xForGo g b bx xs L S1
noncomputable def xRaise (c:Str):EX:=fun L S=>some (c,L,S)
noncomputable def xCallX (gx:GX) (a:EDs):EX:=fun L S=>bnd (a L S) fun ds S1=>(gx ds S1).map fun z=>(z.1,L,z.2)
section
variable {X:Cx}{st:Stmt}{rest bs cs:List Stmt}{e:Expr}{es:List Expr}{pos:Pos}{f0:ES}{f g:EX}{qa:EB}
theorem xsNo:PSs X rest (tX X xNo):=fun _ _ _ _ _ _ ⟨_,_,_,_,_,_,_,_,_,q,_⟩=>nomatch q
theorem x1No:PS X st (tX X xNo):=fun _ _ _ _ _ _ ⟨_,_,_,_,_,_,_,_,_,q,_⟩=>nomatch q
theorem xsCons (h0:PS X st (tSt X.K f0)) (h1:PS X st (tX X f)) (h2:PSs X rest (tX X g)):PSs X (st::rest) (tX X (xSeq f0 f g)):=fun pins s σ H D I hz=>by
 obtain⟨F,m,L,S,c,L',S',r,l,q,k⟩:=hz
 unfold xSeq at q
 split at q
 ·rename_i L1 S1 e0
  exact pss_cons h0 h2 pins s σ H D I ⟨F,m,L,S,.nx,L1,S1,r,l,e0,fun σ1 F1 m1 H1 s1 r1 l1=>⟨F1,m1,L1,S1,c,L',S',r1,l1,q,fun σ2 F2 m2 H2 s2 r2 l2=>k σ2 F2 m2 H2 (s1.trans s2) r2 l2⟩⟩
 ·cases q
 ·exact pss_cons h1 (pss_never (X:=X)) pins s σ H D I ⟨F,m,L,S,c,L',S',r,l,q,k⟩
theorem xsOne (h1:PS X st (tX X f)):PSs X [st] (tX X f):=pss_one h1
theorem x1If {c:Expr} (hc:PT X c (tQ X.K qa)) (ha:PSs X bs (tX X f)) (hb:PSs X cs (tX X g)):PS X (.If c bs cs pos) (tX X (xIfX qa f g)):=(ps_if hc ha hb).imp' fun D σ H hz=>by
 obtain⟨F,m,L,S,c,L',S',r,l,q,k⟩:=hz
 obtain⟨b,S1,e1,q⟩:=bnd_eq q
 refine⟨F,m,L,S,b,S1,r,l,e1,fun F' m' H' s r'=>?_⟩
 cases b with
 | true=>rw [if_pos rfl] at q ⊢;exact⟨F',m',L,S1,c,L',S',r',l.mono s,q,fun σ2 F2 m2 H2 s2 r2 l2=>k σ2 F2 m2 H2 (s.trans s2) r2 l2⟩
 | false=>rw [if_neg Bool.false_ne_true] at q ⊢;exact⟨F',m',L,S1,c,L',S',r',l.mono s,q,fun σ2 F2 m2 H2 s2 r2 l2=>k σ2 F2 m2 H2 (s.trans s2) r2 l2⟩
theorem pss_or {t u:TS} (h1:PSs X rest t) (h2:PSs X rest u):PSs X rest (fun D σ H=>t D σ H\/u D σ H):=fun pins s σ H D I h=>h.elim (h1 pins s σ H D I) (h2 pins s σ H D I)
theorem x1For {tg iter:Expr}{fi:EVs}{g:TGv}{body:List Stmt}{fb:ES}{fx:EX} (hp:PassesOwn (model X.prog X.w) X.A X.env X.xe) (hc:X.calm=true) (hi:PI X tg iter (tI X.K fi)) (hg:PG X tg (gT X.K g)) (hb:PSs X body (tSt X.K fb)) (hx:PSs X body (tX X fx))
  (hs:∀x,foldedSetIterable iter X.env x=pure x:=by intro _;rfl):PS X (.For tg iter body [] pos) (tX X (xFor fi g fb fx)):=
 (ps_for hp hc hi hg (pss_or hb hx) hs).imp' fun D σ H hz=>by
  obtain⟨F,m,L,S,c,L',S',r,l,q,k⟩:=hz
  obtain⟨vs,S1,e1,q⟩:=bnd_eq q
  refine⟨F,m,L,S,vs,S1,r,l,e1,fun J F1 m1 H1 s1 r1 it=>?_⟩
  refine⟨fun i n σ2 H2=>n=vs.length-i/\i≤vs.length/\∃F2 m2 L2 S2,Stp F1 m1 H1 F2 m2 H2/\Rel X.K F2 H2 m2 S2/\RL X.K F2 H2 m2 σ2 L2/\xForGo g fb fx (vs.drop i) L2 S2=some (c,L',S'),
   ⟨vs.length,rfl,Nat.zero_le _,F1,m1,L,S1,.refl,r1,l.mono s1,by rw [List.drop_zero];exact q⟩,?_⟩
  rintro i n σ2 H2 ⟨rfl,hi,F2,m2,L2,S2,s2,r2,l2,q2⟩
  obtain⟨go,_⟩:=it F2 m2 H2 s2
  by_cases hlt:i < vs.length
  ·right
   have hv:vs[i]? = some vs[i]:=by simp [hlt]
   rw [List.drop_eq_getElem_cons hlt] at q2
   obtain⟨hgo,hy⟩:=go i _ hv
   refine⟨hgo,fun σ3 H3=>∃n',n' < vs.length-i/\(n'=vs.length-(i+1)/\i+1≤vs.length/\∃F2 m2 L2 S2,Stp F1 m1 H1 F2 m2 H3/\Rel X.K F2 H3 m2 S2/\RL X.K F2 H3 m2 σ3 L2/\xForGo g fb fx (vs.drop (i+1)) L2 S2=some (c,L',S')),fun _ _ z=>z,fun x H3 y=>?_⟩
   obtain⟨F3,gr,p3⟩:=hy x H3 y
   unfold xForGo at q2
   cases eg:g vs[i] L2 with
   | none=>rw [eg] at q2;cases q2
   | some L3=>
    rw [eg] at q2
    dsimp only at q2
    refine⟨F3,m2,L2,vs[i],L3,l2.mono gr.stp,p3,eg,fun σ3 l3=>?_⟩
    have s3:Stp F1 m1 H1 F3 m2 H3:=s2.trans gr.stp
    have r3:=r2.grow gr
    cases eb:fb L3 S2 with
    | none=>
     rw [eb] at q2
     exact .inr ⟨F3,m2,L3,S2,c,L',S',r3,l3,q2,fun σ4 F4 m4 H4 s4 r4 l4=>k σ4 F4 m4 H4 (s1.trans (s3.trans s4)) r4 l4⟩
    | some z=>
     obtain⟨flb,L4,S4⟩:=z
     rw [eb] at q2
     refine .inl ⟨F3,m2,L3,S2,flb,L4,S4,r3,l3,eb,fun σ4 F4 m4 H4 s4 r4 l4=>?_⟩
     cases flb with
     | nx=>exact⟨vs.length-(i+1),by omega,rfl,hlt,F4,m4,L4,S4,s3.trans s4,r4,l4,q2⟩
     | ct=>exact⟨vs.length-(i+1),by omega,rfl,hlt,F4,m4,L4,S4,s3.trans s4,r4,l4,q2⟩
     | bk=>cases q2
     | rt d=>cases q2
  ·have e:i=vs.length:=by omega
   subst e
   rw [List.drop_length] at q2
   cases q2
noncomputable abbrev mroV:List Value:=[.type "ValueError",.type "Exception",.type "BaseException",.type "object"]
theorem exc_obj {K:PySem.W.Frag}{h:Heap}{C:Addr}{newId:String}{bmB:List Value} (kin:K.In h) (q:PySem.W.excIn K C bmB newId=true):∃tl N nm qn bs hd sn sub ab col dd k0 k1 k2 k3 k5 mN,
  h.get? C=some (excClassObj nm qn C N bs tl hd sn sub ab col dd k0 k1 k2 k3 k5 newId)/\h.Ns N mN/\mN "__init__"=none/\OwnTail h bmB tl:=by
 revert q
 unfold PySem.W.excIn
 split
 ·next dd cd sl look=>
  split
  ·next C' tl k0 k1 k2 k3 nid k5 emro esl=>
   intro q
   rw [Bool.and_eq_true,Bool.and_eq_true,Bool.and_eq_true,Bool.and_eq_true,Bool.and_eq_true] at q
   obtain⟨⟨⟨⟨⟨q1,q2⟩,q3⟩,q4⟩,q5⟩,q6⟩:=q
   have i1:=eq_of_beq q1
   have i2:=eq_of_beq q2
   have i6:=eq_of_beq q6
   subst i1 i2
   have isl:sl=#[k0,k1,k2,k3,some (.builtin nid),k5]:=Array.toList_inj.mp esl
   subst isl
   cases cd with
   | mk nm bs mro ns qn hd sn sub ab col del=>
    cases del with
    | true=>cases q3
    | false=>
     cases (show mro=.ref C'::tl from emro)
     exact⟨tl,ns,nm,qn,bs,hd,sn,sub,ab,col,dd,k0,k1,k2,k3,k5,_,kin _ _ look,.of_isNs (PySem.W.isNs_of_in kin q5),PySem.W.nsMap_none_of_in kin q5 i6,PySem.W.tail_of_in kin q4⟩
  ·exact fun q=>nomatch q
 ·exact fun q=>nomatch q
theorem x1Raise {c:Str}{C:Addr}{np cpos:Pos} (calm:X.calm=true) (gl:Gl X c) (ns:PySem.W.nsIn X.K mainGlobals c=some (some (.ref C))) (mgc:X.mg c=some (.ref C)) (q:PySem.W.excIn X.K C mroV "ValueError.__new__"=true) (hdb:(c == ("__debug__":Str))=false) :
  PS X (.Raise (some (.Call (.Name c np) [] [] cpos)) none pos) (tX X (xRaise c)):=fun pins s σ H D I hz=>by
 obtain⟨F,m,L,S,c',L',S',r,l,q',k⟩:=hz
 cases q'
 have go:=(k σ F m H .refl r l).1 C ns
 obtain⟨tl,N,nm,qn,bs,hd,sn,sub,ab,col,dd,k0,k1,k2,k3,k5,mN,hC,hN,hni,T⟩:=exc_obj I.kIn q
 exact wpAny_Raise_call_subT (C:=C) (nm:=nm) (q:=qn) (N:=N) (bs:=bs) (bm:=tl) (hdct:=hd) (sn:=sn) (sub:=sub) (ab:=ab) (col:=col) (dd:=dd) (k0:=k0) (k1:=k1) (k2:=k2) (k3:=k3) (k5:=k5) PySem.F.excBase_ValueError (mN:=mN)
  (T.hasType PySem.F.excBase_ValueError.hasBase) (I.ok.hd calm) rfl hni (ld_glob I gl mgc ⟨rfl,evalArgs_empty ⟨rfl,Nat.zero_le _,hC,hN,T,fun h1 e hm=>go pins s h1 e [] I hm⟩⟩ hdb)
noncomputable def spE (K:PySem.W.Frag) (gx:GX):Sp:=fun vs H _ E=>∃F m ds S c S',Rel K F H m S/\RDs K F H m ds vs/\gx ds S=some (c,S')/\∀F' m' H',Stp F m H F' m' H'->Rel K F' H' m' S'->∃C,PySem.W.nsIn K mainGlobals c=some (some (.ref C))/\E (.ref C) none H'
noncomputable def clsX (K:PySem.W.Frag) (gx:GX):Prop:=∀ds S c S',gx ds S=some (c,S')->∃C,PySem.W.nsIn K mainGlobals c=some (some (.ref C))
theorem xeCall {fa:Addr}{fd:FuncData}{ps:List Str}{k:Nat}{x:Str}{p:Pos}{gx:GX}{fs:EDs} (G:FnOk X.prog X.w X.K X.mg X.base (CXf X.prog X.w) k fa fd ps (spE X.K gx)) (cl:clsX X.K gx) (hr:Room k X.A) (hg:Gl X x) (hm:X.mg x=some (.ref fa)) (hk:PySem.W.keepIn X.K (.ref fa)=true) (hb:Binds X.K fd ps [])
  (ha:PA X (e::es) (tDs X.K fs)) (hdb:(x == ("__debug__":Str))=false) (he:starEach (e::es) X.env=(false,eval e X.env)::starEach es X.env) (hpl:(backTo pos (starEach es X.env)).any (·.1)=false) :
  PE X (.Call (.Name x p) (e::es) [] pos) (tXE X (xCallX gx fs)):=fun pins s σ H Q I hz=>by
 obtain⟨F,m,L,S,c,L',S',r,l,q,kk⟩:=hz
 obtain⟨ds,S1,e1,q⟩:=bnd_eq q
 obtain⟨⟨c1,S2⟩,eg,q⟩:=Option.map_eq_some_iff.mp q
 cases q
 obtain⟨C,ns⟩:=cl ds S1 c1 S2 eg
 refine wpAny_Call_Name_kw (ld_glob I hg hm ?_ hdb)
 refine PySem.W.callWith_K (h₀:=X.base) I.ok.mod.kin hk (thn (ha pos pins s σ H (fun vs H1=>spE X.K gx vs H1 Q (fun cls _ H2=>cls=.ref C/\FliesOn X c1 σ H2)) I ⟨F,m,L,S,ds,S1,r,l,e1,fun xs F' m' H' s' r' p'=>⟨F',m',ds,S1,c1,S2,r',p',eg,fun F2 m2 H2 s2 r2=>⟨C,ns,rfl,kk σ F2 m2 H2 (s'.trans s2) r2 (l.mono (s'.trans s2))⟩⟩⟩) fun us s1 hz=>?_) he hpl
 obtain⟨vs,H1,I1,rv,q1⟩:=hz
 refine⟨I1.kIn,?_⟩
 have hl:us.length=ps.length:=by rw [<- rv.length];exact G.len _ _ _ _ q1
 refine wpAny_call (codeAny_mono (G.run X.A X.stack s1 H1 ⟨us,[]⟩ us vs Q _ hr I1.env0 (by have:=hb s1 us I1.kIn (by simpa using hl);simpa using this) rv q1) fun r2 s2 hq=>?_)
 cases r2 with
 | error ev=>
  obtain⟨a,cls,a0,H',B,rfl,os,bare,un,hok,hn,c0,c1',c2,fl,rfl,qe⟩:=hq
  exact qe C ns pins H1 s1 (fun cls _ H2=>cls=.ref C/\H2=H') _ s2 I1 ⟨a,.ref C,a0,H',B,rfl,os,bare,un,hok,hn,c0,c1',c2,fl,rfl,rfl⟩ fun cls H2 z=>z
 | ok fl=>
  cases fl with
  | ret u=>exact I1.after hq
  | next=>exact False.elim hq
  | brk=>exact False.elim hq
  | cont=>exact False.elim hq
theorem tX_o {D:Ends}{σ:L2.St}{H:Hp} (h:tX X f D σ H):tXo X f D σ H:=by
 obtain⟨F,m,L,S,c,L',S',r,l,q,k⟩:=h
 exact⟨F,m,L,S,c,L',S',r,l,q,fun σ' F' m' H' s r l=>(k σ' F' m' H' s r l).2⟩
theorem x1Expr (h:PE X e (tXE X f)) (hs:swapsWith e none pos.line X.env=pure false):PS X (.Expr e pos) (tXo X f):=(ps_expr h hs).imp' fun _ _ _ z=>z
theorem x1Set (i:Nat) {x:Str}{pos':Pos} (hN:X.N.Nodup) (h:PE X e (tXE X f)) (hi:X.N[i]? = some x) (hx:Loc X.env.scope x) (hs:swapsWith e (some (.Name x pos')) pos.line X.env=pure false) (hf:X.fn x=true\/X.env.scope.names.lookup x=some .local):PS X (.Assign [.Name x pos'] e pos) (tXo X f):=
 (ps_set hN hi hx h hs hf).imp' fun _ _ _ z=>z
end
noncomputable def fnX (np nn:Nat) (b:EX):GX:=fun ds S=>if ds.length=np then (b (ds.map some++List.replicate (nn-ds.length) none) S).map fun z=>(z.1,z.2.2) else none
theorem fn_okX {Pg:Program}{w:World}{K:PySem.W.Frag}{mg:Str->Option Value}{base:Heap}{x qual:Str}{st:Stmt}{f:Addr}{fd:FuncData}{N ps:List Str}{k:Nat}{b:EX} (F:Fun K x qual st f fd) (S:FnScope N ps (defScope st)) (rd:∀{F:Addr->Prop}{H:Hp}{m:List Addr}{ds:List D}{vs:List V},RDs K F H m ds vs->RL K F H m (L2.start N vs) (ds.map some++List.replicate (N.length-ds.length) none))
  (hb:∀(cdv:Value) (A:Around) (outer:List Env) (s:Shared) (H:Hp) (E:XK),Room k (A.deeper (envOfC qual (defScope st) s.heap.objs.size f cdv)) ->
   PSs (cxOf (CXf Pg w) Pg w K mg base N qual (defScope st) f cdv A outer s H E) (defBody st) (tX (cxOf (CXf Pg w) Pg w K mg base N qual (defScope st) f cdv A outer s H E) b)):FnOk Pg w K mg base (CXf Pg w) (k+1) f fd ps (spE K (fnX ps.length N.length b)):=by
 obtain⟨oc,od,kV,doc,pm,an,cdv,ct,osl,rfl,lk,hcd⟩:=F.ex
 refine fn_of lk hcd S (fun vs H Q E h=>?_) fun A outer s H vs Q E hr h=>⟨_,hb cdv A outer s H E hr,?_⟩
 ·obtain⟨F,m,ds,S,c,S',rl,r,q,kk⟩:=h
  rw [<- r.length]
  unfold fnX at q
  split at q
  ·assumption
  ·cases q
 ·obtain⟨F,m,ds,S,c,S',rl,r,q,kk⟩:=h
  unfold fnX at q
  split at q
  ·obtain⟨⟨c1,L1,S1⟩,eb,q⟩:=Option.map_eq_some_iff.mp q
   cases q
   refine⟨F,m,_,S,c1,L1,S1,rl,rd r,eb,fun σ' F' m' H' s' r' l'=>?_⟩
   obtain⟨C',ns',qe⟩:=kk F' m' H' s' r'
   have lv:Leaves (cxOf (CXf Pg w) Pg w K mg base N qual (defScope st) f cdv A outer s H E) E:=⟨rfl,rfl,rfl,rfl⟩
   refine⟨fun C ns pins s1 h1 e vs I hx=>?_,fun C ns pins H0 s1 E1 e s2 I hx hE=>leave_on lv I hx fun cls H1 z=>?_⟩
   ·cases (show some (some (Value.ref C))=some (some (Value.ref C')) from ns.symm.trans ns')
    exact leave_new lv I hx qe
   ·cases (show some (some (Value.ref C))=some (some (Value.ref C')) from ns.symm.trans ns')
    obtain⟨rfl,rfl⟩:=hE cls H1 z
    exact qe
  ·cases q
end Ev
namespace Ev
open PySem PySem.Spec PyProof.Rows L2
noncomputable def sTry (f0:ES) (fx:EX) (sub:Str->Bool) (i:Nat) (g:ES):ES:=fun L S=>match f0 L S with
 | some z=>some z
 | none=>match fx L S with
  | some (c,L1,S1)=>if sub c=true then (match g (L1.set i (some (.ref S1.length))) (S1++[.exc c]) with
   | some (fl,L2,S2)=>some (fl,L2.set i none,S2)
   | none=>none) else none
  | none=>none
section
variable {X:Cx}
theorem RL.clr {K:PySem.W.Frag}{F:Addr->Prop}{H:Hp}{m:List Addr}{σ:L2.St}{L:Lc} (h:RL K F H m σ L) (i:Nat):RL K F H m (σ.set i none) (L.set i none):=⟨by rw [List.length_set,List.length_set];exact h.len,fun j d q=>by
 by_cases hj:i=j
 ·subst hj
  by_cases hi:i < L.length
  ·rw [List.getElem?_set_self hi] at q;cases q
  ·rw [List.getElem?_eq_none (by rw [List.length_set];omega)] at q;cases q
 ·rw [List.getElem?_set_ne hj] at q
  rw [List.getElem?_set_ne hj]
  exact h.at' j d q⟩
noncomputable abbrev moreX (X:Cx) (E:Value->Shared->Prop) (pn:List (Addr×Obj)):Cx:={ X with xe:=E,pn:=pn }
theorem zTryX {body:List Stmt}{c n:Str}{C2:Addr}{i:Nat}{b0:Stmt}{suite:List Stmt}{np hpos pos:Pos}{f0 g:ES}{fx:EX}{sub:Str->Bool} (stk:X.stack=X.env::X.outer) (frm:X.env.frame=some X.env.locals) (ex:X.ex=[]) (hN:X.N.Nodup)
  (gl:Gl X c) (mgc:X.mg c=some (.ref C2)) (hdb:(c == ("__debug__":Str))=false) (hi:X.N[i]? = some n) (hl:X.env.scope.names.lookup n=some .local)
  (h0:∀E pn,PSs (moreX X E pn) body (tSt X.K f0)) (hx:∀E pn,PSs (moreX X E pn) body (tXo (moreX X E pn) fx)) (hg:∀e,PSs (suiteX X e) (b0::suite) (tSt X.K g))
  (hs:∀c' C,sub c'=true->PySem.W.nsIn X.K mainGlobals c'=some (some (.ref C))->PySem.W.exmOne X.K (.ref C) (.ref C2)=some true) :
  PS X (.Try body [.ExceptHandler (some (.Name c np)) (some n) (b0::suite) hpos] [] [] pos) (tSt X.K (sTry f0 fx sub i g)):=fun pins s σ H D I hz=>by
 obtain⟨F,m,L,S,fl,L',S',r,l,q,k⟩:=hz
 unfold sTry at q
 split at q
 ·rename_i z e0
  cases q
  refine wpAny_Try_except (wpAny_mono (h0 (fun _ _=>False) X.pn pins s σ H D (I.wish _) ⟨F,m,L,S,fl,L',S',r,l,e0,k⟩) (fun f s1 h1=>?_) fun _ _ z=>z.elim)
  have h1:=SP.unwish (X:=X) (E:=fun _ _=>False) h1
  cases f with
  | next=>exact wpAny_pure h1
  | _=>exact h1
 ·split at q
  ·rename_i c' L1 S1 e1
   split at q
   ·rename_i hsub
    split at q
    ·rename_i fl2 Lg Sg eg
     cases q
     have IX:∀{E:Value->Shared->Prop}{pins2:List (Addr×Obj)}{σ2:L2.St}{H2:Hp}{s2:Shared},Inv (moreX X E (X.pn++pins)) pins2 σ2 H2 s2->Inv X pins σ2 H2 s2:=fun I2=>
      ⟨⟨I2.ok.mod,I2.ok.kind,I2.ok.glob,I2.ok.blt,I2.ok.above,I2.ok.inj,I2.ok.has,I2.ok.cab,I2.ok.hd,I2.ok.frames,I2.ok.stk,I2.ok.exf,I2.ok.bs,I2.ok.bsz,I2.ok.noex,I2.ok.exfs,I2.ok.funs,I2.ok.frf⟩,I2.os,I2.bare,I2.base,I2.loc,I2.cell,I2.free,I2.freeC,fun p hp=>I2.pin p (List.mem_append_left _ hp),I2.hok,I2.len⟩
     have XI:∀E:Value->Shared->Prop,Inv (moreX X E (X.pn++pins)) [] σ H s:=fun E=>
      ⟨⟨I.ok.mod,I.ok.kind,I.ok.glob,I.ok.blt,I.ok.above,I.ok.inj,I.ok.has,I.ok.cab,I.ok.hd,I.ok.frames,I.ok.stk,I.ok.exf,I.ok.bs,I.ok.bsz,I.ok.noex,I.ok.exfs,I.ok.funs,I.ok.frf⟩,I.os,I.bare,I.base,I.loc,I.cell,I.free,I.freeC,fun p hp=>I.pin p ((List.mem_append.mp hp).elim id fun z=>nomatch z),I.hok,I.len⟩
     refine wpAny_Try_except (wpAny_mono (hx _ (X.pn++pins) [] s σ H ⟨fun _ _=>False,fun _ _=>False,fun _ _=>False,fun _ _=>False⟩ (XI _) ⟨F,m,L,S,c',L1,S1,r,l,e1,fun σ1 F1 m1 H1 s1 r1 l1 C ns pins2 H2 s2 E e s3 I2 hc hE=>?_⟩) (fun f s1 h1=>?_) fun e s1 h1=>h1)
     ·refine catch_on (D:=D) (ts:=fun _=>tSt X.K g) stk frm ex hN (IX I2) hc gl mgc hdb hi hl hg fun a cls Hn he qe hn=>?_
      obtain⟨rfl,rfl⟩:=hE cls Hn qe
      have r5:Rel X.K F1 (upd Hn a (.ext (isExc a C))) (m1++[a]) (S1++[.exc c']):=Rel.own (K:=X.K) (so:=.exc c') r1 hn ⟨C,ns,upd_same⟩
      have s5:Stp F1 m1 Hn F1 (m1++[a]) (upd Hn a (.ext (isExc a C))):=stp_own hn
      have l5:RL X.K F1 (upd Hn a (.ext (isExc a C))) (m1++[a]) (σ1.set i (some (.ref a))) (L1.set i (some (.ref S1.length))):=RL.set (RL.mono s5 (show RL X.K F1 Hn m1 σ1 L1 from l1)) (d:=.ref S1.length) ⟨a,rfl,by rw [<- r1.len];simp⟩ i
      refine⟨C,rfl,hs c' C hsub ns,F1,m1++[a],L1.set i (some (.ref S1.length)),S1++[.exc c'],fl,Lg,S',r5,l5,eg,fun σ4 F4 m4 H4 s4 r4 l4=>?_⟩
      have fin:=k (σ4.set i none) F4 m4 H4 (s1.trans (s5.trans s4)) r4 (l4.clr i)
      cases fl with
      | nx=>exact fin
      | bk=>exact fin
      | ct=>exact fin
      | rt d=>exact fin
     ·cases f with
      | next=>obtain⟨_,_,_,z⟩:=h1;exact z.elim
      | brk=>obtain⟨_,_,_,z⟩:=h1;exact z.elim
      | cont=>obtain⟨_,_,_,z⟩:=h1;exact z.elim
      | ret u=>obtain⟨_,_,_,_,_,z⟩:=h1;exact z.elim
    ·cases q
   ·cases q
  ·cases q
end
end Ev
namespace Ev
open PySem PySem.Spec PyProof.Rows L2
open PySem.W (Looks)
open PySem.Builtin PySem.Builtin.ObjectAttr PySem.Builtin.Getset_descriptor
section
variable {prog:Program}{w:World}{A:Around}{E:Value->Shared->Prop}{s:Shared}{K:PySem.W.Frag}{a C:Addr}
theorem shown_class {R:Result->Shared->Prop}{tp:Value} (T:Looks (model prog w) s.heap (typeOf (.ref a)) (.ref C)) (sub:Looks (model prog w) s.heap (isSubtype (.ref C) (.type "object")) true) (go:R (.ok (.ret (.ref C))) s) :
  codeAny (model prog w) A (.call (.builtin "getset_descriptor.__get__") ⟨[.builtin "object.__class__",.ref a,tp],[]⟩) R s:=by
 have told:∀B:Around,wpAny (model prog w) B (Builtin.«object.__class__» ⟨[.ref a],[]⟩) (fun f u=>f=.done (.ret (.ref C))/\u=s) (fun _ _=>False) s:=fun B=>by
  obtain⟨hp,g,d,t,os⟩:=s
  simp only [Builtin.«object.__class__»,shownTypeOf]
  repeat lk
  exact⟨rfl,rfl⟩
 have kind:∀B:Around,wpAny (model prog w) B (descrCheckInstance (.builtin "object.__class__") (.ref a)) (fun _ u=>u=s) (fun _ _=>False) s:=fun B=>by
  obtain⟨hp,g,d,t,os⟩:=s
  simp only [descrCheckInstance,descrNameAndClass,isInstance,PySem.W.KF.owner_class]
  repeat lk
 obtain⟨q1,q2⟩:=And.intro PySem.W.KF.slot_gs PySem.W.KF.entry_gs
 refine codeAny_call_builtin q1.plain q2 (q1.check _ _ _ _ _ _ _ _ PySem.W.KF.type_class (PySem.W.KF.args_gs _ _ _) ?_)
 simp only [Builtin.«getset_descriptor.__get__»,descrGet,PySem.W.dga_obj,descrGetter]
 refine wpAny_bind (wpAny_pure (wpAny_bind (wpAny_mono (kind _) (fun _ u e=>?_) fun _ _ z=>z.elim)))
 subst e
 refine wpAny_pure ⟨Code.quiet_builtin (id:="object.__class__") _ (by decide +kernel),codeAny_builtin PySem.W.KF.entry_class (wpAny_mono (told _) (fun f u e=>?_) fun _ _ z=>z.elim)⟩
 obtain⟨rfl,rfl⟩:=e
 exact go
structure ExcCl (K:PySem.W.Frag) (C:Addr):Prop where
 get:PySem.W.findIn K (.ref C) "__getattribute__"=some (some (.builtin "BaseException.__getattribute__"))
 hook:PySem.W.findIn K (.ref C) "__getattr__"=some none
 cls:PySem.W.findIn K (.ref C) "__class__"=some (some (.builtin "object.__class__"))
 by':PySem.W.specialIn K (.builtin "object.__class__") "__get__"=some (some (.builtin "getset_descriptor.__get__"))
 dat:PySem.W.takesIn K (.builtin "object.__class__")=some true
 obj:PySem.W.mroIn K C (.type "object")=some true
 bas:PySem.W.mroIn K C (.type "BaseException")=some true
 isC:(PySem.W.clsIn K C).isSome=true
theorem exc_attr {Q:Option Value->Shared->Prop} (F:ExcCl K C) (kin:K.In s.heap) (T:Looks (model prog w) s.heap (typeOf (.ref a)) (.ref C)) (go:Q (some (.ref C)) { s with toks:=s.toks+1 }):wpAny (model prog w) A (getAttr? (.ref a) "__class__") Q E s:=by
 have sub:=PySem.W.looks_mroIn (M:=model prog w) kin F.obj
 have bas:=PySem.W.looks_mroIn (M:=model prog w) kin F.bas
 have byType:=PySem.W.looks_findIn (M:=model prog w) kin F.get
 have noHook:=PySem.W.looks_findIn (M:=model prog w) kin F.hook
 have met:Looks (model prog w) s.heap (find (.ref a) (.ref C) "__class__") (.bind (.builtin "getset_descriptor.__get__") (.builtin "object.__class__")):=
  (PySem.W.looks_findIn kin F.cls).andThen ((show Looks (model prog w) s.heap (getOf (some (.builtin "object.__class__"))) (some (.builtin "getset_descriptor.__get__")) from PySem.W.looks_specialIn kin F.by').andThen
   ((show Looks (model prog w) s.heap (dataDescriptor? (some (.builtin "object.__class__")) (some (.builtin "getset_descriptor.__get__"))) (some (.builtin "getset_descriptor.__get__",.builtin "object.__class__")) from (PySem.W.looks_takesIn kin F.dat).andThen .now).andThen (Looks.tag .now)))
 have its:∀B:Around,∀tk:Tok,∀u:Shared,u.heap=s.heap->codeAny (model prog w) B (.call (.builtin "BaseException.__getattribute__") ⟨[.ref a,.str "__class__" tk],[]⟩) (fun r u2=>r=.ok (.ret (.ref C))/\u2=u) u:=fun B tk u hu=>by
  obtain⟨hp,g,d,t,os⟩:=u
  cases (show hp=s.heap from hu)
  have kd:builtinKind "BaseException.__getattribute__"=some .slot:=by decide +kernel
  have sp:splitId "BaseException.__getattribute__"=some ("BaseException","__getattribute__"):=by decide +kernel
  refine codeAny_call_builtin (by decide +kernel) PySem.F.entry_bexc_ga ?_
  have ar:=PySem.F.args_bexc_ga (.ref a) (.str "__class__" tk)
  simp only [checkBuiltinCall,kd,sp,isInstance]
  refine wpAny_bind (wpAny_bind (T.at (bas.at ?_)))
  simp only [Bool.not_true,Bool.false_eq_true,if_false]
  refine wpAny_of_eq ar ?_
  refine wpAny_bind (wpAny_pure (wpAny_bind (wpAny_pure (wpAny_bind (T.at (wpAny_bind (met.at ?_)))))))
  show wpAny _ _ (bindTo (.builtin "getset_descriptor.__get__") (.builtin "object.__class__") (.ref a) (.ref C)) _ _ _
  exact wpAny_bind (wpAny_holding (wpAny_call (shown_class (s:=⟨s.heap,g,d,t,os⟩) T sub (wpAny_pure ⟨rfl,rfl⟩))))
 obtain⟨hp,g,d,t,os⟩:=s
 simp only [getAttr?,getAttrBy?,getAttrBy]
 refine wpAny_bind (wpAny_mkText (wpAny_bind (wpAny_attempt (wpAny_holding (wpAny_bind (T.at (wpAny_bind (byType.at ?_))))))))
 have other:(onTheHeap (Value.ref C) && Value.builtin "BaseException.__getattribute__" == Value.builtin "object.__getattribute__")=false:=by
  rw [show (Value.builtin "BaseException.__getattribute__" == Value.builtin "object.__getattribute__")=false by decide +kernel];rfl
 simp only [other,getAttrByItsOwn,hookBefore,Bool.false_eq_true,if_false]
 refine wpAny_bind (wpAny_ite ?_)
 rw [if_pos (show onTheHeap (Value.ref C)=true from rfl)]
 refine noHook.at (wpAny_bind (wpAny_attempt (wpAny_holding ?_)))
 have bound:=PySem.F.attrBase_ValueError.ga.bind (.ref a)
 simp only [callGetattribute,boundAndCalled,Bool.false_and,Bool.false_eq_true,if_false,bound]
 refine wpAny_bind (wpAny_pure (wpAny_call (codeAny_mono (its A t ⟨hp,g,d,t+1,os⟩ rfl) fun r u e=>?_)))
 obtain⟨rfl,rfl⟩:=e
 exact PySem.W.handed_on rfl (wpAny_pure go)
end
end Ev
namespace Ev
open PySem PySem.Spec PyProof.Rows L2
section
variable {K:PySem.W.Frag}{a C:Addr}
theorem exc_ty {M:Model}{h:Heap} (p:isExc a C h):PySem.W.Looks M h (typeOf (.ref a)) (.ref C):=by
 obtain⟨o,ho,hc⟩:=p
 rw [<- hc]
 exact (PySem.W.Looks.ld ho).andThen .now
theorem kitx_exc (F:ExcCl K C) (self:PySem.W.kitCls K (.ref C) (.ref C)=some true):PySem.W.KitX K (.ref a) (.ref C) (isExc a C) where
 ty:=fun _ _ _ p=>exc_ty p
 it:=fun _ _ kin _=>(PySem.W.kit_cls kin self).2.1
 ne:=fun h tp dd its n sl kin htp=>by
  rcases hq:(Value.ref C == Value.ref tp) with _ | _
  ·rfl
  ·have same:C=tp:=by simpa using hq
   subst same
   have some1:=F.isC
   unfold PySem.W.clsIn at some1
   split at some1
   ·next look=>exact nomatch (kin _ _ look).symm.trans htp
   ·exact nomatch some1
 ca:=fun kin p go=>exc_attr F kin (exc_ty p) go
end
noncomputable def isiX (ans:Str->Option Bool):D->Sto->Option Bool
 | .p .non,_=>some false
 | .ref i,S=>match S[i]? with
  | some (.exc c)=>ans c
  | _=>none
 | _,_=>none
noncomputable def vIsiX (ans:Str->Option Bool) (f:EE):EV:=fun L S=>bnd (f L S) fun d S1=>(isiX ans d S1).map fun b=>(.bl b,S1)
noncomputable def clV:Value->Option V
 | .ref C=>some (.ref C)
 | .type T=>some (.ty T)
 | _=>none
theorem clV_eq {v:V}{u w:Value} (h:clV u=some v) (r:RelV v w):w=u:=by
 cases u <;> cases h <;> exact r
theorem clVs_eq:∀{us:List Value}{vs:List V}{ws:List Value},us.map clV=vs.map some->Vals vs ws->ws=us
 | [],vs,ws,h,r=>by
  cases vs with
  | nil=>cases r;rfl
  | cons v vs=>cases h
 | u::us,vs,ws,h,r=>by
  cases vs with
  | nil=>cases h
  | cons v vs=>
   rw [List.map_cons,List.map_cons,List.cons.injEq] at h
   cases r with
   | cons q t=>rw [clV_eq h.1 q,clVs_eq h.2 t]
structure AnsOk (K:PySem.W.Frag) (ans:Str->Option Bool) (cs:List Value):Prop where
 non:PySem.W.kitAny K (.type "NoneType") cs=some false
 exc:∀c b C,ans c=some b->PySem.W.nsIn K mainGlobals c=some (some (.ref C))->ExcCl K C/\PySem.W.kitCls K (.ref C) (.ref C)=some true/\PySem.W.kitAny K (.ref C) cs=some b
theorem kitAny_one {K:PySem.W.Frag}{t c:Value}{b:Bool} (h:PySem.W.kitAny K t [c]=some b):PySem.W.kitOne K t c=some b:=by
 simp only [PySem.W.kitAny] at h
 split at h
 ·next e=>rw [e];exact h
 ·next e=>rw [e];exact h
 ·cases h
section
variable {X:Cx}{a:Expr}{es:List Expr}{fa:EE}{p pos:Pos}{ans:Str->Option Bool}
theorem call_isiX {u:Value}{v:V} (hv:clV u=some v) (K:AnsOk X.K ans [u]) :
  CallR X (.builtin "isinstance") (fun xs H Q=>∃F m S d b x,xs=[x,v]/\Rel X.K F H m S/\RD X.K F H m d x/\isiX ans d S=some b/\Q (.bl b) H):=by
 intro pins s σ H xs us Q I r h
 obtain⟨F,m,S,d,b,x,rfl,rl,pd,ei,q⟩:=h
 obtain⟨u1,u2,rfl,ru,rv⟩:=vals2 r
 cases clV_eq hv rv
 have fin:∀tk,EP X pins σ Q (.bool b) { s with toks:=tk }:=fun tk=>⟨.bl b,H,I.tok _,rfl,q⟩
 unfold isiX at ei
 split at ei
 ·cases ei
  cases (show x=.non from pd)
  cases (show u1=Value.none from ru)
  exact PySem.W.kia_one PySem.W.kitx_none I.kIn trivial (kitAny_one K.non) (fun z=>nomatch z) fin
 ·split at ei
  ·next j c ho=>
   obtain⟨ad,rfl,hm⟩:=pd
   cases (show u1=Value.ref ad from ru)
   obtain⟨C,ns,hH⟩:=rl.obj _ ad _ hm ho
   obtain⟨f1,f2,f3⟩:=K.exc c b C ei ns
   have ob:=I.hok ad _ hH
   exact PySem.W.kia_one (kitx_exc f1 f2) I.kIn ob.1 (kitAny_one f3) (fun z=>nomatch z) fin
  ·cases ei
 ·cases ei
theorem call_isiXT {us:List Value}{vs:List V} (hv:us.map clV=vs.map some) (K:AnsOk X.K ans us) :
  CallR X (.builtin "isinstance") (fun xs H Q=>∃F m S d b x tp,xs=[x,.ref tp]/\H tp=some (.tup vs)/\Rel X.K F H m S/\RD X.K F H m d x/\isiX ans d S=some b/\Q (.bl b) H):=by
 intro pins s σ H xs ws Q I r h
 obtain⟨F,m,S,d,b,x,tp,rfl,ht,rl,pd,ei,q⟩:=h
 obtain⟨u1,u2,rfl,ru,rv⟩:=vals2 r
 cases (show u2=Value.ref tp from rv)
 obtain⟨its,rt,⟨⟨oc,od,odt,osl⟩,h1,h2,n,h3⟩,_⟩:=I.tuple (SqT.of ht)
 cases (show oc=.type "tuple" from h2)
 cases (show odt=.seq its.toArray n from h3)
 cases clVs_eq hv rt
 have fin:∀tk,EP X pins σ Q (.bool b) { s with toks:=tk }:=fun tk=>⟨.bl b,H,I.tok _,rfl,q⟩
 unfold isiX at ei
 split at ei
 ·cases ei
  cases (show x=.non from pd)
  cases (show u1=Value.none from ru)
  exact PySem.W.kia_tup PySem.W.kitx_none I.kIn trivial h1 K.non (fun z=>nomatch z) fin
 ·split at ei
  ·next j c ho=>
   obtain⟨ad,rfl,hm⟩:=pd
   cases (show u1=Value.ref ad from ru)
   obtain⟨C,ns,hH⟩:=rl.obj _ ad _ hm ho
   obtain⟨f1,f2,f3⟩:=K.exc c b C ei ns
   have ob:=I.hok ad _ hH
   exact PySem.W.kia_tup (kitx_exc f1 f2) I.kIn ob.1 h1 f3 (fun z=>nomatch z) fin
  ·cases ei
 ·cases ei
theorem yIsiX {c:Expr}{u:Value}{v:V} (hv:clV u=some v) (K:AnsOk X.K ans [u]) (hg:Gl X "isinstance") (hm:X.mg "isinstance"=none) (ha:PE X a (tE X.K fa)) (hc:PE X c (tC v)) (hs:starEach [a,c] X.env=[(false,eval a X.env),(false,eval c X.env)]) (hs2:starEach [c] X.env=[(false,eval c X.env)]) :
  PE X (.Call (.Name "isinstance" p) [a,c] [] pos) (tV X.K (vIsiX ans fa)):=
 (pe_callB (call_isiX hv K) hg hm PyProof.Rows.boot_isinstance (pa_cons ha (pa_cons hc pa_nil (by rw [hs2];rfl)) (by rw [hs,hs2])) (by decide) (by decide) (by rw [hs,hs2]) (by rw [hs2];rfl)).imp' fun σ H Q hz=>by
  obtain⟨F,m,L,S,d,S',r,l,q,k⟩:=hz
  obtain⟨x,S1,e1,q⟩:=bnd_eq q
  obtain⟨b,ei,q⟩:=Option.map_eq_some_iff.mp q
  cases q
  exact⟨F,m,L,S,_,_,r,l,e1,fun y F' m' H' s r' pp=>⟨F',m',_,x,b,y,rfl,r',pp,ei,k _ F' m' H' s r' rfl⟩⟩
theorem yIsiXT {x1:Nat}{p2:Pos}{us:List Value}{vs:List V} (hv:us.map clV=vs.map some) (hz:vs.length≤sizeLine) (K:AnsOk X.K ans us) (hg:Gl X "isinstance") (hm:X.mg "isinstance"=none) (ha:PE X a (tE X.K fa)) (hc:PA X es (fun _ H Q=>Q vs H)) (hs:starEach [a,.Tuple es x1 p2] X.env=[(false,eval a X.env),(false,eval (.Tuple es x1 p2) X.env)]) (hs2:starEach [.Tuple es x1 p2] X.env=[(false,eval (.Tuple es x1 p2) X.env)]) :
  PE X (.Call (.Name "isinstance" p) [a,.Tuple es x1 p2] [] pos) (tV X.K (vIsiX ans fa)):=
 (pe_callB (call_isiXT hv K) hg hm PyProof.Rows.boot_isinstance (pa_cons ha (pa_cons (pe_tup hc) pa_nil (by rw [hs2];rfl)) (by rw [hs,hs2])) (by decide) (by decide) (by rw [hs,hs2]) (by rw [hs2];rfl)).imp' fun σ H Q hz=>by
  obtain⟨F,m,L,S,d,S',r,l,q,k⟩:=hz
  obtain⟨x,S1,e1,q⟩:=bnd_eq q
  obtain⟨b,ei,q⟩:=Option.map_eq_some_iff.mp q
  cases q
  exact⟨F,m,L,S,_,_,r,l,e1,fun y F' m' H' s r' pp=>⟨hz,fun tp ht=>⟨F',m',_,x,b,y,tp,rfl,upd_same,r'.new ht,pp.mono (stp_new ht),ei,k _ F' m' _ (s.trans (stp_new ht)) (r'.new ht) rfl⟩⟩⟩
end
end Ev
namespace Ev
open PySem PySem.Spec PyProof.Rows L2
noncomputable def pureOf (g:GF) (ps:List P):Option P:=match g (ps.map .p) [] with
 | some (d,S)=>(toP 9 d S).map (·.1)
 | none=>none
noncomputable def fnR (np nn:Nat) (b:ES):GF:=fun ds S=>if ds.length=np then match b (ds.map some++List.replicate (nn-ds.length) none) S with
 | some (.rt d,_,S')=>some (d,S')
 | some (.nx,_,S')=>some (.p .non,S')
 | _=>none else none
theorem Rel.nil {K:PySem.W.Frag}{F:Addr->Prop}{H:Hp} (ft:∀a,F a->H a≠none):Rel K F H [] []:=⟨rfl,by simp,by simp,by simp,by simp,ft⟩
theorem spR_of_spV {K:PySem.W.Frag}{g:GF}{vs:List V}{H:Hp}{Q:VK}{E:XK} (h:spV K (pureOf g) vs H Q E):spR K g vs H Q E:=by
 obtain⟨F,ds,d,ft,r,q,k⟩:=h
 unfold pureOf at q
 cases e:g (ds.map .p) [] with
 | none=>rw [e] at q;cases q
 | some z=>
  obtain⟨d1,S1⟩:=z
  rw [e] at q
  dsimp only at q
  cases e2:toP 9 d1 S1 with
  | none=>rw [e2] at q;cases q
  | some z2=>
   obtain⟨p,S2⟩:=z2
   rw [e2] at q
   cases q
   refine⟨F,[],ds.map .p,[],d1,S1,.nil ft,RDs.ofP r,e,fun v F' m' H' s' r' rd=>?_⟩
   obtain⟨F2,s2,r2,_,p2⟩:=toP_ok 9 e2 r' rd
   exact k v F2 H' ((s'.trans s2).toGrow r2.ft) p2
theorem FnOk.pure {Pg:Program}{w:World}{K:PySem.W.Frag}{mg:Str->Option Value}{base:Heap}{f:Addr}{fd:FuncData}{ps:List Str}{k:Nat}{g:GF} (G:FnOk Pg w K mg base CX0 k f fd ps (spR K g)):FnOk Pg w K mg base CX0 k f fd ps (spV K (pureOf g)):=
 FnOk.imp G fun _ _ _ _ h=>spR_of_spV h
theorem RDs.toSt {K:PySem.W.Frag}{F:Addr->Prop}{H:Hp}{m:List Addr}{ds:List D}{vs:List V}{N:List Str} (r:RDs K F H m ds vs):RL K F H m (L2.start N vs) (ds.map some++List.replicate (N.length-ds.length) none):=by
 have hl:=r.length
 refine⟨by unfold L2.start;simp [hl],fun i d e=>?_⟩
 by_cases hi:i < ds.length
 ·rw [List.getElem?_append_left (by simpa using hi),List.getElem?_map] at e
  cases q:ds[i]? with
  | none=>rw [q] at e;cases e
  | some v=>
   rw [q] at e
   cases e
   obtain⟨x,e1,p⟩:=r.get q
   refine⟨x,?_,p⟩
   unfold L2.start
   rw [List.getElem?_append_left (by simpa [<- hl] using hi),List.getElem?_map,e1];rfl
 ·rw [List.getElem?_append_right (by simpa using hi),List.getElem?_replicate] at e
  split at e <;> cases e
theorem fn_okR {Pg:Program}{w:World}{K:PySem.W.Frag}{mg:Str->Option Value}{base:Heap}{x qual:Str}{st:Stmt}{f:Addr}{fd:FuncData}{N ps:List Str}{k:Nat}{b:ES} (F:Fun K x qual st f fd) (S:FnScope N ps (defScope st))
  (hb:∀(cdv:Value) (A:Around) (outer:List Env) (s:Shared) (H:Hp) (E:XK),Room k (A.deeper (envOfC qual (defScope st) s.heap.objs.size f cdv)) ->
   PSs (cxOf CX0 Pg w K mg base N qual (defScope st) f cdv A outer s H E).nox (defBody st) (tSt K b)):FnOk Pg w K mg base CX0 (k+1) f fd ps (spR K (fnR ps.length N.length b)):=by
 refine F.ok S (fun vs H Q E h=>?_) (fun cdv A outer s H vs Q E hr h=>⟨_,hb cdv A outer s H E hr,?_⟩)
 ·obtain⟨F,m,ds,S,d,S',rl,r,q,k⟩:=h
  rw [<- r.length]
  unfold fnR at q
  split at q
  ·assumption
  ·cases q
 ·obtain⟨F,m,ds,S,d,S',rl,r,q,k⟩:=h
  unfold fnR at q
  split at q
  ·refine⟨F,m,ds.map some++List.replicate (N.length-ds.length) none,S,?_⟩
   cases eb:b (ds.map some++List.replicate (N.length-ds.length) none) S with
   | none=>rw [eb] at q;cases q
   | some z=>
    obtain⟨fl,L',S1⟩:=z
    rw [eb] at q
    refine⟨fl,L',S1,rl,r.toSt,rfl,fun σ' F' m' H' s' r' l'=>?_⟩
    cases fl with
    | nx=>cases q;exact k .non F' m' H' s' r' rfl
    | bk=>cases q
    | ct=>cases q
    | rt dd=>
     intro v rd
     cases q
     exact k v F' m' H' s' r' rd
  ·cases q
theorem fn_noneR {Pg:Program}{w:World}{K:PySem.W.Frag}{mg:Str->Option Value}{base:Heap}{f:Addr}{fd:FuncData}{ps:List Str}{k:Nat}:FnOk Pg w K mg base CX0 k f fd ps (spR K fun _ _=>none):=by
 have no:∀vs H Q E,¬spR K (fun _ _=>none) vs H Q E:=fun vs H Q E h=>by
  obtain⟨F,m,ds,S,d,S',_,_,q,_⟩:=h
  cases q
 exact⟨fun vs H Q E h=>absurd h (no vs H Q E),fun A outer s H args us vs Q E _ _ _ _ h=>absurd h (no vs H Q E)⟩
structure Tr where
 v:Option EV:=none
 e:Option EE:=none
 b:Option EB:=none
 w:Option EB:=none
noncomputable def Tr.ofV (f:Option EV):Tr:=⟨f,f.map eV,f.map fun g=>bT (eV g),f.map bV⟩
noncomputable def Tr.ofC (f:Option EV):Tr:=⟨f,f.map eV,f.map bV,f.map bV⟩
noncomputable def Tr.ofE (f:Option EE):Tr:=⟨f.map vE,f,f.map bT,f.map fun g=>bV (vE g)⟩
noncomputable def Tr.ofB (b w:Option EB):Tr:=⟨w.map vB,w.map fun g=>eV (vB g),b,w⟩
structure Cn where
 N:List Str
 own:List Str
 deep:List Str
 refs:List Str
 ks:List (Str×NameKind)
 F:Str->Option GF
 G:Str->Option P
 A:Str->Str->Bool
 M:Str->Str->Option GF
 I:Str->Option GF
 E:List (Str×List Str)
 R:List Str
 Y:Str->Option GX
noncomputable def ixOf:List Str->Str->Option Nat
 | [],_=>none
 | y::r,x=>if y=x then some 0 else (ixOf r x).map (·+1)
theorem ixOf_get:∀{N:List Str}{x:Str}{i:Nat},ixOf N x=some i->N[i]? = some x
 | [],_,_,h=>by cases h
 | y::r,x,i,h=>by
  unfold ixOf at h
  split at h
  ·rename_i e;cases h;simp [e]
  ·cases q:ixOf r x with
   | none=>rw [q] at h;cases h
   | some j=>rw [q] at h;cases h;simpa using ixOf_get q
theorem ixOf_of_get:∀{N:List Str}{x:Str}{i:Nat},N.Nodup->N[i]? = some x->ixOf N x=some i
 | [],_,_,_,h=>by simp at h
 | y::r,x,0,_,h=>by
  have:y=x:=by simpa using h
  unfold ixOf;rw [if_pos this]
 | y::r,x,i+1,nd,h=>by
  have h':r[i]? = some x:=by simpa using h
  have hne:¬y=x:=fun e=>by
   subst e
   exact (List.nodup_cons.mp nd).1 (List.mem_of_getElem? h')
  unfold ixOf;rw [if_neg hne,ixOf_of_get (List.nodup_cons.mp nd).2 h'];rfl
noncomputable def kindB (ks:List (Str×NameKind)) (x:Str) (l:List NameKind):Bool:=match ks.lookup x with
 | some k=>l.contains k
 | none=>false
noncomputable def okName (x:Str):Bool:=!(x == ("__debug__":Str)) && !(x == ("__classdict__":Str))
noncomputable abbrev dShr:=dII (fun _ j=>decide (0≤j)) fun i j=>.int (i / 2 ^ j.toNat)
theorem opShr {X:Cx}:OpP X (binaryOp .RShift) dShr:=opII op_shr (fun i j h=>of_decide_eq_true h) fun _ _ _ _ _=>rfl
noncomputable def exN (E:List (Str×List Str)) (t:Str):Bool:=E.any (fun x=>decide (x.1=t)) || decide (t=("ValueError":Str))
noncomputable def ansOf (E:List (Str×List Str)) (R ts:List Str) (c:Str):Option Bool:=if R.contains c=true then (E.lookup c).map fun anc=>ts.any fun t=>anc.contains t else none
noncomputable def nmsX (ks:List (Str×NameKind)) (E:List (Str×List Str)):List Expr->Option (List Str)
 | []=>some []
 | .Name t _::r=>if (kindB ks t [.globalImplicit] && exN E t && okName t)=true then (nmsX ks E r).map (t::·) else none
 | _::_=>none
noncomputable def bop:Operator->Option (P->P->Option P)
 | .Add=>some dAdd2
 | .Sub=>some dSub
 | .Mult=>some dMul2
 | .RShift=>some dShr
 | .Mod=>some dMod
 | .Pow=>some dPow
 | _=>none
noncomputable def cop:CmpOp->Option (P->P->Option P)
 | .Lt=>some dLt
 | .LtE=>some dLe
 | .Gt=>some dGt
 | .GtE=>some dGe
 | _=>none
noncomputable def cop2:CmpOp->Option (D->D->Sto->Option P)
 | .Eq=>some gEq
 | .NotEq=>some gNe
 | .In=>some gIn
 | .NotIn=>some gNotIn
 | .Is=>some gIs
 | _=>none
noncomputable def trAs:List (Option EV)->Option EVs
 | []=>some vsNil
 | a::r=>a.bind fun f=>(trAs r).map fun g=>vsCons f g
noncomputable def trDs:List (Option EE)->Option EDs
 | []=>some dsNil
 | a::r=>a.bind fun f=>(trDs r).map fun g=>dsCons f g
noncomputable def wFold (op:BoolOp):List (Option EB)->Option EB
 | []=>none
 | [a]=>a
 | a::r=>a.bind fun f=>(wFold op r).map fun g=>match op with | .And=>bAnd f g | .Or=>bOr f g
noncomputable def trO (o:Option (Option EV)):Option EO:=match o with
 | none=>some oNone
 | some a=>a.map oSome
noncomputable def keyStr:Option Expr->Option Str
 | some (.Constant (.str x) _ _)=>some x
 | _=>none
noncomputable def trDE:List (Option Expr)->List (Option EV)->Option DE
 | [],[]=>some dNil
 | k::ks,v::vs=>(keyStr k).bind fun x=>v.bind fun f=>(trDE ks vs).map fun r=>dCons x f r
 | _,_=>none
noncomputable def isiOf (t:Str):Option String:=if t=("tuple":Str) then some "tuple" else none
noncomputable def bltOf (f:Str):Option (List P->Option P):=
 if f=("dict":Str) then some c_dict else if f=("all":Str) then some c_all else if f=("sum":Str) then some c_sum else none
noncomputable def bltN:List Str:=["len","isinstance","int","bool","tuple","list","str","max","min","dict","range","abs","enumerate","sorted","all","any","sum"]
noncomputable def relab (names ks:List (Str×NameKind)):List (Str×NameKind):=names.map fun (n,k)=>if (k == .free && ks.lookup n == some .cell) then (n,.cell) else (n,k)
noncomputable def blockB (Γ:Cn) (scope:Scope) (N':List Str) (ts:List Nat) (n:Nat):Bool:=
 decide (scope.kind=.function) && scope.names.all (fun x=>x.2 != .cell) && scope.names.all (fun x=>x.2 != .local || scope.names.lookup x.1 == some .local)
  && scope.names.all (fun x=>x.2 != .free || (scope.names.lookup x.1 == some .free && (Γ.ks.lookup x.1 == some .cell || Γ.ks.lookup x.1 == some .free)))
  && decide (Γ.N=N'.take Γ.N.length) && decide (N'.length=Γ.N.length+n)
  && scope.names.all (fun x=>x.2 != .local || match ixOf Γ.N x.1 with | some i=>ts.contains i | none=>true)
noncomputable def isGl (Γ:Cn) (f g:Str):Bool:=decide (f=g) && kindB Γ.ks f [.globalImplicit]
noncomputable def trIt (Γ:Cn) (T:Expr->Tr) (tg e:Expr):Option EVs:=match e with
 | .Call (.Name f _) args [] _=>if isGl Γ f "range"=true then match args with
   | [a]=>(T a).v.map itR1
   | _=>none
  else (T e).v.map itS
 | .Set ..=>none
 | _=>(T e).v.map itS
noncomputable def trNm (N:List Str) (ks:List (Str×NameKind)) (kinds:List NameKind):Expr->Option TGv
 | .Name x _=>if kindB ks x kinds=true then (ixOf N x).map gSet else none
 | _=>none
noncomputable def trTg (N:List Str) (ks:List (Str×NameKind)) (kinds:List NameKind):Expr->Option TGv
 | e=>trNm N ks kinds e
noncomputable def nmOf:Expr->List Str
 | .Name x _=>[x]
 | _=>[]
noncomputable def nmsOf:Expr->List Str
 | .Tuple es _ _=>es.flatMap nmOf
 | e=>nmOf e
noncomputable def cNew (N:List Str):List Str->List Str
 | []=>[]
 | t::r=>if (N.contains t || (cNew N r).contains t)=true then cNew N r else t::cNew N r
noncomputable def cTs (N:List Str) (ts:List Str):List Nat:=ts.filterMap fun t=>ixOf N t
noncomputable def trComp (Γ:Cn) (T:Cn->Expr->Tr) (elt tg iter:Expr) (ifs:List Expr) (scope:Scope):Option EV:=
 if (blockB Γ scope (Γ.N++cNew Γ.N (nmsOf tg)) (cTs Γ.N (nmsOf tg)) (cNew Γ.N (nmsOf tg)).length && decide (Γ.N++cNew Γ.N (nmsOf tg)).Nodup)=true then
  (trIt Γ (T Γ) tg iter).bind fun it=>(trTg (Γ.N++cNew Γ.N (nmsOf tg)) (relab scope.names Γ.ks) [.local] tg).bind fun g=>
   (match ifs with | []=>some bYes | [c]=>(T ⟨Γ.N++cNew Γ.N (nmsOf tg),[],[],Γ.refs,relab scope.names Γ.ks,Γ.F,Γ.G,Γ.A,Γ.M,Γ.I,Γ.E,Γ.R,Γ.Y⟩ c).b | _=>none).bind fun c=>
   (T ⟨Γ.N++cNew Γ.N (nmsOf tg),[],[],Γ.refs,relab scope.names Γ.ks,Γ.F,Γ.G,Γ.A,Γ.M,Γ.I,Γ.E,Γ.R,Γ.Y⟩ elt).v.map fun e=>vComp it (cTs Γ.N (nmsOf tg)) (cNew Γ.N (nmsOf tg)).length g c e
 else none
noncomputable def isOwn (Γ:Cn):Nat->Expr->Bool
 | 0,_=>false
 | _,.Name x _=>Γ.own.contains x
 | n+1,.Subscript a _ _=>isOwn Γ n a
 | n+1,.Attribute a _ _=>isOwn Γ n a
 | _,_=>false
noncomputable def mth (Γ:Cn) (o:Expr) (m:Str) (name:Str) (ap cp:Pos):Bool:=decide (m=name) && isOwn Γ 4 o && (ap.endLine == cp.line)
noncomputable def tr (Γ:Cn):Nat->Expr->Tr
 | 0,_=>{}
 | n+1,e=>match e with
  | .Constant (.int i) _ _=>.ofV (some (vC (.int i)))
  | .Constant (.bool i) _ _=>.ofV (some (vC (.bl i)))
  | .Constant .none _ _=>.ofV (some (vC .non))
  | .Constant (.str i) _ _=>.ofV (some (vC (.str i)))
  | .Name x _=>if (kindB Γ.ks x [.local,.cell,.free] && okName x)=true then .ofE ((ixOf Γ.N x).map eVar) else
    if (kindB Γ.ks x [.globalImplicit] && okName x)=true then .ofV ((Γ.G x).bind fun v=>if isDct v=true then none else some (vC v)) else {}
  | .BinOp a op b _=>.ofV ((bop op).bind fun g=>(tr Γ n a).v.bind fun x=>(tr Γ n b).v.map fun y=>vOp g x y)
  | .UnaryOp .Not a _=>.ofB ((tr Γ n a).b.map bNot) ((tr Γ n a).w.map bNot)
  | .BoolOp op es _=>.ofB (wFold op (es.map fun x=>(tr Γ n x).b)) (wFold op (es.map fun x=>(tr Γ n x).w))
  | .Compare a [op] [b] _=>.ofC (match cop op with
    | some g=>(tr Γ n a).v.bind fun x=>(tr Γ n b).v.map fun y=>vOp g x y
    | none=>(cop2 op).bind fun g=>(tr Γ n a).e.bind fun x=>(tr Γ n b).e.map fun y=>vOpE g x y)
  | .Tuple es _ _=>.ofV ((trAs (es.map fun x=>(tr Γ n x).v)).map vTup')
  | .List es _=>.ofV ((trAs (es.map fun x=>(tr Γ n x).v)).map vLst')
  | .Dict [] [] _=>{ e:=some eDict,v:=some (vE eDict) }
  | .Dict keys vals _=>if (keys.all (·.isSome) && decide (keys.length=vals.length) && !keys.isEmpty && decide (keys.length≤15))=true then .ofV ((trDE keys (vals.map fun x=>(tr Γ n x).v)).map vDict) else {}
  | .Subscript a (.Slice lo hi none _) _=>.ofV ((tr Γ n a).v.bind fun x=>(trO (lo.map fun y=>(tr Γ n y).v)).bind fun y=>(trO (hi.map fun z=>(tr Γ n z).v)).map fun z=>vSl2 x y z)
  | .Subscript a i _=>if isOwn Γ 4 a=true then .ofE ((tr Γ n a).e.bind fun x=>(tr Γ n i).v.map fun y=>eIx x y) else .ofV ((tr Γ n a).v.bind fun x=>(tr Γ n i).v.map fun y=>vOp dIx x y)
  | .Call (.Name f _) args [] _=>if (kindB Γ.ks f [.globalImplicit] && okName f)=true then
    match Γ.F f with
    | some g=>match args with
     | []=>{}
     | _=>.ofV ((trAs (args.map fun x=>(tr Γ n x).v)).map fun a=>vCall (pureOf g) a)
    | none=>match args with
     | []=>{}
     | [a]=>if f=("len":Str) then .ofV ((tr Γ n a).e.map vLen) else .ofV ((bltOf f).bind fun g=>(trAs [(tr Γ n a).v]).map fun x=>vCall g x)
     | [a,.Name t tp]=>if f=("isinstance":Str) then (if kindB Γ.ks t [.globalImplicit]=true then (match isiOf t with | some T=>.ofV ((tr Γ n a).e.map fun x=>vIsi T x) | none=>if (exN Γ.E t && okName t)=true then .ofV ((tr Γ n a).e.map fun x=>vIsiX (ansOf Γ.E Γ.R [t]) x) else {}) else {}) else .ofV ((bltOf f).bind fun g=>(trAs [(tr Γ n a).v,(tr Γ n (.Name t tp)).v]).map fun x=>vCall g x)
     | [a,.Tuple ts tc tp]=>if f=("isinstance":Str) then (match nmsX Γ.ks Γ.E ts with | some xs=>if decide (xs.length≤100)=true then .ofV ((tr Γ n a).e.map fun x=>vIsiX (ansOf Γ.E Γ.R xs) x) else {} | none=>{}) else .ofV ((bltOf f).bind fun g=>(trAs [(tr Γ n a).v,(tr Γ n (.Tuple ts tc tp)).v]).map fun x=>vCall g x)
     | _=>.ofV ((bltOf f).bind fun g=>(trAs (args.map fun x=>(tr Γ n x).v)).map fun x=>vCall g x)
   else {}
  | .Call (.Attribute o m ap) [a] [] cp=>if mth Γ o m "append" ap cp=true then .ofE ((tr Γ n o).e.bind fun x=>(tr Γ n a).e.map fun y=>eAppend x y) else
    if mth Γ o m "extend" ap cp=true then .ofE ((tr Γ n o).e.bind fun x=>(tr Γ n a).v.map fun y=>eExtend x y) else {}
  | .Call (.Attribute o m ap) [] [] cp=>if mth Γ o m "pop" ap cp=true then .ofE ((tr Γ n o).e.map ePop) else {}
  | .Call (.Attribute (.Name gx gp) m ap) [a,b] [] cp=>if (decide (m=("get":Str)) && (ap.endLine == cp.line))=true then .ofV ((tr Γ n (.Name gx gp)).v.bind fun x=>(tr Γ n a).v.bind fun y=>(tr Γ n b).v.map fun z=>vGet2 x y z) else {}
  | .ListComp elt [⟨tg,iter,ifs,0⟩] scope _=>.ofV (trComp Γ (fun Γ' x=>tr Γ' n x) elt tg iter ifs scope)
  | _=>{}
end Ev
namespace Ev
open PySem PySem.Spec PyProof.Rows L2
structure ExsOk (K:PySem.W.Frag) (mg:Str->Option Value) (E:List (Str×List Str)) (R:List Str):Prop where
 own:∀c,(E.any fun x=>decide (x.1=c))=true->∃C,PySem.W.nsIn K mainGlobals c=some (some (.ref C))/\mg c=some (.ref C)
 val:mg ("ValueError":Str)=none
 non:∀t C,(E.any fun x=>decide (x.1=t))=true->mg t=some (.ref C)->PySem.W.kitOne K (.type "NoneType") (.ref C)=some false
 nonV:PySem.W.kitOne K (.type "NoneType") (.type "ValueError")=some false
 cl:∀c anc C,R.contains c=true->E.lookup c=some anc->PySem.W.nsIn K mainGlobals c=some (some (.ref C))->ExcCl K C/\PySem.W.kitCls K (.ref C) (.ref C)=some true/\PySem.W.kitOne K (.ref C) (.type "ValueError")=some (anc.contains ("ValueError":Str)) /\
  ∀t T,(E.any fun x=>decide (x.1=t))=true->mg t=some (.ref T)->PySem.W.kitOne K (.ref C) (.ref T)=some (anc.contains t)/\(anc.contains t=true->PySem.W.exmOne K (.ref C) (.ref T)=some true)
 rE:∀c,R.contains c=true->(E.any fun x=>decide (x.1=c))=true
 rs:∀c C,R.contains c=true->PySem.W.nsIn K mainGlobals c=some (some (.ref C))->mg c=some (.ref C)/\PySem.W.excIn K C mroV "ValueError.__new__"=true
noncomputable def cvOf (mg:Str->Option Value) (t:Str):Value:=(mg t).getD (.type "ValueError")
theorem cv_own {K:PySem.W.Frag}{mg:Str->Option Value}{E:List (Str×List Str)}{R:List Str} (h:ExsOk K mg E R) {t:Str} (q:exN E t=true):(∃C,mg t=some (.ref C)/\cvOf mg t=.ref C/\(E.any fun x=>decide (x.1=t))=true)\/(t="ValueError"/\mg t=none/\cvOf mg t=.type "ValueError"):=by
 unfold exN at q
 rcases Bool.or_eq_true_iff.mp q with q | q
 ·obtain⟨C,_,e⟩:=h.own t q
  exact .inl ⟨C,e,by unfold cvOf;rw [e];rfl,q⟩
 ·cases of_decide_eq_true q
  exact .inr ⟨rfl,h.val,by unfold cvOf;rw [h.val];rfl⟩
theorem kitAny_of {K:PySem.W.Frag}{t:Value}{f:Str->Bool}{g:Str->Value}:∀{ts:List Str},(∀x ∈ ts,PySem.W.kitOne K t (g x)=some (f x))->PySem.W.kitAny K t (ts.map g)=some (ts.any f)
 | [],_=>rfl
 | x::ts,q=>by
  have e1:=q x (.head _)
  have e2:=kitAny_of fun y hy=>q y (.tail _ hy)
  rw [List.map_cons,List.any_cons]
  simp only [PySem.W.kitAny,e1]
  cases f x with
  | true=>rfl
  | false=>exact e2
theorem ans_ok {K:PySem.W.Frag}{mg:Str->Option Value}{E:List (Str×List Str)}{R:List Str} (h:ExsOk K mg E R) {ts:List Str} (q:∀t ∈ ts,exN E t=true):AnsOk K (ansOf E R ts) (ts.map (cvOf mg)) where
 non:=by
  have:=kitAny_of (K:=K) (t:=.type "NoneType") (f:=fun _=>false) (g:=cvOf mg) (ts:=ts) fun x hx=>by
   rcases cv_own h (q x hx) with ⟨C,e0,e1,e2⟩ | ⟨_,_,e1⟩
   ·rw [e1];exact h.non x C e2 e0
   ·rw [e1];exact h.nonV
  rw [this];simp
 exc:=fun c b C e ns=>by
  unfold ansOf at e
  split at e
  case isFalse=>cases e
  rename_i hR
  obtain⟨anc,ea,rfl⟩:=Option.map_eq_some_iff.mp e
  obtain⟨k1,k2,k3,k4⟩:=h.cl c anc C hR ea ns
  refine⟨k1,k2,kitAny_of fun x hx=>?_⟩
  rcases cv_own h (q x hx) with ⟨T,e0,e1,e2⟩ | ⟨rfl,_,e1⟩
  ·rw [e1];exact (k4 x T e2 e0).1
  ·rw [e1];exact k3
theorem nmsX_ok {ks:List (Str×NameKind)}{E:List (Str×List Str)}:∀{es:List Expr}{ts:List Str},nmsX ks E es=some ts->∀t ∈ ts,exN E t=true
 | [],_,h,t,ht=>by cases h;cases ht
 | e::es,ts,h,t,ht=>by
  unfold nmsX at h
  split at h
  ·cases h;cases ht
  ·split at h
   ·rename_i hq
    obtain⟨r,e1,rfl⟩:=Option.map_eq_some_iff.mp h
    simp only [Bool.and_eq_true] at hq
    rcases List.mem_cons.mp ht with rfl | ht
    ·exact hq.1.2
    ·exact nmsX_ok e1 t ht
   ·cases h
  ·cases h
structure XOk (Γ:Cn) (X:Cx):Prop where
 hN:X.N=Γ.N
 nd:X.N.Nodup
 ks:X.env.scope.names=Γ.ks
 kd:X.env.scope.kind=.function
 calm:X.calm=true
 hu:X.A.units+64 < cLine
 fns:∀x g,Γ.F x=some g->∃k f fd ps,FnOk X.prog X.w X.K X.mg X.base CX0 k f fd ps (spR X.K g)/\Room k X.A/\X.mg x=some (.ref f)/\PySem.W.keepIn X.K (.ref f)=true/\Binds X.K fd ps []
 blt:∀x ∈ bltN,X.mg x=none
 glb:∀x v,Γ.G x=some v->GlobOk2 X.w X.K X.mg x v
 attrs:AOk X.K Γ.A
 meths:MOk X Γ.M
 mks:∀c g,Γ.I c=some g->∃C k f fd ps,ClsOf X.K c C/\X.mg c=some (.ref C)/\Mk X.K C f/\FnOk X.prog X.w X.K X.mg X.base CX0 k f fd ps (spR X.K g)/\Room (k+1) X.A/\Binds X.K fd ps []
 exs:ExsOk X.K X.mg Γ.E Γ.R
 ys:∀x gx,Γ.Y x=some gx->clsX X.K gx/\∃k f fd ps,FnOk X.prog X.w X.K X.mg X.base (CXf X.prog X.w) k f fd ps (spE X.K gx)/\Room k X.A/\X.mg x=some (.ref f)/\PySem.W.keepIn X.K (.ref f)=true/\Binds X.K fd ps []
structure Good (X:Cx) (ex:Expr) (t:Tr):Prop where
 v:∀f,t.v=some f->PE X ex (tV X.K f)
 e:∀f,t.e=some f->PE X ex (tE X.K f)
 b:∀f,t.b=some f->PT X ex (tQ X.K f)
 w:∀f,t.w=some f->PE X ex (tV X.K (vB f))
section
variable {X:Cx}{e:Expr}
theorem Good.no:Good X e {}:=⟨fun _ h=>(by cases h),fun _ h=>(by cases h),fun _ h=>(by cases h),fun _ h=>(by cases h)⟩
noncomputable def PlainT (e:Expr):Prop:=∀env whole,isTrue e env whole=(do let v <- whole;standAt e.pos;holding [v] (truthy v))
theorem Good.ofV {t:Option EV} (h:∀f,t=some f->PE X e (tV X.K f)) (hp:PlainT e):Good X e (.ofV t) where
 v:=h
 e:=fun f q=>by
  cases t with
  | none=>cases q
  | some g=>cases q;exact xEV (h _ rfl)
 b:=fun f q=>by
  cases t with
  | none=>cases q
  | some g=>cases q;exact yT (xEV (h _ rfl)) (hp _)
 w:=fun f q=>by
  cases t with
  | none=>cases q
  | some g=>cases q;exact xBool (h _ rfl)
theorem Good.ofC {t:Option EV} (h:∀f,t=some f->PE X e (tV X.K f)) (hb:∀f,t=some f->PT X e (tQ X.K (bV f))):Good X e (.ofC t) where
 v:=h
 e:=fun f q=>by
  cases t with
  | none=>cases q
  | some g=>cases q;exact xEV (h _ rfl)
 b:=fun f q=>by
  cases t with
  | none=>cases q
  | some g=>cases q;exact hb _ rfl
 w:=fun f q=>by
  cases t with
  | none=>cases q
  | some g=>cases q;exact xBool (h _ rfl)
theorem Good.ofE {t:Option EE} (h:∀f,t=some f->PE X e (tE X.K f)) (hp:PlainT e):Good X e (.ofE t) where
 v:=fun f q=>by
  cases t with
  | none=>cases q
  | some g=>cases q;exact xVE (h _ rfl)
 e:=h
 b:=fun f q=>by
  cases t with
  | none=>cases q
  | some g=>cases q;exact yT (h _ rfl) (hp _)
 w:=fun f q=>by
  cases t with
  | none=>cases q
  | some g=>cases q;exact xBool (xVE (h _ rfl))
theorem Good.ofB {b w:Option EB} (hb:∀f,b=some f->PT X e (tQ X.K f)) (hw:∀f,w=some f->PE X e (tV X.K (vB f))):Good X e (.ofB b w) where
 v:=fun f q=>by
  cases w with
  | none=>cases q
  | some g=>cases q;exact hw _ rfl
 e:=fun f q=>by
  cases w with
  | none=>cases q
  | some g=>cases q;exact xEV (hw _ rfl)
 b:=hb
 w:=hw
end
theorem bind_eq {α β:Type}{x:Option α}{f:α->Option β}{r:β} (h:x.bind f=some r):∃a,x=some a/\f a=some r:=by
 cases x with
 | none=>cases h
 | some a=>exact⟨a,rfl,h⟩
theorem map_eq {α β:Type}{x:Option α}{f:α->β}{r:β} (h:x.map f=some r):∃a,x=some a/\r=f a:=by
 cases x with
 | none=>cases h
 | some a=>cases h;exact⟨a,rfl,rfl⟩
noncomputable def NoStar (e:Expr):Prop:=∀es env,starEach (e::es) env=(false,eval e env)::starEach es env
theorem noStar_of {Γ:Cn}{n:Nat}{e:Expr} (h:(tr Γ n e).v.isSome=true\/(tr Γ n e).e.isSome=true):NoStar e:=by
 intro es env
 cases n with
 | zero=>rcases h with h | h <;> cases h
 | succ n=>
  cases e <;> first | rfl | (rcases h with h | h <;> cases h)
theorem plainIx_of {Γ:Cn}{n:Nat}{e:Expr} (h:(tr Γ n e).v.isSome=true):PlainIx e:=by
 intro o i
 cases n with
 | zero=>cases h
 | succ n=>
  cases e <;> first | rfl | cases h
theorem anyBack {es:List Expr}{env:Env}{pos:Pos} (h:∀e ∈ es,NoStar e):(backTo pos (starEach es env)).any (·.1)=false:=by
 induction es with
 | nil=>rfl
 | cons e es ih=>
  rw [h e List.mem_cons_self es env]
  have:=ih fun x hx=>h x (List.mem_cons_of_mem _ hx)
  unfold backTo at this ⊢
  rw [List.map_cons,List.any_cons,this];rfl
section
variable {Γ:Cn}{X:Cx} (h:XOk Γ X)
include h
theorem XOk.gl {x:Str} (q:kindB Γ.ks x [.globalImplicit]=true):Gl X x:=by
 unfold Gl Env.kindOf
 rw [h.ks]
 unfold kindB at q
 cases e:Γ.ks.lookup x with
 | none=>rw [e] at q;cases q
 | some k=>rw [e] at q;cases k <;> first | rfl | cases q
theorem XOk.vis {x:Str} (q:kindB Γ.ks x [.local,.cell,.free]=true):Vis X.env.scope x:=by
 unfold Vis
 rw [h.ks]
 unfold kindB at q
 cases e:Γ.ks.lookup x with
 | none=>rw [e] at q;cases q
 | some k=>rw [e] at q;cases k <;> first | exact .inl rfl | exact .inr (.inl rfl) | exact .inr (.inr rfl) | cases q
theorem XOk.loc {x:Str} (q:kindB Γ.ks x [.local,.cell]=true):L2.Loc X.env.scope x:=by
 unfold L2.Loc
 rw [h.ks]
 unfold kindB at q
 cases e:Γ.ks.lookup x with
 | none=>rw [e] at q;cases q
 | some k=>rw [e] at q;cases k <;> first | exact .inl rfl | exact .inr rfl | cases q
theorem XOk.local {x:Str} (q:kindB Γ.ks x [.local]=true):X.env.scope.names.lookup x=some .local:=by
 rw [h.ks]
 unfold kindB at q
 cases e:Γ.ks.lookup x with
 | none=>rw [e] at q;cases q
 | some k=>rw [e] at q;cases k <;> first | rfl | cases q
theorem XOk.bk:X.env.blockKind=.function:=by
 unfold Env.blockKind
 rw [h.kd];rfl
omit h in
theorem okName_of {x:Str} (q:okName x=true):(x == ("__debug__":Str))=false/\(x == ("__classdict__":Str))=false:=by
 unfold okName at q
 rw [Bool.and_eq_true] at q
 exact⟨by simpa using q.1,by simpa using q.2⟩
theorem XOk.get {x:Str}{i:Nat} (q:ixOf Γ.N x=some i):X.N[i]? = some x:=by rw [h.hN];exact ixOf_get q
omit h in
theorem trAs_ok {Γ:Cn}{n:Nat}:∀{es:List Expr}{fs:EVs},(∀e ∈ es,Good X e (tr Γ n e))->trAs (es.map fun x=>(tr Γ n x).v)=some fs->PA X es (tVs X.K fs)/\∀e ∈ es,NoStar e
 | [],fs,_,q=>by cases q;exact⟨aNil,fun _ z=>by cases z⟩
 | e::es,fs,g,q=>by
  obtain⟨f,q1,q2⟩:=bind_eq q
  obtain⟨r,q3,rfl⟩:=map_eq q2
  obtain⟨a1,a2⟩:=trAs_ok (fun x hx=>g x (List.mem_cons_of_mem _ hx)) q3
  have q1:(tr Γ n e).v=some f:=q1
  have ns:NoStar e:=noStar_of (.inl (by rw [q1];rfl))
  refine⟨aCons ((g e List.mem_cons_self).v f q1) a1 (ns _ _),fun x hx=>?_⟩
  rcases List.mem_cons.mp hx with hx | hx
  ·subst hx;exact ns
  ·exact a2 x hx
omit h in
theorem trDs_ok {Γ:Cn}{n:Nat}:∀{es:List Expr}{fs:EDs},(∀e ∈ es,Good X e (tr Γ n e))->trDs (es.map fun x=>(tr Γ n x).e)=some fs->PA X es (tDs X.K fs)/\∀e ∈ es,NoStar e
 | [],fs,_,q=>by cases q;exact⟨daNil,fun _ z=>by cases z⟩
 | e::es,fs,g,q=>by
  obtain⟨f,q1,q2⟩:=bind_eq q
  obtain⟨r,q3,rfl⟩:=map_eq q2
  obtain⟨a1,a2⟩:=trDs_ok (fun x hx=>g x (List.mem_cons_of_mem _ hx)) q3
  have q1:(tr Γ n e).e=some f:=q1
  have ns:NoStar e:=noStar_of (.inr (by rw [q1];rfl))
  refine⟨daCons ((g e List.mem_cons_self).e f q1) a1 (ns _ _),fun x hx=>?_⟩
  rcases List.mem_cons.mp hx with hx | hx
  ·subst hx;exact ns
  ·exact a2 x hx
omit h in
theorem wFold_pw {op:BoolOp}{pos:Pos}{Γ:Cn}{n:Nat}:∀{es:List Expr}{f:EB},(∀e ∈ es,Good X e (tr Γ n e))->wFold op (es.map fun x=>(tr Γ n x).b)=some f->PW X (.BoolOp op es pos) (tQ X.K f)
 | [],f,_,q=>by cases q
 | [a],f,g,q=>by
  cases op with
  | And=>exact yAnd1 ((g a List.mem_cons_self).b f q)
  | Or=>exact yOr1 ((g a List.mem_cons_self).b f q)
 | a::b::es,f,g,q=>by
  obtain⟨x,q1,q2⟩:=bind_eq q
  obtain⟨r,q3,rfl⟩:=map_eq q2
  have i:=wFold_pw (es:=b::es) (pos:=pos) (fun x hx=>g x (List.mem_cons_of_mem _ hx)) q3
  cases op with
  | And=>exact yAnd ((g a List.mem_cons_self).b x q1) i
  | Or=>exact yOr ((g a List.mem_cons_self).b x q1) i
omit h in
theorem wFold_pe {op:BoolOp}{pos:Pos}{Γ:Cn}{n:Nat}:∀{es:List Expr}{f:EB},(∀e ∈ es,Good X e (tr Γ n e))->wFold op (es.map fun x=>(tr Γ n x).w)=some f->PE X (.BoolOp op es pos) (tV X.K (vB f))
 | [],f,_,q=>by cases q
 | [a],f,g,q=>xAnd1 ((g a List.mem_cons_self).w f q)
 | a::b::es,f,g,q=>by
  obtain⟨x,q1,q2⟩:=bind_eq q
  obtain⟨r,q3,rfl⟩:=map_eq q2
  have i:=wFold_pe (es:=b::es) (pos:=pos) (fun x hx=>g x (List.mem_cons_of_mem _ hx)) q3
  cases op with
  | And=>exact xAnd ((g a List.mem_cons_self).w x q1) i
  | Or=>exact xOr ((g a List.mem_cons_self).w x q1) i
omit h in
theorem trDE_ok {pos:Pos}{Γ:Cn}{n:Nat}:∀{keys:List (Option Expr)}{vals:List Expr}{l:DE},(∀e ∈ vals,Good X e (tr Γ n e))->trDE keys (vals.map fun x=>(tr Γ n x).v)=some l->KD X pos keys vals l
 | [],[],l,_,q=>by cases q;exact kNil
 | [],_::_,l,_,q=>by cases q
 | k::ks,[],l,_,q=>by cases q
 | k::ks,v::vs,l,g,q=>by
  obtain⟨x,q1,q2⟩:=bind_eq q
  obtain⟨f,q3,q4⟩:=bind_eq q2
  obtain⟨r,q5,rfl⟩:=map_eq q4
  have i:=trDE_ok (pos:=pos) (fun x hx=>g x (List.mem_cons_of_mem _ hx)) q5
  have hv:=(g v List.mem_cons_self).v f q3
  unfold keyStr at q1
  split at q1
  ·cases q1
   exact kCons xStr hv i
  ·cases q1
omit h in
theorem trO_ok {Γ:Cn}{n:Nat}{o:Option Expr}{f:EO} (g:∀e,Good X e (tr Γ n e)) (q:trO (o.map fun y=>(tr Γ n y).v)=some f):PO X o (tO X.K f):=by
 cases o with
 | none=>cases q;exact oNone'
 | some e=>
  obtain⟨x,q1,rfl⟩:=map_eq (show ((tr Γ n e).v).map oSome=some f from q)
  exact oSome' ((g e).v x q1)
theorem bop_ok {op:Operator}{g:P->P->Option P} (q:bop op=some g):OpP X (binaryOp op) g:=by
 cases op <;> first | (cases q;exact opAdd2) | (cases q;exact opSub) | (cases q;exact opMul2) | (cases q;exact opShr) | (cases q;exact opMod) | (cases q;exact opPow) | cases q
omit h in
theorem cop_ok {op:CmpOp}{g:P->P->Option P} (q:cop op=some g):OpP X (compareOp op) g:=by
 cases op <;> first | (cases q;exact opLt) | (cases q;exact opLe) | (cases q;exact opGt) | (cases q;exact opGe) | cases q
theorem cop2_ok {op:CmpOp}{g:D->D->Sto->Option P} (q:cop2 op=some g):OpR X (compareOp op) (rE X.K g):=by
 cases op <;> first | (cases q;exact opEqE h.hu) | (cases q;exact opNeE h.hu) | (cases q;exact opInE h.hu) | (cases q;exact opNotInE h.hu) | (cases q;exact opIsE) | cases q
omit h in
theorem cop_mark {op:CmpOp}{g:P->P->Option P} (b:Expr) (q:cop op=some g):behindInMarks op b=false:=by
 cases op <;> first | exact nomark b | cases q
omit h in
theorem mark_of {Γ:Cn}{n:Nat}{op:CmpOp}{b:Expr} (q:(tr Γ n b).e.isSome=true):behindInMarks op b=false:=by
 cases n with
 | zero=>cases q
 | succ n=>cases b <;> first | rfl | cases q
theorem call_ok {f:Str}{g:GF}{a:Expr}{as:List Expr}{fs:EVs}{fp pos:Pos} (hg:Γ.F f=some g) (hk:kindB Γ.ks f [.globalImplicit]=true) (hn:okName f=true) (ha:PA X (a::as) (tVs X.K fs)) (ns:∀e ∈ a::as,NoStar e) :
  PE X (.Call (.Name f fp) (a::as) [] pos) (tV X.K (vCall (pureOf g) fs)):=by
 obtain⟨k,fa,fd,ps,G,hr,hm,hkp,hb⟩:=h.fns f g hg
 exact xCall (FnOk.pure G) hr (h.gl hk) hm hkp hb ha (okName_of hn).1 (ns a List.mem_cons_self _ _) (anyBack fun e he=>ns e (List.mem_cons_of_mem _ he))
theorem blt_ok {f:Str}{g:List P->Option P}{a:Expr}{as:List Expr}{fs:EVs}{fp pos:Pos} (hg:bltOf f=some g) (hk:kindB Γ.ks f [.globalImplicit]=true) (ha:PA X (a::as) (tVs X.K fs)) (ns:∀e ∈ a::as,NoStar e) :
  PE X (.Call (.Name f fp) (a::as) [] pos) (tV X.K (vCall g fs)):=by
 have he:=ns a List.mem_cons_self as X.env
 have hp:=anyBack (env:=X.env) (pos:=pos) fun e he=>ns e (List.mem_cons_of_mem _ he)
 unfold bltOf at hg
 split at hg
 ·rename_i e;subst e;cases hg;exact x_dict (h.gl hk) (h.blt _ (by decide)) ha h.calm he hp
 split at hg
 ·rename_i e;subst e;cases hg;exact x_all (h.gl hk) (h.blt _ (by decide)) ha h.calm he hp
 split at hg
 ·rename_i e;subst e;cases hg;exact x_sum (h.gl hk) (h.blt _ (by decide)) ha h.calm he hp
 ·cases hg
theorem isi_ok {t:Str}{T:String}{a:Expr}{fa:EE}{fp tp pos:Pos} (ht:isiOf t=some T) (hk:kindB Γ.ks ("isinstance":Str) [.globalImplicit]=true) (hk2:kindB Γ.ks t [.globalImplicit]=true) (ha:PE X a (tE X.K fa)) (ns:NoStar a) :
  PE X (.Call (.Name "isinstance" fp) [a,.Name t tp] [] pos) (tV X.K (vIsi T fa)):=by
 have hs:starEach [a,.Name t tp] X.env=[(false,eval a X.env),(false,eval (.Name t tp) X.env)]:=by rw [ns];rfl
 have hm:=h.blt ("isinstance":Str) (by decide)
 unfold isiOf at ht
 split at ht
 ·rename_i e;subst e;cases ht;exact yIsi kit_tuple (h.gl hk) hm (h.gl hk2) (h.blt _ (by decide)) PyProof.Rows.boot_tuple ha (by decide) (by decide) hs
 ·cases ht
omit h in
theorem isGl_of {f g:Str} (q:isGl Γ f g=true):f=g/\kindB Γ.ks f [.globalImplicit]=true:=by
 unfold isGl at q
 rw [Bool.and_eq_true] at q
 exact⟨of_decide_eq_true q.1,q.2⟩
theorem it_ok {n:Nat}{tg e:Expr}{f:EVs} (g:∀x,Good X x (tr Γ n x)) (q:trIt Γ (fun x=>tr Γ n x) tg e=some f):PI X tg e (tI X.K f):=by
 have plain:((tr Γ n e).v.map itS=some f)->PI X tg e (tI X.K f):=fun q=>by
  obtain⟨x,q1,rfl⟩:=map_eq q
  exact iS ((g e).v x q1)
 unfold trIt at q
 split at q
 ·rename_i fn fp args pos
  split at q
  ·rename_i hr
   obtain⟨rfl,hr⟩:=isGl_of hr
   have hg:=h.gl hr
   have hm:=h.blt ("range":Str) (by decide)
   split at q
   ·rename_i a
    obtain⟨x,q1,rfl⟩:=map_eq q
    exact iR1 hg hm ((g a).v x q1) (noStar_of (.inl (by rw [q1];rfl)) _ _)
   ·cases q
  ·exact plain q
 ·cases q
 ·exact plain q
omit h in
theorem it_noset {T:Expr->Tr}{tg e:Expr}{f:EVs} (q:trIt Γ T tg e=some f) (env:Env) (x:Value):foldedSetIterable e env x=pure x:=by
 cases e <;> first | rfl | cases q
theorem block_ok {scope:Scope}{N':List Str}{ts:List Nat}{n:Nat} (q:blockB Γ scope N' ts n=true):BlockOk X scope N' ts n:=by
 unfold blockB at q
 simp only [Bool.and_eq_true] at q
 obtain⟨⟨⟨⟨⟨⟨q1,q2⟩,q3⟩,q4⟩,q5⟩,q6⟩,q7⟩:=q
 have e5:Γ.N=N'.take Γ.N.length:=of_decide_eq_true q5
 refine⟨of_decide_eq_true q1,fun x hx=>?_,fun x hx hl=>?_,fun x hx hl=>?_,?_,?_,fun x hx hl i hi=>?_⟩
 ·simpa using List.all_eq_true.mp q2 x hx
 ·have:=List.all_eq_true.mp q3 x hx
  rw [hl] at this
  simpa using this
 ·have:=List.all_eq_true.mp q4 x hx
  rw [hl] at this
  have t:scope.names.lookup x.1=some .free/\(Γ.ks.lookup x.1=some .cell\/Γ.ks.lookup x.1=some .free):=by simpa using this
  refine⟨t.1,?_⟩
  unfold Env.kindOf
  rw [h.ks];exact t.2
 ·rw [h.hN];exact e5
 ·rw [h.hN];exact of_decide_eq_true q6
 ·have:=List.all_eq_true.mp q7 x hx
  rw [hl] at this
  have hi':ixOf Γ.N x.1=some i:=ixOf_of_get (by rw [<- h.hN];exact h.nd) (by rw [<- h.hN];exact hi)
  rw [hi'] at this
  simpa using this
end
theorem nm_ok {X:Cx}{N:List Str}{ks:List (Str×NameKind)}{kinds:List NameKind}{e:Expr}{g:TGv} (hN:X.N=N) (nd:X.N.Nodup) (hk:∀x,kindB ks x kinds=true->L2.Loc X.env.scope x/\(X.fn x=true\/X.env.scope.names.lookup x=some .local)) (q:trNm N ks kinds e=some g):isNm e=true/\PG X e (gT X.K g):=by
 unfold trNm at q
 split at q
 ·split at q
  ·rename_i hc
   obtain⟨i,q1,rfl⟩:=map_eq q
   obtain⟨h1,h2⟩:=hk _ hc
   exact⟨rfl,gName' i nd (by rw [hN];exact ixOf_get q1) h1 h2⟩
  ·cases q
 ·cases q
theorem tg_ok {X:Cx}{N:List Str}{ks:List (Str×NameKind)}{kinds:List NameKind}{e:Expr}{g:TGv} (hc:X.calm=true) (hN:X.N=N) (nd:X.N.Nodup) (hk:∀x,kindB ks x kinds=true->L2.Loc X.env.scope x/\(X.fn x=true\/X.env.scope.names.lookup x=some .local)) (q:trTg N ks kinds e=some g):PG X e (gT X.K g):=by
 unfold trTg at q
 exact (nm_ok hN nd hk q).2
theorem relab_eq {scope:Scope}{env:Env} (hk:env.scope.kind=.function):(relabel scope env).names=relab scope.names env.scope.names:=by
 unfold relabel relab Env.kindOf
 rw [hk]
 simp
theorem XOk.inn {Γ:Cn}{X:Cx} (h:XOk Γ X) {scope:Scope}{N':List Str}{ts:List Nat}{n:Nat} (B:BlockOk X scope N' ts n) (nd:N'.Nodup) (s:Shared) (H:Hp) (C:Addr) (fp:List Addr) :
  XOk ⟨N',[],[],Γ.refs,relab scope.names Γ.ks,Γ.F,Γ.G,Γ.A,Γ.M,Γ.I,Γ.E,Γ.R,Γ.Y⟩ (Ev.inn X scope N' s H C fp) where
 hN:=rfl
 nd:=nd
 ks:=by show (relabel scope X.env).names=_;rw [relab_eq h.kd,h.ks]
 kd:=B.kind
 calm:=h.calm
 hu:=h.hu
 fns:=h.fns
 blt:=h.blt
 glb:=h.glb
 attrs:=h.attrs
 meths:=h.meths
 mks:=h.mks
 exs:=h.exs
 ys:=h.ys
theorem closure_ok {X:Cx}{scope:Scope}{N':List Str}{ts:List Nat}{n:Nat}{pins:List (Addr×Obj)}{σ:L2.St}{H:Hp}{s:Shared} (B:BlockOk X scope N' ts n) (I:Inv X pins σ H s):closureFor scope X.env=pure (clOf scope X.env):=by
 have all:∀x ∈ scope.names,x.2=.free->∃c,X.env.cells.lookup x.1=some c:=fun x hx hl=>I.ok.has x.1 (B.fr x hx hl).2
 unfold closureFor clOf
 have key:∀(l:List (Str×NameKind)) (acc:List (Str×Addr)),(∀x ∈ l,x.2=.free->∃c,X.env.cells.lookup x.1=some c) ->
   (forIn l acc fun (x:Str×NameKind) (r:List (Str×Addr))=>(do
    if x.2 == .free then do
     let c <- cellOf X.env x.1
     pure (ForInStep.yield ((x.1,c)::r))
    else pure (ForInStep.yield r):Sem (ForInStep (List (Str×Addr)))))=pure ((((l.filter fun x=>x.2 == .free).map fun x=>(x.1,(X.env.cells.lookup x.1).getD 0)).reverse)++acc):=by
  intro l
  induction l with
  | nil=>intro acc _;rfl
  | cons x l ih=>
   intro acc hl
   rw [List.forIn_cons]
   by_cases hk:(x.2 == NameKind.free)=true
   ·obtain⟨c,hc⟩:=hl x List.mem_cons_self (by simpa using hk)
    rw [if_pos hk,List.filter_cons_of_pos (p:=fun (x:Str×NameKind)=>x.2 == .free) hk,List.map_cons,List.reverse_cons,List.append_assoc]
    have e1:cellOf X.env x.1=pure c:=by unfold cellOf;rw [hc]
    rw [e1,hc]
    show (forIn l ((x.1,c)::acc) _:Sem _)=_
    rw [ih ((x.1,c)::acc) fun y hy=>hl y (List.mem_cons_of_mem _ hy)];rfl
   ·rw [if_neg hk,List.filter_cons_of_neg (p:=fun (x:Str×NameKind)=>x.2 == .free) hk]
    show (forIn l acc _:Sem _)=_
    rw [ih acc fun y hy=>hl y (List.mem_cons_of_mem _ hy)]
 have k:=key scope.names [] all
 rw [List.append_nil] at k
 show (Bind.bind (forIn scope.names [] fun (x:Str×NameKind) (r:List (Str×Addr))=>(do
    if x.2 == .free then do
     let c <- cellOf X.env x.1
     pure (ForInStep.yield ((x.1,c)::r))
    else pure (ForInStep.yield r):Sem (ForInStep (List (Str×Addr))))) fun cs=>pure cs:Sem (List (Str×Addr)))=_
 rw [k];rfl
end Ev
namespace Ev
open PySem PySem.Spec PyProof.Rows L2
theorem xComp' {X:Cx}{scope:Scope}{N':List Str}{ts:List Nat}{n:Nat}{elt iter tg:Expr}{ifs:List Expr}{pos:Pos}{fi:EVs}{g:TGv}{fc:EB}{fe:EV} (B:BlockOk X scope N' ts n) (hcalm:X.calm=true)
  (hi:PI X tg iter (tI X.K fi)) (hg:∀s H C fp,PG (inn X scope N' s H C fp) tg (gT X.K g)) (hc:∀s H C fp,PIfs (inn X scope N' s H C fp) ifs fc) (he:∀s H C fp,PE (inn X scope N' s H C fp) elt (tV X.K fe))
  (hs:∀x,foldedSetIterable iter X.env x=pure x) :
  PE X (.ListComp elt [⟨tg,iter,ifs,0⟩] scope pos) (tV X.K (vComp fi ts n g fc fe)):=fun pins s σ H Q I q=>
 xComp B hcalm hi hg hc he (closure_ok B I) hs pins s σ H Q I q
theorem zComp' {X:Cx}{scope:Scope}{N':List Str}{ts:List Nat}{n:Nat} (i:Nat) {x:Str}{px spos:Pos}{elt iter tg:Expr}{ifs:List Expr}{pos:Pos}{fi:EVs}{g:TGv}{fc:EB}{fe:EV} (hN:X.N.Nodup) (B:BlockOk X scope N' ts n) (hcalm:X.calm=true)
  (hi:PI X tg iter (tI X.K fi)) (hg:∀s H C fp,PG (inn X scope N' s H C fp) tg (gT X.K g)) (hc:∀s H C fp,PIfs (inn X scope N' s H C fp) ifs fc) (he:∀s H C fp,PE (inn X scope N' s H C fp) elt (tV X.K fe))
  (hsw:swapsWith (.ListComp elt [⟨tg,iter,ifs,0⟩] scope pos) (some (.Name x px)) spos.line X.env=pure true)
  (hs:∀x,foldedSetIterable iter X.env x=pure x) (hix:X.N[i]? = some x) (hx:L2.Loc X.env.scope x)
  (hf:X.fn x=true\/X.env.scope.names.lookup x=some .local) :
  PS X (.Assign [.Name x px] (.ListComp elt [⟨tg,iter,ifs,0⟩] scope pos) spos) (tSt X.K (sSet i (eV (vComp fi ts n g fc fe)))):=fun pins s σ H D I q=>
 zComp i hN B hcalm hi hg hc he (closure_ok B I) hsw hs hix hx hf pins s σ H D I q
noncomputable def AllGood (n:Nat):Prop:=∀(Γ:Cn) (X:Cx),XOk Γ X->∀e,Good X e (tr Γ n e)
theorem comp_pieces {Γ:Cn}{X:Cx} (h:XOk Γ X) {n:Nat} (G:AllGood n) {elt tg iter:Expr}{ifs:List Expr}{scope:Scope}{f:EV} (q:trComp Γ (fun Γ' x=>tr Γ' n x) elt tg iter ifs scope=some f) :
  ∃N' ts m fi g fc fe,BlockOk X scope N' ts m/\PI X tg iter (tI X.K fi)/\(∀s H C fp,PG (inn X scope N' s H C fp) tg (gT X.K g))/\(∀s H C fp,PIfs (inn X scope N' s H C fp) ifs fc)/\(∀s H C fp,PE (inn X scope N' s H C fp) elt (tV X.K fe)) /\
   (∀x,foldedSetIterable iter X.env x=pure x)/\f=vComp fi ts m g fc fe:=by
 unfold trComp at q
 generalize hN':Γ.N++cNew Γ.N (nmsOf tg)=N' at q
 generalize hts:cTs Γ.N (nmsOf tg)=ts at q
 generalize hm:(cNew Γ.N (nmsOf tg)).length=m at q
 split at q
 ·rename_i hc
  rw [Bool.and_eq_true] at hc
  obtain⟨it,q1,q⟩:=bind_eq q
  obtain⟨gg,q2,q⟩:=bind_eq q
  obtain⟨c,q3,q⟩:=bind_eq q
  obtain⟨e,q4,rfl⟩:=map_eq q
  have B:BlockOk X scope N' ts m:=block_ok h hc.1
  have nd:N'.Nodup:=of_decide_eq_true hc.2
  have hin:=fun s H C fp=>h.inn B nd s H C fp
  refine⟨N',ts,m,it,gg,c,e,B,it_ok h (G Γ X h) q1,fun s H C fp=>?_,fun s H C fp=>?_,fun s H C fp=>?_,fun x=>it_noset q1 _ x,rfl⟩
  ·exact tg_ok h.calm rfl nd (fun x hx=>⟨.inl ((hin s H C fp).local hx),.inr ((hin s H C fp).local hx)⟩) q2
  ·cases ifs with
   | nil=>cases q3;exact PIfs.none
   | cons a r=>
    cases r with
    | nil=>exact PIfs.one ((G _ _ (hin s H C fp) a).b c q3)
    | cons _ _=>cases q3
  ·exact (G _ _ (hin s H C fp) elt).v e q4
 ·cases q
theorem attrBase_own {o:Expr}{x:Str}{env:Env}{Γ:Cn}{n:Nat} (ho:isOwn Γ n o=true) (hx:x≠("__class__":Str)):attributeBase o x env (eval o env)=eval o env:=by
 cases n with
 | zero=>cases ho
 | succ n=>
  cases o <;> first | (cases ho;done) | rfl | skip
theorem mth_of {Γ:Cn}{o:Expr}{m name:Str}{ap cp:Pos} (h:mth Γ o m name ap cp=true):m=name/\isOwn Γ 4 o=true/\(ap.endLine == cp.line)=true:=by
 unfold mth at h
 simp only [Bool.and_eq_true] at h
 exact⟨of_decide_eq_true h.1.1,h.1.2,h.2⟩
theorem clsE {Γ:Cn}{X:Cx} (h:XOk Γ X) {t:Str}{tp:Pos} (q:exN Γ.E t=true) (hk:kindB Γ.ks t [.globalImplicit]=true) (on:okName t=true):∃v,clV (cvOf X.mg t)=some v/\PE X (.Name t tp) (tC v):=by
 rcases cv_own h.exs q with ⟨C,e0,e1,_⟩ | ⟨rfl,e0,e1⟩
 ·exact⟨.ref C,by rw [e1];rfl,pe_glob (h.gl hk) e0 rfl (okName_of on).1⟩
 ·exact⟨.ty "ValueError",by rw [e1];rfl,pe_bltn (h.gl hk) e0 PyProof.Rows.Boot.«ValueError» rfl (by decide) (by decide)⟩
theorem isiX_ok {Γ:Cn}{X:Cx} (h:XOk Γ X) {t:Str}{a:Expr}{fa:EE}{fp tp pos:Pos} (q:exN Γ.E t=true) (hk2:kindB Γ.ks t [.globalImplicit]=true) (on:okName t=true) (hk:kindB Γ.ks ("isinstance":Str) [.globalImplicit]=true) (ha:PE X a (tE X.K fa)) (ns:NoStar a) :
  PE X (.Call (.Name "isinstance" fp) [a,.Name t tp] [] pos) (tV X.K (vIsiX (ansOf Γ.E Γ.R [t]) fa)):=by
 obtain⟨v,hv,hc⟩:=clsE h (tp:=tp) q hk2 on
 exact yIsiX hv (ans_ok h.exs (ts:=[t]) fun x hx=>by cases hx with | head=>exact q | tail _ z=>cases z) (h.gl hk) (h.blt ("isinstance":Str) (by decide)) ha hc (by rw [ns];rfl) rfl
theorem clsEs {Γ:Cn}{X:Cx} (h:XOk Γ X):∀{es:List Expr}{ts:List Str},nmsX Γ.ks Γ.E es=some ts->∃vs:List V,(ts.map (cvOf X.mg)).map clV=vs.map some/\vs.length=ts.length/\PA X es (fun _ H Q=>Q vs H)
 | [],ts,q=>by cases q;exact⟨[],rfl,rfl,pa_nil⟩
 | e::es,ts,q=>by
  unfold nmsX at q
  split at q
  ·rename_i z;cases z
  ·rename_i t tp r z
   cases z
   split at q
   ·rename_i hq
    obtain⟨us,e1,rfl⟩:=Option.map_eq_some_iff.mp q
    rw [Bool.and_eq_true,Bool.and_eq_true] at hq
    obtain⟨vs,k1,k2,k3⟩:=clsEs h e1
    obtain⟨v,hv,hc⟩:=clsE h (tp:=tp) hq.1.2 hq.1.1 hq.2
    exact⟨v::vs,by rw [List.map_cons,List.map_cons,List.map_cons,k1,hv],by rw [List.length_cons,List.length_cons,k2],(pa_cons hc k3 rfl).imp' fun _ _ _ z=>z⟩
   ·cases q
  ·cases q
theorem isiXT_ok {Γ:Cn}{X:Cx} (h:XOk Γ X) {es:List Expr}{ts:List Str}{a:Expr}{fa:EE}{tc:Nat}{fp tp pos:Pos} (q:nmsX Γ.ks Γ.E es=some ts) (hz:ts.length≤100) (hk:kindB Γ.ks ("isinstance":Str) [.globalImplicit]=true) (ha:PE X a (tE X.K fa)) (ns:NoStar a) :
  PE X (.Call (.Name "isinstance" fp) [a,.Tuple es tc tp] [] pos) (tV X.K (vIsiX (ansOf Γ.E Γ.R ts) fa)):=by
 obtain⟨vs,k1,k2,k3⟩:=clsEs h q
 exact yIsiXT k1 (by rw [k2,sizeLine_eq];omega) (ans_ok h.exs (nmsX_ok q)) (h.gl hk) (h.blt ("isinstance":Str) (by decide)) ha k3 (by rw [ns];rfl) rfl
theorem tr_ok:∀n,AllGood n
 | 0=>fun Γ X h e=>Good.no
 | n+1=>by
  have G:=tr_ok n
  intro Γ X h e
  have g:=G Γ X h
  unfold tr
  split
  ·exact .ofV (fun f q=>by cases q;exact xInt) fun _ _=>rfl
  ·exact .ofV (fun f q=>by cases q;exact xBl) fun _ _=>rfl
  ·exact .ofV (fun f q=>by cases q;exact xNon) fun _ _=>rfl
  ·exact .ofV (fun f q=>by cases q;exact xStr) fun _ _=>rfl
  ·split
   ·rename_i x p hc
    rw [Bool.and_eq_true] at hc
    refine .ofE (fun f q=>?_) fun _ _=>rfl
    obtain⟨i,q1,rfl⟩:=map_eq q
    exact xVar i (h.get q1) (h.vis hc.1) (okName_of hc.2).1 (okName_of hc.2).2
   ·split
    ·rename_i hc
     rw [Bool.and_eq_true] at hc
     refine .ofV (fun f q=>?_) fun _ _=>rfl
     obtain⟨v,q1,q⟩:=bind_eq q
     split at q
     ·cases q
     ·rename_i hd
      cases q
      exact xGlob (h.gl hc.1) ((h.glb _ v q1).1 (by simpa using hd)) (okName_of hc.2).1
    ·exact .no
  ·refine .ofV (fun f q=>?_) fun _ _=>rfl
   obtain⟨o,q1,q⟩:=bind_eq q
   obtain⟨x,q2,q⟩:=bind_eq q
   obtain⟨y,q3,rfl⟩:=map_eq q
   exact xOp (bop_ok h q1) ((g _).v x q2) ((g _).v y q3)
  ·refine .ofB (fun f q=>?_) fun f q=>?_
   ·obtain⟨x,q1,rfl⟩:=map_eq q
    exact yNot ((g _).b x q1)
   ·obtain⟨x,q1,rfl⟩:=map_eq q
    exact xNot ((g _).w x q1)
  ·exact .ofB (fun f q=>(wFold_pw (fun e _=>g e) q).pt) fun f q=>wFold_pe (fun e _=>g e) q
  ·refine .ofC (fun f q=>?_) fun f q=>?_
   ·split at q
    ·rename_i g' q1
     obtain⟨x,q2,q⟩:=bind_eq q
     obtain⟨y,q3,rfl⟩:=map_eq q
     exact xCmp (cop_ok q1) ((g _).v x q2) ((g _).v y q3) (cop_mark _ q1)
    ·obtain⟨o,q1,q⟩:=bind_eq q
     obtain⟨x,q2,q⟩:=bind_eq q
     obtain⟨y,q3,rfl⟩:=map_eq q
     exact xCmpE (cop2_ok h q1) ((g _).e x q2) ((g _).e y q3) (mark_of (by rw [q3];rfl))
   ·split at q
    ·rename_i g' q1
     obtain⟨x,q2,q⟩:=bind_eq q
     obtain⟨y,q3,rfl⟩:=map_eq q
     exact yCmp (cop_ok q1) ((g _).v x q2) ((g _).v y q3) (cop_mark _ q1)
    ·obtain⟨o,q1,q⟩:=bind_eq q
     obtain⟨x,q2,q⟩:=bind_eq q
     obtain⟨y,q3,rfl⟩:=map_eq q
     exact yCmpE (cop2_ok h q1) ((g _).e x q2) ((g _).e y q3) (mark_of (by rw [q3];rfl))
  ·refine .ofV (fun f q=>?_) fun _ _=>rfl
   obtain⟨x,q1,rfl⟩:=map_eq q
   exact xTup (trAs_ok (fun e _=>g e) q1).1
  ·refine .ofV (fun f q=>?_) fun _ _=>rfl
   obtain⟨x,q1,rfl⟩:=map_eq q
   exact xLst (trAs_ok (fun e _=>g e) q1).1
  ·exact⟨fun f q=>(by cases q;exact xVE xDictE),fun f q=>(by cases q;exact xDictE),fun f q=>(by cases q),fun f q=>(by cases q)⟩
  ·split
   ·rename_i hc
    simp only [Bool.and_eq_true] at hc
    obtain⟨⟨⟨h1,h2⟩,h3⟩,h4⟩:=hc
    refine .ofV (fun f q=>?_) fun _ _=>rfl
    obtain⟨l,q1,rfl⟩:=map_eq q
    refine xDict (trDE_ok (fun e _=>g e) q1) h1 (of_decide_eq_true h2) (fun z=>?_) (of_decide_eq_true h4)
    rw [z] at h3;cases h3
   ·exact .no
  ·refine .ofV (fun f q=>?_) fun _ _=>rfl
   obtain⟨x,q1,q⟩:=bind_eq q
   obtain⟨y,q2,q⟩:=bind_eq q
   obtain⟨z,q3,rfl⟩:=map_eq q
   exact xSl2 ((g _).v x q1) (trO_ok g q2) (trO_ok g q3)
  ·split
   ·refine .ofE (fun f q=>?_) fun _ _=>rfl
    obtain⟨x,q1,q⟩:=bind_eq q
    obtain⟨y,q2,rfl⟩:=map_eq q
    exact xIxE (by have:=h.hu;omega) ((g _).e x q1) ((g _).v y q2) (plainIx_of (by rw [q2];rfl))
   ·refine .ofV (fun f q=>?_) fun _ _=>rfl
    obtain⟨x,q1,q⟩:=bind_eq q
    obtain⟨y,q2,rfl⟩:=map_eq q
    exact xIx (by have:=h.hu;omega) ((g _).v x q1) ((g _).v y q2) (plainIx_of (by rw [q2];rfl))
  ·rename_i f fp args cp
   split
   ·rename_i hc
    rw [Bool.and_eq_true] at hc
    split
    ·rename_i gf hg
     split
     ·exact .no
     ·rename_i args' hne
      ·refine .ofV (fun f q=>?_) fun _ _=>rfl
       obtain⟨x,q1,rfl⟩:=map_eq q
       obtain⟨a1,a2⟩:=trAs_ok (fun e _=>g e) q1
       cases args with
       | nil=>exact absurd rfl hne
       | cons a as=>exact call_ok h hg hc.1 hc.2 a1 a2
    ·split
     ·exact .no
     ·rename_i a
      split
      ·rename_i hl
       subst hl
       refine .ofV (fun f q=>?_) fun _ _=>rfl
       obtain⟨x,q1,rfl⟩:=map_eq q
       exact xLen (h.gl hc.1) (h.blt _ (by decide)) ((g _).e x q1) (noStar_of (.inr (by rw [q1];rfl)) _ _)
      ·refine .ofV (fun f q=>?_) fun _ _=>rfl
       obtain⟨o,q1,q⟩:=bind_eq q
       obtain⟨x,q2,rfl⟩:=map_eq q
       obtain⟨a1,a2⟩:=trAs_ok (es:=[a]) (fun e _=>g e) q2
       exact blt_ok h q1 hc.1 a1 a2
     ·rename_i a t tp
      split
      ·rename_i hl
       subst hl
       split
       ·rename_i ht
        split
        ·rename_i T q1
         refine .ofV (fun f q=>?_) fun _ _=>rfl
         obtain⟨x,q2,rfl⟩:=map_eq q
         exact isi_ok h q1 hc.1 ht ((g _).e x q2) (noStar_of (.inr (by rw [q2];rfl)))
        ·split
         ·rename_i hq
          rw [Bool.and_eq_true] at hq
          refine .ofV (fun f q=>?_) fun _ _=>rfl
          obtain⟨x,q2,rfl⟩:=map_eq q
          exact isiX_ok h hq.1 ht hq.2 hc.1 ((g _).e x q2) (noStar_of (.inr (by rw [q2];rfl)))
         ·exact .no
       ·exact .no
      ·refine .ofV (fun f q=>?_) fun _ _=>rfl
       obtain⟨o,q1,q⟩:=bind_eq q
       obtain⟨x,q2,rfl⟩:=map_eq q
       obtain⟨a1,a2⟩:=trAs_ok (es:=[a,.Name t tp]) (fun e _=>g e) q2
       exact blt_ok h q1 hc.1 a1 a2
     ·rename_i a ts tc tp
      split
      ·rename_i hl
       subst hl
       split
       ·rename_i xs hx
        split
        ·rename_i hz
         refine .ofV (fun f q=>?_) fun _ _=>rfl
         obtain⟨x,q2,rfl⟩:=map_eq q
         exact isiXT_ok h hx (of_decide_eq_true hz) hc.1 ((g _).e x q2) (noStar_of (.inr (by rw [q2];rfl)))
        ·exact .no
       ·exact .no
      ·refine .ofV (fun f q=>?_) fun _ _=>rfl
       obtain⟨o,q1,q⟩:=bind_eq q
       obtain⟨x,q2,rfl⟩:=map_eq q
       obtain⟨a1,a2⟩:=trAs_ok (es:=[a,.Tuple ts tc tp]) (fun e _=>g e) q2
       exact blt_ok h q1 hc.1 a1 a2
     ·rename_i hne _ _ _
      refine .ofV (fun f q=>?_) fun _ _=>rfl
      obtain⟨o,q1,q⟩:=bind_eq q
      obtain⟨x,q2,rfl⟩:=map_eq q
      obtain⟨a1,a2⟩:=trAs_ok (fun e _=>g e) q2
      cases args with
      | nil=>exact absurd rfl hne
      | cons a as=>exact blt_ok h q1 hc.1 a1 a2
   ·exact .no
  ·split
   ·rename_i hc
    obtain⟨rfl,h2,h3⟩:=mth_of hc
    refine .ofE (fun f q=>?_) fun _ _=>rfl
    obtain⟨x,q1,q⟩:=bind_eq q
    obtain⟨y,q2,rfl⟩:=map_eq q
    exact xAppend ((g _).e x q1) ((g _).e y q2) (noStar_of (.inr (by rw [q2];rfl)) _ _) (attrBase_own h2 (by decide)) h3
   ·split
    ·rename_i hc
     obtain⟨rfl,h2,h3⟩:=mth_of hc
     refine .ofE (fun f q=>?_) fun _ _=>rfl
     obtain⟨x,q1,q⟩:=bind_eq q
     obtain⟨y,q2,rfl⟩:=map_eq q
     exact xExtend ((g _).e x q1) ((g _).v y q2) (noStar_of (.inl (by rw [q2];rfl)) _ _) (attrBase_own h2 (by decide)) h3
    ·exact .no
  ·split
   ·rename_i hc
    obtain⟨rfl,h2,h3⟩:=mth_of hc
    refine .ofE (fun f q=>?_) fun _ _=>rfl
    obtain⟨x,q1,rfl⟩:=map_eq q
    exact xPop ((g _).e x q1) (attrBase_own h2 (by decide)) h3
   ·exact .no
  ·split
   ·rename_i gx gp m ap a b cp hc
    rw [Bool.and_eq_true] at hc
    have e0:=of_decide_eq_true hc.1
    subst e0
    refine .ofV (fun f q=>?_) fun _ _=>rfl
    obtain⟨x,q1,q⟩:=bind_eq q
    obtain⟨y,q2,q⟩:=bind_eq q
    obtain⟨z,q3,rfl⟩:=map_eq q
    have n1:NoStar a:=noStar_of (.inl (by rw [q2];rfl))
    have n2:NoStar b:=noStar_of (.inl (by rw [q3];rfl))
    have s2:starEach [b] X.env=[(false,eval b X.env)]:=n2 _ _
    have s1:starEach [a,b] X.env=[(false,eval a X.env),(false,eval b X.env)]:=by rw [n1,s2]
    exact x_get2 (by have:=h.hu;omega) ((g _).v x q1) ((g _).v y q2) ((g _).v z q3) ⟨rfl,by rw [s1];rfl,hc.2,by rw [s1];rfl⟩
   ·exact .no
  ·refine .ofV (fun f q=>?_) fun _ _=>rfl
   obtain⟨N',ts,m,fi,gg,fc,fe,B,p1,p2,p3,p4,p6,rfl⟩:=comp_pieces h G q
   exact xComp' B h.calm p1 p2 p3 p4 p6
  ·exact .no
end Ev
namespace Ev
open PySem PySem.Spec PyProof.Rows L2
noncomputable def trSs (T:Stmt->Option ES):List Stmt->Option ES
 | []=>some sNx
 | [s]=>T s
 | s::r=>(T s).bind fun f=>(trSs T r).map fun g=>sSeq f g
noncomputable def isLst:Expr->Option (List Expr)
 | .List es _=>some es
 | _=>none
noncomputable def isComp:Expr->Bool
 | .ListComp ..=>true
 | _=>false
theorem notComp {e:Expr} (h:isComp e=false):∀a b c d,e≠.ListComp a b c d:=fun a b c d z=>by subst z;cases h
noncomputable def trS (Γ:Cn):Nat->Stmt->Option ES
 | 0,_=>none
 | n+1,st=>match st with
  | .Assign [.Name x _] value _=>if kindB Γ.ks x [.local,.cell]=true then (ixOf Γ.N x).bind fun i=>match isLst value with
    | some es=>if Γ.own.contains x=true then (trAs (es.map fun y=>(tr Γ n y).v)).map fun a=>sSet i (eLst' a) else (tr Γ n value).e.map (sSet i)
    | none=>(tr Γ n value).e.map (sSet i)
   else none
  | .Assign [.Subscript o i _] value _=>(tr Γ n o).e.bind fun x=>(tr Γ n i).v.bind fun y=>if isComp value=true then none else (tr Γ n value).v.map fun z=>sPut2 x y z
  | .Return (some e) _=>(tr Γ n e).e.map sRet
  | .Expr e _=>if isComp e=true then none else (tr Γ n e).e.map sDrop
  | .If c a b _=>(tr Γ n c).b.bind fun q=>(trSs (trS Γ n) a).bind fun x=>(trSs (trS Γ n) b).map fun y=>sIf q x y
  | .For tg iter body [] _=>(trTg Γ.N Γ.ks [.local,.cell] tg).bind fun g=>(trIt Γ (fun y=>tr Γ n y) tg iter).bind fun it=>(trSs (trS Γ n) body).map fun b=>sFor it g b
  | .While c body [] _=>(tr Γ n c).b.bind fun q=>(trSs (trS Γ n) body).map fun b=>sWhile 1000 q b
  | .Raise ..=>some sNever
  | .Try [.Assign [.Name x xp] (.Call (.Name f fp) args [] cp) ap] [.ExceptHandler (some (.Name c np)) (some nm) [.Assign [.Name y yp] (.Name z zp) ap2] hpos] [] [] _=>match Γ.Y f with
    | some gx=>if (kindB Γ.ks x [.local,.cell] && kindB Γ.ks y [.local,.cell] && kindB Γ.ks f [.globalImplicit] && okName f && !args.isEmpty && kindB Γ.ks c [.globalImplicit] && okName c && (Γ.E.any fun w=>decide (w.1=c)) && kindB Γ.ks nm [.local] && decide (z=nm) && okName nm)=true then
      (ixOf Γ.N x).bind fun i=>(ixOf Γ.N y).bind fun j=>(ixOf Γ.N nm).bind fun k=>(tr Γ n (.Call (.Name f fp) args [] cp)).e.bind fun fe=>(trDs (args.map fun w=>(tr Γ n w).e)).map fun a=>
       sTry (sSet i fe) (xCallX gx a) (fun c'=>Γ.R.contains c' && (Γ.E.lookup c').any fun anc=>anc.contains c) k (sSet j (eVar k))
     else none
    | none=>none
  | _=>none
theorem noSwap {value:Expr}{t:Option Expr}{line:Nat}{env:Env} (h:∀a b c d,value≠.ListComp a b c d) (h2:∀a b c d,value≠.SetComp a b c d) (h3:∀a b c d e,value≠.DictComp a b c d e):swapsWith value t line env=pure false:=by
 cases value <;> first | rfl | exact absurd rfl (h _ _ _ _) | exact absurd rfl (h2 _ _ _ _) | exact absurd rfl (h3 _ _ _ _ _)
theorem noSet_of {Γ:Cn}{n:Nat}{e:Expr} (h:(tr Γ n e).e.isSome=true):(∀a b c d,e≠.SetComp a b c d)/\∀a b c d f,e≠.DictComp a b c d f:=by
 cases n with
 | zero=>cases h
 | succ n=>exact⟨fun a b c d z=>(by subst z;cases h),fun a b c d f z=>(by subst z;cases h)⟩
theorem v_e {Γ:Cn}{n:Nat}{e:Expr}{f:EV} (h:(tr Γ n e).v=some f) (hl:∀a b c d,e≠.ListComp a b c d):(∀a b c d,e≠.SetComp a b c d)/\∀a b c d g,e≠.DictComp a b c d g:=by
 cases n with
 | zero=>cases h
 | succ n=>exact⟨fun a b c d z=>(by subst z;cases h),fun a b c d f z=>(by subst z;cases h)⟩
theorem tr_comp {Γ:Cn}{n:Nat}{elt:Expr}{gs:List Comprehension}{scope:Scope}{pos:Pos}{f:EE} (h:(tr Γ n (.ListComp elt gs scope pos)).e=some f) :
    ∃k tg iter ifs f',n=k+1/\gs=[⟨tg,iter,ifs,0⟩]/\trComp Γ (fun Γ' x=>tr Γ' k x) elt tg iter ifs scope=some f'/\f=eV f':=by
  cases n with
  | zero=>cases h
  | succ n=>
    unfold tr at h
    split at h
    all_goals first
      | (rename_i hh;cases hh;done)
      | (rename_i hh;cases hh
         obtain⟨x,q1,rfl⟩:=map_eq (show Option.map eV _=some f from h)
         exact⟨n,_,_,_,x,rfl,rfl,q1,rfl⟩)
      | (cases h;done)
theorem trSs_ok {X:Cx}{T:Stmt->Option ES} (h:∀st f,T st=some f->PS X st (tSt X.K f)):∀{sts:List Stmt}{f:ES},trSs T sts=some f->PSs X sts (tSt X.K f)
 | [],f,q=>by cases q;exact zNil
 | [s],f,q=>zOne (h s f q)
 | s::t::r,f,q=>by
  obtain⟨x,q1,q⟩:=bind_eq q
  obtain⟨y,q2,rfl⟩:=map_eq q
  exact zCons (h s x q1) (trSs_ok h q2)
theorem XOk.more {Γ:Cn}{X:Cx} (h:XOk Γ X) (E:Value->Shared->Prop) (pn:List (Addr×Obj)):XOk Γ (moreX X E pn):=⟨h.hN,h.nd,h.ks,h.kd,h.calm,h.hu,h.fns,h.blt,h.glb,h.attrs,h.meths,h.mks,h.exs,h.ys⟩
structure OnStack (X:Cx):Prop where
 stk:X.stack=X.env::X.outer
 frm:X.env.frame=some X.env.locals
 ex:X.ex=[]
theorem args_ok {Γ:Cn}{X:Cx} (h:XOk Γ X) {n:Nat}{args:List Expr}{as:EDs} (q:trDs (args.map fun w=>(tr Γ n w).e)=some as):PA X args (tDs X.K as)/\∀e ∈ args,NoStar e:=trDs_ok (fun e _=>tr_ok n Γ X h e) q
theorem callX_ok {Γ:Cn}{X:Cx} (h:XOk Γ X) {n:Nat}{f:Str}{fp cp:Pos}{args:List Expr}{as:EDs}{gx:GX} (hY:Γ.Y f=some gx) (c3:kindB Γ.ks f [.globalImplicit]=true) (c4:okName f=true) (c5:args.isEmpty=false) (q2:trDs (args.map fun w=>(tr Γ n w).e)=some as):PE X (.Call (.Name f fp) args [] cp) (tXE X (xCallX gx as)):=by
 obtain⟨cl,k,fa,fd,ps,G,hr,hm,hk,hb⟩:=h.ys f gx hY
 obtain⟨a1,a2⟩:=args_ok h q2
 cases args with
 | nil=>cases c5
 | cons a as'=>exact xeCall G cl hr (h.gl c3) hm hk hb a1 (okName_of c4).1 (a2 a List.mem_cons_self _ _) (anyBack fun e he=>a2 e (List.mem_cons_of_mem _ he))
theorem try_ok {Γ:Cn}{X:Cx} (h:XOk Γ X) (hfn:∀x,X.fn x=true) (hs:OnStack X) {n:Nat}{x y c f nm:Str}{xp fp cp ap np yp zp ap2 hpos pos:Pos}{args:List Expr}{gx:GX}{i j k:Nat}{fe:EE}{as:EDs} (hY:Γ.Y f=some gx)
  (c1:kindB Γ.ks x [.local,.cell]=true) (c2:kindB Γ.ks y [.local,.cell]=true) (c3:kindB Γ.ks f [.globalImplicit]=true) (c4:okName f=true) (c5:args.isEmpty=false) (c6:kindB Γ.ks c [.globalImplicit]=true) (c7:okName c=true) (c8:(Γ.E.any fun w=>decide (w.1=c))=true) (c9:kindB Γ.ks nm [.local]=true) (c11:okName nm=true)
  (qi:ixOf Γ.N x=some i) (qj:ixOf Γ.N y=some j) (qk:ixOf Γ.N nm=some k) (q1:(tr Γ n (.Call (.Name f fp) args [] cp)).e=some fe) (q2:trDs (args.map fun w=>(tr Γ n w).e)=some as) :
  PS X (.Try [.Assign [.Name x xp] (.Call (.Name f fp) args [] cp) ap] [.ExceptHandler (some (.Name c np)) (some nm) [.Assign [.Name y yp] (.Name nm zp) ap2] hpos] [] [] pos) (tSt X.K (sTry (sSet i fe) (xCallX gx as) (fun c'=>Γ.R.contains c' && (Γ.E.lookup c').any fun anc=>anc.contains c) k (sSet j (eVar k)))):=by
 obtain⟨C2,ns2,mgc⟩:=h.exs.own c c8
 have swp:swapsWith (.Call (.Name f fp) args [] cp) (some (.Name x xp)) ap.line X.env=pure false:=rfl
 refine zTryX hs.stk hs.frm hs.ex h.nd (h.gl c6) mgc (okName_of c7).1 (h.get qk) (h.local c9) (fun E pn=>?_) (fun E pn=>?_) (fun e=>?_) fun c' C hsub ns=>?_
 ·have h':=h.more E pn
  exact zOne (X:=moreX X E pn) (zSet (X:=moreX X E pn) i h'.nd ((tr_ok n Γ _ h' _).e fe q1) (h'.get qi) (h'.loc c1) swp (.inl (hfn x)))
 ·have h':=h.more E pn
  exact pss_one (x1Set (X:=moreX X E pn) i h'.nd (callX_ok h' hY c3 c4 c5 q2) (h'.get qi) (h'.loc c1) swp (.inl (hfn x)))
 ·exact zOne (X:=suiteX X e) (zSet (X:=suiteX X e) j h.nd (xVar (X:=suiteX X e) k (h.get qk) (.inl (h.local c9)) (okName_of c11).1 (okName_of c11).2) (h.get qj) (h.loc c2) rfl (.inl (hfn y)))
 ·obtain⟨hR,hq⟩:=Bool.and_eq_true_iff.mp (show (Γ.R.contains c' && (Γ.E.lookup c').any fun anc=>anc.contains c)=true from hsub)
  cases ea:Γ.E.lookup c' with
  | none=>rw [ea] at hq;cases hq
  | some anc=>rw [ea] at hq;exact ((h.exs.cl c' anc C hR ea ns).2.2.2 c C2 c8 mgc).2 hq
theorem trS_ok {Γ:Cn}{X:Cx} (h:XOk Γ X) (hfn:∀x,X.fn x=true) (hp:PassesOwn (model X.prog X.w) X.A X.env X.xe) (hs:OnStack X):∀n (st:Stmt) (f:ES),trS Γ n st=some f->PS X st (tSt X.K f)
 | 0,st,f,q=>by cases q
 | n+1,st,f,q=>by
  have ih:=trS_ok h hfn hp hs n
  have g:=tr_ok n Γ X h
  unfold trS at q
  split at q
  ·rename_i x px value sp
   split at q
   ·rename_i hk
    obtain⟨i,qi,q⟩:=bind_eq q
    have plain:(tr Γ n value).e.map (sSet i)=some f->PS X (.Assign [.Name x px] value sp) (tSt X.K f):=fun q=>by
     obtain⟨fe,q1,rfl⟩:=map_eq q
     by_cases hl:∃a b c d,value=.ListComp a b c d
     ·obtain⟨a,b,c,d,rfl⟩:=hl
      obtain⟨k,tg,iter,ifs,f',rfl,rfl,q2,rfl⟩:=tr_comp q1
      obtain⟨N',ts,m,fi,gg,fc,fee,B,p1,p2,p3,p4,p6,rfl⟩:=comp_pieces h (tr_ok k) q2
      have sw:swapsWith (.ListComp a [⟨tg,iter,ifs,0⟩] c d) (some (.Name x px)) sp.line X.env=pure (X.env.blockKind == .function && X.env.kindOf x == some .local && px.line == (Expr.ListComp a [⟨tg,iter,ifs,0⟩] c d).pos.line
       && !(c.names.any fun (n,k)=>n == x && (k == .local || k == .cell))):=rfl
      cases hb:(X.env.blockKind == .function && X.env.kindOf x == some .local && px.line == (Expr.ListComp a [⟨tg,iter,ifs,0⟩] c d).pos.line && !(c.names.any fun (n,k)=>n == x && (k == .local || k == .cell))) with
      | true=>
       rw [hb] at sw
       exact zComp' i h.nd B h.calm p1 p2 p3 p4 sw p6 (h.get qi) (h.loc hk) (.inl (hfn x))
      | false=>
       rw [hb] at sw
       exact zSet i h.nd (xEV (xComp' B h.calm p1 p2 p3 p4 p6)) (h.get qi) (h.loc hk) sw (.inl (hfn x))
     ·have n1:∀a b c d,value≠.ListComp a b c d:=fun a b c d z=>hl ⟨a,b,c,d,z⟩
      obtain⟨n2,n3⟩:=noSet_of (show (tr Γ n value).e.isSome=true by rw [q1];rfl)
      exact zSet i h.nd ((g value).e fe q1) (h.get qi) (h.loc hk) (noSwap n1 n2 n3) (.inl (hfn x))
    split at q
    ·rename_i es hes
     split at q
     ·obtain⟨a,q1,rfl⟩:=map_eq q
      unfold isLst at hes
      split at hes
      ·cases hes
       exact zSet i h.nd (xLstE (trAs_ok (fun e _=>g e) q1).1) (h.get qi) (h.loc hk) rfl (.inl (hfn x))
      ·cases hes
     ·exact plain q
    ·exact plain q
   ·cases q
  ·rename_i o i ip value sp
   obtain⟨x,q1,q⟩:=bind_eq q
   obtain⟨y,q2,q⟩:=bind_eq q
   split at q
   ·cases q
   ·rename_i hne
    obtain⟨z,q3,rfl⟩:=map_eq q
    have n1:∀a b c d,value≠.ListComp a b c d:=notComp (by simpa using hne)
    obtain⟨n2,n3⟩:=v_e q3 n1
    exact zPut2 (by have:=h.hu;omega) ((g o).e x q1) ((g i).v y q2) ((g value).v z q3) (noSwap n1 n2 n3)
  ·obtain⟨x,q1,rfl⟩:=map_eq q
   exact zRet ((g _).e x q1)
  ·split at q
   ·cases q
   ·rename_i hne
    obtain⟨x,q1,rfl⟩:=map_eq q
    obtain⟨n2,n3⟩:=noSet_of (by rw [q1];rfl)
    exact zDrop ((g _).e x q1) (noSwap (notComp (by simpa using hne)) n2 n3)
  ·obtain⟨c,q1,q⟩:=bind_eq q
   obtain⟨x,q2,q⟩:=bind_eq q
   obtain⟨y,q3,rfl⟩:=map_eq q
   exact zIf ((g _).b c q1) (trSs_ok ih q2) (trSs_ok ih q3)
  ·obtain⟨gg,q0,q⟩:=bind_eq q
   obtain⟨it,q1,q⟩:=bind_eq q
   obtain⟨b,q2,rfl⟩:=map_eq q
   exact zFor hp h.calm (it_ok h g q1) (tg_ok h.calm h.hN h.nd (fun x hx=>⟨h.loc hx,.inl (hfn x)⟩) q0) (trSs_ok ih q2) fun x=>it_noset q1 _ x
  ·obtain⟨c,q1,q⟩:=bind_eq q
   obtain⟨b,q2,rfl⟩:=map_eq q
   exact zWhile hp ((g _).b c q1) (trSs_ok ih q2)
  ·cases q;exact zNever
  ·rename_i x xp f fp args cp ap c np nm y yp z zp ap2 hpos tpos
   split at q
   ·rename_i gx hY
    split at q
    ·rename_i hc
     simp only [Bool.and_eq_true,Bool.not_eq_true'] at hc
     obtain⟨⟨⟨⟨⟨⟨⟨⟨⟨⟨c1,c2⟩,c3⟩,c4⟩,c5⟩,c6⟩,c7⟩,c8⟩,c9⟩,c10⟩,c11⟩:=hc
     obtain⟨i,qi,q⟩:=bind_eq q
     obtain⟨j,qj,q⟩:=bind_eq q
     obtain⟨kk,qk,q⟩:=bind_eq q
     obtain⟨fe,q1,q⟩:=bind_eq q
     obtain⟨as,q2,rfl⟩:=map_eq q
     cases of_decide_eq_true c10
     exact try_ok h hfn hs hY c1 c2 c3 c4 c5 c6 c7 c8 c9 c11 qi qj qk q1 q2
    ·cases q
   ·cases q
  ·cases q
end Ev
namespace Ev
open PySem PySem.Spec PyProof.Rows L2
noncomputable def trXs (T:Stmt->Option ES) (T':Stmt->EX):List Stmt->EX
 | []=>xNo
 | [s]=>T' s
 | s::r=>match T s with
  | some f0=>xSeq f0 (T' s) (trXs T T' r)
  | none=>T' s
noncomputable def trX (Γ:Cn):Nat->Stmt->EX
 | 0,_=>xNo
 | n+1,st=>match st with
  | .If c a b _=>match (tr Γ n c).b with
   | some q=>xIfX q (trXs (trS Γ n) (trX Γ n) a) (trXs (trS Γ n) (trX Γ n) b)
   | none=>xNo
  | .For tg iter body [] _=>match trTg Γ.N Γ.ks [.local,.cell] tg,trIt Γ (fun y=>tr Γ n y) tg iter,trSs (trS Γ n) body with
   | some g,some it,some b=>xFor it g b (trXs (trS Γ n) (trX Γ n) body)
   | _,_,_=>xNo
  | .Raise (some (.Call (.Name c _) [] [] _)) none _=>if (Γ.R.contains c && kindB Γ.ks c [.globalImplicit] && okName c)=true then xRaise c else xNo
  | .Expr (.Call (.Name f _) args [] _) _=>match Γ.Y f,trDs (args.map fun w=>(tr Γ n w).e) with
   | some gx,some as=>if (kindB Γ.ks f [.globalImplicit] && okName f && !args.isEmpty)=true then xCallX gx as else xNo
   | _,_=>xNo
  | _=>xNo
theorem x1All {X:Cx}{st:Stmt}{f:EX} (h:PS X st (tXo X f)):PS X st (tX X f):=h.imp' fun _ _ _ z=>tX_o z
theorem trXs_ok {X:Cx}{T:Stmt->Option ES}{T':Stmt->EX} (hT:∀st f,T st=some f->PS X st (tSt X.K f)) (hX:∀st,PS X st (tX X (T' st))):∀sts:List Stmt,PSs X sts (tX X (trXs T T' sts))
 | []=>xsNo
 | [s]=>xsOne (hX s)
 | s::t::r=>by
  unfold trXs
  split
  ·rename_i f0 e0
   exact xsCons (hT s f0 e0) (hX s) (trXs_ok hT hX (t::r))
  ·exact (pss_cons (hX s) (pss_never (X:=X))).imp' fun _ _ _ z=>z
theorem trX_ok {Γ:Cn}{X:Cx} (h:XOk Γ X) (hfn:∀x,X.fn x=true) (hp:PassesOwn (model X.prog X.w) X.A X.env X.xe) (hs:OnStack X):∀n (st:Stmt),PS X st (tX X (trX Γ n st))
 | 0,st=>x1No
 | n+1,st=>by
  have ih:=trX_ok h hfn hp hs n
  have is:=trS_ok h hfn hp hs n
  have g:=tr_ok n Γ X h
  unfold trX
  split
  ·split
   ·rename_i q q1
    exact x1If ((g _).b q q1) (trXs_ok is ih _) (trXs_ok is ih _)
   ·exact x1No
  ·split
   ·rename_i gg it b q0 q1 q2
    exact x1For hp h.calm (it_ok h g q1) (tg_ok h.calm h.hN h.nd (fun x hx=>⟨h.loc hx,.inl (hfn x)⟩) q0) (trSs_ok is q2) (trXs_ok is ih _) fun x=>it_noset q1 _ x
   ·exact x1No
  ·split
   ·rename_i hc
    rw [Bool.and_eq_true,Bool.and_eq_true] at hc
    obtain⟨C,ns,_⟩:=h.exs.own _ (h.exs.rE _ hc.1.1)
    obtain⟨mgc,q⟩:=h.exs.rs _ C hc.1.1 ns
    exact x1Raise h.calm (h.gl hc.1.2) ns mgc q (okName_of hc.2).1
   ·exact x1No
  ·split
   ·rename_i gx as hY q2
    split
    ·rename_i hc
     simp only [Bool.and_eq_true,Bool.not_eq_true'] at hc
     exact x1All (x1Expr (callX_ok h hY hc.1.1 hc.1.2 hc.2 q2) rfl)
    ·exact x1No
   ·exact x1No
  ·exact x1No
end Ev
namespace Ev
open PySem PySem.Spec PyProof.Rows L2
structure Df where
 name:Str
 short:Str
 cls:Str
 st:Stmt
 N:List Str
 ps:List Str
 own:List Str
 deep:List Str
 refs:List Str
noncomputable abbrev At:=List (Str×List Str)
noncomputable def aT (T:At) (c f:Str):Bool:=T.any fun x=>decide (x.1=c) && x.2.contains f
noncomputable def fT (D:List Df) (ψ:Str->GF) (x:Str):Option GF:=if (D.any fun d=>decide (d.name=x) && d.cls.cps.isEmpty)=true then some (ψ x) else none
noncomputable def isM (c m:Str) (d:Df):Bool:=decide (d.cls=c) && decide (d.short=m) && !d.cls.cps.isEmpty
noncomputable def mT (D:List Df) (ψ:Str->GF) (c m:Str):Option GF:=if m=("__init__":Str) then none else (D.find? (isM c m)).map fun d=>ψ d.name
noncomputable def inT (D:List Df) (ψ:Str->GF) (c:Str):Option GF:=(D.find? (isM c "__init__")).map fun d=>ψ d.name
noncomputable abbrev Ex:=List (Str×List Str)
noncomputable abbrev P3:=(Str->GF)×(Str->Option GF)×(Str->GX)
noncomputable def yTb (D:List Df) (υ:Str->GX) (x:Str):Option GX:=if (D.any fun d=>decide (d.name=x) && d.cls.cps.isEmpty)=true then some (υ x) else none
noncomputable def gam (G:Str->Option P) (T:At) (E:Ex) (R:List Str) (D:List Df) (p:P3) (d:Df):Cn:=⟨d.N,d.own,d.deep,d.refs,(defScope d.st).names,fT D p.1,G,aT T,mT D p.1,p.2.1,E,R,yTb D p.2.2⟩
noncomputable def bodyOf (G:Str->Option P) (T:At) (E:Ex) (R:List Str) (D:List Df) (p:P3) (d:Df):ES:=(trSs (trS (gam G T E R D p d) 60) (defBody d.st)).getD sNever
noncomputable def bodyX (G:Str->Option P) (T:At) (E:Ex) (R:List Str) (D:List Df) (p:P3) (d:Df):EX:=trXs (trS (gam G T E R D p d) 60) (trX (gam G T E R D p d) 60) (defBody d.st)
noncomputable def guardR (R:List Str) (gx:GX):GX:=fun ds S=>(gx ds S).bind fun z=>if R.contains z.1=true then some z else none
noncomputable def Psi2 (G:Str->Option P) (T:At) (E:Ex) (R:List Str) (D:List Df):Nat->P3
 | 0=>(fun _ _ _=>none,fun _=>none,fun _ _ _=>none)
 | n+1=>(fun x=>match D.find? fun d=>decide (d.name=x) with
  | some d=>fnR d.ps.length d.N.length (bodyOf G T E R D (Psi2 G T E R D n) d)
  | none=>fun _ _=>none,inT D (Psi2 G T E R D n).1,fun x=>match D.find? fun d=>decide (d.name=x) with
  | some d=>guardR R (fnX d.ps.length d.N.length (bodyX G T E R D (Psi2 G T E R D n) d))
  | none=>fun _ _=>none)
noncomputable def Psi (G:Str->Option P) (T:At) (E:Ex) (R:List Str) (D:List Df) (n:Nat):Str->GF:=(Psi2 G T E R D n).1
noncomputable def Xsi (G:Str->Option P) (T:At) (E:Ex) (R:List Str) (D:List Df) (n:Nat):Str->GX:=(Psi2 G T E R D n).2.2
theorem guard_of {R:List Str}{gx:GX}{ds:List D}{S:Sto}{z:Str×Sto} (h:guardR R gx ds S=some z):gx ds S=some z/\R.contains z.1=true:=by
 obtain⟨y,e,q⟩:=Option.bind_eq_some_iff.mp h
 split at q
 ·rename_i hc
  cases q
  exact⟨e,hc⟩
 ·cases q
noncomputable def scB (d:Df):Bool:=decide ((defScope d.st).kind=.function) && !(defScope d.st).isCoroutine && !(defScope d.st).isGenerator && decide d.N.Nodup && decide (d.N.take d.ps.length=d.ps)
 && d.ps.all (fun x=>(defScope d.st).names.lookup x == some .local || (defScope d.st).names.lookup x == some .cell) && (defScope d.st).names.all (fun y=>y.2 != .free)
theorem scB_ok {d:Df} (h:scB d=true):FnScope d.N d.ps (defScope d.st):=by
 unfold scB at h
 simp only [Bool.and_eq_true] at h
 obtain⟨⟨⟨⟨⟨⟨h1,h2⟩,h3⟩,h4⟩,h5⟩,h6⟩,h7⟩:=h
 refine⟨of_decide_eq_true h1,by simpa using h2,by simpa using h3,of_decide_eq_true h4,of_decide_eq_true h5,fun x hx=>?_,fun y hy=>?_⟩
 ·have:=List.all_eq_true.mp h6 x hx
  simpa using this
 ·have:=List.all_eq_true.mp h7 y hy
  simpa using this
structure DOk (K:PySem.W.Frag) (mg:Str->Option Value) (d:Df) (f:Addr) (fd:FuncData):Prop where
 fn:Fun K d.short d.name d.st f fd
 bd:Binds K fd d.ps []
 gl:d.cls.cps.isEmpty=true->mg d.name=some (.ref f)
 cl:d.cls.cps.isEmpty=false->∃C,ClsOf K d.cls C/\mg d.cls=some (.ref C)/\Cls K C/\(d.short=("__init__":Str)->Mk K C f)/\(d.short≠("__init__":Str)->Meth K C d.short f)
structure TOk (w:World) (G:Str->Option P) (T:At) (E:Ex) (R:List Str) (D:List Df) (K:PySem.W.Frag) (mg:Str->Option Value):Prop where
 ex:ExsOk K mg E R
 fn:∀d ∈ D,∃f fd,DOk K mg d f fd
 sc:D.all scB=true
 un:(D.map (·.name)).Nodup
 z:∀x ∈ bltN,mg x=none
 gl:∀x v,G x=some v->GlobOk2 w K mg x v
 at':AOk K (aT T)
theorem find_nodup:∀{D:List Df}{d:Df},(D.map (·.name)).Nodup->d ∈ D->(D.find? fun d'=>decide (d'.name=d.name))=some d
 | [],_,_,h=>by cases h
 | a::r,d,nd,h=>by
  rw [List.map_cons,List.nodup_cons] at nd
  rcases List.mem_cons.mp h with h | h
  ·subst h;simp
  ·have hne:¬a.name=d.name:=fun z=>nd.1 (by rw [z];exact List.mem_map.mpr ⟨d,h,rfl⟩)
   rw [List.find?_cons_of_neg (by simpa using hne)]
   exact find_nodup nd.2 h
theorem any_name {D:List Df}{x:Str}{ψ:Str->GF}{g:GF} (h:fT D ψ x=some g):∃d ∈ D,d.name=x/\d.cls.cps.isEmpty=true/\g=ψ x:=by
 unfold fT at h
 split at h
 ·rename_i hc
  cases h
  obtain⟨d,hd,e⟩:=List.any_eq_true.mp hc
  rw [Bool.and_eq_true] at e
  exact⟨d,hd,of_decide_eq_true e.1,e.2,rfl⟩
 ·cases h
theorem isM_of {c m:Str}{d:Df} (h:isM c m d=true):d.cls=c/\d.short=m/\d.cls.cps.isEmpty=false:=by
 unfold isM at h
 simp only [Bool.and_eq_true] at h
 exact⟨of_decide_eq_true h.1.1,of_decide_eq_true h.1.2,by simpa using h.2⟩
theorem any_meth {D:List Df}{ψ:Str->GF}{c m:Str}{g:GF} (h:mT D ψ c m=some g):m≠("__init__":Str)/\∃d ∈ D,d.cls=c/\d.short=m/\d.cls.cps.isEmpty=false/\g=ψ d.name:=by
 unfold mT at h
 split at h
 ·cases h
 ·rename_i hm
  obtain⟨d,q1,rfl⟩:=map_eq h
  obtain⟨h1,h2,h3⟩:=isM_of (List.find?_some q1)
  exact⟨hm,d,List.mem_of_find?_eq_some q1,h1,h2,h3,rfl⟩
theorem any_init {D:List Df}{ψ:Str->GF}{c:Str}{g:GF} (h:inT D ψ c=some g):∃d ∈ D,d.cls=c/\d.short=("__init__":Str)/\d.cls.cps.isEmpty=false/\g=ψ d.name:=by
 unfold inT at h
 obtain⟨d,q1,rfl⟩:=map_eq h
 obtain⟨h1,h2,h3⟩:=isM_of (List.find?_some q1)
 exact⟨d,List.mem_of_find?_eq_some q1,h1,h2,h3,rfl⟩
theorem any_y {D:List Df}{x:Str}{υ:Str->GX}{g:GX} (h:yTb D υ x=some g):∃d ∈ D,d.name=x/\d.cls.cps.isEmpty=true/\g=υ x:=by
 unfold yTb at h
 split at h
 ·rename_i hc
  cases h
  obtain⟨d,hd,e⟩:=List.any_eq_true.mp hc
  rw [Bool.and_eq_true] at e
  exact⟨d,hd,of_decide_eq_true e.1,e.2,rfl⟩
 ·cases h
theorem cls_guard {K:PySem.W.Frag}{mg:Str->Option Value}{E:Ex}{R:List Str} (h:ExsOk K mg E R) (gx:GX):clsX K (guardR R gx):=fun ds S c S' q=>by
 obtain⟨C,ns,_⟩:=h.own c (h.rE c (guard_of q).2)
 exact⟨C,ns⟩
theorem defs_ok {G:Str->Option P}{T:At}{E:Ex}{R:List Str}{D:List Df}{Pg:Program}{w:World}{K:PySem.W.Frag}{mg:Str->Option Value}{base:Heap} (Tk:TOk w G T E R D K mg):∀n,(∀d ∈ D,
  ∀f fd,Fun K d.short d.name d.st f fd->FnOk Pg w K mg base CX0 n f fd d.ps (spR K (Psi G T E R D n d.name))/\FnOk Pg w K mg base (CXf Pg w) n f fd d.ps (spE K (Xsi G T E R D n d.name))) /\
  (∀x,clsX K (Xsi G T E R D n x)) /\
  ∀c g,(Psi2 G T E R D n).2.1 c=some g->∃m,n=m+1/\∃C f fd ps,ClsOf K c C/\mg c=some (.ref C)/\Mk K C f/\FnOk Pg w K mg base CX0 m f fd ps (spR K g)/\Binds K fd ps []
 | 0=>by
  have no:∀x vs H Q E0,¬spE K (Xsi G T E R D 0 x) vs H Q E0:=fun x vs H Q E0 h=>by
   obtain⟨F,m,ds,S,c,S',_,_,q,_⟩:=h
   cases (show (none:Option (Str×Sto))=some (c,S') from q)
  refine⟨fun d hd f fd hF=>⟨fn_noneR,fun vs H Q E0 h=>absurd h (no _ vs H Q E0),fun A outer s H args us vs Q E0 _ _ _ _ h=>absurd h (no _ vs H Q E0)⟩,fun x=>fun ds S c S' q=>?_,fun c g h=>?_⟩
  ·cases (show (none:Option (Str×Sto))=some (c,S') from q)
  ·cases (show (none:Option GF)=some g from h)
 | n+1=>by
  have ih:=defs_ok (Pg:=Pg) (w:=w) (base:=base) Tk n
  refine⟨fun d hd f fd hF=>?_,fun x=>?_,fun c g h=>?_⟩
  ·have e:Psi G T E R D (n+1) d.name=fnR d.ps.length d.N.length (bodyOf G T E R D (Psi2 G T E R D n) d):=by
    show (match D.find? fun d'=>decide (d'.name=d.name) with | some d=>fnR d.ps.length d.N.length (bodyOf G T E R D (Psi2 G T E R D n) d) | none=>fun _ _=>none)=_
    rw [find_nodup Tk.un hd]
   have ex:Xsi G T E R D (n+1) d.name=guardR R (fnX d.ps.length d.N.length (bodyX G T E R D (Psi2 G T E R D n) d)):=by
    show (match D.find? fun d'=>decide (d'.name=d.name) with | some d=>guardR R (fnX d.ps.length d.N.length (bodyX G T E R D (Psi2 G T E R D n) d)) | none=>fun _ _=>none)=_
    rw [find_nodup Tk.un hd]
   rw [e,ex]
   have hsc:=scB_ok (List.all_eq_true.mp Tk.sc d hd)
   have XO:∀(cdv:Value) (A:Around) (outer:List Env) (s:Shared) (H:Hp) (E':XK),Room n (A.deeper (envOfC d.name (defScope d.st) s.heap.objs.size f cdv)) ->
     XOk (gam G T E R D (Psi2 G T E R D n) d) (cxOf (CXf Pg w) Pg w K mg base d.N d.name (defScope d.st) f cdv A outer s H E'):=fun cdv A outer s H E' hr=>{
    hN:=rfl
    nd:=hsc.nd
    ks:=rfl
    kd:=hsc.kind
    calm:=rfl
    hu:=by have:=hr.un;show (A.deeper (envOfC d.name (defScope d.st) s.heap.objs.size f cdv)).units+64 < _;omega
    fns:=fun x g hg=>by
     obtain⟨d',hd',hn,hc,rfl⟩:=any_name hg
     obtain⟨f',fd',h1⟩:=Tk.fn d' hd'
     subst hn
     exact⟨n,f',fd',d'.ps,(ih.1 d' hd' f' fd' h1.fn).1,hr,h1.gl hc,h1.fn.kp,h1.bd⟩
    blt:=Tk.z
    glb:=Tk.gl
    attrs:=Tk.at'
    meths:=fun c m g hg=>by
     obtain⟨hm,d',hd',rfl,rfl,hc,rfl⟩:=any_meth hg
     obtain⟨f',fd',h1⟩:=Tk.fn d' hd'
     obtain⟨C,c1,c2,c3,c4,c5⟩:=h1.cl hc
     exact⟨C,n,f',fd',d'.ps,c1,c3,c5 hm,(ih.1 d' hd' f' fd' h1.fn).1,hr,h1.bd⟩
    mks:=fun c g hg=>by
     obtain⟨m,rfl,C,f',fd',ps,c1,c2,c3,c4,c5⟩:=ih.2.2 c g hg
     exact⟨C,m,f',fd',ps,c1,c2,c3,c4,hr,c5⟩
    exs:=Tk.ex
    ys:=fun x gx hg=>by
     obtain⟨d',hd',hn,hc,rfl⟩:=any_y hg
     obtain⟨f',fd',h1⟩:=Tk.fn d' hd'
     subst hn
     exact⟨ih.2.1 d'.name,n,f',fd',d'.ps,(ih.1 d' hd' f' fd' h1.fn).2,hr,h1.gl hc,h1.fn.kp,h1.bd⟩ }
   refine⟨fn_okR (N:=d.N) hF hsc fun cdv A outer s H E' hr=>?_,FnOk.imp (fn_okX (N:=d.N) (b:=bodyX G T E R D (Psi2 G T E R D n) d) hF hsc (fun r=>r.toSt) fun cdv A outer s H E' hr=>?_) fun vs H Q E' h=>?_⟩
   ·have X:XOk (gam G T E R D (Psi2 G T E R D n) d) (cxOf CX0 Pg w K mg base d.N d.name (defScope d.st) f cdv A outer s H E').nox:=(XO cdv A outer s H E' hr).more (fun _ _=>False) []
    unfold bodyOf
    cases q:trSs (trS (gam G T E R D (Psi2 G T E R D n) d) 60) (defBody d.st) with
    | none=>exact pss_never.imp' fun D σ H hz=>by obtain⟨F,m,L,S,fl,L',S',r,l,q,k⟩:=hz;cases q
    | some b=>exact trSs_ok (fun st f q=>trS_ok X (fun _=>rfl) PassesOwn.never ⟨rfl,rfl,rfl⟩ 60 st f q) q
   ·have X:=XO cdv A outer s H E' hr
    exact trXs_ok (fun st f q=>trS_ok X (fun _=>rfl) PassesOwn.leaving ⟨rfl,rfl,rfl⟩ 60 st f q) (fun st=>trX_ok X (fun _=>rfl) PassesOwn.leaving ⟨rfl,rfl,rfl⟩ 60 st) (defBody d.st)
   ·obtain⟨F,m,ds,S,c,S',rl,r,q,k⟩:=h
    exact⟨F,m,ds,S,c,S',rl,r,(guard_of q).1,k⟩
  ·show clsX K (match D.find? fun d'=>decide (d'.name=x) with | some d=>guardR R (fnX d.ps.length d.N.length (bodyX G T E R D (Psi2 G T E R D n) d)) | none=>fun _ _=>none)
   split
   ·exact cls_guard Tk.ex _
   ·exact fun ds S c S' q=>nomatch q
  ·obtain⟨d,hd,rfl,hs,hc,rfl⟩:=any_init (ψ:=(Psi2 G T E R D n).1) h
   obtain⟨f,fd,h1⟩:=Tk.fn d hd
   obtain⟨C,c1,c2,c3,c4,c5⟩:=h1.cl hc
   exact⟨n,rfl,C,f,fd,d.ps,c1,c2,c4 hs,(ih.1 d hd f fd h1.fn).1,h1.bd⟩
end Ev
namespace Ev
open PySem PySem.Spec PyProof.Rows L2
theorem ints_rps {K:PySem.W.Frag}{F:Addr->Prop}{H:Hp}:∀ns:List Int,RPs K F H (ns.map .int) (ns.map V.int)
 | []=>rfl
 | n::r=>⟨_,_,rfl,rfl,ints_rps r⟩
theorem law_of {K:PySem.W.Frag}{H:Hp}{a:Addr}{ns:List Int}{g:GF}{E:XK} (hO:Only H) (hS:SqL K H a (ns.map V.int)) (h:pureOf g [.ro (ns.map .int)]=some (.bl true)):spR K g [.ref a] H (fun v _=>v=.bl true) E:=by
 refine spR_of_spV ⟨fun b=>b=a/\H a≠none,[.ro (ns.map .int)],.bl true,fun b hb=>(by rw [hb.1];exact hb.2),⟨_,_,rfl,⟨a,_,rfl,?_,ints_rps ns⟩,rfl⟩,h,fun v F' H' _ r=>r⟩
 rcases hS with hS | hS
 ·rcases hO a with z | ⟨o,xs,z⟩
  ·rcases hS with hS | ⟨o,hS⟩ <;> rw [z] at hS <;> cases hS
  ·rcases hS with hS | ⟨o',hS⟩
   ·rw [z] at hS;cases hS
   ·exact .inl ⟨⟨rfl,by rw [z];exact fun q=>nomatch q⟩,o',hS⟩
 ·exact .inr (.inr hS)
end Ev
namespace Ev
open PySem L2
section
variable (L:Lc) (S:Sto)
@[simp] theorem vC_ev (v:P):vC v L S=some (v,S):=rfl
@[simp] theorem eVar_ev (i:Nat):eVar i L S=match L[i]? with | some (some d)=>some (d,S) | _=>none:=rfl
@[simp] theorem vE_ev (f:EE):vE f L S=bnd (f L S) (toP 9):=rfl
@[simp] theorem eV_ev (f:EV):eV f L S=bnd (f L S) fun v S1=>some (.p v,S1):=rfl
@[simp] theorem vVar_ev (i:Nat):vVar i L S=bnd (eVar i L S) (toP 9):=rfl
@[simp] theorem vOp_ev (g:P->P->Option P) (a b:EV):vOp g a b L S=bnd (a L S) fun x S1=>bnd (b L S1) fun y S2=>(g x y).map fun v=>(v,S2):=rfl
@[simp] theorem vUn_ev (g:P->Option P) (a:EV):vUn g a L S=bnd (a L S) fun x S1=>(g x).map fun v=>(v,S1):=rfl
@[simp] theorem bV_ev (a:EV):bV a L S=bnd (a L S) fun x S1=>match x with | .bl b=>some (b,S1) | _=>none:=rfl
@[simp] theorem bAnd_ev (a b:EB):bAnd a b L S=bnd (a L S) fun c S1=>if c=true then b L S1 else some (false,S1):=rfl
@[simp] theorem bOr_ev (a b:EB):bOr a b L S=bnd (a L S) fun c S1=>if c=true then some (true,S1) else b L S1:=rfl
@[simp] theorem bNot_ev (a:EB):bNot a L S=bnd (a L S) fun c S1=>some (!c,S1):=rfl
@[simp] theorem bYes_ev:bYes L S=some (true,S):=rfl
@[simp] theorem vB_ev (a:EB):vB a L S=bnd (a L S) fun c S1=>some (.bl c,S1):=rfl
@[simp] theorem vsNil_ev:vsNil L S=some ([],S):=rfl
@[simp] theorem vsCons_ev (a:EV) (r:EVs):vsCons a r L S=bnd (a L S) fun x S1=>bnd (r L S1) fun xs S2=>some (x::xs,S2):=rfl
@[simp] theorem vTup_ev (a:EVs):vTup' a L S=bnd (a L S) fun xs S1=>if few xs=true then some (.tup xs,S1) else none:=rfl
@[simp] theorem vLst_ev (a:EVs):vLst' a L S=bnd (a L S) fun xs S1=>if few xs=true then some (.lst xs,S1) else none:=rfl
@[simp] theorem eLst_ev (a:EVs):eLst' a L S=bnd (a L S) fun xs S1=>if few xs=true then some (.ref S1.length,S1++[.lst (xs.map .p)]) else none:=rfl
@[simp] theorem vCall_ev (g:List P->Option P) (a:EVs):vCall g a L S=bnd (a L S) fun xs S1=>(g xs).map fun v=>(v,S1):=rfl
@[simp] theorem vLen_ev (r:EE):vLen r L S=bnd (r L S) fun d S1=>match lenD d S1 with | some n=>some (.int (n:Int),S1) | none=>none:=by
 unfold vLen
 cases r L S with
 | none=>rfl
 | some z=>
  obtain⟨d,S1⟩:=z
  rw [bnd_some,bnd_some]
  cases lenD d S1 <;> rfl
@[simp] theorem vSl2_ev (a:EV) (lo hi:EO):vSl2 a lo hi L S=bnd (a L S) fun x S1=>bnd (lo L S1) fun i S2=>bnd (hi L S2) fun j S3=>(dSl2 x i j).map fun v=>(v,S3):=rfl
@[simp] theorem vGet2_ev (a b c:EV):vGet2 a b c L S=bnd (a L S) fun d S1=>bnd (b L S1) fun y S2=>bnd (c L S2) fun z S3=>match d with
 | .dct ks vs=>match keyOf y with
  | some k=>some ((dLook k ks vs).getD z,S3)
  | none=>none
 | _=>none:=rfl
@[simp] theorem sNx_ev:sNx L S=some (.nx,L,S):=rfl
@[simp] theorem sSeq_ev (f g:ES):sSeq f g L S=match f L S with | some (.nx,L1,S1)=>g L1 S1 | r=>r:=rfl
@[simp] theorem sSet_ev (i:Nat) (f:EE):sSet i f L S=bnd (f L S) fun d S1=>some (.nx,L.set i (some d),S1):=rfl
@[simp] theorem sRet_ev (f:EE):sRet f L S=bnd (f L S) fun d S1=>some (.rt d,L,S1):=rfl
@[simp] theorem sDrop_ev (f:EE):sDrop f L S=bnd (f L S) fun _ S1=>some (.nx,L,S1):=rfl
@[simp] theorem vIsiX_ev (ans:Str->Option Bool) (f:EE):vIsiX ans f L S=bnd (f L S) fun d S1=>(isiX ans d S1).map fun b=>(.bl b,S1):=rfl
@[simp] theorem xNo_ev:xNo L S=none:=rfl
@[simp] theorem xSeq_ev (f0:ES) (f g:EX):xSeq f0 f g L S=match f0 L S with | some (.nx,L1,S1)=>g L1 S1 | some _=>none | none=>f L S:=rfl
@[simp] theorem xIfX_ev (c:EB) (f g:EX):xIfX c f g L S=bnd (c L S) fun k S1=>if k=true then f L S1 else g L S1:=rfl
@[simp] theorem xFor_ev (it:EVs) (g:TGv) (b:ES) (bx:EX):xFor it g b bx L S=bnd (it L S) fun xs S1=>xForGo g b bx xs L S1:=rfl
@[simp] theorem xRaise_ev (c:Str):xRaise c L S=some (c,L,S):=rfl
@[simp] theorem xCallX_ev (gx:GX) (a:EDs):xCallX gx a L S=bnd (a L S) fun ds S1=>(gx ds S1).map fun z=>(z.1,L,z.2):=rfl
@[simp] theorem sIf_ev (c:EB) (a b:ES):sIf c a b L S=bnd (c L S) fun k S1=>if k=true then a L S1 else b L S1:=rfl
@[simp] theorem sFor_ev (it:EVs) (g:TGv) (b:ES):sFor it g b L S=bnd (it L S) fun xs S1=>forGo g b xs L S1:=rfl
@[simp] theorem gSet_ev (i:Nat) (v:P):gSet i v L=some (L.set i (some (.p v))):=rfl
@[simp] theorem itS_ev (a:EV):itS a L S=bnd (a L S) fun v S1=>match v with | .lst xs=>some (xs,S1) | .ro xs=>some (xs,S1) | .tup xs=>some (xs,S1) | _=>none:=rfl
@[simp] theorem eIx_ev (r:EE) (k:EV):eIx r k L S=bnd (r L S) fun d S1=>bnd (k L S1) fun y S2=>match d with
 | .p v=>(dIx v y).map fun z=>(.p z,S2)
 | .ref i=>match S2[i]? with
  | some (.lst ds)=>(match y with
   | .int j=>(L2.atI ds j).map fun z=>(z,S2)
   | _=>none)
  | some (.fz v)=>(dIx v y).map fun z=>(.p z,S2)
  | some (.dct ks vs)=>(match keyOf y with
   | some k=>(dLook k ks vs).map fun z=>(z,S2)
   | none=>none)
  | _=>none:=rfl
@[simp] theorem ePop_ev (r:EE):ePop r L S=bnd (r L S) fun d S1=>match ownL d S1 with
 | some (i,ds)=>match ds[ds.length-1]? with
  | some x=>some (x,S1.set i (.lst ds.dropLast))
  | none=>none
 | none=>none:=rfl
@[simp] theorem eAppend_ev (r a:EE):eAppend r a L S=bnd (r L S) fun d S1=>match ownL d S1 with
 | none=>none
 | some _=>bnd (a L S1) fun x S2=>match ownL d S2 with
  | some (i,ds)=>if few ds=true then some (.p .non,S2.set i (.lst (ds++[x]))) else none
  | none=>none:=rfl
end
@[simp] theorem few_ev {α:Type} (xs:List α):(few xs=true)=(xs.length≤1000000):=by unfold few;simp
@[simp] theorem capN_ev (n:Nat):(capN n=true)=(n≤1000000):=by unfold capN;simp
theorem atI_nat' {α:Type}{xs:List α}{i:Int}{x:α} (h0:0≤i) (h:xs[i.toNat]? = some x):L2.atI xs i=some x:=by
 have hl:=(List.getElem?_eq_some_iff.mp h).1
 unfold L2.atI L2.ixN
 rw [if_pos h0,if_pos (by omega)]
 exact h
@[simp] theorem atI_zero {α:Type} (x:α) (xs:List α):L2.atI (x::xs) 0=some x:=atI_nat' (by omega) rfl
@[simp] theorem atI_one {α:Type} (x y:α) (xs:List α):L2.atI (x::y::xs) 1=some y:=atI_nat' (by omega) rfl
@[simp] theorem atI_two {α:Type} (x y z:α) (xs:List α):L2.atI (x::y::z::xs) 2=some z:=atI_nat' (by omega) rfl
@[simp] theorem atI_three {α:Type} (x y z w:α) (xs:List α):L2.atI (x::y::z::w::xs) 3=some w:=atI_nat' (by omega) rfl
@[simp] theorem dIx_tup (xs:List P) (i:Int):dIx (.tup xs) (.int i)=L2.atI xs i:=rfl
@[simp] theorem dIx_lst (xs:List P) (i:Int):dIx (.lst xs) (.int i)=L2.atI xs i:=rfl
@[simp] theorem dIx_ro (xs:List P) (i:Int):dIx (.ro xs) (.int i)=L2.atI xs i:=rfl
@[simp] theorem dIx_dct (ks:List Key) (vs:List P) (x:Str):dIx (.dct ks vs) (.str x)=dLook (.inr x) ks vs:=rfl
@[simp] theorem dEqD_int (i j:Int):dEqD (.int i) (.int j)=some (.bl (decide (i=j))):=rfl
@[simp] theorem dEqD_str (i j:Str):dEqD (.str i) (.str j)=some (.bl (decide (i=j))):=rfl
@[simp] theorem dEqD_bl (i j:Bool):dEqD (.bl i) (.bl j)=some (.bl (decide (i=j))):=rfl
@[simp] theorem dNe_int (i j:Int):dNe (.int i) (.int j)=some (.bl (!decide (i=j))):=rfl
@[simp] theorem dNe_str (i j:Str):dNe (.str i) (.str j)=some (.bl (!decide (i=j))):=rfl
@[simp] theorem dNe_bl (i j:Bool):dNe (.bl i) (.bl j)=some (.bl (!decide (i=j))):=rfl
@[simp] theorem dAdd_int (i j:Int):dAdd (.int i) (.int j)=some (.int (i+j)):=rfl
@[simp] theorem dMul_int (i j:Int):dMul (.int i) (.int j)=if mulOk i j=true then some (.int (i * j)) else none:=rfl
@[simp] theorem dNeg_int (i:Int):dNeg (.int i)=some (.int (-i)):=rfl
theorem pureOf_fn (np nn:Nat) (b:ES) (ps:List P):pureOf (fnR np nn b) ps=if ps.length=np then match b (ps.map (fun p=>some (.p p))++List.replicate (nn-ps.length) none) [] with
 | some (.rt d,_,S)=>(toP 9 d S).map (·.1)
 | some (.nx,_,_)=>some .non
 | _=>none else none:=by
 unfold pureOf fnR
 rw [List.length_map,List.map_map]
 by_cases h:ps.length=np
 ·rw [if_pos h,if_pos h]
  show (match (match b (ps.map (fun p=>some (D.p p))++List.replicate (nn-ps.length) none) [] with
   | some (.rt d,_,S')=>some (d,S')
   | some (.nx,_,S')=>some (.p .non,S')
   | _=>none:Option (D×Sto)) with
   | some (d,S)=>(toP 9 d S).map (fun (x:P×Sto)=>x.1)
   | none=>none)=_
  cases b (ps.map (fun p=>some (D.p p))++List.replicate (nn-ps.length) none) [] with
  | none=>rfl
  | some z=>
   obtain⟨fl,L,S⟩:=z
   cases fl <;> simp
 ·rw [if_neg h,if_neg h]
theorem forGo_nx {g:TGv}{b:ES}{v:P}{r:List P}{L L1 L2:Lc}{S S2:Sto} (h1:g v L=some L1) (h2:b L1 S=some (.nx,L2,S2)):forGo g b (v::r) L S=forGo g b r L2 S2:=by
 simp [forGo,h1,h2]
section
variable (L:Lc) (S:Sto)
@[simp] theorem vOpE_ev (g:D->D->Sto->Option P) (a b:EE):vOpE g a b L S=bnd (a L S) fun x S1=>bnd (b L S1) fun y S2=>(g x y S2).map fun v=>(v,S2):=rfl
@[simp] theorem bT_ev (a:EE):bT a L S=bnd (a L S) fun d S1=>(truD d S1).map fun b=>(b,S1):=rfl
@[simp] theorem itR1_ev (a:EV):itR1 a L S=bnd (a L S) fun x S1=>match x with | .int n=>if (decide (n.natAbs < 1000000))=true then some (intsFrom 0 n.toNat,S1) else none | _=>none:=by
 unfold itR1;cases a L S with
 | none=>rfl
 | some z=>obtain⟨x,S1⟩:=z;cases x <;> first | rfl | simp
@[simp] theorem eExtend_ev (r:EE) (a:EV):eExtend r a L S=bnd (r L S) fun d S1=>match ownL d S1 with
 | none=>none
 | some _=>bnd (a L S1) fun x S2=>match ownL d S2,x with
  | some (i,ds),.lst ys=>if capN (ds.length+ys.length)=true then some (.p .non,S2.set i (.lst (ds++ys.map .p))) else none
  | _,_=>none:=rfl
@[simp] theorem dsNil_ev:dsNil L S=some ([],S):=rfl
@[simp] theorem dsCons_ev (a:EE) (r:EDs):dsCons a r L S=bnd (a L S) fun x S1=>bnd (r L S1) fun xs S2=>some (x::xs,S2):=rfl
@[simp] theorem vIsi_ev (T:String) (f:EE):vIsi T f L S=bnd (f L S) fun d S1=>(isiD T d S1).map fun b=>(.bl b,S1):=rfl
@[simp] theorem isiD_p (T:String) (v:P):isiD T (.p v) S=some (isiP T v):=rfl
@[simp] theorem truD_p (v:P):truD (.p v) S=truP v:=rfl
@[simp] theorem truP_bl (b:Bool):truP (.bl b)=some b:=rfl
@[simp] theorem truP_int (i:Int):truP (.int i)=some (i != 0):=rfl
@[simp] theorem gEq_p (x y:P):gEq (.p x) (.p y) S=(eqD x y).map .bl:=rfl
@[simp] theorem gNe_p (x y:P):gNe (.p x) (.p y) S=(neD x y).map .bl:=rfl
end
@[simp] theorem eqD_int (i j:Int):eqD (.int i) (.int j)=some (decide (i=j)):=rfl
@[simp] theorem eqD_str (i j:Str):eqD (.str i) (.str j)=some (decide (i=j)):=rfl
@[simp] theorem eqD_bl (i j:Bool):eqD (.bl i) (.bl j)=some (decide (i=j)):=rfl
@[simp] theorem neD_int (i j:Int):neD (.int i) (.int j)=some (!decide (i=j)):=rfl
@[simp] theorem neD_str (i j:Str):neD (.str i) (.str j)=some (!decide (i=j)):=rfl
@[simp] theorem neD_bl (i j:Bool):neD (.bl i) (.bl j)=some (!decide (i=j)):=rfl
@[simp] theorem dAdd2_int (i j:Int):dAdd2 (.int i) (.int j)=some (.int (i+j)):=rfl
@[simp] theorem dAdd2_str (x y:Str):dAdd2 (.str x) (.str y)=dAdd (.str x) (.str y):=rfl
@[simp] theorem dAdd2_lst (x y:List P):dAdd2 (.lst x) (.lst y)=if capN (x.length+y.length)=true then some (.lst (x++y)) else none:=rfl
@[simp] theorem dMul2_int (i j:Int):dMul2 (.int i) (.int j)=if mulOk i j=true then some (.int (i * j)) else none:=rfl
@[simp] theorem dMul2_str (x:Str) (n:Int):dMul2 (.str x) (.int n)=dMul (.str x) (.int n):=rfl
theorem neD_self {v:P} (h:okP 20 v=true):neD v v=some false:=by
 unfold neD
 have e:PyData.eqv (pd v) (pd v)=true:=PySem.SeqAt.eqv_refl _ (okP_lay 20 v h).1
 cases hq:dNe v v with
 | none=>simp [h,e]
 | some z=>
  cases v with
  | int i=>cases hq;simp
  | str i=>cases hq;simp
  | bl i=>cases hq;simp
  | non=>cases hq
  | tup _=>cases hq
  | lst _=>cases hq
  | ro _=>cases hq
  | dct _ _=>cases h
theorem eqD_nil {xs:List P} (h:okP 20 (.lst xs)=true):eqD (.lst xs) (.lst [])=some xs.isEmpty:=by
 unfold eqD
 have e:okP 20 (.lst [])=true:=rfl
 show (if (okP 20 (.lst xs) && okP 20 (.lst []))=true then some (PyData.eqv (pd (.lst xs)) (pd (.lst []))) else none)=_
 rw [h,e]
 cases xs with
 | nil=>rfl
 | cons x r=>simp [pd,pds,PyData.eqv,PyData.eqvAll]
section
variable (L:Lc) (S:Sto)
end
end Ev
namespace My
open PySem L2 Ev
noncomputable def top (i:Nat):Stmt:=PySem.Challenge.pw_roadsall_k93_what_a_plan_has.main.body.getD i (.Pass ⟨0,0,0,0⟩)
noncomputable def Gv (x:Str):Option P:=if x=("HAND_PARTS":Str) then some (.tup [.str "some",.str "all",.str "many"]) else if x=("KNOWING":Str) then some (.tup [.str "some knows",.str "each knows"]) else none
noncomputable def d_n_law_mix:Df:=⟨"_law_mix","_law_mix","",(top 22),["_law_cell","_law_j","_law_mixed"],["_law_cell","_law_j"],[],[],[]⟩
noncomputable def d_n_law_names:Df:=⟨"_law_names","_law_names","",(top 23),["_law_total","_law_letters","_law_start","_law_tail"],["_law_total"],[],[],[]⟩
noncomputable def d_n_law_plan:Df:=⟨"_law_plan","_law_plan","",(top 24),["_law_total","_law_names_here","_law_families","_law_k","_law_rooms","_law_cells","_law_whos"],["_law_total"],["_law_families"],[],[]⟩
noncomputable def d_n_law_name_of:Df:=⟨"_law_name_of","_law_name_of","",(top 25),["_law_plan_here","_law_names_here","_law_cell","_law_j","_law_kind","_law_family","_law_good_here","_law_one","_law_some"],["_law_plan_here","_law_names_here","_law_cell","_law_j","_law_kind","_law_family"],[],[],[]⟩
noncomputable def d_n_law_part:Df:=⟨"_law_part","_law_part","",(top 26),["_law_plan_here","_law_names_here","_law_cell","_law_j","_law_way","_law_family","_law_other","_law_room","_law_condition","_law_name","_law_one"],["_law_plan_here","_law_names_here","_law_cell","_law_j"],[],[],[]⟩
noncomputable def d_n_law_fact:Df:=⟨"_law_fact","_law_fact","",(top 27),["_law_plan_here","_law_names_here","_law_cell","_law_j","_law_one","_law_way"],["_law_plan_here","_law_names_here","_law_cell","_law_j"],[],[],[]⟩
noncomputable def d_n_law_saying:Df:=⟨"_law_saying","_law_saying","",(top 28),["_law_plan_here","_law_names_here","_law_cell","_law_word","_law_first"],["_law_plan_here","_law_names_here","_law_cell"],[],[],[]⟩
noncomputable def d_n_parts_of:Df:=⟨"parts_of","parts_of","",(top 16),["fact","kind"],["fact"],[],[],[]⟩
noncomputable def d_n_names_in:Df:=⟨"names_in","names_in","",(top 12),["tree","names","waiting","part"],["tree"],["names","waiting"],[],[]⟩
noncomputable def d_n_check_room_and_cells:Df:=⟨"check_room_and_cells","check_room_and_cells","",(top 20),["family","room","condition","cells"],["family","room","condition"],[],[],[]⟩
noncomputable def d_n_check_part:Df:=⟨"check_part","check_part","",(top 19),["families","part","names"],["families","part"],[],[],[]⟩
noncomputable def d_n_check_saying:Df:=⟨"check_saying","check_saying","",(top 18),["plan","saying","families","fact","part"],["plan","saying"],[],[],[]⟩
noncomputable def d_n_law_spoken:Df:=⟨"_law_spoken","_law_spoken","",(top 29),["_law_tree","_law_found","_law_part_here"],["_law_tree"],["_law_found"],[],[]⟩
noncomputable def d_n_law_good:Df:=⟨"_law_good","_law_good","",(top 30),["_law_plan_here","_law_tree","_law_known","_law_family","_law_cells"],["_law_plan_here","_law_tree"],["_law_known"],[],[]⟩
noncomputable def d_n_law_right:Df:=⟨"_law_right","_law_right","",(top 31),["_law_plan_here","_law_saying_here","_law_error","_law_found","e"],["_law_plan_here","_law_saying_here"],[],[],[]⟩
noncomputable def d_n_law:Df:=⟨"law","law","",(top 32),["_law_script","_law_cells","_law_total","_law_plan_here","_law_names_here","_law_cell","_law_saying_here"],["_law_script"],[],[],[]⟩
noncomputable def Att:At:=[]
noncomputable def Exs:Ex:=[("RoadError",["RoadError","ValueError"]),("NoText",["NoText","RoadError","ValueError"]),("NoPlan",["NoPlan","RoadError","ValueError"]),("NoLine",["NoLine","RoadError","ValueError"]),("NoDeed",["NoDeed","RoadError","ValueError"]),("NotPossible",["NotPossible","RoadError","ValueError"]),("TooMany",["TooMany","RoadError","ValueError"]),("NoFact",["NoFact","RoadError","ValueError"]),("NoRow",["NoRow","RoadError","ValueError"]),("NoThing",["NoThing","RoadError","ValueError"])]
noncomputable def Rs:List Str:=["NoFact"]
noncomputable def Tb:List Df:=[d_n_law_mix,d_n_law_names,d_n_law_plan,d_n_law_name_of,d_n_law_part,d_n_law_fact,d_n_law_saying,d_n_parts_of,d_n_names_in,d_n_check_room_and_cells,d_n_check_part,d_n_check_saying,d_n_law_spoken,d_n_law_good,d_n_law_right,d_n_law]
noncomputable def b_n_law_mix (ψ ι:Str->GF) (υ:Str->GX):ES:=(sSeq (sIf (bOr (bV (vOp dLt (vE (eVar 0)) (vC (.int 0)))) (bV (vOp dGe (vE (eVar 0)) (vOp dPow (vC (.int 10)) (vC (.int 18)))))) (sRet (eV (vOp dMod (vOp dShr (vE (eVar 0)) (vOp dMul2 (vC (.int 20)) (vE (eVar 1)))) (vC (.int 1048576))))) sNx)
  (sSeq (sSet 2 (eV (vOp dMod (vOp dAdd2 (vOp dMul2 (vE (eVar 0)) (vOp dAdd2 (vOp dMul2 (vC (.int 2)) (vE (eVar 1))) (vC (.int 3)))) (vE (eVar 1))) (vC (.int 2147483629)))))
  (sSeq (sSet 2 (eV (vOp dMod (vOp dMul2 (vOp dAdd2 (vOp dMul2 (vE (eVar 2)) (vE (eVar 2))) (vC (.int 1))) (vC (.int 48271))) (vC (.int 2147483629)))))
  (sRet (eV (vOp dMod (vOp dMul2 (vE (eVar 2)) (vE (eVar 2))) (vC (.int 2147483587))))))))
theorem e_n_law_mix (n:Nat):Psi Gv Att Exs Rs Tb (n+2) "_law_mix"=fnR 2 3 (b_n_law_mix (Psi Gv Att Exs Rs Tb (n+1)) (Psi Gv Att Exs Rs Tb n) (Xsi Gv Att Exs Rs Tb (n+1))):=by kernel_rfl
noncomputable def b_n_law_names (ψ ι:Str->GF) (υ:Str->GX):ES:=(sSeq (sSet 1 (eV (vC (.str "abcdefghijklmnopqrstuvwxyz"))))
  (sSeq (sSet 2 (eV (vCall (pureOf (ψ "_law_mix")) (vsCons (vE (eVar 0)) (vsCons (vC (.int 1)) vsNil)))))
  (sSeq (sSet 3 (eV (vOp dIx (vLst' (vsCons (vC (.str "")) (vsCons (vC (.str "a")) (vsCons (vC (.str "ab")) (vsCons (vC (.str "room")) vsNil))))) (vOp dMod (vCall (pureOf (ψ "_law_mix")) (vsCons (vE (eVar 0)) (vsCons (vC (.int 2)) vsNil))) (vC (.int 4))))))
  (sRet (eV (vComp (itR1 (vC (.int 12))) [] 1 (gSet 4) bYes (vOp dAdd2 (vOp dAdd2 (vOp dIx (vE (eVar 1)) (vOp dMod (vOp dAdd2 (vE (eVar 2)) (vOp dMul2 (vC (.int 3)) (vE (eVar 4)))) (vC (.int 26)))) (vC (.str "q"))) (vE (eVar 3)))))))))
theorem e_n_law_names (n:Nat):Psi Gv Att Exs Rs Tb (n+2) "_law_names"=fnR 1 4 (b_n_law_names (Psi Gv Att Exs Rs Tb (n+1)) (Psi Gv Att Exs Rs Tb n) (Xsi Gv Att Exs Rs Tb (n+1))):=by kernel_rfl
noncomputable def b_n_law_plan_L1 (ψ ι:Str->GF) (υ:Str->GX):ES:=(sSeq (sSet 4 (eV (vSl2 (vE (eVar 1)) (oSome (vOp dAdd2 (vC (.int 2)) (vOp dMul2 (vC (.int 3)) (vE (eVar 3))))) (oSome (vOp dAdd2 (vOp dAdd2 (vC (.int 3)) (vOp dMul2 (vC (.int 3)) (vE (eVar 3)))) (vOp dMod (vCall (pureOf (ψ "_law_mix")) (vsCons (vE (eVar 0)) (vsCons (vOp dAdd2 (vC (.int 4)) (vE (eVar 3))) vsNil))) (vC (.int 3))))))))
  (sSeq (sSet 5 (eV (vComp (itS (vSl2 (vE (eVar 1)) (oSome (vOp dSub (vC (.int 6)) (vOp dMul2 (vC (.int 2)) (vE (eVar 3))))) (oSome (vOp dAdd2 (vOp dSub (vC (.int 6)) (vOp dMul2 (vC (.int 2)) (vE (eVar 3)))) (vOp dMod (vCall (pureOf (ψ "_law_mix")) (vsCons (vE (eVar 0)) (vsCons (vOp dAdd2 (vC (.int 6)) (vE (eVar 3))) vsNil))) (vC (.int 3))))))) [] 1 (gSet 7) bYes (vTup' (vsCons (vE (eVar 7)) (vsCons (vC (.int 0)) (vsCons (vC (.int 1)) (vsCons (vC (.int 0)) vsNil))))))))
  (sSeq (sSet 6 (eV (vSl2 (vE (eVar 1)) (oSome (vOp dAdd2 (vC (.int 9)) (vE (eVar 3)))) (oSome (vOp dAdd2 (vOp dAdd2 (vC (.int 9)) (vE (eVar 3))) (vOp dMod (vCall (pureOf (ψ "_law_mix")) (vsCons (vE (eVar 0)) (vsCons (vOp dAdd2 (vC (.int 8)) (vE (eVar 3))) vsNil))) (vC (.int 2))))))))
  (sDrop (eAppend (eVar 2) (eV (vTup' (vsCons (vOp dIx (vE (eVar 1)) (vE (eVar 3))) (vsCons (vC (.int 1)) (vsCons (vE (eVar 4)) (vsCons (vE (eVar 5)) (vsCons (vE (eVar 6)) (vsCons (vLst' vsNil) vsNil)))))))))))))
noncomputable def b_n_law_plan (ψ ι:Str->GF) (υ:Str->GX):ES:=(sSeq (sSet 1 (eV (vCall (pureOf (ψ "_law_names")) (vsCons (vE (eVar 0)) vsNil))))
  (sSeq (sSet 2 (eLst' vsNil))
  (sSeq (sFor (itR1 (vOp dAdd2 (vC (.int 1)) (vOp dMod (vCall (pureOf (ψ "_law_mix")) (vsCons (vE (eVar 0)) (vsCons (vC (.int 3)) vsNil))) (vC (.int 2))))) (gSet 3) (b_n_law_plan_L1 ψ ι υ))
  (sRet (eV (vTup' (vsCons (vE (eVar 2)) (vsCons (vLst' vsNil) (vsCons (vLst' vsNil) vsNil)))))))))
theorem e_n_law_plan (n:Nat):Psi Gv Att Exs Rs Tb (n+2) "_law_plan"=fnR 1 7 (b_n_law_plan (Psi Gv Att Exs Rs Tb (n+1)) (Psi Gv Att Exs Rs Tb n) (Xsi Gv Att Exs Rs Tb (n+1))):=by kernel_rfl
noncomputable def b_n_law_name_of_L1 (ψ ι:Str->GF) (υ:Str->GX):ES:=(sIf (bV (vOpE gEq (eV (vOp dIx (vE (eVar 7)) (vC (.int 0)))) (eVar 5))) (sSet 6 (eV (vDict (dCons "room" (vOp dIx (vE (eVar 7)) (vC (.int 2))) (dCons "cell" (vComp (itS (vOp dIx (vE (eVar 7)) (vC (.int 3)))) [] 1 (gSet 9) bYes (vOp dIx (vE (eVar 9)) (vC (.int 0)))) dNil))))) sNx)
noncomputable def b_n_law_name_of (ψ ι:Str->GF) (υ:Str->GX):ES:=(sSeq (sSet 6 eDict)
  (sSeq (sFor (itS (vOp dIx (vE (eVar 0)) (vC (.int 0)))) (gSet 7) (b_n_law_name_of_L1 ψ ι υ))
  (sSeq (sSet 8 (eV (vComp (itS (vOp dIx (vE (eVar 0)) (vC (.int 0)))) [7] 0 (gSet 7) bYes (vOp dIx (vE (eVar 7)) (vC (.int 0))))))
  (sSeq (sIf (bV (vOpE gNe (eVar 4) (eV (vC (.str "family"))))) (sSet 8 (eV (vGet2 (vE (eVar 6)) (vE (eVar 4)) (vLst' vsNil)))) sNx)
  (sSeq (sIf (bOr (bV (vOpE gEq (eV (vOp dMod (vCall (pureOf (ψ "_law_mix")) (vsCons (vE (eVar 2)) (vsCons (vE (eVar 3)) vsNil))) (vC (.int 12)))) (eV (vC (.int 1))))) (bV (vOpE gEq (eVar 8) (eV (vLst' vsNil))))) (sSet 8 (eV (vOp dAdd2 (vE (eVar 1)) (vLst' (vsCons (vC (.str "it")) vsNil))))) sNx)
  (sRet (eV (vOp dIx (vE (eVar 8)) (vOp dMod (vCall (pureOf (ψ "_law_mix")) (vsCons (vE (eVar 2)) (vsCons (vOp dAdd2 (vE (eVar 3)) (vC (.int 1))) vsNil))) (vLen (eVar 8)))))))))))
theorem e_n_law_name_of (n:Nat):Psi Gv Att Exs Rs Tb (n+2) "_law_name_of"=fnR 6 9 (b_n_law_name_of (Psi Gv Att Exs Rs Tb (n+1)) (Psi Gv Att Exs Rs Tb n) (Xsi Gv Att Exs Rs Tb (n+1))):=by kernel_rfl
noncomputable def b_n_law_part (ψ ι:Str->GF) (υ:Str->GX):ES:=(sSeq (sSet 4 (eV (vOp dMod (vCall (pureOf (ψ "_law_mix")) (vsCons (vE (eVar 2)) (vsCons (vE (eVar 3)) vsNil))) (vC (.int 7)))))
  (sSeq (sSet 5 (eV (vCall (pureOf (ψ "_law_name_of")) (vsCons (vE (eVar 0)) (vsCons (vE (eVar 1)) (vsCons (vE (eVar 2)) (vsCons (vOp dAdd2 (vE (eVar 3)) (vC (.int 1))) (vsCons (vC (.str "family")) (vsCons (vC (.str "")) vsNil)))))))))
  (sSeq (sIf (bV (vOpE gEq (eVar 4) (eV (vC (.int 0))))) (sSeq (sSet 6 (eV (vCall (pureOf (ψ "_law_name_of")) (vsCons (vE (eVar 0)) (vsCons (vE (eVar 1)) (vsCons (vE (eVar 2)) (vsCons (vOp dAdd2 (vE (eVar 3)) (vC (.int 3))) (vsCons (vC (.str "family")) (vsCons (vC (.str "")) vsNil)))))))))
  (sRet (eV (vTup' (vsCons (vC (.str "letters")) (vsCons (vE (eVar 5)) (vsCons (vE (eVar 6)) (vsCons (vOp dIx (vLst' (vsCons (vC (.str "")) (vsCons (vOp dIx (vE (eVar 1)) (vC (.int 11))) vsNil))) (vOp dMod (vCall (pureOf (ψ "_law_mix")) (vsCons (vE (eVar 2)) (vsCons (vOp dAdd2 (vE (eVar 3)) (vC (.int 5))) vsNil))) (vC (.int 2)))) (vsCons (vC (.str "=")) (vsCons (vC (.int 1)) vsNil)))))))))) sNx)
  (sSeq (sIf (bV (vOpE gEq (eVar 4) (eV (vC (.int 1))))) (sRet (eV (vOp dIx (vLst' (vsCons (vTup' (vsCons (vC (.str "true")) vsNil)) (vsCons (vTup' (vsCons (vC (.str "dry")) vsNil)) vsNil))) (vOp dMod (vCall (pureOf (ψ "_law_mix")) (vsCons (vE (eVar 2)) (vsCons (vOp dAdd2 (vE (eVar 3)) (vC (.int 5))) vsNil))) (vC (.int 2)))))) sNx)
  (sSeq (sSet 7 (eV (vC (.str ""))))
  (sSeq (sIf (bV (vOpE gEq (eV (vOp dMod (vCall (pureOf (ψ "_law_mix")) (vsCons (vE (eVar 2)) (vsCons (vOp dAdd2 (vE (eVar 3)) (vC (.int 6))) vsNil))) (vC (.int 2)))) (eV (vC (.int 1))))) (sSet 7 (eV (vCall (pureOf (ψ "_law_name_of")) (vsCons (vE (eVar 0)) (vsCons (vE (eVar 1)) (vsCons (vE (eVar 2)) (vsCons (vOp dAdd2 (vE (eVar 3)) (vC (.int 7))) (vsCons (vC (.str "room")) (vsCons (vE (eVar 5)) vsNil))))))))) sNx)
  (sSeq (sSet 8 (eV (vTup' (vsCons (vC (.str "true")) vsNil))))
  (sSeq (sIf (bV (vOpE gEq (eV (vOp dMod (vCall (pureOf (ψ "_law_mix")) (vsCons (vE (eVar 2)) (vsCons (vOp dAdd2 (vE (eVar 3)) (vC (.int 9))) vsNil))) (vC (.int 2)))) (eV (vC (.int 1))))) (sSeq (sSet 9 (eV (vCall (pureOf (ψ "_law_name_of")) (vsCons (vE (eVar 0)) (vsCons (vE (eVar 1)) (vsCons (vE (eVar 2)) (vsCons (vOp dAdd2 (vE (eVar 3)) (vC (.int 10))) (vsCons (vC (.str "cell")) (vsCons (vE (eVar 5)) vsNil)))))))))
  (sSeq (sSet 10 (eV (vTup' (vsCons (vC (.str "is")) (vsCons (vC (.str "<")) (vsCons (vTup' (vsCons (vC (.str "plus")) (vsCons (vTup' (vsCons (vC (.str "number")) (vsCons (vC (.int 1)) vsNil))) (vsCons (vTup' (vsCons (vC (.str "name")) (vsCons (vE (eVar 9)) vsNil))) vsNil)))) (vsCons (vTup' (vsCons (vC (.str "number")) (vsCons (vC (.int 3)) vsNil))) vsNil)))))))
  (sSet 8 (eV (vOp dIx (vLst' (vsCons (vE (eVar 10)) (vsCons (vTup' (vsCons (vC (.str "not")) (vsCons (vE (eVar 10)) vsNil))) (vsCons (vTup' (vsCons (vC (.str "or")) (vsCons (vTup' (vsCons (vC (.str "true")) vsNil)) (vsCons (vE (eVar 10)) vsNil)))) vsNil)))) (vOp dMod (vCall (pureOf (ψ "_law_mix")) (vsCons (vE (eVar 2)) (vsCons (vOp dAdd2 (vE (eVar 3)) (vC (.int 12))) vsNil))) (vC (.int 3)))))))) sNx)
  (sSeq (sIf (bV (vOp dLt (vE (eVar 4)) (vC (.int 4)))) (sRet (eV (vTup' (vsCons (vOp dIx (vLst' (vsCons (vC (.str "some")) (vsCons (vC (.str "all")) vsNil))) (vOp dSub (vE (eVar 4)) (vC (.int 2)))) (vsCons (vE (eVar 5)) (vsCons (vE (eVar 7)) (vsCons (vE (eVar 8)) vsNil))))))) sNx)
  (sSeq (sIf (bV (vOpE gEq (eVar 4) (eV (vC (.int 4))))) (sRet (eV (vTup' (vsCons (vC (.str "many")) (vsCons (vE (eVar 5)) (vsCons (vE (eVar 7)) (vsCons (vE (eVar 8)) (vsCons (vC (.str ">")) (vsCons (vC (.int 0)) vsNil))))))))) sNx)
  (sRet (eV (vTup' (vsCons (vOp dIx (vLst' (vsCons (vC (.str "some knows")) (vsCons (vC (.str "each knows")) vsNil))) (vOp dSub (vE (eVar 4)) (vC (.int 5)))) (vsCons (vE (eVar 5)) (vsCons (vTup' (vsCons (vC (.str "some")) (vsCons (vE (eVar 5)) (vsCons (vE (eVar 7)) (vsCons (vE (eVar 8)) vsNil))))) vsNil))))))))))))))))
theorem e_n_law_part (n:Nat):Psi Gv Att Exs Rs Tb (n+2) "_law_part"=fnR 4 11 (b_n_law_part (Psi Gv Att Exs Rs Tb (n+1)) (Psi Gv Att Exs Rs Tb n) (Xsi Gv Att Exs Rs Tb (n+1))):=by kernel_rfl
noncomputable def b_n_law_fact (ψ ι:Str->GF) (υ:Str->GX):ES:=(sSeq (sSet 4 (eV (vCall (pureOf (ψ "_law_part")) (vsCons (vE (eVar 0)) (vsCons (vE (eVar 1)) (vsCons (vE (eVar 2)) (vsCons (vOp dAdd2 (vE (eVar 3)) (vC (.int 1))) vsNil)))))))
  (sSeq (sSet 5 (eV (vOp dMod (vCall (pureOf (ψ "_law_mix")) (vsCons (vE (eVar 2)) (vsCons (vE (eVar 3)) vsNil))) (vC (.int 5)))))
  (sSeq (sIf (bV (vOp dLt (vE (eVar 5)) (vC (.int 2)))) (sRet (eV (vTup' (vsCons (vOp dIx (vLst' (vsCons (vC (.str "and")) (vsCons (vC (.str "or")) vsNil))) (vE (eVar 5))) (vsCons (vE (eVar 4)) (vsCons (vCall (pureOf (ψ "_law_part")) (vsCons (vE (eVar 0)) (vsCons (vE (eVar 1)) (vsCons (vE (eVar 2)) (vsCons (vOp dAdd2 (vE (eVar 3)) (vC (.int 20))) vsNil))))) vsNil)))))) sNx)
  (sSeq (sIf (bV (vOpE gEq (eVar 5) (eV (vC (.int 2))))) (sRet (eV (vTup' (vsCons (vC (.str "not")) (vsCons (vE (eVar 4)) vsNil))))) sNx)
  (sRet (eVar 4))))))
theorem e_n_law_fact (n:Nat):Psi Gv Att Exs Rs Tb (n+2) "_law_fact"=fnR 4 6 (b_n_law_fact (Psi Gv Att Exs Rs Tb (n+1)) (Psi Gv Att Exs Rs Tb n) (Xsi Gv Att Exs Rs Tb (n+1))):=by kernel_rfl
noncomputable def b_n_law_saying (ψ ι:Str->GF) (υ:Str->GX):ES:=(sSeq (sSet 3 (eV (vOp dIx (vLst' (vsCons (vC (.str "never")) (vsCons (vC (.str "always")) (vsCons (vC (.str "ahead")) (vsCons (vC (.str "at last")) (vsCons (vC (.str "whenever")) (vsCons (vC (.str "always can")) vsNil))))))) (vOp dMod (vCall (pureOf (ψ "_law_mix")) (vsCons (vE (eVar 2)) (vsCons (vC (.int 1)) vsNil))) (vC (.int 6))))))
  (sSeq (sSet 4 (eV (vCall (pureOf (ψ "_law_fact")) (vsCons (vE (eVar 0)) (vsCons (vE (eVar 1)) (vsCons (vE (eVar 2)) (vsCons (vC (.int 10)) vsNil)))))))
  (sSeq (sIf (bV (vOpE gIn (eVar 3) (eV (vTup' (vsCons (vC (.str "ahead")) (vsCons (vC (.str "whenever")) vsNil)))))) (sRet (eV (vTup' (vsCons (vE (eVar 3)) (vsCons (vE (eVar 4)) (vsCons (vCall (pureOf (ψ "_law_fact")) (vsCons (vE (eVar 0)) (vsCons (vE (eVar 1)) (vsCons (vE (eVar 2)) (vsCons (vC (.int 60)) vsNil))))) vsNil)))))) sNx)
  (sRet (eV (vTup' (vsCons (vE (eVar 3)) (vsCons (vE (eVar 4)) vsNil))))))))
theorem e_n_law_saying (n:Nat):Psi Gv Att Exs Rs Tb (n+2) "_law_saying"=fnR 3 5 (b_n_law_saying (Psi Gv Att Exs Rs Tb (n+1)) (Psi Gv Att Exs Rs Tb n) (Xsi Gv Att Exs Rs Tb (n+1))):=by kernel_rfl
noncomputable def b_n_parts_of (ψ ι:Str->GF) (υ:Str->GX):ES:=(sSeq (sSet 1 (eV (vOp dIx (vE (eVar 0)) (vC (.int 0)))))
  (sSeq (sIf (bV (vOpE gEq (eVar 1) (eV (vC (.str "not"))))) (sRet (eV (vOp dAdd2 (vLst' (vsCons (vE (eVar 0)) vsNil)) (vCall (pureOf (ψ "parts_of")) (vsCons (vOp dIx (vE (eVar 0)) (vC (.int 1))) vsNil))))) sNx)
  (sSeq (sIf (bV (vOpE gIn (eVar 1) (eV (vTup' (vsCons (vC (.str "and")) (vsCons (vC (.str "or")) vsNil)))))) (sRet (eV (vOp dAdd2 (vOp dAdd2 (vLst' (vsCons (vE (eVar 0)) vsNil)) (vCall (pureOf (ψ "parts_of")) (vsCons (vOp dIx (vE (eVar 0)) (vC (.int 1))) vsNil))) (vCall (pureOf (ψ "parts_of")) (vsCons (vOp dIx (vE (eVar 0)) (vC (.int 2))) vsNil))))) sNx)
  (sSeq (sIf (bV (vOpE gIn (eVar 1) (eV (vC (.tup [.str "some knows",.str "each knows"]))))) (sRet (eV (vOp dAdd2 (vLst' (vsCons (vE (eVar 0)) vsNil)) (vCall (pureOf (ψ "parts_of")) (vsCons (vOp dIx (vE (eVar 0)) (vC (.int 2))) vsNil))))) sNx)
  (sRet (eV (vLst' (vsCons (vE (eVar 0)) vsNil))))))))
theorem e_n_parts_of (n:Nat):Psi Gv Att Exs Rs Tb (n+2) "parts_of"=fnR 1 2 (b_n_parts_of (Psi Gv Att Exs Rs Tb (n+1)) (Psi Gv Att Exs Rs Tb n) (Xsi Gv Att Exs Rs Tb (n+1))):=by kernel_rfl
noncomputable def b_n_check_room_and_cells (ψ ι:Str->GF) (υ:Str->GX):ES:=(sSeq (sSet 3 (eV (vComp (itS (vOp dIx (vE (eVar 0)) (vC (.int 3)))) [] 1 (gSet 4) bYes (vOp dIx (vE (eVar 4)) (vC (.int 0))))))
  (sSeq (sIf (bAnd (bV (vOpE gNe (eVar 1) (eV (vC (.str ""))))) (bV (vOpE gNotIn (eVar 1) (eV (vOp dIx (vE (eVar 0)) (vC (.int 2))))))) sNever sNx)
  (sIf (bNot (bT (eV (vCall c_all (vsCons (vComp (itS (vCall (pureOf (ψ "names_in")) (vsCons (vE (eVar 2)) vsNil))) [] 1 (gSet 4) bYes (vOpE gIn (eVar 4) (eVar 3))) vsNil))))) sNever sNx)))
theorem e_n_check_room_and_cells (n:Nat):Psi Gv Att Exs Rs Tb (n+2) "check_room_and_cells"=fnR 3 4 (b_n_check_room_and_cells (Psi Gv Att Exs Rs Tb (n+1)) (Psi Gv Att Exs Rs Tb n) (Xsi Gv Att Exs Rs Tb (n+1))):=by kernel_rfl
noncomputable def xb_n_check_room_and_cells (ψ ι:Str->GF) (υ:Str->GX):EX:=(xSeq (sSet 3 (eV (vComp (itS (vOp dIx (vE (eVar 0)) (vC (.int 3)))) [] 1 (gSet 4) bYes (vOp dIx (vE (eVar 4)) (vC (.int 0)))))) xNo
  (xSeq (sIf (bAnd (bV (vOpE gNe (eVar 1) (eV (vC (.str ""))))) (bV (vOpE gNotIn (eVar 1) (eV (vOp dIx (vE (eVar 0)) (vC (.int 2))))))) sNever sNx) (xIfX (bAnd (bV (vOpE gNe (eVar 1) (eV (vC (.str ""))))) (bV (vOpE gNotIn (eVar 1) (eV (vOp dIx (vE (eVar 0)) (vC (.int 2))))))) (xRaise "NoFact") xNo)
  (xIfX (bNot (bT (eV (vCall c_all (vsCons (vComp (itS (vCall (pureOf (ψ "names_in")) (vsCons (vE (eVar 2)) vsNil))) [] 1 (gSet 4) bYes (vOpE gIn (eVar 4) (eVar 3))) vsNil))))) (xRaise "NoFact") xNo)))
theorem xe_n_check_room_and_cells (n:Nat):Xsi Gv Att Exs Rs Tb (n+2) "check_room_and_cells"=guardR Rs (fnX 3 4 (xb_n_check_room_and_cells (Psi Gv Att Exs Rs Tb (n+1)) (Psi Gv Att Exs Rs Tb n) (Xsi Gv Att Exs Rs Tb (n+1)))):=by kernel_rfl
noncomputable def b_n_check_part (ψ ι:Str->GF) (υ:Str->GX):ES:=(sSeq (sSet 2 (eV (vLst' vsNil)))
  (sSeq (sIf (bV (vOpE gEq (eV (vOp dIx (vE (eVar 1)) (vC (.int 0)))) (eV (vC (.str "letters"))))) (sSet 2 (eV (vSl2 (vE (eVar 1)) (oSome (vC (.int 1))) (oSome (vC (.int 3)))))) (sIf (bOr (bV (vOpE gIn (eV (vOp dIx (vE (eVar 1)) (vC (.int 0)))) (eV (vC (.tup [.str "some",.str "all",.str "many"]))))) (bV (vOpE gIn (eV (vOp dIx (vE (eVar 1)) (vC (.int 0)))) (eV (vC (.tup [.str "some knows",.str "each knows"])))))) (sSet 2 (eV (vSl2 (vE (eVar 1)) (oSome (vC (.int 1))) (oSome (vC (.int 2)))))) sNx))
  (sSeq (sIf (bNot (bT (eV (vCall c_all (vsCons (vComp (itS (vE (eVar 2))) [] 1 (gSet 3) bYes (vOpE gIn (eVar 3) (eVar 0))) vsNil))))) sNever sNx)
  (sIf (bV (vOpE gIn (eV (vOp dIx (vE (eVar 1)) (vC (.int 0)))) (eV (vC (.tup [.str "some",.str "all",.str "many"]))))) (sDrop (eV (vCall (pureOf (ψ "check_room_and_cells")) (vsCons (vOp dIx (vE (eVar 0)) (vOp dIx (vE (eVar 1)) (vC (.int 1)))) (vsCons (vOp dIx (vE (eVar 1)) (vC (.int 2))) (vsCons (vOp dIx (vE (eVar 1)) (vC (.int 3))) vsNil)))))) sNx))))
theorem e_n_check_part (n:Nat):Psi Gv Att Exs Rs Tb (n+2) "check_part"=fnR 2 3 (b_n_check_part (Psi Gv Att Exs Rs Tb (n+1)) (Psi Gv Att Exs Rs Tb n) (Xsi Gv Att Exs Rs Tb (n+1))):=by kernel_rfl
noncomputable def xb_n_check_part (ψ ι:Str->GF) (υ:Str->GX):EX:=(xSeq (sSet 2 (eV (vLst' vsNil))) xNo
  (xSeq (sIf (bV (vOpE gEq (eV (vOp dIx (vE (eVar 1)) (vC (.int 0)))) (eV (vC (.str "letters"))))) (sSet 2 (eV (vSl2 (vE (eVar 1)) (oSome (vC (.int 1))) (oSome (vC (.int 3)))))) (sIf (bOr (bV (vOpE gIn (eV (vOp dIx (vE (eVar 1)) (vC (.int 0)))) (eV (vC (.tup [.str "some",.str "all",.str "many"]))))) (bV (vOpE gIn (eV (vOp dIx (vE (eVar 1)) (vC (.int 0)))) (eV (vC (.tup [.str "some knows",.str "each knows"])))))) (sSet 2 (eV (vSl2 (vE (eVar 1)) (oSome (vC (.int 1))) (oSome (vC (.int 2)))))) sNx)) (xIfX (bV (vOpE gEq (eV (vOp dIx (vE (eVar 1)) (vC (.int 0)))) (eV (vC (.str "letters"))))) xNo (xIfX (bOr (bV (vOpE gIn (eV (vOp dIx (vE (eVar 1)) (vC (.int 0)))) (eV (vC (.tup [.str "some",.str "all",.str "many"]))))) (bV (vOpE gIn (eV (vOp dIx (vE (eVar 1)) (vC (.int 0)))) (eV (vC (.tup [.str "some knows",.str "each knows"])))))) xNo xNo))
  (xSeq (sIf (bNot (bT (eV (vCall c_all (vsCons (vComp (itS (vE (eVar 2))) [] 1 (gSet 3) bYes (vOpE gIn (eVar 3) (eVar 0))) vsNil))))) sNever sNx) (xIfX (bNot (bT (eV (vCall c_all (vsCons (vComp (itS (vE (eVar 2))) [] 1 (gSet 3) bYes (vOpE gIn (eVar 3) (eVar 0))) vsNil))))) (xRaise "NoFact") xNo)
  (xIfX (bV (vOpE gIn (eV (vOp dIx (vE (eVar 1)) (vC (.int 0)))) (eV (vC (.tup [.str "some",.str "all",.str "many"]))))) (xCallX (υ "check_room_and_cells") (dsCons (eV (vOp dIx (vE (eVar 0)) (vOp dIx (vE (eVar 1)) (vC (.int 1))))) (dsCons (eV (vOp dIx (vE (eVar 1)) (vC (.int 2)))) (dsCons (eV (vOp dIx (vE (eVar 1)) (vC (.int 3)))) dsNil)))) xNo))))
theorem xe_n_check_part (n:Nat):Xsi Gv Att Exs Rs Tb (n+2) "check_part"=guardR Rs (fnX 2 3 (xb_n_check_part (Psi Gv Att Exs Rs Tb (n+1)) (Psi Gv Att Exs Rs Tb n) (Xsi Gv Att Exs Rs Tb (n+1)))):=by kernel_rfl
noncomputable def b_n_check_saying_L1 (ψ ι:Str->GF) (υ:Str->GX):ES:=(sDrop (eV (vCall (pureOf (ψ "check_part")) (vsCons (vE (eVar 2)) (vsCons (vE (eVar 4)) vsNil)))))
noncomputable def b_n_check_saying_L2 (ψ ι:Str->GF) (υ:Str->GX):ES:=(sFor (itS (vCall (pureOf (ψ "parts_of")) (vsCons (vE (eVar 3)) vsNil))) (gSet 4) (b_n_check_saying_L1 ψ ι υ))
noncomputable def b_n_check_saying (ψ ι:Str->GF) (υ:Str->GX):ES:=(sSeq (sSet 2 (eV (vCall c_dict (vsCons (vComp (itS (vOp dIx (vE (eVar 0)) (vC (.int 0)))) [] 1 (gSet 5) bYes (vTup' (vsCons (vOp dIx (vE (eVar 5)) (vC (.int 0))) (vsCons (vE (eVar 5)) vsNil)))) vsNil))))
  (sFor (itS (vSl2 (vE (eVar 1)) (oSome (vC (.int 1))) oNone)) (gSet 3) (b_n_check_saying_L2 ψ ι υ)))
theorem e_n_check_saying (n:Nat):Psi Gv Att Exs Rs Tb (n+2) "check_saying"=fnR 2 5 (b_n_check_saying (Psi Gv Att Exs Rs Tb (n+1)) (Psi Gv Att Exs Rs Tb n) (Xsi Gv Att Exs Rs Tb (n+1))):=by kernel_rfl
noncomputable def b_n_x_check_saying_L1 (ψ ι:Str->GF) (υ:Str->GX):ES:=(sDrop (eV (vCall (pureOf (ψ "check_part")) (vsCons (vE (eVar 2)) (vsCons (vE (eVar 4)) vsNil)))))
noncomputable def xb_n_check_saying (ψ ι:Str->GF) (υ:Str->GX):EX:=(xSeq (sSet 2 (eV (vCall c_dict (vsCons (vComp (itS (vOp dIx (vE (eVar 0)) (vC (.int 0)))) [] 1 (gSet 5) bYes (vTup' (vsCons (vOp dIx (vE (eVar 5)) (vC (.int 0))) (vsCons (vE (eVar 5)) vsNil)))) vsNil)))) xNo
  (xFor (itS (vSl2 (vE (eVar 1)) (oSome (vC (.int 1))) oNone)) (gSet 3) (sFor (itS (vCall (pureOf (ψ "parts_of")) (vsCons (vE (eVar 3)) vsNil))) (gSet 4) (b_n_x_check_saying_L1 ψ ι υ)) (xFor (itS (vCall (pureOf (ψ "parts_of")) (vsCons (vE (eVar 3)) vsNil))) (gSet 4) (sDrop (eV (vCall (pureOf (ψ "check_part")) (vsCons (vE (eVar 2)) (vsCons (vE (eVar 4)) vsNil))))) (xCallX (υ "check_part") (dsCons (eVar 2) (dsCons (eVar 4) dsNil))))))
theorem xe_n_check_saying (n:Nat):Xsi Gv Att Exs Rs Tb (n+2) "check_saying"=guardR Rs (fnX 2 5 (xb_n_check_saying (Psi Gv Att Exs Rs Tb (n+1)) (Psi Gv Att Exs Rs Tb n) (Xsi Gv Att Exs Rs Tb (n+1)))):=by kernel_rfl
noncomputable def b_n_law_good_L1 (ψ ι:Str->GF) (υ:Str->GX):ES:=(sPut2 (eVar 2) (vOp dIx (vE (eVar 3)) (vC (.int 0))) (vE (eVar 3)))
noncomputable def b_n_law_good (ψ ι:Str->GF) (υ:Str->GX):ES:=(sSeq (sSet 2 eDict)
  (sSeq (sFor (itS (vOp dIx (vE (eVar 0)) (vC (.int 0)))) (gSet 3) (b_n_law_good_L1 ψ ι υ))
  (sSeq (sIf (bV (vOpE gIn (eV (vOp dIx (vE (eVar 1)) (vC (.int 0)))) (eV (vTup' (vsCons (vC (.str "true")) (vsCons (vC (.str "dry")) vsNil)))))) (sRet (eV (vC (.bl true)))) sNx)
  (sSeq (sIf (bV (vOpE gEq (eV (vOp dIx (vE (eVar 1)) (vC (.int 0)))) (eV (vC (.str "letters"))))) (sRet (eV (vB (bAnd (bV (vOpE gIn (eV (vOp dIx (vE (eVar 1)) (vC (.int 1)))) (eVar 2))) (bV (vOpE gIn (eV (vOp dIx (vE (eVar 1)) (vC (.int 2)))) (eVar 2))))))) sNx)
  (sSeq (sIf (bV (vOpE gIn (eV (vOp dIx (vE (eVar 1)) (vC (.int 0)))) (eV (vTup' (vsCons (vC (.str "not")) (vsCons (vC (.str "and")) (vsCons (vC (.str "or")) vsNil))))))) (sRet (eV (vOpE gNotIn (eV (vC (.bl false))) (eV (vComp (itS (vSl2 (vE (eVar 1)) (oSome (vC (.int 1))) oNone)) [] 1 (gSet 5) bYes (vCall (pureOf (ψ "_law_good")) (vsCons (vE (eVar 0)) (vsCons (vE (eVar 5)) vsNil)))))))) sNx)
  (sSeq (sIf (bV (vOpE gNotIn (eV (vOp dIx (vE (eVar 1)) (vC (.int 1)))) (eVar 2))) (sRet (eV (vC (.bl false)))) sNx)
  (sSeq (sIf (bV (vOpE gIn (eV (vOp dIx (vE (eVar 1)) (vC (.int 0)))) (eV (vTup' (vsCons (vC (.str "some knows")) (vsCons (vC (.str "each knows")) vsNil)))))) (sRet (eV (vCall (pureOf (ψ "_law_good")) (vsCons (vE (eVar 0)) (vsCons (vOp dIx (vE (eVar 1)) (vC (.int 2))) vsNil))))) sNx)
  (sSeq (sSet 3 (eIx (eVar 2) (vOp dIx (vE (eVar 1)) (vC (.int 1)))))
  (sSeq (sIf (bAnd (bV (vOpE gNe (eV (vOp dIx (vE (eVar 1)) (vC (.int 2)))) (eV (vC (.str ""))))) (bV (vOpE gNotIn (eV (vOp dIx (vE (eVar 1)) (vC (.int 2)))) (eV (vOp dIx (vE (eVar 3)) (vC (.int 2))))))) (sRet (eV (vC (.bl false)))) sNx)
  (sSeq (sSet 4 (eV (vComp (itS (vOp dIx (vE (eVar 3)) (vC (.int 3)))) [] 1 (gSet 5) bYes (vOp dIx (vE (eVar 5)) (vC (.int 0))))))
  (sRet (eV (vOpE gEq (eV (vComp (itS (vCall (pureOf (ψ "_law_spoken")) (vsCons (vOp dIx (vE (eVar 1)) (vC (.int 3))) vsNil))) [] 1 (gSet 5) (bV (vOpE gNotIn (eVar 5) (eVar 4))) (vE (eVar 5)))) (eV (vLst' vsNil)))))))))))))))
theorem e_n_law_good (n:Nat):Psi Gv Att Exs Rs Tb (n+2) "_law_good"=fnR 2 5 (b_n_law_good (Psi Gv Att Exs Rs Tb (n+1)) (Psi Gv Att Exs Rs Tb n) (Xsi Gv Att Exs Rs Tb (n+1))):=by kernel_rfl
noncomputable def b_n_law_right (ψ ι:Str->GF) (υ:Str->GX):ES:=(sSeq (sSet 2 (eV (vC (.non))))
  (sSeq (sSet 3 (eV (vC (.non))))
  (sSeq (sTry (sSet 3 (eV (vCall (pureOf (ψ "check_saying")) (vsCons (vE (eVar 0)) (vsCons (vE (eVar 1)) vsNil))))) (xCallX (υ "check_saying") (dsCons (eVar 0) (dsCons (eVar 1) dsNil))) (fun c'=>Rs.contains c' && (Exs.lookup c').any fun anc=>anc.contains "RoadError") 4 (sSet 2 (eVar 4)))
  (sSeq (sIf (bV (vOpE gNotIn (eV (vC (.bl false))) (eV (vComp (itS (vSl2 (vE (eVar 1)) (oSome (vC (.int 1))) oNone)) [] 1 (gSet 5) bYes (vCall (pureOf (ψ "_law_good")) (vsCons (vE (eVar 0)) (vsCons (vE (eVar 5)) vsNil))))))) (sRet (eV (vB (bAnd (bV (vOpE gIs (eVar 2) (eV (vC (.non))))) (bV (vOpE gIs (eVar 3) (eV (vC (.non))))))))) sNx)
  (sSeq (sIf (bT (eV (vIsiX (ansOf Exs Rs ["NoDeed","NoLine","NoPlan","NoRow","NoText","NotPossible","NoThing","TooMany"]) (eVar 2)))) (sRet (eV (vC (.bl false)))) sNx)
  (sRet (eV (vB (bAnd (bV (vIsiX (ansOf Exs Rs ["NoFact"]) (eVar 2))) (bV (vIsiX (ansOf Exs Rs ["ValueError"]) (eVar 2))))))))))))
theorem e_n_law_right (n:Nat):Psi Gv Att Exs Rs Tb (n+2) "_law_right"=fnR 2 5 (b_n_law_right (Psi Gv Att Exs Rs Tb (n+1)) (Psi Gv Att Exs Rs Tb n) (Xsi Gv Att Exs Rs Tb (n+1))):=by kernel_rfl
noncomputable def b_n_law_L1 (ψ ι:Str->GF) (υ:Str->GX):ES:=(sSeq (sSet 6 (eV (vCall (pureOf (ψ "_law_saying")) (vsCons (vE (eVar 3)) (vsCons (vE (eVar 4)) (vsCons (vE (eVar 5)) vsNil))))))
  (sSeq (sIf (bNot (bT (eV (vCall (pureOf (ψ "_law_right")) (vsCons (vE (eVar 3)) (vsCons (vE (eVar 6)) vsNil)))))) (sRet (eV (vC (.bl false)))) sNx)
  (sIf (bOr (bV (vOpE gNe (eVar 3) (eV (vCall (pureOf (ψ "_law_plan")) (vsCons (vE (eVar 2)) vsNil))))) (bV (vOpE gNe (eVar 6) (eV (vCall (pureOf (ψ "_law_saying")) (vsCons (vE (eVar 3)) (vsCons (vE (eVar 4)) (vsCons (vE (eVar 5)) vsNil)))))))) (sRet (eV (vC (.bl false)))) sNx)))
noncomputable def b_n_law (ψ ι:Str->GF) (υ:Str->GX):ES:=(sSeq (sSet 1 (eV (vOp dAdd2 (vSl2 (vE (eVar 0)) oNone (oSome (vC (.int 40)))) (vLst' (vsCons (vC (.int 0)) vsNil)))))
  (sSeq (sSet 2 (eV (vCall c_sum (vsCons (vE (eVar 1)) vsNil))))
  (sSeq (sSet 3 (eV (vCall (pureOf (ψ "_law_plan")) (vsCons (vE (eVar 2)) vsNil))))
  (sSeq (sSet 4 (eV (vCall (pureOf (ψ "_law_names")) (vsCons (vE (eVar 2)) vsNil))))
  (sSeq (sFor (itS (vE (eVar 1))) (gSet 5) (b_n_law_L1 ψ ι υ))
  (sRet (eV (vC (.bl true)))))))))
theorem e_n_law (n:Nat):Psi Gv Att Exs Rs Tb (n+2) "law"=fnR 1 7 (b_n_law (Psi Gv Att Exs Rs Tb (n+1)) (Psi Gv Att Exs Rs Tb n) (Xsi Gv Att Exs Rs Tb (n+1))):=by kernel_rfl
theorem ln1 {α:Type}{us:List α} (h:us.length=1):∃a,us=[a]:=by
 match us,h with
 | [a],_=>exact⟨a,rfl⟩
theorem ln2 {α:Type}{us:List α} (h:us.length=2):∃a b,us=[a,b]:=by
 match us,h with
 | [a,b],_=>exact⟨a,b,rfl⟩
theorem ln3 {α:Type}{us:List α} (h:us.length=3):∃a b c,us=[a,b,c]:=by
 match us,h with
 | [a,b,c],_=>exact⟨a,b,c,rfl⟩
theorem ln4 {α:Type}{us:List α} (h:us.length=4):∃a b c d,us=[a,b,c,d]:=by
 match us,h with
 | [a,b,c,d],_=>exact⟨a,b,c,d,rfl⟩
theorem ln6 {α:Type}{us:List α} (h:us.length=6):∃a b c d e g,us=[a,b,c,d,e,g]:=by
 match us,h with
 | [a,b,c,d,e,g],_=>exact⟨a,b,c,d,e,g,rfl⟩
theorem sc:Tb.all scB=true:=by decide +kernel
theorem un:(Tb.map (·.name)).Nodup:=by decide +kernel
theorem exs_mk {K:PySem.W.Frag}{h:Heap}{mg:Str->Option Value} (X:K.In h) (G:h.Ns mainGlobals mg) {E0 E1 E2 E3 E4 E5 E6 E7 E8 E9:Addr}
  (ea0:PySem.W.nsIn K mainGlobals "RoadError"=some (some (.ref E0))) (en0:PySem.W.kitOne K (.type "NoneType") (.ref E0)=some false)
  (ea1:PySem.W.nsIn K mainGlobals "NoText"=some (some (.ref E1))) (en1:PySem.W.kitOne K (.type "NoneType") (.ref E1)=some false)
  (ea2:PySem.W.nsIn K mainGlobals "NoPlan"=some (some (.ref E2))) (en2:PySem.W.kitOne K (.type "NoneType") (.ref E2)=some false)
  (ea3:PySem.W.nsIn K mainGlobals "NoLine"=some (some (.ref E3))) (en3:PySem.W.kitOne K (.type "NoneType") (.ref E3)=some false)
  (ea4:PySem.W.nsIn K mainGlobals "NoDeed"=some (some (.ref E4))) (en4:PySem.W.kitOne K (.type "NoneType") (.ref E4)=some false)
  (ea5:PySem.W.nsIn K mainGlobals "NotPossible"=some (some (.ref E5))) (en5:PySem.W.kitOne K (.type "NoneType") (.ref E5)=some false)
  (ea6:PySem.W.nsIn K mainGlobals "TooMany"=some (some (.ref E6))) (en6:PySem.W.kitOne K (.type "NoneType") (.ref E6)=some false)
  (ea7:PySem.W.nsIn K mainGlobals "NoFact"=some (some (.ref E7))) (en7:PySem.W.kitOne K (.type "NoneType") (.ref E7)=some false)
  (ea8:PySem.W.nsIn K mainGlobals "NoRow"=some (some (.ref E8))) (en8:PySem.W.kitOne K (.type "NoneType") (.ref E8)=some false)
  (ea9:PySem.W.nsIn K mainGlobals "NoThing"=some (some (.ref E9))) (en9:PySem.W.kitOne K (.type "NoneType") (.ref E9)=some false)
  (ev:PySem.W.nsIn K mainGlobals "ValueError"=some none) (env:PySem.W.kitOne K (.type "NoneType") (.type "ValueError")=some false)
  (xg7:PySem.W.findIn K (.ref E7) "__getattribute__"=some (some (.builtin "BaseException.__getattribute__"))) (xh7:PySem.W.findIn K (.ref E7) "__getattr__"=some none) (xe7:PySem.W.mroIn K E7 (.type "BaseException")=some true) (xc7:PySem.W.findIn K (.ref E7) "__class__"=some (some (.builtin "object.__class__"))) (xb7:PySem.W.specialIn K (.builtin "object.__class__") "__get__"=some (some (.builtin "getset_descriptor.__get__"))) (xd7:PySem.W.takesIn K (.builtin "object.__class__")=some true) (xo7:PySem.W.mroIn K E7 (.type "object")=some true) (xi7:(PySem.W.clsIn K E7).isSome=true) (xs7:PySem.W.kitCls K (.ref E7) (.ref E7)=some true) (xv7:PySem.W.kitOne K (.ref E7) (.type "ValueError")=some true) (xr7:PySem.W.excIn K E7 mroV "ValueError.__new__"=true)
  (xk7_0:PySem.W.kitOne K (.ref E7) (.ref E0)=some true)
  (xm7_0:PySem.W.exmOne K (.ref E7) (.ref E0)=some true)
  (xk7_1:PySem.W.kitOne K (.ref E7) (.ref E1)=some false)
  (xk7_2:PySem.W.kitOne K (.ref E7) (.ref E2)=some false)
  (xk7_3:PySem.W.kitOne K (.ref E7) (.ref E3)=some false)
  (xk7_4:PySem.W.kitOne K (.ref E7) (.ref E4)=some false)
  (xk7_5:PySem.W.kitOne K (.ref E7) (.ref E5)=some false)
  (xk7_6:PySem.W.kitOne K (.ref E7) (.ref E6)=some false)
  (xk7_7:PySem.W.kitOne K (.ref E7) (.ref E7)=some true)
  (xm7_7:PySem.W.exmOne K (.ref E7) (.ref E7)=some true)
  (xk7_8:PySem.W.kitOne K (.ref E7) (.ref E8)=some false)
  (xk7_9:PySem.W.kitOne K (.ref E7) (.ref E9)=some false)
  : ExsOk K mg Exs Rs:=by
 have key:∀c:Str,(Exs.any fun x=>decide (x.1=c))=true->c=("RoadError":Str)\/c=("NoText":Str)\/c=("NoPlan":Str)\/c=("NoLine":Str)\/c=("NoDeed":Str)\/c=("NotPossible":Str)\/c=("TooMany":Str)\/c=("NoFact":Str)\/c=("NoRow":Str)\/c=("NoThing":Str):=fun c hc=>by
  simp only [Exs,List.any_cons,List.any_nil,Bool.or_false,Bool.or_eq_true,decide_eq_true_eq] at hc
  rcases hc with hc | hc | hc | hc | hc | hc | hc | hc | hc | hc
  ·exact .inl hc.symm
  ·exact .inr (.inl hc.symm)
  ·exact .inr (.inr (.inl hc.symm))
  ·exact .inr (.inr (.inr (.inl hc.symm)))
  ·exact .inr (.inr (.inr (.inr (.inl hc.symm))))
  ·exact .inr (.inr (.inr (.inr (.inr (.inl hc.symm)))))
  ·exact .inr (.inr (.inr (.inr (.inr (.inr (.inl hc.symm))))))
  ·exact .inr (.inr (.inr (.inr (.inr (.inr (.inr (.inl hc.symm)))))))
  ·exact .inr (.inr (.inr (.inr (.inr (.inr (.inr (.inr (.inl hc.symm))))))))
  ·exact .inr (.inr (.inr (.inr (.inr (.inr (.inr (.inr (.inr (hc.symm)))))))))
 have rkey:∀c:Str,Rs.contains c=true->c=("NoFact":Str):=fun c hc=>by simpa [Rs] using hc
 refine⟨fun c hc=>?_,PySem.W.mg_none_of X G ev,fun t C ht e=>?_,env,fun c anc C hR ea ns=>?_,fun c hR=>?_,fun c C hR ns=>?_⟩
 ·rcases key c hc with rfl | rfl | rfl | rfl | rfl | rfl | rfl | rfl | rfl | rfl
  ·exact⟨_,ea0,PySem.W.mg_of X G ea0⟩
  ·exact⟨_,ea1,PySem.W.mg_of X G ea1⟩
  ·exact⟨_,ea2,PySem.W.mg_of X G ea2⟩
  ·exact⟨_,ea3,PySem.W.mg_of X G ea3⟩
  ·exact⟨_,ea4,PySem.W.mg_of X G ea4⟩
  ·exact⟨_,ea5,PySem.W.mg_of X G ea5⟩
  ·exact⟨_,ea6,PySem.W.mg_of X G ea6⟩
  ·exact⟨_,ea7,PySem.W.mg_of X G ea7⟩
  ·exact⟨_,ea8,PySem.W.mg_of X G ea8⟩
  ·exact⟨_,ea9,PySem.W.mg_of X G ea9⟩
 ·rcases key t ht with rfl | rfl | rfl | rfl | rfl | rfl | rfl | rfl | rfl | rfl
  ·cases (PySem.W.mg_of X G ea0).symm.trans e;exact en0
  ·cases (PySem.W.mg_of X G ea1).symm.trans e;exact en1
  ·cases (PySem.W.mg_of X G ea2).symm.trans e;exact en2
  ·cases (PySem.W.mg_of X G ea3).symm.trans e;exact en3
  ·cases (PySem.W.mg_of X G ea4).symm.trans e;exact en4
  ·cases (PySem.W.mg_of X G ea5).symm.trans e;exact en5
  ·cases (PySem.W.mg_of X G ea6).symm.trans e;exact en6
  ·cases (PySem.W.mg_of X G ea7).symm.trans e;exact en7
  ·cases (PySem.W.mg_of X G ea8).symm.trans e;exact en8
  ·cases (PySem.W.mg_of X G ea9).symm.trans e;exact en9
 ·rcases rkey c hR with rfl
  ·cases ea7.symm.trans ns
   cases (show some (["NoFact","RoadError","ValueError"]:List Str)=some anc from ea)
   refine⟨⟨xg7,xh7,xc7,xb7,xd7,xo7,xe7,xi7⟩,xs7,xv7,fun t T ht e=>?_⟩
   rcases key t ht with rfl | rfl | rfl | rfl | rfl | rfl | rfl | rfl | rfl | rfl
   ·cases (PySem.W.mg_of X G ea0).symm.trans e;exact⟨xk7_0,fun _=>xm7_0⟩
   ·cases (PySem.W.mg_of X G ea1).symm.trans e;exact⟨xk7_1,fun z=>nomatch z⟩
   ·cases (PySem.W.mg_of X G ea2).symm.trans e;exact⟨xk7_2,fun z=>nomatch z⟩
   ·cases (PySem.W.mg_of X G ea3).symm.trans e;exact⟨xk7_3,fun z=>nomatch z⟩
   ·cases (PySem.W.mg_of X G ea4).symm.trans e;exact⟨xk7_4,fun z=>nomatch z⟩
   ·cases (PySem.W.mg_of X G ea5).symm.trans e;exact⟨xk7_5,fun z=>nomatch z⟩
   ·cases (PySem.W.mg_of X G ea6).symm.trans e;exact⟨xk7_6,fun z=>nomatch z⟩
   ·cases (PySem.W.mg_of X G ea7).symm.trans e;exact⟨xk7_7,fun _=>xm7_7⟩
   ·cases (PySem.W.mg_of X G ea8).symm.trans e;exact⟨xk7_8,fun z=>nomatch z⟩
   ·cases (PySem.W.mg_of X G ea9).symm.trans e;exact⟨xk7_9,fun z=>nomatch z⟩
 ·rcases rkey c hR with rfl <;> decide +kernel
 ·rcases rkey c hR with rfl
  ·cases ea7.symm.trans ns;exact⟨PySem.W.mg_of X G ea7,xr7⟩
open PySem.W in
theorem all_mk {w:World}{K:Frag}{h:Heap}{mg:Str->Option Value} (X:K.In h) (G:h.Ns mainGlobals mg)
  {f0 f1 f2 f3 f4 f5 f6 f7 f8 f9 f10 f11 f12 f13 f14 f15:Addr}{od0 an0 od1 an1 od2 an2 od3 an3 od4 an4 od5 an5 od6 an6 od7 an7 od8 an8 od9 an9 od10 an10 od11 an11 od12 an12 od13 an13 od14 an14 od15 an15:Option Addr}{sl0 sl1 sl2 sl3 sl4 sl5 sl6 sl7 sl8 sl9 sl10 sl11 sl12 sl13 sl14 sl15:Array (Option Value)}{oc0 kV0 dc0 pm0 cd0 ct0 oc1 kV1 dc1 pm1 cd1 ct1 oc2 kV2 dc2 pm2 cd2 ct2 oc3 kV3 dc3 pm3 cd3 ct3 oc4 kV4 dc4 pm4 cd4 ct4 oc5 kV5 dc5 pm5 cd5 ct5 oc6 kV6 dc6 pm6 cd6 ct6 oc7 kV7 dc7 pm7 cd7 ct7 oc8 kV8 dc8 pm8 cd8 ct8 oc9 kV9 dc9 pm9 cd9 ct9 oc10 kV10 dc10 pm10 cd10 ct10 oc11 kV11 dc11 pm11 cd11 ct11 oc12 kV12 dc12 pm12 cd12 ct12 oc13 kV13 dc13 pm13 cd13 ct13 oc14 kV14 dc14 pm14 cd14 ct14 oc15 kV15 dc15 pm15 cd15 ct15:Value}
  (a0:nsIn K mainGlobals "_law_mix"=some (some (.ref f0)))
  (l0:K.lookup f0=some ⟨oc0,od0,.func (fnOf "_law_mix" "_law_mix" (defArgs (top 22)) (defBody (top 22)) (defScope (top 22)) .none kV0 dc0 pm0 an0 cd0 ct0),sl0⟩) (c0:codeIn K cd0 "_law_mix"=true) (k0:keepIn K (.ref f0)=true)
  (a1:nsIn K mainGlobals "_law_names"=some (some (.ref f1)))
  (l1:K.lookup f1=some ⟨oc1,od1,.func (fnOf "_law_names" "_law_names" (defArgs (top 23)) (defBody (top 23)) (defScope (top 23)) .none kV1 dc1 pm1 an1 cd1 ct1),sl1⟩) (c1:codeIn K cd1 "_law_names"=true) (k1:keepIn K (.ref f1)=true)
  (a2:nsIn K mainGlobals "_law_plan"=some (some (.ref f2)))
  (l2:K.lookup f2=some ⟨oc2,od2,.func (fnOf "_law_plan" "_law_plan" (defArgs (top 24)) (defBody (top 24)) (defScope (top 24)) .none kV2 dc2 pm2 an2 cd2 ct2),sl2⟩) (c2:codeIn K cd2 "_law_plan"=true) (k2:keepIn K (.ref f2)=true)
  (a3:nsIn K mainGlobals "_law_name_of"=some (some (.ref f3)))
  (l3:K.lookup f3=some ⟨oc3,od3,.func (fnOf "_law_name_of" "_law_name_of" (defArgs (top 25)) (defBody (top 25)) (defScope (top 25)) .none kV3 dc3 pm3 an3 cd3 ct3),sl3⟩) (c3:codeIn K cd3 "_law_name_of"=true) (k3:keepIn K (.ref f3)=true)
  (a4:nsIn K mainGlobals "_law_part"=some (some (.ref f4)))
  (l4:K.lookup f4=some ⟨oc4,od4,.func (fnOf "_law_part" "_law_part" (defArgs (top 26)) (defBody (top 26)) (defScope (top 26)) .none kV4 dc4 pm4 an4 cd4 ct4),sl4⟩) (c4:codeIn K cd4 "_law_part"=true) (k4:keepIn K (.ref f4)=true)
  (a5:nsIn K mainGlobals "_law_fact"=some (some (.ref f5)))
  (l5:K.lookup f5=some ⟨oc5,od5,.func (fnOf "_law_fact" "_law_fact" (defArgs (top 27)) (defBody (top 27)) (defScope (top 27)) .none kV5 dc5 pm5 an5 cd5 ct5),sl5⟩) (c5:codeIn K cd5 "_law_fact"=true) (k5:keepIn K (.ref f5)=true)
  (a6:nsIn K mainGlobals "_law_saying"=some (some (.ref f6)))
  (l6:K.lookup f6=some ⟨oc6,od6,.func (fnOf "_law_saying" "_law_saying" (defArgs (top 28)) (defBody (top 28)) (defScope (top 28)) .none kV6 dc6 pm6 an6 cd6 ct6),sl6⟩) (c6:codeIn K cd6 "_law_saying"=true) (k6:keepIn K (.ref f6)=true)
  (a7:nsIn K mainGlobals "parts_of"=some (some (.ref f7)))
  (l7:K.lookup f7=some ⟨oc7,od7,.func (fnOf "parts_of" "parts_of" (defArgs (top 16)) (defBody (top 16)) (defScope (top 16)) .none kV7 dc7 pm7 an7 cd7 ct7),sl7⟩) (c7:codeIn K cd7 "parts_of"=true) (k7:keepIn K (.ref f7)=true)
  (a8:nsIn K mainGlobals "names_in"=some (some (.ref f8)))
  (l8:K.lookup f8=some ⟨oc8,od8,.func (fnOf "names_in" "names_in" (defArgs (top 12)) (defBody (top 12)) (defScope (top 12)) .none kV8 dc8 pm8 an8 cd8 ct8),sl8⟩) (c8:codeIn K cd8 "names_in"=true) (k8:keepIn K (.ref f8)=true)
  (a9:nsIn K mainGlobals "check_room_and_cells"=some (some (.ref f9)))
  (l9:K.lookup f9=some ⟨oc9,od9,.func (fnOf "check_room_and_cells" "check_room_and_cells" (defArgs (top 20)) (defBody (top 20)) (defScope (top 20)) .none kV9 dc9 pm9 an9 cd9 ct9),sl9⟩) (c9:codeIn K cd9 "check_room_and_cells"=true) (k9:keepIn K (.ref f9)=true)
  (a10:nsIn K mainGlobals "check_part"=some (some (.ref f10)))
  (l10:K.lookup f10=some ⟨oc10,od10,.func (fnOf "check_part" "check_part" (defArgs (top 19)) (defBody (top 19)) (defScope (top 19)) .none kV10 dc10 pm10 an10 cd10 ct10),sl10⟩) (c10:codeIn K cd10 "check_part"=true) (k10:keepIn K (.ref f10)=true)
  (a11:nsIn K mainGlobals "check_saying"=some (some (.ref f11)))
  (l11:K.lookup f11=some ⟨oc11,od11,.func (fnOf "check_saying" "check_saying" (defArgs (top 18)) (defBody (top 18)) (defScope (top 18)) .none kV11 dc11 pm11 an11 cd11 ct11),sl11⟩) (c11:codeIn K cd11 "check_saying"=true) (k11:keepIn K (.ref f11)=true)
  (a12:nsIn K mainGlobals "_law_spoken"=some (some (.ref f12)))
  (l12:K.lookup f12=some ⟨oc12,od12,.func (fnOf "_law_spoken" "_law_spoken" (defArgs (top 29)) (defBody (top 29)) (defScope (top 29)) .none kV12 dc12 pm12 an12 cd12 ct12),sl12⟩) (c12:codeIn K cd12 "_law_spoken"=true) (k12:keepIn K (.ref f12)=true)
  (a13:nsIn K mainGlobals "_law_good"=some (some (.ref f13)))
  (l13:K.lookup f13=some ⟨oc13,od13,.func (fnOf "_law_good" "_law_good" (defArgs (top 30)) (defBody (top 30)) (defScope (top 30)) .none kV13 dc13 pm13 an13 cd13 ct13),sl13⟩) (c13:codeIn K cd13 "_law_good"=true) (k13:keepIn K (.ref f13)=true)
  (a14:nsIn K mainGlobals "_law_right"=some (some (.ref f14)))
  (l14:K.lookup f14=some ⟨oc14,od14,.func (fnOf "_law_right" "_law_right" (defArgs (top 31)) (defBody (top 31)) (defScope (top 31)) .none kV14 dc14 pm14 an14 cd14 ct14),sl14⟩) (c14:codeIn K cd14 "_law_right"=true) (k14:keepIn K (.ref f14)=true)
  (a15:nsIn K mainGlobals "law"=some (some (.ref f15)))
  (l15:K.lookup f15=some ⟨oc15,od15,.func (fnOf "law" "law" (defArgs (top 32)) (defBody (top 32)) (defScope (top 32)) .none kV15 dc15 pm15 an15 cd15 ct15),sl15⟩) (c15:codeIn K cd15 "law"=true) (k15:keepIn K (.ref f15)=true)
  {ga0:Addr}{go0:Option Addr}{gn0:Nat}{gs0:Array (Option Value)}{gt0_0 gt0_1 gt0_2:Tok} (glb0:nsIn K mainGlobals "HAND_PARTS"=some (some (.ref ga0))) (glt0:K.lookup ga0=some ⟨.type "tuple",go0,.seq #[.str "some" gt0_0,.str "all" gt0_1,.str "many" gt0_2] gn0,gs0⟩)
  {ga1:Addr}{go1:Option Addr}{gn1:Nat}{gs1:Array (Option Value)}{gt1_0 gt1_1:Tok} (glb1:nsIn K mainGlobals "KNOWING"=some (some (.ref ga1))) (glt1:K.lookup ga1=some ⟨.type "tuple",go1,.seq #[.str "some knows" gt1_0,.str "each knows" gt1_1] gn1,gs1⟩)
  (z:∀x ∈ bltN,nsIn K mainGlobals x=some none)
  (hex:ExsOk K mg Exs Rs)
  : TOk w Gv Att Exs Rs Tb K mg:=by
 refine⟨hex,fun d hd=>?_,sc,un,fun x hx=>mg_none_of X G (z x hx),fun x v hv=>?_,fun c f hc=>?_⟩
 ·rcases List.mem_cons.mp hd with hd | hd
  ·subst hd;exact⟨_,_,⟨fun_mk (st:=(top 22)) l0 c0 k0,(fun_mk (st:=(top 22)) l0 c0 k0).binds (ps:=["_law_cell","_law_j"]) fun _ _ _ _ _ _ us hl=>by obtain⟨_,_,rfl⟩:=ln2 hl;rfl,fun _=>mg_of X G a0,fun h=>absurd h (by decide +kernel)⟩⟩
  rcases List.mem_cons.mp hd with hd | hd
  ·subst hd;exact⟨_,_,⟨fun_mk (st:=(top 23)) l1 c1 k1,(fun_mk (st:=(top 23)) l1 c1 k1).binds (ps:=["_law_total"]) fun _ _ _ _ _ _ us hl=>by obtain⟨_,rfl⟩:=ln1 hl;rfl,fun _=>mg_of X G a1,fun h=>absurd h (by decide +kernel)⟩⟩
  rcases List.mem_cons.mp hd with hd | hd
  ·subst hd;exact⟨_,_,⟨fun_mk (st:=(top 24)) l2 c2 k2,(fun_mk (st:=(top 24)) l2 c2 k2).binds (ps:=["_law_total"]) fun _ _ _ _ _ _ us hl=>by obtain⟨_,rfl⟩:=ln1 hl;rfl,fun _=>mg_of X G a2,fun h=>absurd h (by decide +kernel)⟩⟩
  rcases List.mem_cons.mp hd with hd | hd
  ·subst hd;exact⟨_,_,⟨fun_mk (st:=(top 25)) l3 c3 k3,(fun_mk (st:=(top 25)) l3 c3 k3).binds (ps:=["_law_plan_here","_law_names_here","_law_cell","_law_j","_law_kind","_law_family"]) fun _ _ _ _ _ _ us hl=>by obtain⟨_,_,_,_,_,_,rfl⟩:=ln6 hl;rfl,fun _=>mg_of X G a3,fun h=>absurd h (by decide +kernel)⟩⟩
  rcases List.mem_cons.mp hd with hd | hd
  ·subst hd;exact⟨_,_,⟨fun_mk (st:=(top 26)) l4 c4 k4,(fun_mk (st:=(top 26)) l4 c4 k4).binds (ps:=["_law_plan_here","_law_names_here","_law_cell","_law_j"]) fun _ _ _ _ _ _ us hl=>by obtain⟨_,_,_,_,rfl⟩:=ln4 hl;rfl,fun _=>mg_of X G a4,fun h=>absurd h (by decide +kernel)⟩⟩
  rcases List.mem_cons.mp hd with hd | hd
  ·subst hd;exact⟨_,_,⟨fun_mk (st:=(top 27)) l5 c5 k5,(fun_mk (st:=(top 27)) l5 c5 k5).binds (ps:=["_law_plan_here","_law_names_here","_law_cell","_law_j"]) fun _ _ _ _ _ _ us hl=>by obtain⟨_,_,_,_,rfl⟩:=ln4 hl;rfl,fun _=>mg_of X G a5,fun h=>absurd h (by decide +kernel)⟩⟩
  rcases List.mem_cons.mp hd with hd | hd
  ·subst hd;exact⟨_,_,⟨fun_mk (st:=(top 28)) l6 c6 k6,(fun_mk (st:=(top 28)) l6 c6 k6).binds (ps:=["_law_plan_here","_law_names_here","_law_cell"]) fun _ _ _ _ _ _ us hl=>by obtain⟨_,_,_,rfl⟩:=ln3 hl;rfl,fun _=>mg_of X G a6,fun h=>absurd h (by decide +kernel)⟩⟩
  rcases List.mem_cons.mp hd with hd | hd
  ·subst hd;exact⟨_,_,⟨fun_mk (st:=(top 16)) l7 c7 k7,(fun_mk (st:=(top 16)) l7 c7 k7).binds (ps:=["fact"]) fun _ _ _ _ _ _ us hl=>by obtain⟨_,rfl⟩:=ln1 hl;rfl,fun _=>mg_of X G a7,fun h=>absurd h (by decide +kernel)⟩⟩
  rcases List.mem_cons.mp hd with hd | hd
  ·subst hd;exact⟨_,_,⟨fun_mk (st:=(top 12)) l8 c8 k8,(fun_mk (st:=(top 12)) l8 c8 k8).binds (ps:=["tree"]) fun _ _ _ _ _ _ us hl=>by obtain⟨_,rfl⟩:=ln1 hl;rfl,fun _=>mg_of X G a8,fun h=>absurd h (by decide +kernel)⟩⟩
  rcases List.mem_cons.mp hd with hd | hd
  ·subst hd;exact⟨_,_,⟨fun_mk (st:=(top 20)) l9 c9 k9,(fun_mk (st:=(top 20)) l9 c9 k9).binds (ps:=["family","room","condition"]) fun _ _ _ _ _ _ us hl=>by obtain⟨_,_,_,rfl⟩:=ln3 hl;rfl,fun _=>mg_of X G a9,fun h=>absurd h (by decide +kernel)⟩⟩
  rcases List.mem_cons.mp hd with hd | hd
  ·subst hd;exact⟨_,_,⟨fun_mk (st:=(top 19)) l10 c10 k10,(fun_mk (st:=(top 19)) l10 c10 k10).binds (ps:=["families","part"]) fun _ _ _ _ _ _ us hl=>by obtain⟨_,_,rfl⟩:=ln2 hl;rfl,fun _=>mg_of X G a10,fun h=>absurd h (by decide +kernel)⟩⟩
  rcases List.mem_cons.mp hd with hd | hd
  ·subst hd;exact⟨_,_,⟨fun_mk (st:=(top 18)) l11 c11 k11,(fun_mk (st:=(top 18)) l11 c11 k11).binds (ps:=["plan","saying"]) fun _ _ _ _ _ _ us hl=>by obtain⟨_,_,rfl⟩:=ln2 hl;rfl,fun _=>mg_of X G a11,fun h=>absurd h (by decide +kernel)⟩⟩
  rcases List.mem_cons.mp hd with hd | hd
  ·subst hd;exact⟨_,_,⟨fun_mk (st:=(top 29)) l12 c12 k12,(fun_mk (st:=(top 29)) l12 c12 k12).binds (ps:=["_law_tree"]) fun _ _ _ _ _ _ us hl=>by obtain⟨_,rfl⟩:=ln1 hl;rfl,fun _=>mg_of X G a12,fun h=>absurd h (by decide +kernel)⟩⟩
  rcases List.mem_cons.mp hd with hd | hd
  ·subst hd;exact⟨_,_,⟨fun_mk (st:=(top 30)) l13 c13 k13,(fun_mk (st:=(top 30)) l13 c13 k13).binds (ps:=["_law_plan_here","_law_tree"]) fun _ _ _ _ _ _ us hl=>by obtain⟨_,_,rfl⟩:=ln2 hl;rfl,fun _=>mg_of X G a13,fun h=>absurd h (by decide +kernel)⟩⟩
  rcases List.mem_cons.mp hd with hd | hd
  ·subst hd;exact⟨_,_,⟨fun_mk (st:=(top 31)) l14 c14 k14,(fun_mk (st:=(top 31)) l14 c14 k14).binds (ps:=["_law_plan_here","_law_saying_here"]) fun _ _ _ _ _ _ us hl=>by obtain⟨_,_,rfl⟩:=ln2 hl;rfl,fun _=>mg_of X G a14,fun h=>absurd h (by decide +kernel)⟩⟩
  rcases List.mem_cons.mp hd with hd | hd
  ·subst hd;exact⟨_,_,⟨fun_mk (st:=(top 32)) l15 c15 k15,(fun_mk (st:=(top 32)) l15 c15 k15).binds (ps:=["_law_script"]) fun _ _ _ _ _ _ us hl=>by obtain⟨_,rfl⟩:=ln1 hl;rfl,fun _=>mg_of X G a15,fun h=>absurd h (by decide +kernel)⟩⟩
  cases hd
 ·unfold Gv at hv
  by_cases e:x=("HAND_PARTS":Str)
  ·rw [if_pos e] at hv;subst e;cases hv;exact .plain (glob_strs ["some","all","many"] (mg_of X G glb0) glt0 (by show 3≤sizeLine;decide) (.cons ⟨_,rfl⟩ (.cons ⟨_,rfl⟩ (.cons ⟨_,rfl⟩ (.nil))))) rfl
  rw [if_neg e] at hv;clear e
  by_cases e:x=("KNOWING":Str)
  ·rw [if_pos e] at hv;subst e;cases hv;exact .plain (glob_strs ["some knows","each knows"] (mg_of X G glb1) glt1 (by show 2≤sizeLine;decide) (.cons ⟨_,rfl⟩ (.cons ⟨_,rfl⟩ (.nil)))) rfl
  rw [if_neg e] at hv;clear e
  cases hv
 ·obtain⟨x,hx,e⟩:=List.any_eq_true.mp hc
  rw [Bool.and_eq_true] at e
  have e1:=of_decide_eq_true e.1
  have e2:f ∈ x.2:=by simpa using e.2
  subst e1
  cases hx
end My
namespace My
open PySem L2 Ev
theorem log2_small {i:Int} (h:i.natAbs < 2 ^ 64):i.natAbs.log2 < 64:=by
 by_cases e:i.natAbs=0
 ·rw [e];decide
 ·exact (Nat.log2_lt e).mpr h
theorem mulOk_small {i j:Int} (h1:i.natAbs < 2 ^ 64) (h2:j.natAbs < 2 ^ 64):mulOk i j=true:=by
 unfold mulOk
 have a:=log2_small h1
 have b:=log2_small h2
 exact decide_eq_true (by omega)
theorem mix_ex (n:Nat) (c j:Int) (h0:0≤j) (h1:j≤1000):∃m:Int,0≤m/\m < 2147483648/\pureOf (Psi Gv Att Exs Rs Tb (n+2) "_law_mix") [.int c,.int j]=some (.int m):=by
 rw [e_n_law_mix,pureOf_fn]
 by_cases hc:c < 0\/1000000000000000000≤c
 ·refine⟨(c / 2 ^ (20 * j).toNat) % 1048576,by omega,by omega,?_⟩
  have hj:0≤20 * j:=by omega
  have m1:mulOk 20 j=true:=mulOk_small (by decide) (by omega)
  rcases hc with hc | hc
  ·simp [b_n_law_mix,dII,dMul2,dMul,m1,hc,hj]
  ·simp [b_n_law_mix,dII,dMul2,dMul,m1,hc,hj]
 ·have c0:¬c < 0:=fun z=>hc (.inl z)
  have c1:¬1000000000000000000≤c:=fun z=>hc (.inr z)
  have b1:0≤(c * (2 * j+3)+j) % 2147483629/\(c * (2 * j+3)+j) % 2147483629 < 2147483629:=by omega
  generalize e1:(c * (2 * j+3)+j) % 2147483629=r1 at b1
  have sq:0≤r1 * r1/\r1 * r1≤2147483629 * 2147483629:=⟨Int.mul_nonneg b1.1 b1.1,Int.mul_le_mul (by omega) (by omega) b1.1 (by omega)⟩
  have b2:0≤(r1 * r1+1) * 48271 % 2147483629/\(r1 * r1+1) * 48271 % 2147483629 < 2147483629:=by omega
  generalize e2:(r1 * r1+1) * 48271 % 2147483629=r2 at b2
  have m1:mulOk 2 j=true:=mulOk_small (by decide) (by omega)
  have m2:mulOk c (2 * j+3)=true:=mulOk_small (by omega) (by omega)
  have m3:mulOk r1 r1=true:=mulOk_small (by omega) (by omega)
  have m4:mulOk (r1 * r1+1) 48271=true:=mulOk_small (by omega) (by decide)
  have m5:mulOk r2 r2=true:=mulOk_small (by omega) (by omega)
  refine⟨r2 * r2 % 2147483587,by omega,by omega,?_⟩
  simp [b_n_law_mix,dII,dMul2,dMul,m1,m2,m3,m4,m5,c0,c1,e1,e2]
end My
namespace My
open PySem L2 Ev
@[simp] theorem q0:((("letters":Str)="true"))=False:=eq_false (by decide +kernel)
@[simp] theorem q1:((("letters":Str)="dry"))=False:=eq_false (by decide +kernel)
@[simp] theorem q2:((("letters":Str)="some"))=False:=eq_false (by decide +kernel)
@[simp] theorem q3:((("letters":Str)="all"))=False:=eq_false (by decide +kernel)
@[simp] theorem q4:((("letters":Str)="many"))=False:=eq_false (by decide +kernel)
@[simp] theorem q5:((("letters":Str)="some knows"))=False:=eq_false (by decide +kernel)
@[simp] theorem q6:((("letters":Str)="each knows"))=False:=eq_false (by decide +kernel)
@[simp] theorem q7:((("letters":Str)="not"))=False:=eq_false (by decide +kernel)
@[simp] theorem q8:((("letters":Str)="and"))=False:=eq_false (by decide +kernel)
@[simp] theorem q9:((("letters":Str)="or"))=False:=eq_false (by decide +kernel)
@[simp] theorem q10:((("true":Str)="letters"))=False:=eq_false (by decide +kernel)
@[simp] theorem q11:((("true":Str)="dry"))=False:=eq_false (by decide +kernel)
@[simp] theorem q12:((("true":Str)="some"))=False:=eq_false (by decide +kernel)
@[simp] theorem q13:((("true":Str)="all"))=False:=eq_false (by decide +kernel)
@[simp] theorem q14:((("true":Str)="many"))=False:=eq_false (by decide +kernel)
@[simp] theorem q15:((("true":Str)="some knows"))=False:=eq_false (by decide +kernel)
@[simp] theorem q16:((("true":Str)="each knows"))=False:=eq_false (by decide +kernel)
@[simp] theorem q17:((("true":Str)="not"))=False:=eq_false (by decide +kernel)
@[simp] theorem q18:((("true":Str)="and"))=False:=eq_false (by decide +kernel)
@[simp] theorem q19:((("true":Str)="or"))=False:=eq_false (by decide +kernel)
@[simp] theorem q20:((("dry":Str)="letters"))=False:=eq_false (by decide +kernel)
@[simp] theorem q21:((("dry":Str)="true"))=False:=eq_false (by decide +kernel)
@[simp] theorem q22:((("dry":Str)="some"))=False:=eq_false (by decide +kernel)
@[simp] theorem q23:((("dry":Str)="all"))=False:=eq_false (by decide +kernel)
@[simp] theorem q24:((("dry":Str)="many"))=False:=eq_false (by decide +kernel)
@[simp] theorem q25:((("dry":Str)="some knows"))=False:=eq_false (by decide +kernel)
@[simp] theorem q26:((("dry":Str)="each knows"))=False:=eq_false (by decide +kernel)
@[simp] theorem q27:((("dry":Str)="not"))=False:=eq_false (by decide +kernel)
@[simp] theorem q28:((("dry":Str)="and"))=False:=eq_false (by decide +kernel)
@[simp] theorem q29:((("dry":Str)="or"))=False:=eq_false (by decide +kernel)
@[simp] theorem q30:((("some":Str)="letters"))=False:=eq_false (by decide +kernel)
@[simp] theorem q31:((("some":Str)="true"))=False:=eq_false (by decide +kernel)
@[simp] theorem q32:((("some":Str)="dry"))=False:=eq_false (by decide +kernel)
@[simp] theorem q33:((("some":Str)="all"))=False:=eq_false (by decide +kernel)
@[simp] theorem q34:((("some":Str)="many"))=False:=eq_false (by decide +kernel)
@[simp] theorem q35:((("some":Str)="some knows"))=False:=eq_false (by decide +kernel)
@[simp] theorem q36:((("some":Str)="each knows"))=False:=eq_false (by decide +kernel)
@[simp] theorem q37:((("some":Str)="not"))=False:=eq_false (by decide +kernel)
@[simp] theorem q38:((("some":Str)="and"))=False:=eq_false (by decide +kernel)
@[simp] theorem q39:((("some":Str)="or"))=False:=eq_false (by decide +kernel)
@[simp] theorem q40:((("all":Str)="letters"))=False:=eq_false (by decide +kernel)
@[simp] theorem q41:((("all":Str)="true"))=False:=eq_false (by decide +kernel)
@[simp] theorem q42:((("all":Str)="dry"))=False:=eq_false (by decide +kernel)
@[simp] theorem q43:((("all":Str)="some"))=False:=eq_false (by decide +kernel)
@[simp] theorem q44:((("all":Str)="many"))=False:=eq_false (by decide +kernel)
@[simp] theorem q45:((("all":Str)="some knows"))=False:=eq_false (by decide +kernel)
@[simp] theorem q46:((("all":Str)="each knows"))=False:=eq_false (by decide +kernel)
@[simp] theorem q47:((("all":Str)="not"))=False:=eq_false (by decide +kernel)
@[simp] theorem q48:((("all":Str)="and"))=False:=eq_false (by decide +kernel)
@[simp] theorem q49:((("all":Str)="or"))=False:=eq_false (by decide +kernel)
@[simp] theorem q50:((("many":Str)="letters"))=False:=eq_false (by decide +kernel)
@[simp] theorem q51:((("many":Str)="true"))=False:=eq_false (by decide +kernel)
@[simp] theorem q52:((("many":Str)="dry"))=False:=eq_false (by decide +kernel)
@[simp] theorem q53:((("many":Str)="some"))=False:=eq_false (by decide +kernel)
@[simp] theorem q54:((("many":Str)="all"))=False:=eq_false (by decide +kernel)
@[simp] theorem q55:((("many":Str)="some knows"))=False:=eq_false (by decide +kernel)
@[simp] theorem q56:((("many":Str)="each knows"))=False:=eq_false (by decide +kernel)
@[simp] theorem q57:((("many":Str)="not"))=False:=eq_false (by decide +kernel)
@[simp] theorem q58:((("many":Str)="and"))=False:=eq_false (by decide +kernel)
@[simp] theorem q59:((("many":Str)="or"))=False:=eq_false (by decide +kernel)
@[simp] theorem q60:((("some knows":Str)="letters"))=False:=eq_false (by decide +kernel)
@[simp] theorem q61:((("some knows":Str)="true"))=False:=eq_false (by decide +kernel)
@[simp] theorem q62:((("some knows":Str)="dry"))=False:=eq_false (by decide +kernel)
@[simp] theorem q63:((("some knows":Str)="some"))=False:=eq_false (by decide +kernel)
@[simp] theorem q64:((("some knows":Str)="all"))=False:=eq_false (by decide +kernel)
@[simp] theorem q65:((("some knows":Str)="many"))=False:=eq_false (by decide +kernel)
@[simp] theorem q66:((("some knows":Str)="each knows"))=False:=eq_false (by decide +kernel)
@[simp] theorem q67:((("some knows":Str)="not"))=False:=eq_false (by decide +kernel)
@[simp] theorem q68:((("some knows":Str)="and"))=False:=eq_false (by decide +kernel)
@[simp] theorem q69:((("some knows":Str)="or"))=False:=eq_false (by decide +kernel)
@[simp] theorem q70:((("each knows":Str)="letters"))=False:=eq_false (by decide +kernel)
@[simp] theorem q71:((("each knows":Str)="true"))=False:=eq_false (by decide +kernel)
@[simp] theorem q72:((("each knows":Str)="dry"))=False:=eq_false (by decide +kernel)
@[simp] theorem q73:((("each knows":Str)="some"))=False:=eq_false (by decide +kernel)
@[simp] theorem q74:((("each knows":Str)="all"))=False:=eq_false (by decide +kernel)
@[simp] theorem q75:((("each knows":Str)="many"))=False:=eq_false (by decide +kernel)
@[simp] theorem q76:((("each knows":Str)="some knows"))=False:=eq_false (by decide +kernel)
@[simp] theorem q77:((("each knows":Str)="not"))=False:=eq_false (by decide +kernel)
@[simp] theorem q78:((("each knows":Str)="and"))=False:=eq_false (by decide +kernel)
@[simp] theorem q79:((("each knows":Str)="or"))=False:=eq_false (by decide +kernel)
@[simp] theorem q80:((("not":Str)="letters"))=False:=eq_false (by decide +kernel)
@[simp] theorem q81:((("not":Str)="true"))=False:=eq_false (by decide +kernel)
@[simp] theorem q82:((("not":Str)="dry"))=False:=eq_false (by decide +kernel)
@[simp] theorem q83:((("not":Str)="some"))=False:=eq_false (by decide +kernel)
@[simp] theorem q84:((("not":Str)="all"))=False:=eq_false (by decide +kernel)
@[simp] theorem q85:((("not":Str)="many"))=False:=eq_false (by decide +kernel)
@[simp] theorem q86:((("not":Str)="some knows"))=False:=eq_false (by decide +kernel)
@[simp] theorem q87:((("not":Str)="each knows"))=False:=eq_false (by decide +kernel)
@[simp] theorem q88:((("not":Str)="and"))=False:=eq_false (by decide +kernel)
@[simp] theorem q89:((("not":Str)="or"))=False:=eq_false (by decide +kernel)
@[simp] theorem q90:((("and":Str)="letters"))=False:=eq_false (by decide +kernel)
@[simp] theorem q91:((("and":Str)="true"))=False:=eq_false (by decide +kernel)
@[simp] theorem q92:((("and":Str)="dry"))=False:=eq_false (by decide +kernel)
@[simp] theorem q93:((("and":Str)="some"))=False:=eq_false (by decide +kernel)
@[simp] theorem q94:((("and":Str)="all"))=False:=eq_false (by decide +kernel)
@[simp] theorem q95:((("and":Str)="many"))=False:=eq_false (by decide +kernel)
@[simp] theorem q96:((("and":Str)="some knows"))=False:=eq_false (by decide +kernel)
@[simp] theorem q97:((("and":Str)="each knows"))=False:=eq_false (by decide +kernel)
@[simp] theorem q98:((("and":Str)="not"))=False:=eq_false (by decide +kernel)
@[simp] theorem q99:((("and":Str)="or"))=False:=eq_false (by decide +kernel)
@[simp] theorem q100:((("or":Str)="letters"))=False:=eq_false (by decide +kernel)
@[simp] theorem q101:((("or":Str)="true"))=False:=eq_false (by decide +kernel)
@[simp] theorem q102:((("or":Str)="dry"))=False:=eq_false (by decide +kernel)
@[simp] theorem q103:((("or":Str)="some"))=False:=eq_false (by decide +kernel)
@[simp] theorem q104:((("or":Str)="all"))=False:=eq_false (by decide +kernel)
@[simp] theorem q105:((("or":Str)="many"))=False:=eq_false (by decide +kernel)
@[simp] theorem q106:((("or":Str)="some knows"))=False:=eq_false (by decide +kernel)
@[simp] theorem q107:((("or":Str)="each knows"))=False:=eq_false (by decide +kernel)
@[simp] theorem q108:((("or":Str)="not"))=False:=eq_false (by decide +kernel)
@[simp] theorem q109:((("or":Str)="and"))=False:=eq_false (by decide +kernel)
@[simp] theorem q110:PyData.strOk ("letters":Str)=true:=by decide +kernel
@[simp] theorem q111:PyData.strOk ("true":Str)=true:=by decide +kernel
@[simp] theorem q112:PyData.strOk ("dry":Str)=true:=by decide +kernel
@[simp] theorem q113:PyData.strOk ("some":Str)=true:=by decide +kernel
@[simp] theorem q114:PyData.strOk ("all":Str)=true:=by decide +kernel
@[simp] theorem q115:PyData.strOk ("many":Str)=true:=by decide +kernel
@[simp] theorem q116:PyData.strOk ("some knows":Str)=true:=by decide +kernel
@[simp] theorem q117:PyData.strOk ("each knows":Str)=true:=by decide +kernel
@[simp] theorem q118:PyData.strOk ("not":Str)=true:=by decide +kernel
@[simp] theorem q119:PyData.strOk ("and":Str)=true:=by decide +kernel
@[simp] theorem q120:PyData.strOk ("or":Str)=true:=by decide +kernel
@[simp] theorem q121:PyData.strOk ("ahead":Str)=true:=by decide +kernel
@[simp] theorem q122:PyData.strOk ("whenever":Str)=true:=by decide +kernel
@[simp] theorem q123:PyData.strOk ("is":Str)=true:=by decide +kernel
@[simp] theorem q124:PyData.strOk ("<":Str)=true:=by decide +kernel
@[simp] theorem q125:PyData.strOk ("plus":Str)=true:=by decide +kernel
@[simp] theorem q126:PyData.strOk ("number":Str)=true:=by decide +kernel
@[simp] theorem q127:PyData.strOk ("name":Str)=true:=by decide +kernel
@[simp] theorem q128:PyData.strOk ("=":Str)=true:=by decide +kernel
@[simp] theorem q129:PyData.strOk (">":Str)=true:=by decide +kernel
@[simp] theorem q130:PyData.strOk ("":Str)=true:=by decide +kernel
@[simp] theorem q131:PyData.strOk ("never":Str)=true:=by decide +kernel
@[simp] theorem q132:PyData.strOk ("always":Str)=true:=by decide +kernel
@[simp] theorem q133:PyData.strOk ("at last":Str)=true:=by decide +kernel
@[simp] theorem q134:PyData.strOk ("always can":Str)=true:=by decide +kernel
@[simp] theorem q135:((("never":Str)="ahead"))=False:=eq_false (by decide +kernel)
@[simp] theorem q136:((("never":Str)="whenever"))=False:=eq_false (by decide +kernel)
@[simp] theorem q137:((("always":Str)="ahead"))=False:=eq_false (by decide +kernel)
@[simp] theorem q138:((("always":Str)="whenever"))=False:=eq_false (by decide +kernel)
@[simp] theorem q139:((("at last":Str)="ahead"))=False:=eq_false (by decide +kernel)
@[simp] theorem q140:((("at last":Str)="whenever"))=False:=eq_false (by decide +kernel)
@[simp] theorem q141:((("always can":Str)="ahead"))=False:=eq_false (by decide +kernel)
@[simp] theorem q142:((("always can":Str)="whenever"))=False:=eq_false (by decide +kernel)
@[simp] theorem q143:((("ahead":Str)="whenever"))=False:=eq_false (by decide +kernel)
@[simp] theorem q144:((("whenever":Str)="ahead"))=False:=eq_false (by decide +kernel)
@[simp] theorem q145:((("room":Str)="family"))=False:=eq_false (by decide +kernel)
@[simp] theorem q146:((("cell":Str)="family"))=False:=eq_false (by decide +kernel)
@[simp] theorem q147:((("room":Str)="cell"))=False:=eq_false (by decide +kernel)
@[simp] theorem q148:((("cell":Str)="room"))=False:=eq_false (by decide +kernel)
theorem okP_up:∀(n:Nat) (v:P),okP n v=true->okP (n+1) v=true:=by
 intro n
 induction n with
 | zero=>intro v h;cases v <;> first | rfl | exact h | cases h
 | succ n ih=>
  intro v h
  cases v with
  | tup xs=>exact List.all_eq_true.mpr fun x hx=>ih x (List.all_eq_true.mp h x hx)
  | lst xs=>exact List.all_eq_true.mpr fun x hx=>ih x (List.all_eq_true.mp h x hx)
  | ro xs=>exact List.all_eq_true.mpr fun x hx=>ih x (List.all_eq_true.mp h x hx)
  | non=>rfl
  | bl _=>rfl
  | int _=>rfl
  | str _=>exact h
  | dct _ _=>cases h
theorem okP_mono {n m:Nat}{v:P} (h:okP n v=true) (hm:n≤m):okP m v=true:=by
 obtain⟨k,rfl⟩:=Nat.exists_eq_add_of_le hm
 clear hm
 induction k with
 | zero=>exact h
 | succ k ih=>exact okP_up _ _ ih
@[simp] theorem okP_int (n:Nat) (i:Int):okP n (.int i)=true:=by cases n <;> rfl
@[simp] theorem okP_bl (n:Nat) (i:Bool):okP n (.bl i)=true:=by cases n <;> rfl
@[simp] theorem okP_non (n:Nat):okP n .non=true:=by cases n <;> rfl
@[simp] theorem okP_str (n:Nat) (x:Str):okP n (.str x)=PyData.strOk x:=by cases n <;> rfl
@[simp] theorem okP_tup (n:Nat) (xs:List P):okP (n+1) (.tup xs)=xs.all (okP n):=rfl
@[simp] theorem okP_lst (n:Nat) (xs:List P):okP (n+1) (.lst xs)=xs.all (okP n):=rfl
theorem len_app (x y:Str):(x++y).length=x.length+y.length:=by
 show (x.cps++y.cps).size=_
 rw [Array.size_append];rfl
theorem atI_pick {α:Type}{xs:List α} (h:xs≠[]) (a:Int):∃x ∈ xs,L2.atI xs (a % (xs.length:Int))=some x:=by
 have hl:(0:Int) < (xs.length:Int):=by cases xs with | nil=>exact absurd rfl h | cons _ _=>simp
 have h0:=Int.emod_nonneg a (Int.ne_of_gt hl)
 have h1:=Int.emod_lt_of_pos a hl
 have hk:(a % (xs.length:Int)).toNat < xs.length:=by omega
 exact⟨xs[(a % (xs.length:Int)).toNat],List.getElem_mem _,atI_nat' h0 (by simp [hk])⟩
theorem atI_in {α:Type}{xs:List α}{k:Int} (h0:0≤k) (h1:k < (xs.length:Int)):∃x ∈ xs,L2.atI xs k=some x:=by
 have hk:k.toNat < xs.length:=by omega
 exact⟨xs[k.toNat],List.getElem_mem _,atI_nat' h0 (by simp [hk])⟩
structure Tx where
 val:Str
 is:PyData.strOk val=true
@[simp] theorem Tx.ok (t:Tx):PyData.strOk t.1=true:=t.2
noncomputable def nul:Tx:=⟨"",by decide +kernel⟩
noncomputable abbrev tS (t:Tx):P:=.str t.1
noncomputable def celP (t:Tx):P:=.tup [.str t.1,.int 0,.int 1,.int 0]
structure Fm where
 nm:Tx
 rooms:List Tx
 cells:List Tx
 whos:List Tx
noncomputable def famP (f:Fm):P:=.tup [.str f.nm.1,.int 1,.lst (f.rooms.map tS),.lst (f.cells.map celP),.lst (f.whos.map tS),.lst []]
noncomputable def planP (fs:List Fm):P:=.tup [.lst (fs.map famP),.lst [],.lst []]
inductive Good:List Fm->Prop
 | one {f:Fm}:f.rooms.length≤12->f.cells.length≤12->Good [f]
 | two {f g:Fm}:f.rooms.length≤12->f.cells.length≤12->g.rooms.length≤12->g.cells.length≤12->f.nm.1≠g.nm.1->Good [f,g]
theorem Good.len {fs:List Fm} (h:Good fs):fs.length≤2:=by cases h <;> simp
theorem Good.cl {fs:List Fm} (h:Good fs) {f:Fm} (hf:f ∈ fs):f.cells.length≤12:=by
 cases h with
 | one _ h=>simp at hf;subst hf;exact h
 | two _ h _ h2=>simp at hf;rcases hf with rfl | rfl <;> assumption
inductive Cn | tru | one (x:Tx) | nt (x:Tx) | or (x:Tx)
noncomputable def oneP (x:Tx):P:=.tup [.str "is",.str "<",.tup [.str "plus",.tup [.str "number",.int 1],.tup [.str "name",.str x.1]],.tup [.str "number",.int 3]]
noncomputable def cnP:Cn->P
 | .tru=>.tup [.str "true"]
 | .one x=>oneP x
 | .nt x=>.tup [.str "not",oneP x]
 | .or x=>.tup [.str "or",.tup [.str "true"],oneP x]
noncomputable def cnN:Cn->List Tx
 | .tru=>[]
 | .one x=>[x]
 | .nt x=>[x]
 | .or x=>[x]
inductive Pt
 | lt (a b m:Tx) | tru | dry | som (f r:Tx) (c:Cn) | all (f r:Tx) (c:Cn) | many (f r:Tx) (c:Cn) | sk (f r:Tx) (c:Cn) | ek (f r:Tx) (c:Cn)
noncomputable def ptP:Pt->P
 | .lt a b m=>.tup [.str "letters",.str a.1,.str b.1,.str m.1,.str "=",.int 1]
 | .tru=>.tup [.str "true"]
 | .dry=>.tup [.str "dry"]
 | .som f r c=>.tup [.str "some",.str f.1,.str r.1,cnP c]
 | .all f r c=>.tup [.str "all",.str f.1,.str r.1,cnP c]
 | .many f r c=>.tup [.str "many",.str f.1,.str r.1,cnP c,.str ">",.int 0]
 | .sk f r c=>.tup [.str "some knows",.str f.1,.tup [.str "some",.str f.1,.str r.1,cnP c]]
 | .ek f r c=>.tup [.str "each knows",.str f.1,.tup [.str "some",.str f.1,.str r.1,cnP c]]
inductive Ft | one (p:Pt) | nt (p:Pt) | an (p q:Pt) | or (p q:Pt)
noncomputable def ftP:Ft->P
 | .one p=>ptP p
 | .nt p=>.tup [.str "not",ptP p]
 | .an p q=>.tup [.str "and",ptP p,ptP q]
 | .or p q=>.tup [.str "or",ptP p,ptP q]
noncomputable def look (fs:List Fm) (x:Str):Option Fm:=fs.find? fun f=>decide (f.nm.1=x)
noncomputable def has (cs:List Tx) (x:Str):Bool:=decide (x ∈ cs.map (·.1))
noncomputable def goodC (F:Fm) (c:Cn):Bool:=(cnN c).all fun x=>has F.cells x.1
noncomputable def goodR (F:Fm) (r:Tx):Bool:=decide (r.1="") || has F.rooms r.1
noncomputable def goodH (fs:List Fm) (f r:Tx) (c:Cn):Bool:=match look fs f.1 with
 | some F=>goodR F r && goodC F c
 | none=>false
noncomputable def goodP (fs:List Fm):Pt->Bool
 | .lt a b _=>(look fs a.1).isSome && (look fs b.1).isSome
 | .tru=>true
 | .dry=>true
 | .som f r c=>goodH fs f r c
 | .all f r c=>goodH fs f r c
 | .many f r c=>goodH fs f r c
 | .sk f r c=>goodH fs f r c
 | .ek f r c=>goodH fs f r c
noncomputable def goodF (fs:List Fm):Ft->Bool
 | .one p=>goodP fs p
 | .nt p=>goodP fs p
 | .an p q=>goodP fs p && goodP fs q
 | .or p q=>goodP fs p && goodP fs q
theorem cn_ok (c:Cn):okP 5 (cnP c)=true:=by cases c <;> simp [cnP,oneP]
theorem pt_ok (p:Pt):okP 7 (ptP p)=true:=by
 have h:∀c n,okP (n+5) (cnP c)=true:=fun c n=>okP_mono (cn_ok c) (by omega)
 have h1:=fun c=>h c 0
 have h2:=fun c=>h c 1
 cases p <;> simp [ptP,h1,h2]
theorem ft_ok (f:Ft):okP 8 (ftP f)=true:=by
 have h:=pt_ok
 cases f <;> simp [ftP,h,okP_mono (h _) (show 7≤8 by omega)]
theorem strs_ok (R:List Tx) (n:Nat):(R.map tS).all (okP n)=true:=by
 rw [List.all_map]
 exact List.all_eq_true.mpr fun t _=>by simp
theorem cels_ok (R:List Tx) (n:Nat):(R.map celP).all (okP (n+1))=true:=by
 rw [List.all_map]
 exact List.all_eq_true.mpr fun t _=>by simp [celP]
theorem fam_ok (f:Fm) (n:Nat):okP (n+3) (famP f)=true:=by
 have h1:=strs_ok f.rooms (n+1)
 have h2:=cels_ok f.cells n
 have h3:=strs_ok f.whos (n+1)
 simp only [famP,okP_tup,List.all_cons,List.all_nil,okP_lst,okP_str,okP_int,h1,h2,h3,Tx.ok,Bool.and_true]
theorem plan_ok (fs:List Fm):okP 20 (planP fs)=true:=by
 have h:(fs.map famP).all (okP 18)=true:=by
  rw [List.all_map]
  exact List.all_eq_true.mpr fun f _=>fam_ok f 15
 simp only [planP,okP_tup,List.all_cons,List.all_nil,okP_lst,h,Bool.and_true]
theorem any_strs (x:Str):∀R:List Tx,((R.map tS).any fun y=>PyData.eqv (pd y) (pd (.str x)))=decide (x ∈ R.map (·.1))
 | []=>by simp
 | t::R=>by
  rw [List.map_cons,List.any_cons,any_strs x R]
  have:PyData.eqv (pd (.str t.1)) (pd (.str x))=decide (x=t.1):=by
   show (t.1 == x)=_
   by_cases h:x=t.1
   ·subst h;simp
   ·have h2:¬t.1=x:=fun z=>h z.symm
    simp [h,h2]
  rw [this]
  simp
theorem inG_lst (t:Tx) (R:List Tx) (S:Sto):inG (.p (.str t.1)) (.p (.lst (R.map tS))) S=some (has R t.1):=by
 show inP (.str t.1) (.lst (R.map tS))=_
 unfold inP
 simp only [strs_ok,okP_str,Tx.ok,Bool.and_true,if_true,any_strs,has]
theorem eqv_str (a b:Str):PyData.eqv (pd (.str a)) (pd (.str b))=decide (b=a):=by
 show (a == b)=_
 by_cases h:a=b
 ·subst h;simp
 ·have h2:¬b=a:=fun z=>h z.symm
  simp [h,h2]
@[simp] theorem gIn2 (x a b:Str) (S:Sto) (hx:PyData.strOk x=true) (ha:PyData.strOk a=true) (hb:PyData.strOk b=true):gIn (.p (.str x)) (.p (.tup [.str a,.str b])) S=some (.bl (decide (x=a) || decide (x=b))):=by
 show (inP (.str x) (.tup [.str a,.str b])).map P.bl=_
 unfold inP
 simp [hx,ha,hb,eqv_str]
@[simp] theorem gIn3 (x a b c:Str) (S:Sto) (hx:PyData.strOk x=true) (ha:PyData.strOk a=true) (hb:PyData.strOk b=true) (hc:PyData.strOk c=true):gIn (.p (.str x)) (.p (.tup [.str a,.str b,.str c])) S=some (.bl (decide (x=a) || (decide (x=b) || decide (x=c)))):=by
 show (inP (.str x) (.tup [.str a,.str b,.str c])).map P.bl=_
 unfold inP
 simp [hx,ha,hb,hc,eqv_str]
theorem gIn_lst (t:Tx) (R:List Tx) (S:Sto):gIn (.p (.str t.1)) (.p (.lst (R.map tS))) S=some (.bl (has R t.1)):=by unfold gIn;rw [inG_lst];rfl
theorem gNotIn_lst (t:Tx) (R:List Tx) (S:Sto):gNotIn (.p (.str t.1)) (.p (.lst (R.map tS))) S=some (.bl (!has R t.1)):=by unfold gNotIn;rw [inG_lst];rfl
theorem comp_map {α:Type}{F G:α->P}{p:α->Bool}{c:EB}{e:EV}{i:Nat}{S:Sto} (Lf:Option D->Lc) (hs:∀q v,(Lf q).set i v=Lf v) (hc:∀x,c (Lf (some (.p (F x)))) S=some (p x,S)) (he:∀x,p x=true->e (Lf (some (.p (F x)))) S=some (G x,S)) :
  ∀(xs:List α) (q:Option D),compGo (gSet i) c e (xs.map F) (Lf q) S=some ((xs.filter p).map G,S)
 | [],q=>rfl
 | x::xs,q=>by
  have ih:=comp_map Lf hs hc he xs (some (.p (F x)))
  rw [List.map_cons]
  unfold compGo
  simp only [gSet_ev,hs,hc,bnd_some]
  cases h:p x with
  | false=>simp [ih,h]
  | true=>simp [ih,h,he x h]
theorem comp_all {α:Type}{F G:α->P}{e:EV}{i:Nat}{S:Sto} (Lf:Option D->Lc) (hs:∀q v,(Lf q).set i v=Lf v) (he:∀x,e (Lf (some (.p (F x)))) S=some (G x,S)) (xs:List α) (q:Option D):compGo (gSet i) bYes e (xs.map F) (Lf q) S=some (xs.map G,S):=by
 have:=comp_map (p:=fun _=>true) (c:=bYes) Lf hs (fun x=>rfl) (fun x _=>he x) xs q
 rw [this,List.filter_eq_self.mpr fun _ _=>rfl]
end My
namespace My
open PySem L2 Ev
theorem pickT {R:List Tx} (h:R≠[]) (a:Int):∃t ∈ R,L2.atI (R.map tS) (a % (R.length:Int))=some (.str t.1):=by
 obtain⟨x,hx,e⟩:=atI_pick (xs:=R.map tS) (by simpa using h) a
 obtain⟨t,ht,rfl⟩:=List.mem_map.mp hx
 rw [List.length_map] at e
 exact⟨t,ht,e⟩
theorem letters_at:∀k:Nat,k < 26->L2.atI ((("abcdefghijklmnopqrstuvwxyz":Str)).cps.toList) (k:Int)=some (97+k):=by decide +kernel
theorem letters_ix {i:Int} (h0:0≤i) (h1:i < 26):dIx (.str "abcdefghijklmnopqrstuvwxyz") (.int i)=some (.str ⟨#[97+i.toNat]⟩):=by
 have e:=letters_at i.toNat (by omega)
 rw [Int.toNat_of_nonneg h0] at e
 show (if capN (("abcdefghijklmnopqrstuvwxyz":Str)).length=true then (L2.atI ((("abcdefghijklmnopqrstuvwxyz":Str)).cps.toList) i).map fun c=>P.str ⟨#[c]⟩ else none)=_
 rw [e,if_pos (by decide +kernel)]
 rfl
theorem add_str {x y:Str} (h:x.length+y.length≤1000000):dAdd (.str x) (.str y)=some (.str (x++y)):=by
 show (if capN (x.length+y.length)=true then some (P.str (x++y)) else none)=_
 rw [if_pos (by rw [capN_ev];exact h)]
theorem ok_app {x y:Str} (hx:PyData.strOk x=true) (hy:PyData.strOk y=true):PyData.strOk (x++y)=true:=by
 show (x.cps++y.cps).all (fun c=>decide (c < 0x110000))=true
 rw [Array.all_append,Bool.and_eq_true]
 exact⟨hx,hy⟩
theorem ok_one {c:Nat} (h:c < 0x110000):PyData.strOk ⟨#[c]⟩=true:=by
 show (#[c].all fun c=>decide (c < 0x110000))=true
 simp [h]
theorem len1 (c:Nat):Str.length ⟨#[c]⟩=1:=rfl
noncomputable def nmK (m:Int) (t:Tx) (k:Nat):Tx:=⟨(⟨#[97+((m+3 * (k:Int)) % 26).toNat]⟩:Str)++"q"++t.1,ok_app (ok_app (ok_one (by omega)) (by decide +kernel)) t.2⟩
theorem nm_first (m:Int) (t:Tx) (k:Nat):(nmK m t k).1.cps[0]? = some (97+((m+3 * (k:Int)) % 26).toNat):=by
 show ((#[97+((m+3 * (k:Int)) % 26).toNat]++(("q":Str)).cps)++t.1.cps)[0]? = _
 rw [Array.append_assoc,Array.getElem?_append_left (by simp)]
 simp
theorem nm_ne (m:Int) (t:Tx):(nmK m t 0).1≠(nmK m t 1).1:=by
 intro e
 have a:=nm_first m t 0
 rw [e,nm_first] at a
 have:=Option.some.inj a
 omega
noncomputable def tails:List Tx:=[nul,⟨"a",by decide +kernel⟩,⟨"ab",by decide +kernel⟩,⟨"room",by decide +kernel⟩]
theorem tails_len:∀t ∈ tails,t.1.length≤10:=by
 intro t ht
 simp only [tails,List.mem_cons,List.not_mem_nil,or_false] at ht
 rcases ht with rfl | rfl | rfl | rfl <;> decide +kernel
theorem names_ex (n:Nat) (c:Int):∃(m:Int) (t:Tx),pureOf (Psi Gv Att Exs Rs Tb (n+4) "_law_names") [.int c]=some (.lst (((List.range 12).map (nmK m t)).map tS)):=by
 obtain⟨m,m0,_,e1⟩:=mix_ex (n+1) c 1 (by omega) (by omega)
 obtain⟨m2,_,_,e2⟩:=mix_ex (n+1) c 2 (by omega) (by omega)
 obtain⟨t,ht,e3⟩:=pickT (R:=tails) (by simp [tails]) m2
 have tl:=tails_len t ht
 have e4:L2.atI [P.str "",.str "a",.str "ab",.str "room"] (m2 % 4)=some (.str t.1):=e3
 refine⟨m,t,?_⟩
 have e5:∀q,compGo (gSet 4) bYes (vOp dAdd2 (vOp dAdd2 (vOp dIx (vE (eVar 1)) (vOp dMod (vOp dAdd2 (vE (eVar 2)) (vOp dMul2 (vC (.int 3)) (vE (eVar 4)))) (vC (.int 26)))) (vC (.str "q"))) (vE (eVar 3))) ((List.range 12).map fun (k:Nat)=>P.int (k:Int)) [some (.p (.int c)),some (.p (.str "abcdefghijklmnopqrstuvwxyz")),some (.p (.int m)),some (.p (.str t.1)),q] []=some ((List.range 12).map (fun k=>tS (nmK m t k)),[]):=by
  intro q
  have key:∀(ks:List Nat),(∀k ∈ ks,k < 12)->∀q,compGo (gSet 4) bYes (vOp dAdd2 (vOp dAdd2 (vOp dIx (vE (eVar 1)) (vOp dMod (vOp dAdd2 (vE (eVar 2)) (vOp dMul2 (vC (.int 3)) (vE (eVar 4)))) (vC (.int 26)))) (vC (.str "q"))) (vE (eVar 3))) (ks.map fun (k:Nat)=>P.int (k:Int)) [some (.p (.int c)),some (.p (.str "abcdefghijklmnopqrstuvwxyz")),some (.p (.int m)),some (.p (.str t.1)),q] []=some (ks.map (fun k=>tS (nmK m t k)),[]):=by
   intro ks
   induction ks with
   | nil=>intro _ q;rfl
   | cons k ks ih=>
    intro hk q
    have hk1:=hk k List.mem_cons_self
    have ih':=ih (fun x hx=>hk x (List.mem_cons_of_mem _ hx)) (some (.p (.int (k:Int))))
    have i1:0≤(m+3 * (k:Int)) % 26:=by omega
    have i2:(m+3 * (k:Int)) % 26 < 26:=by omega
    have hm:mulOk 3 (k:Int)=true:=mulOk_small (by decide) (by omega)
    have a1:=letters_ix i1 i2
    have a2:dAdd (.str ⟨#[97+((m+3 * (k:Int)) % 26).toNat]⟩) (.str "q")=some (.str ((⟨#[97+((m+3 * (k:Int)) % 26).toNat]⟩:Str)++"q")):=add_str (by rw [len1];decide +kernel)
    have a3:dAdd (.str ((⟨#[97+((m+3 * (k:Int)) % 26).toNat]⟩:Str)++"q")) (.str t.1)=some (.str (nmK m t k).1):=add_str (by rw [len_app,len1,show (("q":Str)).length=1 by decide +kernel];omega)
    rw [List.map_cons]
    unfold compGo
    simp [hm,a1,a2,a3,ih',bYes,dII]
  exact key _ (by simp) q
 have e6:Ev.intsFrom 0 12=(List.range 12).map fun (k:Nat)=>P.int (k:Int):=by simp [Ev.intsFrom]
 rw [e_n_law_names,pureOf_fn]
 simp [b_n_law_names,e1,e2,e4,vComp,upL,e6,e5,dII]
@[simp] theorem forGo_z (g:TGv) (b:ES) (L:Lc) (S:Sto):forGo g b [] L S=some (.nx,L,S):=rfl
theorem cut_map {α β:Type} (f:α->β) (xs:List α) (lo hi:Option Int):Ev.cut (xs.map f) lo hi=(Ev.cut xs lo hi).map f:=by
 unfold Ev.cut
 rw [List.length_map,<- List.map_drop,<- List.map_take]
theorem cut_len {α:Type} (xs:List α) (lo hi:Option Int):(Ev.cut xs lo hi).length≤xs.length:=by
 unfold Ev.cut
 rw [List.length_take,List.length_drop];omega
theorem plan_step (ι:Str->GF) (υ:Str->GX) (n:Nat) (c:Int) (N:List Tx) (hN:N.length=12) (k:Int) (hk:k=0\/k=1) (t:Tx) (ht:L2.atI (N.map tS) k=some (.str t.1)) (acc:List D) (ha:acc.length≤2) (q4 q5 q6:Option D) :
  ∃f:Fm,f.nm=t/\f.rooms.length≤12/\f.cells.length≤12/\∃q4' q5' q6',b_n_law_plan_L1 (Psi Gv Att Exs Rs Tb (n+2)) ι υ [some (.p (.int c)),some (.p (.lst (N.map tS))),some (.ref 0),some (.p (.int k)),q4,q5,q6] [.lst acc] =
   some (.nx,[some (.p (.int c)),some (.p (.lst (N.map tS))),some (.ref 0),some (.p (.int k)),q4',q5',q6'],[.lst (acc++[.p (famP f)])]):=by
 obtain⟨m1,_,_,e1⟩:=mix_ex n c (4+k) (by omega) (by omega)
 obtain⟨m2,_,_,e2⟩:=mix_ex n c (6+k) (by omega) (by omega)
 obtain⟨m3,_,_,e3⟩:=mix_ex n c (8+k) (by omega) (by omega)
 refine⟨⟨t,Ev.cut N (some (2+3 * k)) (some (3+3 * k+m1 % 3)),Ev.cut N (some (6-2 * k)) (some (6-2 * k+m2 % 3)),Ev.cut N (some (9+k)) (some (9+k+m3 % 2))⟩,rfl,by rw [<- hN];exact cut_len ..,by rw [<- hN];exact cut_len ..,?_⟩
 have h3:mulOk 3 k=true:=mulOk_small (by decide) (by omega)
 have h2:mulOk 2 k=true:=mulOk_small (by decide) (by omega)
 have hcl:(Ev.cut N (some (6-2 * k)) (some (6-2 * k+m2 % 3))).length≤1000000:=by have:=cut_len N (some (6-2 * k)) (some (6-2 * k+m2 % 3));omega
 have hal:acc.length≤1000000:=by omega
 generalize hR:Ev.cut N (some (6-2 * k)) (some (6-2 * k+m2 % 3))=R at *
 have e5:∀p4 p5 p6 q,compGo (gSet 7) bYes (vTup' (vsCons (vE (eVar 7)) (vsCons (vC (.int 0)) (vsCons (vC (.int 1)) (vsCons (vC (.int 0)) vsNil))))) (R.map tS) [some (.p (.int c)),some (.p (.lst (N.map tS))),some (.ref 0),some (.p (.int k)),p4,p5,p6,q] [.lst acc]=some (R.map celP,[.lst acc]):=fun p4 p5 p6 q=>
  comp_all (fun q=>[some (.p (.int c)),some (.p (.lst (N.map tS))),some (.ref 0),some (.p (.int k)),p4,p5,p6,q]) (fun q v=>rfl) (fun x=>by simp [celP]) R q
 refine⟨some (.p (.lst ((Ev.cut N (some (2+3 * k)) (some (3+3 * k+m1 % 3))).map tS))),some (.p (.lst (R.map celP))),some (.p (.lst ((Ev.cut N (some (9+k)) (some (9+k+m3 % 2))).map tS))),?_⟩
 simp [b_n_law_plan_L1,oSome,dSl2,dSl,e1,e2,e3,h3,h2,dMul2,dMul,dII,dSub,cut_map,vComp,upL,hR,hcl,e5,ht,ownL,hal,famP]
theorem plan_ex (n:Nat) (c:Int):∃fs,Good fs/\pureOf (Psi Gv Att Exs Rs Tb (n+6) "_law_plan") [.int c]=some (planP fs):=by
 obtain⟨m,t,e0⟩:=names_ex (n+1) c
 obtain⟨k,_,_,e1⟩:=mix_ex (n+3) c 3 (by omega) (by omega)
 have hN:((List.range 12).map (nmK m t)).length=12:=by simp
 obtain⟨f,f1,f2,f3,p4,p5,p6,s1⟩:=plan_step (Psi Gv Att Exs Rs Tb (n+4)) (Xsi Gv Att Exs Rs Tb (n+5)) (n+3) c ((List.range 12).map (nmK m t)) hN 0 (.inl rfl) (nmK m t 0) rfl [] (by simp) none none none
 obtain⟨g,g1,g2,g3,r4,r5,r6,s2⟩:=plan_step (Psi Gv Att Exs Rs Tb (n+4)) (Xsi Gv Att Exs Rs Tb (n+5)) (n+3) c ((List.range 12).map (nmK m t)) hN 1 (.inr rfl) (nmK m t 1) rfl ([]++[.p (famP f)]) (by simp) p4 p5 p6
 have hne:f.nm.1≠g.nm.1:=by rw [f1,g1];exact nm_ne m t
 generalize (List.range 12).map (nmK m t)=N at *
 have i1:Ev.intsFrom 0 1=[.int 0]:=by simp [Ev.intsFrom,List.range_succ]
 have i2:Ev.intsFrom 0 2=[.int 0,.int 1]:=by simp [Ev.intsFrom,List.range_succ]
 have hk:k % 2=0\/k % 2=1:=by omega
 rcases hk with hk | hk
 ·refine⟨[f],.one f2 f3,?_⟩
  rw [e_n_law_plan,pureOf_fn]
  have w:forGo (gSet 3) (b_n_law_plan_L1 (Psi Gv Att Exs Rs Tb (n+5)) (Psi Gv Att Exs Rs Tb (n+4)) (Xsi Gv Att Exs Rs Tb (n+5))) [.int 0] [some (.p (.int c)),some (.p (.lst (N.map tS))),some (.ref 0),none,none,none,none] [.lst []]=_:=(forGo_nx rfl s1).trans rfl
  simp [b_n_law_plan,e0,e1,hk,i1,w,toP,mapS,planP]
 ·refine⟨[f,g],.two f2 f3 g2 g3 hne,?_⟩
  rw [e_n_law_plan,pureOf_fn]
  have w:forGo (gSet 3) (b_n_law_plan_L1 (Psi Gv Att Exs Rs Tb (n+5)) (Psi Gv Att Exs Rs Tb (n+4)) (Xsi Gv Att Exs Rs Tb (n+5))) [.int 0,.int 1] [some (.p (.int c)),some (.p (.lst (N.map tS))),some (.ref 0),none,none,none,none] [.lst []]=_:=(forGo_nx rfl s1).trans ((forGo_nx rfl s2).trans rfl)
  simp [b_n_law_plan,e0,e1,hk,i2,w,toP,mapS,planP]
end My
namespace My
open PySem L2 Ev
noncomputable def isHere (d:D):Prop:=d=.ref 0\/∃R C:List Tx,R.length≤12/\C.length≤12/\d=.p (.dct [.inr "room",.inr "cell"] [.lst (R.map tS),.lst (C.map tS)])
theorem Good.all {fs:List Fm} (h:Good fs):∀f ∈ fs,f.rooms.length≤12/\f.cells.length≤12:=by
 intro f hf
 cases h with
 | one a b=>simp at hf;subst hf;exact⟨a,b⟩
 | two a b c d _=>simp at hf;rcases hf with rfl | rfl <;> exact⟨by assumption,by assumption⟩
theorem heads9 (a0 a1 a2 a3 a4 a5 a6 a7 a8:Option D) (cs:List Tx) (S:Sto) (q:Option D):compGo (gSet 9) bYes (vOp dIx (vE (eVar 9)) (vC (.int 0))) (cs.map celP) [a0,a1,a2,a3,a4,a5,a6,a7,a8,q] S=some (cs.map tS,S):=
 comp_all (fun q=>[a0,a1,a2,a3,a4,a5,a6,a7,a8,q]) (fun q v=>rfl) (fun x=>by simp [celP]) cs q
theorem name_loop (ψ ι:Str->GF) (υ:Str->GX) (a0 a1 a2 a3 a4:Option D) (fam:Str) (S:Sto):∀(fs:List Fm) (d:D) (q7:Option D),(∀f ∈ fs,f.rooms.length≤12/\f.cells.length≤12)->isHere d ->
  ∃d' q7',isHere d'/\forGo (gSet 7) (b_n_law_name_of_L1 ψ ι υ) (fs.map famP) [a0,a1,a2,a3,a4,some (.p (.str fam)),some d,q7,none] S=some (.nx,[a0,a1,a2,a3,a4,some (.p (.str fam)),some d',q7',none],S)
 | [],d,q7,_,h=>⟨d,q7,h,rfl⟩
 | f::fs,d,q7,hf,h=>by
  obtain⟨h1,h2⟩:=hf f List.mem_cons_self
  have hz:f.cells.length≤1000000:=by omega
  have nd:([.inr "room",.inr "cell"]:List Key).Nodup:=by simp
  by_cases hm:f.nm.1=fam
  ·obtain⟨d',q7',i,e⟩:=name_loop ψ ι υ a0 a1 a2 a3 a4 fam S fs (.p (.dct [.inr "room",.inr "cell"] [.lst (f.rooms.map tS),.lst (f.cells.map tS)])) (some (.p (famP f))) (fun x hx=>hf x (List.mem_cons_of_mem _ hx)) (.inr ⟨_,_,h1,h2,rfl⟩)
   refine⟨d',q7',i,?_⟩
   rw [List.map_cons]
   refine (forGo_nx rfl ?_).trans e
   simp [b_n_law_name_of_L1,famP,hm,vDict,valsGo,dCons,dNil,keysD,nd,vComp,hz,upL,heads9]
  ·obtain⟨d',q7',i,e⟩:=name_loop ψ ι υ a0 a1 a2 a3 a4 fam S fs d (some (.p (famP f))) (fun x hx=>hf x (List.mem_cons_of_mem _ hx)) h
   refine⟨d',q7',i,?_⟩
   rw [List.map_cons]
   refine (forGo_nx rfl ?_).trans e
   simp [b_n_law_name_of_L1,famP,hm]
noncomputable def itT:Tx:=⟨"it",by decide +kernel⟩
noncomputable def kindOk (k:Str):Prop:=k="family"\/k="room"\/k="cell"
theorem name_pick (n:Nat) (ι:Str->GF) (υ:Str->GX) (pl:P) (N:List Tx) (hN:N.length=12) (c j:Int) (h0:0≤j) (h1:j≤900) (a4 a5 a6 a7:Option D) (T:List Tx) (hT:T.length≤12) (S:Sto):∃(t:Tx) (L':Lc) (S':Sto),
  (sSeq (sIf (bOr (bV (vOpE gEq (eV (vOp dMod (vCall (pureOf ((Psi Gv Att Exs Rs Tb (n+2)) "_law_mix")) (vsCons (vE (eVar 2)) (vsCons (vE (eVar 3)) vsNil))) (vC (.int 12)))) (eV (vC (.int 1))))) (bV (vOpE gEq (eVar 8) (eV (vLst' vsNil))))) (sSet 8 (eV (vOp dAdd2 (vE (eVar 1)) (vLst' (vsCons (vC (.str "it")) vsNil))))) sNx)
  (sRet (eV (vOp dIx (vE (eVar 8)) (vOp dMod (vCall (pureOf ((Psi Gv Att Exs Rs Tb (n+2)) "_law_mix")) (vsCons (vE (eVar 2)) (vsCons (vOp dAdd2 (vE (eVar 3)) (vC (.int 1))) vsNil))) (vLen (eVar 8))))))) [some (.p pl),some (.p (.lst (N.map tS))),some (.p (.int c)),some (.p (.int j)),a4,a5,a6,a7,some (.p (.lst (T.map tS)))] S=some (.rt (.p (.str t.1)),L',S'):=by
 obtain⟨m1,_,_,e1⟩:=mix_ex n c j h0 (by omega)
 obtain⟨m2,_,_,e2⟩:=mix_ex n c (j+1) (by omega) (by omega)
 have eN:=eqD_nil (xs:=T.map tS) (strs_ok T 19)
 have eN0:=eqD_nil (xs:=[]) (by rfl)
 have key:∀(U:List Tx),U≠[]->U.length≤13->∃t:Tx,L2.atI (U.map tS) (m2 % (U.length:Int))=some (.str t.1):=fun U hU _=>let ⟨t,_,e⟩:=pickT hU m2;⟨t,e⟩
 by_cases hc:m1 % 12=1\/T=[]
 ·obtain⟨t,e3⟩:=key (N++[itT]) (by simp) (by simp [hN])
  rw [List.map_append,List.length_append,hN] at e3
  have e4:L2.atI (N.map tS++[P.str "it"]) (m2 % (12+1))=some (.str t.1):=e3
  have hl:N.length+1≤1000000:=by omega
  have hd:((12:Int)+1)=13:=rfl
  rw [hd] at e4
  refine⟨t,[some (.p pl),some (.p (.lst (N.map tS))),some (.p (.int c)),some (.p (.int j)),a4,a5,a6,a7,some (.p (.lst (N.map tS++[P.str "it"])))],S,?_⟩
  by_cases hc1:m1 % 12=1
  ·simp [e1,e2,hc1,hN,lenD,lenP,e4,dII]
  ·have hc:T=[]:=hc.resolve_left hc1
   subst hc
   simp [e1,e2,hc1,hN,lenD,lenP,e4,dII,eN0]
 ·have hc1:¬m1 % 12=1:=fun z=>hc (.inl z)
  have hc2:T≠[]:=fun z=>hc (.inr z)
  obtain⟨t,e3⟩:=key T hc2 (by omega)
  have hne:0 < T.length:=List.length_pos_iff.mpr hc2
  refine⟨t,[some (.p pl),some (.p (.lst (N.map tS))),some (.p (.int c)),some (.p (.int j)),a4,a5,a6,a7,some (.p (.lst (T.map tS)))],S,?_⟩
  simp [e1,e2,hc1,eN,hc2,lenD,lenP,e3,dII,hne]
theorem seq_nx {f g:ES}{L L1:Lc}{S S1:Sto} (h:f L S=some (.nx,L1,S1)):sSeq f g L S=g L1 S1:=by simp [h]
theorem seq_of {f g:ES}{L L2:Lc}{S S2:Sto} (h:sSeq f g L S=some (.nx,L2,S2)):∃L1 S1,f L S=some (.nx,L1,S1)/\g L1 S1=some (.nx,L2,S2):=by
 rw [sSeq_ev] at h
 split at h
 ·exact⟨_,_,by assumption,h⟩
 ·rename_i hn
  exact absurd h (hn _ _)
theorem seq4 {a b c d t:ES}{L L1:Lc}{S S1:Sto} (h:sSeq a (sSeq b (sSeq c d)) L S=some (.nx,L1,S1)):sSeq a (sSeq b (sSeq c (sSeq d t))) L S=t L1 S1:=by
 obtain⟨_,_,h1,h⟩:=seq_of h
 obtain⟨_,_,h2,h⟩:=seq_of h
 obtain⟨_,_,h3,h⟩:=seq_of h
 rw [seq_nx h1,seq_nx h2,seq_nx h3,seq_nx h]
theorem nameComp (a0 a1 a2 a3 a4 a5 a6 a8:Option D) (S:Sto) (fs:List Fm) (q:Option D):compGo (gSet 7) bYes (vOp dIx (vE (eVar 7)) (vC (.int 0))) (fs.map famP) [a0,a1,a2,a3,a4,a5,a6,q,a8] S=some ((fs.map (·.nm)).map tS,S):=by
 rw [List.map_map]
 exact comp_all (fun q=>[a0,a1,a2,a3,a4,a5,a6,q,a8]) (fun q v=>rfl) (fun x=>by simp [famP]) fs q
theorem name_ex (n:Nat) {fs:List Fm} (h:Good fs) (N:List Tx) (hN:N.length=12) (c j:Int) (h0:0≤j) (h1:j≤900) {kind:Str} (hk:kindOk kind) (fam:Tx):∃t:Tx,pureOf (Psi Gv Att Exs Rs Tb (n+3) "_law_name_of") [planP fs,.lst (N.map tS),.int c,.int j,.str kind,.str fam.1]=some (.str t.1):=by
  obtain⟨d,q7,hd,e1⟩:=name_loop (Psi Gv Att Exs Rs Tb (n+2)) (Psi Gv Att Exs Rs Tb (n+1)) (Xsi Gv Att Exs Rs Tb (n+2)) (some (.p (planP fs))) (some (.p (.lst (N.map tS)))) (some (.p (.int c))) (some (.p (.int j))) (some (.p (.str kind))) fam.1 [.dct [] []] fs (.ref 0) none h.all (.inl rfl)
  have e2:=fun a5 a6 a7 T hT S=>name_pick n (Psi Gv Att Exs Rs Tb (n+1)) (Xsi Gv Att Exs Rs Tb (n+2)) (planP fs) N hN c j h0 h1 (some (.p (.str kind))) a5 a6 a7 T hT S
  have p0:dIx (planP fs) (.int 0)=some (.lst (fs.map famP)):=by simp [planP]
  have hl:fs.length≤1000000:=by have:=h.len;omega
  have hl2:(fs.map (·.nm)).length≤12:=by have:=h.len;simp;omega
  generalize planP fs=pl at *
  rw [e_n_law_name_of,pureOf_fn]
  have key:∀(T:List Tx) (d':D) (S':Sto),T.length≤12->(sSeq (sSet 6 eDict)
    (sSeq (sFor (itS (vOp dIx (vE (eVar 0)) (vC (.int 0)))) (gSet 7) (b_n_law_name_of_L1 (Psi Gv Att Exs Rs Tb (n+2)) (Psi Gv Att Exs Rs Tb (n+1)) (Xsi Gv Att Exs Rs Tb (n+2))))
    (sSeq (sSet 8 (eV (vComp (itS (vOp dIx (vE (eVar 0)) (vC (.int 0)))) [7] 0 (gSet 7) bYes (vOp dIx (vE (eVar 7)) (vC (.int 0))))))
     (sIf (bV (vOpE gNe (eVar 4) (eV (vC (.str "family"))))) (sSet 8 (eV (vGet2 (vE (eVar 6)) (vE (eVar 4)) (vLst' vsNil)))) sNx)))) [some (.p pl),some (.p (.lst (N.map tS))),some (.p (.int c)),some (.p (.int j)),some (.p (.str kind)),some (.p (.str fam.1)),none,none,none] []=some (.nx,[some (.p pl),some (.p (.lst (N.map tS))),some (.p (.int c)),some (.p (.int j)),some (.p (.str kind)),some (.p (.str fam.1)),some d',q7,some (.p (.lst (T.map tS)))],S') ->
      ∃t:Tx,(match b_n_law_name_of (Psi Gv Att Exs Rs Tb (n+2)) (Psi Gv Att Exs Rs Tb (n+1)) (Xsi Gv Att Exs Rs Tb (n+2)) [some (.p pl),some (.p (.lst (N.map tS))),some (.p (.int c)),some (.p (.int j)),some (.p (.str kind)),some (.p (.str fam.1)),none,none,none] [] with
  | some (.rt d,_,S)=>(toP 9 d S).map (·.1)
  | some (.nx,_,_)=>some .non
  | _=>none)=some (.str t.1):=by
    intro T d' S' hT e
    obtain⟨t,L',S2,e3⟩:=e2 (some (.p (.str fam.1))) (some d') q7 T hT S'
    refine⟨t,?_⟩
    have:b_n_law_name_of (Psi Gv Att Exs Rs Tb (n+2)) (Psi Gv Att Exs Rs Tb (n+1)) (Xsi Gv Att Exs Rs Tb (n+2)) [some (.p pl),some (.p (.lst (N.map tS))),some (.p (.int c)),some (.p (.int j)),some (.p (.str kind)),some (.p (.str fam.1)),none,none,none] []=some (.rt (.p (.str t.1)),L',S2):=by
      rw [<- e3]
      unfold b_n_law_name_of
      exact seq4 e
    rw [this]
    simp
  simp only [List.map_cons,List.map_nil,List.length_cons,List.length_nil]
  rcases hk with rfl | rfl | rfl
  · refine key (fs.map (·.nm)) d [.dct [] []] hl2 ?_
    simp [eDict,p0,e1,vComp,hl,upL,nameComp]
  · rcases hd with rfl | ⟨R,C,hR,hC,rfl⟩
    · refine key [] (.ref 0) [.fz (.dct [] [])] (by simp) ?_
      simp [eDict,p0,e1,vComp,hl,upL,nameComp,toP,mapS,keyOf,dLook]
    · refine key R (.p (.dct [.inr "room",.inr "cell"] [.lst (R.map tS),.lst (C.map tS)])) [.dct [] []] hR ?_
      simp [eDict,p0,e1,vComp,hl,upL,nameComp,keyOf,dLook]
  · rcases hd with rfl | ⟨R,C,hR,hC,rfl⟩
    · refine key [] (.ref 0) [.fz (.dct [] [])] (by simp) ?_
      simp [eDict,p0,e1,vComp,hl,upL,nameComp,toP,mapS,keyOf,dLook]
    · refine key C (.p (.dct [.inr "room",.inr "cell"] [.lst (R.map tS),.lst (C.map tS)])) [.dct [] []] hC ?_
      simp [eDict,p0,e1,vComp,hl,upL,nameComp,keyOf,dLook]
end My
namespace My
open PySem L2 Ev
noncomputable def Ret (x:Option (Fl×Lc×Sto)) (v:P):Prop:=∃L' S',x=some (.rt (.p v),L',S')
theorem Ret.seq {f g:ES}{L L1:Lc}{S S1:Sto}{v:P} (h:f L S=some (.nx,L1,S1)) (k:Ret (g L1 S1) v):Ret (sSeq f g L S) v:=by rw [seq_nx h];exact k
theorem Ret.now {f g:ES}{L L1:Lc}{S S1:Sto}{v:P} (h:f L S=some (.rt (.p v),L1,S1)):Ret (sSeq f g L S) v:=⟨L1,S1,by simp [h]⟩
theorem Ret.end {f:ES}{L L1:Lc}{S S1:Sto}{v:P} (h:f L S=some (.rt (.p v),L1,S1)):Ret (f L S) v:=⟨L1,S1,h⟩
theorem pure_rt {np nn:Nat}{b:ES}{ps:List P}{v:P} (hl:ps.length=np) (h:Ret (b (ps.map (fun p=>some (.p p))++List.replicate (nn-ps.length) none) []) v):pureOf (fnR np nn b) ps=some v:=by
 obtain⟨L',S',e⟩:=h
 rw [pureOf_fn,if_pos hl,e]
 simp
theorem part_room (n:Nat) {fs:List Fm} (h:Good fs) (N:List Tx) (hN:N.length=12) (c j:Int) (h0:0≤j) (h1:j≤800) (fam:Tx) (a4 a6 a8 a9 a10:Option D):∃r:Tx,
  (sIf (bV (vOpE gEq (eV (vOp dMod (vCall (pureOf ((Psi Gv Att Exs Rs Tb (n+3)) "_law_mix")) (vsCons (vE (eVar 2)) (vsCons (vOp dAdd2 (vE (eVar 3)) (vC (.int 6))) vsNil))) (vC (.int 2)))) (eV (vC (.int 1))))) (sSet 7 (eV (vCall (pureOf ((Psi Gv Att Exs Rs Tb (n+3)) "_law_name_of")) (vsCons (vE (eVar 0)) (vsCons (vE (eVar 1)) (vsCons (vE (eVar 2)) (vsCons (vOp dAdd2 (vE (eVar 3)) (vC (.int 7))) (vsCons (vC (.str "room")) (vsCons (vE (eVar 5)) vsNil))))))))) sNx) [some (.p (planP fs)),some (.p (.lst (N.map tS))),some (.p (.int c)),some (.p (.int j)),a4,some (.p (.str fam.1)),a6,some (.p (.str "")),a8,a9,a10] []=some (.nx,[some (.p (planP fs)),some (.p (.lst (N.map tS))),some (.p (.int c)),some (.p (.int j)),a4,some (.p (.str fam.1)),a6,some (.p (.str r.1)),a8,a9,a10],[]):=by
 obtain⟨m,_,_,e1⟩:=mix_ex (n+1) c (j+6) (by omega) (by omega)
 obtain⟨t,e2⟩:=name_ex n h N hN c (j+7) (by omega) (by omega) (.inr (.inl rfl)) fam
 generalize planP fs=pl at *
 by_cases hm:m % 2=1
 ·exact⟨t,by simp [e1,hm,e2,dII]⟩
 ·exact⟨nul,by simp [e1,hm,dII,nul]⟩
theorem part_cond (n:Nat) {fs:List Fm} (h:Good fs) (N:List Tx) (hN:N.length=12) (c j:Int) (h0:0≤j) (h1:j≤800) (fam:Tx) (a4 a6 a7:Option D):∃(cn:Cn) (a9 a10:Option D),
  (sIf (bV (vOpE gEq (eV (vOp dMod (vCall (pureOf ((Psi Gv Att Exs Rs Tb (n+3)) "_law_mix")) (vsCons (vE (eVar 2)) (vsCons (vOp dAdd2 (vE (eVar 3)) (vC (.int 9))) vsNil))) (vC (.int 2)))) (eV (vC (.int 1))))) (sSeq (sSet 9 (eV (vCall (pureOf ((Psi Gv Att Exs Rs Tb (n+3)) "_law_name_of")) (vsCons (vE (eVar 0)) (vsCons (vE (eVar 1)) (vsCons (vE (eVar 2)) (vsCons (vOp dAdd2 (vE (eVar 3)) (vC (.int 10))) (vsCons (vC (.str "cell")) (vsCons (vE (eVar 5)) vsNil)))))))))
  (sSeq (sSet 10 (eV (vTup' (vsCons (vC (.str "is")) (vsCons (vC (.str "<")) (vsCons (vTup' (vsCons (vC (.str "plus")) (vsCons (vTup' (vsCons (vC (.str "number")) (vsCons (vC (.int 1)) vsNil))) (vsCons (vTup' (vsCons (vC (.str "name")) (vsCons (vE (eVar 9)) vsNil))) vsNil)))) (vsCons (vTup' (vsCons (vC (.str "number")) (vsCons (vC (.int 3)) vsNil))) vsNil)))))))
  (sSet 8 (eV (vOp dIx (vLst' (vsCons (vE (eVar 10)) (vsCons (vTup' (vsCons (vC (.str "not")) (vsCons (vE (eVar 10)) vsNil))) (vsCons (vTup' (vsCons (vC (.str "or")) (vsCons (vTup' (vsCons (vC (.str "true")) vsNil)) (vsCons (vE (eVar 10)) vsNil)))) vsNil)))) (vOp dMod (vCall (pureOf ((Psi Gv Att Exs Rs Tb (n+3)) "_law_mix")) (vsCons (vE (eVar 2)) (vsCons (vOp dAdd2 (vE (eVar 3)) (vC (.int 12))) vsNil))) (vC (.int 3)))))))) sNx) [some (.p (planP fs)),some (.p (.lst (N.map tS))),some (.p (.int c)),some (.p (.int j)),a4,some (.p (.str fam.1)),a6,a7,some (.p (.tup [.str "true"])),none,none] []=some (.nx,[some (.p (planP fs)),some (.p (.lst (N.map tS))),some (.p (.int c)),some (.p (.int j)),a4,some (.p (.str fam.1)),a6,a7,some (.p (cnP cn)),a9,a10],[]):=by
 obtain⟨m,_,_,e1⟩:=mix_ex (n+1) c (j+9) (by omega) (by omega)
 obtain⟨w,_,_,e3⟩:=mix_ex (n+1) c (j+12) (by omega) (by omega)
 obtain⟨t,e2⟩:=name_ex n h N hN c (j+10) (by omega) (by omega) (.inr (.inr rfl)) fam
 generalize planP fs=pl at *
 by_cases hm:m % 2=1
 ·have hw:w % 3=0\/w % 3=1\/w % 3=2:=by omega
  rcases hw with hw | hw | hw
  ·exact⟨.one t,some (.p (.str t.1)),some (.p (oneP t)),by simp [e1,hm,e2,e3,hw,dII,cnP,oneP]⟩
  ·exact⟨.nt t,some (.p (.str t.1)),some (.p (oneP t)),by simp [e1,hm,e2,e3,hw,dII,cnP,oneP]⟩
  ·exact⟨.or t,some (.p (.str t.1)),some (.p (oneP t)),by simp [e1,hm,e2,e3,hw,dII,cnP,oneP]⟩
 ·exact⟨.tru,none,none,by simp [e1,hm,dII,cnP]⟩
theorem part_ex (n:Nat) {fs:List Fm} (h:Good fs) (N:List Tx) (hN:N.length=12) (c j:Int) (h0:0≤j) (h1:j≤800):∃p:Pt,pureOf (Psi Gv Att Exs Rs Tb (n+4) "_law_part") [planP fs,.lst (N.map tS),.int c,.int j]=some (ptP p):=by
 obtain⟨m,_,_,e1⟩:=mix_ex (n+1) c j (by omega) (by omega)
 obtain⟨m5,_,_,e5⟩:=mix_ex (n+1) c (j+5) (by omega) (by omega)
 obtain⟨fam,e2⟩:=name_ex n h N hN c (j+1) (by omega) (by omega) (.inl rfl) nul
 obtain⟨oth,e3⟩:=name_ex n h N hN c (j+3) (by omega) (by omega) (.inl rfl) nul
 obtain⟨x,hx,e4⟩:=atI_in (xs:=N.map tS) (k:=11) (by omega) (by rw [List.length_map,hN];omega)
 obtain⟨y,_,rfl⟩:=List.mem_map.mp hx
 obtain⟨r,er⟩:=part_room n h N hN c j h0 h1 fam (some (.p (.int (m % 7)))) none none none none
 obtain⟨cn,q9,q10,ec⟩:=part_cond n h N hN c j h0 h1 fam (some (.p (.int (m % 7)))) none (some (.p (.str r.1)))
 have e2':pureOf (Psi Gv Att Exs Rs Tb (n+3) "_law_name_of") [planP fs,.lst (N.map tS),.int c,.int (j+1),.str "family",.str ""]=some (.str fam.1):=e2
 have e3':pureOf (Psi Gv Att Exs Rs Tb (n+3) "_law_name_of") [planP fs,.lst (N.map tS),.int c,.int (j+3),.str "family",.str ""]=some (.str oth.1):=e3
 have e4':L2.atI (N.map tS) 11=some (.str y.1):=e4
 clear e2 e3 e4
 generalize planP fs=pl at *
 rw [e_n_law_part]
 have hm:m % 7=0\/m % 7=1\/m % 7=2\/m % 7=3\/m % 7=4\/m % 7=5\/m % 7=6:=by omega
 have h5:m5 % 2=0\/m5 % 2=1:=by omega
 have st1:∀(p:Pt),Ret ((sSeq (sIf (bV (vOpE gEq (eVar 4) (eV (vC (.int 0))))) (sSeq (sSet 6 (eV (vCall (pureOf ((Psi Gv Att Exs Rs Tb (n+3)) "_law_name_of")) (vsCons (vE (eVar 0)) (vsCons (vE (eVar 1)) (vsCons (vE (eVar 2)) (vsCons (vOp dAdd2 (vE (eVar 3)) (vC (.int 3))) (vsCons (vC (.str "family")) (vsCons (vC (.str "")) vsNil)))))))))
  (sRet (eV (vTup' (vsCons (vC (.str "letters")) (vsCons (vE (eVar 5)) (vsCons (vE (eVar 6)) (vsCons (vOp dIx (vLst' (vsCons (vC (.str "")) (vsCons (vOp dIx (vE (eVar 1)) (vC (.int 11))) vsNil))) (vOp dMod (vCall (pureOf ((Psi Gv Att Exs Rs Tb (n+3)) "_law_mix")) (vsCons (vE (eVar 2)) (vsCons (vOp dAdd2 (vE (eVar 3)) (vC (.int 5))) vsNil))) (vC (.int 2)))) (vsCons (vC (.str "=")) (vsCons (vC (.int 1)) vsNil)))))))))) sNx) (sSeq (sIf (bV (vOpE gEq (eVar 4) (eV (vC (.int 1))))) (sRet (eV (vOp dIx (vLst' (vsCons (vTup' (vsCons (vC (.str "true")) vsNil)) (vsCons (vTup' (vsCons (vC (.str "dry")) vsNil)) vsNil))) (vOp dMod (vCall (pureOf ((Psi Gv Att Exs Rs Tb (n+3)) "_law_mix")) (vsCons (vE (eVar 2)) (vsCons (vOp dAdd2 (vE (eVar 3)) (vC (.int 5))) vsNil))) (vC (.int 2)))))) sNx) (sSeq (sSet 7 (eV (vC (.str "")))) (sSeq (sIf (bV (vOpE gEq (eV (vOp dMod (vCall (pureOf ((Psi Gv Att Exs Rs Tb (n+3)) "_law_mix")) (vsCons (vE (eVar 2)) (vsCons (vOp dAdd2 (vE (eVar 3)) (vC (.int 6))) vsNil))) (vC (.int 2)))) (eV (vC (.int 1))))) (sSet 7 (eV (vCall (pureOf ((Psi Gv Att Exs Rs Tb (n+3)) "_law_name_of")) (vsCons (vE (eVar 0)) (vsCons (vE (eVar 1)) (vsCons (vE (eVar 2)) (vsCons (vOp dAdd2 (vE (eVar 3)) (vC (.int 7))) (vsCons (vC (.str "room")) (vsCons (vE (eVar 5)) vsNil))))))))) sNx) (sSeq (sSet 8 (eV (vTup' (vsCons (vC (.str "true")) vsNil)))) (sSeq (sIf (bV (vOpE gEq (eV (vOp dMod (vCall (pureOf ((Psi Gv Att Exs Rs Tb (n+3)) "_law_mix")) (vsCons (vE (eVar 2)) (vsCons (vOp dAdd2 (vE (eVar 3)) (vC (.int 9))) vsNil))) (vC (.int 2)))) (eV (vC (.int 1))))) (sSeq (sSet 9 (eV (vCall (pureOf ((Psi Gv Att Exs Rs Tb (n+3)) "_law_name_of")) (vsCons (vE (eVar 0)) (vsCons (vE (eVar 1)) (vsCons (vE (eVar 2)) (vsCons (vOp dAdd2 (vE (eVar 3)) (vC (.int 10))) (vsCons (vC (.str "cell")) (vsCons (vE (eVar 5)) vsNil)))))))))
  (sSeq (sSet 10 (eV (vTup' (vsCons (vC (.str "is")) (vsCons (vC (.str "<")) (vsCons (vTup' (vsCons (vC (.str "plus")) (vsCons (vTup' (vsCons (vC (.str "number")) (vsCons (vC (.int 1)) vsNil))) (vsCons (vTup' (vsCons (vC (.str "name")) (vsCons (vE (eVar 9)) vsNil))) vsNil)))) (vsCons (vTup' (vsCons (vC (.str "number")) (vsCons (vC (.int 3)) vsNil))) vsNil)))))))
  (sSet 8 (eV (vOp dIx (vLst' (vsCons (vE (eVar 10)) (vsCons (vTup' (vsCons (vC (.str "not")) (vsCons (vE (eVar 10)) vsNil))) (vsCons (vTup' (vsCons (vC (.str "or")) (vsCons (vTup' (vsCons (vC (.str "true")) vsNil)) (vsCons (vE (eVar 10)) vsNil)))) vsNil)))) (vOp dMod (vCall (pureOf ((Psi Gv Att Exs Rs Tb (n+3)) "_law_mix")) (vsCons (vE (eVar 2)) (vsCons (vOp dAdd2 (vE (eVar 3)) (vC (.int 12))) vsNil))) (vC (.int 3)))))))) sNx) (sSeq (sIf (bV (vOp dLt (vE (eVar 4)) (vC (.int 4)))) (sRet (eV (vTup' (vsCons (vOp dIx (vLst' (vsCons (vC (.str "some")) (vsCons (vC (.str "all")) vsNil))) (vOp dSub (vE (eVar 4)) (vC (.int 2)))) (vsCons (vE (eVar 5)) (vsCons (vE (eVar 7)) (vsCons (vE (eVar 8)) vsNil))))))) sNx) (sSeq (sIf (bV (vOpE gEq (eVar 4) (eV (vC (.int 4))))) (sRet (eV (vTup' (vsCons (vC (.str "many")) (vsCons (vE (eVar 5)) (vsCons (vE (eVar 7)) (vsCons (vE (eVar 8)) (vsCons (vC (.str ">")) (vsCons (vC (.int 0)) vsNil))))))))) sNx) (sRet (eV (vTup' (vsCons (vOp dIx (vLst' (vsCons (vC (.str "some knows")) (vsCons (vC (.str "each knows")) vsNil))) (vOp dSub (vE (eVar 4)) (vC (.int 5)))) (vsCons (vE (eVar 5)) (vsCons (vTup' (vsCons (vC (.str "some")) (vsCons (vE (eVar 5)) (vsCons (vE (eVar 7)) (vsCons (vE (eVar 8)) vsNil))))) vsNil)))))))))))))) [some (.p pl),some (.p (.lst (N.map tS))),some (.p (.int c)),some (.p (.int j)),some (.p (.int (m % 7))),some (.p (.str fam.1)),none,none,none,none,none] []) (ptP p)->pureOf (fnR 4 11 (b_n_law_part (Psi Gv Att Exs Rs Tb (n+3)) (Psi Gv Att Exs Rs Tb (n+2)) (Xsi Gv Att Exs Rs Tb (n+3)))) [pl,.lst (N.map tS),.int c,.int j]=some (ptP p):=by
  intro p hp
  refine pure_rt rfl ?_
  unfold b_n_law_part
  refine Ret.seq (L1:=[some (.p pl),some (.p (.lst (N.map tS))),some (.p (.int c)),some (.p (.int j)),some (.p (.int (m % 7))),none,none,none,none,none,none]) (S1:=[]) (by simp [e1,dII]) ?_
  exact Ret.seq (L1:=[some (.p pl),some (.p (.lst (N.map tS))),some (.p (.int c)),some (.p (.int j)),some (.p (.int (m % 7))),some (.p (.str fam.1)),none,none,none,none,none]) (S1:=[]) (by simp [e2',dII]) hp
 rcases hm with hm | hm | hm
 ·rw [hm] at st1
  rcases h5 with h5 | h5
  ·exact⟨.lt fam oth nul,st1 _ (Ret.now (S1:=[]) (L1:=[some (.p pl),some (.p (.lst (N.map tS))),some (.p (.int c)),some (.p (.int j)),some (.p (.int 0)),some (.p (.str fam.1)),some (.p (.str oth.1)),none,none,none,none]) (by simp [e3',e4',e5,h5,dII,ptP,nul]))⟩
  ·exact⟨.lt fam oth y,st1 _ (Ret.now (S1:=[]) (L1:=[some (.p pl),some (.p (.lst (N.map tS))),some (.p (.int c)),some (.p (.int j)),some (.p (.int 0)),some (.p (.str fam.1)),some (.p (.str oth.1)),none,none,none,none]) (by simp [e3',e4',e5,h5,dII,ptP]))⟩
 ·rw [hm] at st1
  rcases h5 with h5 | h5
  ·exact⟨.tru,st1 _ (Ret.seq (L1:=[some (.p pl),some (.p (.lst (N.map tS))),some (.p (.int c)),some (.p (.int j)),some (.p (.int 1)),some (.p (.str fam.1)),none,none,none,none,none]) (S1:=[]) (by simp) (Ret.now (S1:=[]) (L1:=[some (.p pl),some (.p (.lst (N.map tS))),some (.p (.int c)),some (.p (.int j)),some (.p (.int 1)),some (.p (.str fam.1)),none,none,none,none,none]) (by simp [e5,h5,dII,ptP])))⟩
  ·exact⟨.dry,st1 _ (Ret.seq (L1:=[some (.p pl),some (.p (.lst (N.map tS))),some (.p (.int c)),some (.p (.int j)),some (.p (.int 1)),some (.p (.str fam.1)),none,none,none,none,none]) (S1:=[]) (by simp) (Ret.now (S1:=[]) (L1:=[some (.p pl),some (.p (.lst (N.map tS))),some (.p (.int c)),some (.p (.int j)),some (.p (.int 1)),some (.p (.str fam.1)),none,none,none,none,none]) (by simp [e5,h5,dII,ptP])))⟩
 ·have n0:¬m % 7=0:=by omega
  have n1:¬m % 7=1:=by omega
  have st2:∀(p:Pt),Ret ((sSeq (sIf (bV (vOp dLt (vE (eVar 4)) (vC (.int 4)))) (sRet (eV (vTup' (vsCons (vOp dIx (vLst' (vsCons (vC (.str "some")) (vsCons (vC (.str "all")) vsNil))) (vOp dSub (vE (eVar 4)) (vC (.int 2)))) (vsCons (vE (eVar 5)) (vsCons (vE (eVar 7)) (vsCons (vE (eVar 8)) vsNil))))))) sNx) (sSeq (sIf (bV (vOpE gEq (eVar 4) (eV (vC (.int 4))))) (sRet (eV (vTup' (vsCons (vC (.str "many")) (vsCons (vE (eVar 5)) (vsCons (vE (eVar 7)) (vsCons (vE (eVar 8)) (vsCons (vC (.str ">")) (vsCons (vC (.int 0)) vsNil))))))))) sNx) (sRet (eV (vTup' (vsCons (vOp dIx (vLst' (vsCons (vC (.str "some knows")) (vsCons (vC (.str "each knows")) vsNil))) (vOp dSub (vE (eVar 4)) (vC (.int 5)))) (vsCons (vE (eVar 5)) (vsCons (vTup' (vsCons (vC (.str "some")) (vsCons (vE (eVar 5)) (vsCons (vE (eVar 7)) (vsCons (vE (eVar 8)) vsNil))))) vsNil)))))))) [some (.p pl),some (.p (.lst (N.map tS))),some (.p (.int c)),some (.p (.int j)),some (.p (.int (m % 7))),some (.p (.str fam.1)),none,some (.p (.str r.1)),some (.p (cnP cn)),q9,q10] []) (ptP p)->pureOf (fnR 4 11 (b_n_law_part (Psi Gv Att Exs Rs Tb (n+3)) (Psi Gv Att Exs Rs Tb (n+2)) (Xsi Gv Att Exs Rs Tb (n+3)))) [pl,.lst (N.map tS),.int c,.int j]=some (ptP p):=by
   intro p hp
   refine st1 p (Ret.seq (L1:=[some (.p pl),some (.p (.lst (N.map tS))),some (.p (.int c)),some (.p (.int j)),some (.p (.int (m % 7))),some (.p (.str fam.1)),none,none,none,none,none]) (S1:=[]) (by simp [n0]) ?_)
   refine Ret.seq (L1:=[some (.p pl),some (.p (.lst (N.map tS))),some (.p (.int c)),some (.p (.int j)),some (.p (.int (m % 7))),some (.p (.str fam.1)),none,none,none,none,none]) (S1:=[]) (by simp [n1]) ?_
   refine Ret.seq (L1:=[some (.p pl),some (.p (.lst (N.map tS))),some (.p (.int c)),some (.p (.int j)),some (.p (.int (m % 7))),some (.p (.str fam.1)),none,some (.p (.str "")),none,none,none]) (S1:=[]) (by simp) ?_
   refine Ret.seq er ?_
   refine Ret.seq (L1:=[some (.p pl),some (.p (.lst (N.map tS))),some (.p (.int c)),some (.p (.int j)),some (.p (.int (m % 7))),some (.p (.str fam.1)),none,some (.p (.str r.1)),some (.p (.tup [.str "true"])),none,none]) (S1:=[]) (by simp) ?_
   exact Ret.seq ec hp
  clear st1
  rcases hm with hm | hm | hm | hm | hm
  ·exact⟨.som fam r cn,st2 _ ⟨_,_,by simp [hm,ptP,dSub,dII];exact⟨rfl,rfl⟩⟩⟩
  ·exact⟨.all fam r cn,st2 _ ⟨_,_,by simp [hm,ptP,dSub,dII];exact⟨rfl,rfl⟩⟩⟩
  ·exact⟨.many fam r cn,st2 _ ⟨_,_,by simp [hm,ptP,dSub,dII];exact⟨rfl,rfl⟩⟩⟩
  ·exact⟨.sk fam r cn,st2 _ ⟨_,_,by simp [hm,ptP,dSub,dII];exact⟨rfl,rfl⟩⟩⟩
  ·exact⟨.ek fam r cn,st2 _ ⟨_,_,by simp [hm,ptP,dSub,dII];exact⟨rfl,rfl⟩⟩⟩
end My
namespace My
open PySem L2 Ev
theorem fact_ex (n:Nat) {fs:List Fm} (h:Good fs) (N:List Tx) (hN:N.length=12) (c j:Int) (h0:0≤j) (h1:j≤700):∃f:Ft,pureOf (Psi Gv Att Exs Rs Tb (n+5) "_law_fact") [planP fs,.lst (N.map tS),.int c,.int j]=some (ftP f):=by
 obtain⟨m,_,_,e1⟩:=mix_ex (n+2) c j (by omega) (by omega)
 obtain⟨p,e2⟩:=part_ex n h N hN c (j+1) (by omega) (by omega)
 obtain⟨q,e3⟩:=part_ex n h N hN c (j+20) (by omega) (by omega)
 generalize planP fs=pl at *
 rw [e_n_law_fact,pureOf_fn]
 have hm:m % 5=0\/m % 5=1\/m % 5=2\/(¬m % 5 < 2/\¬m % 5=2):=by omega
 rcases hm with hm | hm | hm | ⟨hm,hm2⟩
 ·exact⟨.an p q,by simp [b_n_law_fact,e1,e2,e3,hm,dII,ftP]⟩
 ·exact⟨.or p q,by simp [b_n_law_fact,e1,e2,e3,hm,dII,ftP]⟩
 ·exact⟨.nt p,by simp [b_n_law_fact,e1,e2,e3,hm,dII,ftP]⟩
 ·exact⟨.one p,by simp [b_n_law_fact,e1,e2,e3,hm,hm2,dII,ftP]⟩
noncomputable def sayP (w:Tx) (gs:List Ft):P:=.tup (.str w.1::gs.map ftP)
theorem saying_ex (n:Nat) {fs:List Fm} (h:Good fs) (N:List Tx) (hN:N.length=12) (c:Int):∃(w:Tx) (gs:List Ft),(∃f,gs=[f]\/∃g,gs=[f,g])/\pureOf (Psi Gv Att Exs Rs Tb (n+6) "_law_saying") [planP fs,.lst (N.map tS),.int c]=some (sayP w gs):=by
 obtain⟨m,_,_,e1⟩:=mix_ex (n+3) c 1 (by omega) (by omega)
 obtain⟨f,e2⟩:=fact_ex n h N hN c 10 (by omega) (by omega)
 obtain⟨g,e3⟩:=fact_ex n h N hN c 60 (by omega) (by omega)
 generalize planP fs=pl at *
 rw [e_n_law_saying,pureOf_fn]
 have hm:m % 6=0\/m % 6=1\/m % 6=2\/m % 6=3\/m % 6=4\/m % 6=5:=by omega
 have at4:∀(a b c d e f:P),L2.atI [a,b,c,d,e,f] 4=some e:=fun a b c d e f=>atI_nat' (by omega) rfl
 have at5:∀(a b c d e f:P),L2.atI [a,b,c,d,e,f] 5=some f:=fun a b c d e f=>atI_nat' (by omega) rfl
 rcases hm with hm | hm | hm | hm | hm | hm
 ·exact⟨⟨"never",by simp⟩,[f],⟨f,.inl rfl⟩,by simp [b_n_law_saying,e1,e2,e3,hm,dII,sayP]⟩
 ·exact⟨⟨"always",by simp⟩,[f],⟨f,.inl rfl⟩,by simp [b_n_law_saying,e1,e2,e3,hm,dII,sayP]⟩
 ·exact⟨⟨"ahead",by simp⟩,[f,g],⟨f,.inr ⟨g,rfl⟩⟩,by simp [b_n_law_saying,e1,e2,e3,hm,dII,sayP]⟩
 ·exact⟨⟨"at last",by simp⟩,[f],⟨f,.inl rfl⟩,by simp [b_n_law_saying,e1,e2,e3,hm,dII,sayP]⟩
 ·exact⟨⟨"whenever",by simp⟩,[f,g],⟨f,.inr ⟨g,rfl⟩⟩,by simp [b_n_law_saying,e1,e2,e3,hm,dII,sayP,at4]⟩
 ·exact⟨⟨"always can",by simp⟩,[f],⟨f,.inl rfl⟩,by simp [b_n_law_saying,e1,e2,e3,hm,dII,sayP,at5]⟩
theorem say_ok (w:Tx) (gs:List Ft):okP 20 (sayP w gs)=true:=by
 have h:(gs.map ftP).all (okP 19)=true:=by
  rw [List.all_map]
  exact List.all_eq_true.mpr fun f _=>okP_mono (ft_ok f) (by omega)
 simp only [sayP,okP_tup,List.all_cons,okP_str,Tx.ok,h,Bool.and_true]
end My
namespace My
open PySem L2 Ev
theorem names_in_ok (n:Nat) (c:Cn):pureOf (Psi Gv Att Exs Rs Tb (n+2) "names_in") [cnP c]=some (.lst ((cnN c).map tS)):=by
 cases c <;> kernel_rfl
theorem spoken_ok (n:Nat) (c:Cn):pureOf (Psi Gv Att Exs Rs Tb (n+8) "_law_spoken") [cnP c]=some (.lst ((cnN c).map tS)):=by
 cases c <;> kernel_rfl
noncomputable def keysF (fs:List Fm):List Key:=fs.map fun f=>.inr f.nm.1
@[simp] theorem fam0 (f:Fm):dIx (famP f) (.int 0)=some (.str f.nm.1):=rfl
@[simp] theorem fam2 (f:Fm):dIx (famP f) (.int 2)=some (.lst (f.rooms.map tS)):=rfl
@[simp] theorem fam3 (f:Fm):dIx (famP f) (.int 3)=some (.lst (f.cells.map celP)):=rfl
@[simp] theorem plan0 (fs:List Fm):dIx (planP fs) (.int 0)=some (.lst (fs.map famP)):=rfl
theorem hasK_keys (fs:List Fm) (x:Str):hasK (.inr x) (keysF fs)=(look fs x).isSome:=by
 unfold hasK keysF look
 rw [List.any_map]
 induction fs with
 | nil=>rfl
 | cons f fs ih=>
  rw [List.any_cons,List.find?_cons,ih]
  by_cases h:f.nm.1=x <;> simp [h]
theorem look_keys {α:Type} (fs:List Fm) (x:Str) (g:Fm->α):dLook (.inr x) (keysF fs) (fs.map g)=(look fs x).map g:=by
 unfold look keysF
 induction fs with
 | nil=>rfl
 | cons f fs ih=>
  rw [List.map_cons,List.map_cons,List.find?_cons]
  unfold dLook
  by_cases h:f.nm.1=x
  ·simp [h]
  ·have h2:¬(Sum.inr f.nm.1:Key)=.inr x:=fun z=>h (Sum.inr.inj z)
   rw [if_neg h2,ih]
   simp [h]
theorem look_mem {fs:List Fm}{x:Str}{F:Fm} (h:look fs x=some F):F ∈ fs:=List.mem_of_find?_eq_some h
theorem gInD (x:Str) (fs:List Fm) (vs:List D):gIn (.p (.str x)) (.ref 0) [.dct (keysF fs) vs]=some (.bl (look fs x).isSome):=by
 rw [<- hasK_keys];rfl
theorem gNotInD (x:Str) (fs:List Fm) (vs:List D):gNotIn (.p (.str x)) (.ref 0) [.dct (keysF fs) vs]=some (.bl (!(look fs x).isSome)):=by
 rw [<- hasK_keys];rfl
theorem known_ok {fs:List Fm} (h:Good fs) (ψ ι:Str->GF) (υ:Str->GX) (a0 a1:Option D):∃q3,forGo (gSet 3) (b_n_law_good_L1 ψ ι υ) (fs.map famP) [a0,a1,some (.ref 0),none,none] [.dct [] []]=some (.nx,[a0,a1,some (.ref 0),q3,none],[.dct (keysF fs) (fs.map fun f=>.p (famP f))]):=by
 cases h with
 | one=>exact⟨_,by simp [forGo,b_n_law_good_L1,sPut2,sPut,keyOf,ownD,dPut,keysF];rfl⟩
 | two _ _ _ _ hne=>exact⟨_,by simp [forGo,b_n_law_good_L1,sPut2,sPut,keyOf,ownD,dPut,keysF,hne];rfl⟩
theorem cellsG (a0 a1 a2 a3 a4:Option D) (S:Sto) (cs:List Tx) (q:Option D):compGo (gSet 5) bYes (vOp dIx (vE (eVar 5)) (vC (.int 0))) (cs.map celP) [a0,a1,a2,a3,a4,q] S=some (cs.map tS,S):=
 comp_all (fun q=>[a0,a1,a2,a3,a4,q]) (fun q v=>rfl) (fun x=>by simp [celP]) cs q
theorem spokenG (a0 a1 a2 a3:Option D) (S:Sto) (cs xs:List Tx) (q:Option D):compGo (gSet 5) (bV (vOpE gNotIn (eVar 5) (eVar 4))) (vE (eVar 5)) (xs.map tS) [a0,a1,a2,a3,some (.p (.lst (cs.map tS))),q] S=some ((xs.filter fun x=>!has cs x.1).map tS,S):=
 comp_map (p:=fun x=>!has cs x.1) (fun q=>[a0,a1,a2,a3,some (.p (.lst (cs.map tS))),q]) (fun q v=>rfl) (fun x=>by
  have:=gNotIn_lst x cs S
  simp only [bV_ev,vOpE_ev,eVar_ev,List.getElem?_cons_succ,List.getElem?_cons_zero,bnd_some,this,Option.map_some]) (fun x _=>by simp) xs q
theorem spoken_nil (cs xs:List Tx):eqD (.lst ((xs.filter fun x=>!has cs x.1).map tS)) (.lst [])=some (xs.all fun x=>has cs x.1):=by
 rw [eqD_nil (strs_ok _ 19)]
 congr 1
 rw [Bool.eq_iff_iff]
 simp [List.all_eq_true]
theorem good_hand (n:Nat) {fs:List Fm} (h:Good fs) (f r:Tx) (c:Cn) (k:Str) (hk:k="some"\/k="all"\/k="many") (more:List P):pureOf (Psi Gv Att Exs Rs Tb (n+9) "_law_good") [planP fs,.tup (.str k::.str f.1::.str r.1::cnP c::more)]=some (.bl (goodH fs f r c)):=by
 have e1:=spoken_ok n c
 have p0:=plan0 fs
 generalize hpl:planP fs=pl at *
 generalize hcn:cnP c=cp at *
 obtain⟨q3,e0⟩:=known_ok h (Psi Gv Att Exs Rs Tb (n+8)) (Psi Gv Att Exs Rs Tb (n+7)) (Xsi Gv Att Exs Rs Tb (n+8)) (some (.p pl)) (some (.p (.tup (.str k::.str f.1::.str r.1::cp::more))))
 have t0:dIx (.tup (.str k::.str f.1::.str r.1::cp::more)) (.int 0)=some (.str k):=by simp
 have t1:dIx (.tup (.str k::.str f.1::.str r.1::cp::more)) (.int 1)=some (.str f.1):=by simp
 have t2:dIx (.tup (.str k::.str f.1::.str r.1::cp::more)) (.int 2)=some (.str r.1):=by simp
 have t3:dIx (.tup (.str k::.str f.1::.str r.1::cp::more)) (.int 3)=some cp:=by simp
 generalize P.tup (.str k::.str f.1::.str r.1::cp::more)=tr at *
 rw [e_n_law_good,pureOf_fn]
 unfold goodH
 have lk:=look_keys fs f.1 fun f=>D.p (famP f)
 cases hl:look fs f.1 with
 | none=>
  have g1:=gNotInD f.1 fs (fs.map fun f=>.p (famP f))
  rw [hl] at g1
  rcases hk with rfl | rfl | rfl <;> simp [b_n_law_good,eDict,p0,e0,t0,t1,g1]
 | some F=>
  have g1:=gNotInD f.1 fs (fs.map fun f=>.p (famP f))
  rw [hl] at g1 lk
  have hF:=h.all F (look_mem hl)
  have hz:F.cells.length≤1000000:=by omega
  have hz2:(cnN c).length≤1000000:=by cases c <;> simp [cnN]
  have g2:=fun S=>gNotIn_lst r F.rooms S
  have g3:=spoken_nil F.cells (cnN c)
  dsimp only
  by_cases hr:r.1=""
  ·have hR:goodR F r=true:=by simp [goodR,hr]
   rcases hk with rfl | rfl | rfl <;> simp [b_n_law_good,eDict,p0,e0,t0,t1,t2,t3,g1,keyOf,lk,hr,vComp,hz,hz2,upL,cellsG,e1,spokenG,g3,hR,goodC]
  ·by_cases hr2:has F.rooms r.1=true
   ·have hR:goodR F r=true:=by simp only [goodR,hr2,Bool.or_true]
    rw [hr2] at g2
    rcases hk with rfl | rfl | rfl <;> simp [b_n_law_good,eDict,p0,e0,t0,t1,t2,t3,g1,g2,keyOf,lk,hr,vComp,hz,hz2,upL,cellsG,e1,spokenG,g3,hR,goodC]
   ·have hr2:has F.rooms r.1=false:=by simpa using hr2
    have hR:goodR F r=false:=by simp only [goodR,hr,hr2,decide_false,Bool.or_false]
    rw [hr2] at g2
    rcases hk with rfl | rfl | rfl <;> simp [b_n_law_good,eDict,p0,e0,t0,t1,t2,t3,g1,g2,keyOf,lk,hr,hR]
end My
namespace My
open PySem L2 Ev
theorem sl2 (a b:P):dSl2 (.tup [a,b]) (some 1) none=some (.tup [b]):=rfl
theorem sl3 (a b c:P):dSl2 (.tup [a,b,c]) (some 1) none=some (.tup [b,c]):=rfl
theorem any_bls:∀bs:List Bool,((bs.map P.bl).any fun y=>PyData.eqv (pd y) (pd (.bl false)))=!bs.all id
 | []=>rfl
 | b::bs=>by
  rw [List.map_cons,List.any_cons,any_bls bs,List.all_cons]
  have:PyData.eqv (pd (.bl b)) (pd (.bl false))=!b:=by show (b == false)=_;cases b <;> rfl
  rw [this];simp
theorem bls_ok (bs:List Bool) (n:Nat):(bs.map P.bl).all (okP n)=true:=by
 rw [List.all_map]
 exact List.all_eq_true.mpr fun t _=>by simp
theorem noFalse (bs:List Bool) (S:Sto):gNotIn (.p (.bl false)) (.p (.lst (bs.map P.bl))) S=some (.bl (bs.all id)):=by
 show (inP (.bl false) (.lst (bs.map P.bl))).map (fun b=>P.bl (!b))=_
 unfold inP
 simp only [bls_ok,okP_bl,Bool.and_true,if_true,any_bls,Option.map_some,Bool.not_not]
theorem noFalse1 (a:Bool) (S:Sto):gNotIn (.p (.bl false)) (.p (.lst [.bl a])) S=some (.bl a):=by
 have:=noFalse [a] S
 simpa using this
theorem noFalse2 (a b:Bool) (S:Sto):gNotIn (.p (.bl false)) (.p (.lst [.bl a,.bl b])) S=some (.bl (a && b)):=by
 have:=noFalse [a,b] S
 simpa using this
theorem good_pt (n:Nat) {fs:List Fm} (h:Good fs) (p:Pt):pureOf (Psi Gv Att Exs Rs Tb (n+10) "_law_good") [planP fs,ptP p]=some (.bl (goodP fs p)):=by
 cases p with
 | som f r c=>exact good_hand (n+1) h f r c "some" (.inl rfl) []
 | all f r c=>exact good_hand (n+1) h f r c "all" (.inr (.inl rfl)) []
 | many f r c=>exact good_hand (n+1) h f r c "many" (.inr (.inr rfl)) [.str ">",.int 0]
 | lt a b m=>
  have p0:=plan0 fs
  generalize hpl:planP fs=pl at *
  obtain⟨q3,e0⟩:=known_ok h (Psi Gv Att Exs Rs Tb (n+9)) (Psi Gv Att Exs Rs Tb (n+8)) (Xsi Gv Att Exs Rs Tb (n+9)) (some (.p pl)) (some (.p (ptP (.lt a b m))))
  rw [e_n_law_good,pureOf_fn]
  have g1:=gInD a.1 fs (fs.map fun f=>.p (famP f))
  have g2:=gInD b.1 fs (fs.map fun f=>.p (famP f))
  have t0:dIx (ptP (.lt a b m)) (.int 0)=some (.str "letters"):=by simp [ptP]
  have t1:dIx (ptP (.lt a b m)) (.int 1)=some (.str a.1):=by simp [ptP]
  have t2:dIx (ptP (.lt a b m)) (.int 2)=some (.str b.1):=by simp [ptP]
  generalize ptP (.lt a b m)=tr at *
  cases ha:(look fs a.1).isSome with
  | false=>rw [ha] at g1;simp [b_n_law_good,eDict,p0,e0,t0,t1,t2,g1,goodP,ha]
  | true=>rw [ha] at g1;simp [b_n_law_good,eDict,p0,e0,t0,t1,t2,g1,g2,goodP,ha]
 | tru=>
  have p0:=plan0 fs
  generalize hpl:planP fs=pl at *
  obtain⟨q3,e0⟩:=known_ok h (Psi Gv Att Exs Rs Tb (n+9)) (Psi Gv Att Exs Rs Tb (n+8)) (Xsi Gv Att Exs Rs Tb (n+9)) (some (.p pl)) (some (.p (.tup [.str "true"])))
  rw [e_n_law_good,pureOf_fn]
  simp [b_n_law_good,eDict,p0,e0,goodP,ptP]
 | dry=>
  have p0:=plan0 fs
  generalize hpl:planP fs=pl at *
  obtain⟨q3,e0⟩:=known_ok h (Psi Gv Att Exs Rs Tb (n+9)) (Psi Gv Att Exs Rs Tb (n+8)) (Xsi Gv Att Exs Rs Tb (n+9)) (some (.p pl)) (some (.p (.tup [.str "dry"])))
  rw [e_n_law_good,pureOf_fn]
  simp [b_n_law_good,eDict,p0,e0,goodP,ptP]
 | sk f r c=>
  have p0:=plan0 fs
  have e1:pureOf (Psi Gv Att Exs Rs Tb (n+9) "_law_good") [planP fs,.tup [.str "some",.str f.1,.str r.1,cnP c]]=some (.bl (goodH fs f r c)):=good_hand n h f r c "some" (.inl rfl) []
  generalize hpl:planP fs=pl at *
  generalize hin:P.tup [.str "some",.str f.1,.str r.1,cnP c]=inn at *
  have hp:ptP (.sk f r c)=.tup [.str "some knows",.str f.1,inn]:=by rw [<- hin];rfl
  obtain⟨q3,e0⟩:=known_ok h (Psi Gv Att Exs Rs Tb (n+9)) (Psi Gv Att Exs Rs Tb (n+8)) (Xsi Gv Att Exs Rs Tb (n+9)) (some (.p pl)) (some (.p (.tup [.str "some knows",.str f.1,inn])))
  rw [hp,e_n_law_good,pureOf_fn]
  have g1:=gNotInD f.1 fs (fs.map fun f=>.p (famP f))
  cases hl:look fs f.1 with
  | none=>
   rw [hl] at g1
   simp [b_n_law_good,eDict,p0,e0,g1,goodP,goodH,hl]
  | some F=>
   rw [hl] at g1
   simp [b_n_law_good,eDict,p0,e0,g1,e1,goodP]
 | ek f r c=>
  have p0:=plan0 fs
  have e1:pureOf (Psi Gv Att Exs Rs Tb (n+9) "_law_good") [planP fs,.tup [.str "some",.str f.1,.str r.1,cnP c]]=some (.bl (goodH fs f r c)):=good_hand n h f r c "some" (.inl rfl) []
  generalize hpl:planP fs=pl at *
  generalize hin:P.tup [.str "some",.str f.1,.str r.1,cnP c]=inn at *
  have hp:ptP (.ek f r c)=.tup [.str "each knows",.str f.1,inn]:=by rw [<- hin];rfl
  obtain⟨q3,e0⟩:=known_ok h (Psi Gv Att Exs Rs Tb (n+9)) (Psi Gv Att Exs Rs Tb (n+8)) (Xsi Gv Att Exs Rs Tb (n+9)) (some (.p pl)) (some (.p (.tup [.str "each knows",.str f.1,inn])))
  rw [hp,e_n_law_good,pureOf_fn]
  have g1:=gNotInD f.1 fs (fs.map fun f=>.p (famP f))
  cases hl:look fs f.1 with
  | none=>
   rw [hl] at g1
   simp [b_n_law_good,eDict,p0,e0,g1,goodP,goodH,hl]
  | some F=>
   rw [hl] at g1
   simp [b_n_law_good,eDict,p0,e0,g1,e1,goodP]
theorem good_ft (n:Nat) {fs:List Fm} (h:Good fs) (f:Ft):pureOf (Psi Gv Att Exs Rs Tb (n+11) "_law_good") [planP fs,ftP f]=some (.bl (goodF fs f)):=by
 cases f with
 | one p=>exact good_pt (n+1) h p
 | nt p=>
  have p0:=plan0 fs
  have e1:=good_pt n h p
  generalize hpl:planP fs=pl at *
  show pureOf (Psi Gv Att Exs Rs Tb (n+11) "_law_good") [pl,.tup [.str "not",ptP p]]=some (.bl (goodP fs p))
  generalize ptP p=x at *
  obtain⟨q3,e0⟩:=known_ok h (Psi Gv Att Exs Rs Tb (n+10)) (Psi Gv Att Exs Rs Tb (n+9)) (Xsi Gv Att Exs Rs Tb (n+10)) (some (.p pl)) (some (.p (.tup [.str "not",x])))
  rw [e_n_law_good,pureOf_fn]
  simp [b_n_law_good,eDict,p0,e0,oSome,oNone,sl2,vComp,compGo,upL,e1,noFalse1]
 | an p q=>
  have p0:=plan0 fs
  have e1:=good_pt n h p
  have e2:=good_pt n h q
  generalize hpl:planP fs=pl at *
  show pureOf (Psi Gv Att Exs Rs Tb (n+11) "_law_good") [pl,.tup [.str "and",ptP p,ptP q]]=some (.bl (goodP fs p && goodP fs q))
  generalize ptP p=x at *
  generalize ptP q=y at *
  obtain⟨q3,e0⟩:=known_ok h (Psi Gv Att Exs Rs Tb (n+10)) (Psi Gv Att Exs Rs Tb (n+9)) (Xsi Gv Att Exs Rs Tb (n+10)) (some (.p pl)) (some (.p (.tup [.str "and",x,y])))
  rw [e_n_law_good,pureOf_fn]
  simp [b_n_law_good,eDict,p0,e0,oSome,oNone,sl3,vComp,compGo,upL,e1,e2,noFalse2]
 | or p q=>
  have p0:=plan0 fs
  have e1:=good_pt n h p
  have e2:=good_pt n h q
  generalize hpl:planP fs=pl at *
  show pureOf (Psi Gv Att Exs Rs Tb (n+11) "_law_good") [pl,.tup [.str "or",ptP p,ptP q]]=some (.bl (goodP fs p && goodP fs q))
  generalize ptP p=x at *
  generalize ptP q=y at *
  obtain⟨q3,e0⟩:=known_ok h (Psi Gv Att Exs Rs Tb (n+10)) (Psi Gv Att Exs Rs Tb (n+9)) (Xsi Gv Att Exs Rs Tb (n+10)) (some (.p pl)) (some (.p (.tup [.str "or",x,y])))
  rw [e_n_law_good,pureOf_fn]
  simp [b_n_law_good,eDict,p0,e0,oSome,oNone,sl3,vComp,compGo,upL,e1,e2,noFalse2]
end My
namespace My
open PySem L2 Ev
theorem bls_of {α:Type} (g:α->Bool):∀xs:List α,blsOf (xs.map fun x=>P.bl (g x))=some (xs.map g)
 | []=>rfl
 | x::xs=>by simp [blsOf,bls_of g xs]
theorem call_all {α:Type} (g:α->Bool) (xs:List α):c_all [.lst (xs.map fun x=>P.bl (g x))]=some (.bl (xs.all g)):=by
 unfold c_all
 simp only [bls_of,Option.map_some,List.all_map]
 rfl
theorem guard_no (ds:List D) (S:Sto) (gx:GX) (h:gx ds S=some (("NoFact":Str),S)):guardR Rs gx ds S=some (("NoFact":Str),S):=by
 unfold guardR
 rw [h]
 rfl
@[simp] theorem sNever_ev (L:Lc) (S:Sto):sNever L S=none:=rfl
theorem cellsK (a0 a1 a2 a3:Option D) (S:Sto) (cs:List Tx) (q:Option D):compGo (gSet 4) bYes (vOp dIx (vE (eVar 4)) (vC (.int 0))) (cs.map celP) [a0,a1,a2,a3,q] S=some (cs.map tS,S):=
 comp_all (fun q=>[a0,a1,a2,a3,q]) (fun q v=>rfl) (fun x=>by simp [celP]) cs q
theorem allK (a0 a1 a2:Option D) (S:Sto) (cs xs:List Tx) (q:Option D):compGo (gSet 4) bYes (vOpE gIn (eVar 4) (eVar 3)) (xs.map tS) [a0,a1,a2,some (.p (.lst (cs.map tS))),q] S=some (xs.map fun x=>P.bl (has cs x.1),S):=
 comp_all (fun q=>[a0,a1,a2,some (.p (.lst (cs.map tS))),q]) (fun q v=>rfl) (fun x=>by simp [gIn_lst]) xs q
theorem room_good (n:Nat) (F:Fm) (hF:F.cells.length≤12) (r:Tx) (c:Cn) (h:(goodR F r && goodC F c)=true):pureOf (Psi Gv Att Exs Rs Tb (n+3) "check_room_and_cells") [famP F,.str r.1,cnP c]=some .non:=by
 have e1:=names_in_ok n c
 obtain⟨h1,h2⟩:=Bool.and_eq_true_iff.mp h
 have hz:F.cells.length≤1000000:=by omega
 have hz2:(cnN c).length≤1000000:=by cases c <;> simp [cnN]
 have e2:=call_all (fun x:Tx=>has F.cells x.1) (cnN c)
 rw [show ((cnN c).all fun x=>has F.cells x.1)=true from h2] at e2
 generalize cnP c=cp at *
 have g1:=fun S=>gNotIn_lst r F.rooms S
 rw [e_n_check_room_and_cells,pureOf_fn]
 by_cases hr:r.1=""
 ·simp [b_n_check_room_and_cells,vComp,hz,hz2,upL,cellsK,hr,e1,allK,e2]
 ·have hr2:has F.rooms r.1=true:=by simpa [goodR,hr] using h1
  rw [hr2] at g1
  simp [b_n_check_room_and_cells,vComp,hz,hz2,upL,cellsK,hr,g1,e1,allK,e2]
theorem room_bad (n:Nat) (F:Fm) (hF:F.cells.length≤12) (r:Tx) (c:Cn) (h:(goodR F r && goodC F c)=false):pureOf (Psi Gv Att Exs Rs Tb (n+3) "check_room_and_cells") [famP F,.str r.1,cnP c]=none /\
  ∀S,Xsi Gv Att Exs Rs Tb (n+3) "check_room_and_cells" [.p (famP F),.p (.str r.1),.p (cnP c)] S=some (("NoFact":Str),S):=by
 have e1:=names_in_ok n c
 have hz:F.cells.length≤1000000:=by omega
 have hz2:(cnN c).length≤1000000:=by cases c <;> simp [cnN]
 have e2:=call_all (fun x:Tx=>has F.cells x.1) (cnN c)
 have g1:=fun S=>gNotIn_lst r F.rooms S
 have hgc:((cnN c).all fun x=>has F.cells x.1)=goodC F c:=rfl
 rw [hgc] at e2
 generalize cnP c=cp at *
 rw [e_n_check_room_and_cells,pureOf_fn,xe_n_check_room_and_cells]
 by_cases hr:r.1=""
 ·have h2:goodC F c=false:=by simpa [goodR,hr] using h
  rw [h2] at e2
  refine⟨?_,fun S=>guard_no _ _ _ ?_⟩
  ·simp [b_n_check_room_and_cells,vComp,hz,hz2,upL,cellsK,hr,e1,allK,e2]
  ·simp [fnX,xb_n_check_room_and_cells,vComp,hz,hz2,upL,cellsK,hr,e1,allK,e2]
 ·cases hr2:has F.rooms r.1 with
  | true=>
   have h2:goodC F c=false:=by simpa [goodR,hr,hr2] using h
   rw [h2] at e2
   rw [hr2] at g1
   refine⟨?_,fun S=>guard_no _ _ _ ?_⟩
   ·simp [b_n_check_room_and_cells,vComp,hz,hz2,upL,cellsK,hr,g1,e1,allK,e2]
   ·simp [fnX,xb_n_check_room_and_cells,vComp,hz,hz2,upL,cellsK,hr,g1,e1,allK,e2]
  | false=>
   rw [hr2] at g1
   refine⟨?_,fun S=>guard_no _ _ _ ?_⟩
   ·simp [b_n_check_room_and_cells,vComp,hz,hz2,upL,cellsK,hr,g1,e1,allK,e2]
   ·simp [fnX,xb_n_check_room_and_cells,vComp,hz,hz2,upL,cellsK,hr,g1,e1,allK,e2]
noncomputable def famsP (fs:List Fm):P:=.dct (keysF fs) (fs.map famP)
theorem gInF (x:Str) (fs:List Fm) (S:Sto):gIn (.p (.str x)) (.p (famsP fs)) S=some (.bl (look fs x).isSome):=by
 rw [<- hasK_keys];rfl
theorem famsIx (x:Str) (fs:List Fm):dIx (famsP fs) (.str x)=(look fs x).map famP:=look_keys fs x famP
noncomputable def Chk (n:Nat) (fs:List Fm) (x:P) (b:Bool):Prop:=
 (b=true->pureOf (Psi Gv Att Exs Rs Tb (n+4) "check_part") [famsP fs,x]=some .non) /\
 (b=false->pureOf (Psi Gv Att Exs Rs Tb (n+4) "check_part") [famsP fs,x]=none/\∀S,Xsi Gv Att Exs Rs Tb (n+4) "check_part" [.p (famsP fs),.p x] S=some (("NoFact":Str),S))
@[simp] theorem call_all0:c_all [.lst []]=some (.bl true):=rfl
@[simp] theorem call_all1 (a:Bool):c_all [.lst [.bl a]]=some (.bl a):=by simp [c_all,blsOf]
@[simp] theorem call_all2 (a b:Bool):c_all [.lst [.bl a,.bl b]]=some (.bl (a && b)):=by simp [c_all,blsOf]
theorem slL (a b c d e f:P):dSl2 (.tup [a,b,c,d,e,f]) (some 1) (some 3)=some (.tup [b,c]):=rfl
theorem slK (a b c:P):dSl2 (.tup [a,b,c]) (some 1) (some 2)=some (.tup [b]):=rfl
theorem chk_wrap (n:Nat) (fs:List Fm) (w:Str) (hw:w="not"\/w="and"\/w="or") (xs:List P):Chk n fs (.tup (.str w::xs)) true:=by
 refine⟨fun _=>?_,fun h=>by cases h⟩
 generalize famsP fs=dc
 rw [e_n_check_part,pureOf_fn]
 rcases hw with rfl | rfl | rfl <;> simp [b_n_check_part,vComp,compGo,upL]
theorem chk_tru (n:Nat) (fs:List Fm):Chk n fs (.tup [.str "true"]) true:=by
 refine⟨fun _=>?_,fun h=>by cases h⟩
 generalize famsP fs=dc
 rw [e_n_check_part,pureOf_fn]
 simp [b_n_check_part,vComp,compGo,upL]
theorem chk_dry (n:Nat) (fs:List Fm):Chk n fs (.tup [.str "dry"]) true:=by
 refine⟨fun _=>?_,fun h=>by cases h⟩
 generalize famsP fs=dc
 rw [e_n_check_part,pureOf_fn]
 simp [b_n_check_part,vComp,compGo,upL]
theorem chk_lt (n:Nat) (fs:List Fm) (a b m:Tx):Chk n fs (ptP (.lt a b m)) (goodP fs (.lt a b m)):=by
 have g1:=fun S=>gInF a.1 fs S
 have g2:=fun S=>gInF b.1 fs S
 have hg:goodP fs (.lt a b m)=((look fs a.1).isSome && (look fs b.1).isSome):=rfl
 rw [hg]
 show Chk n fs (.tup [.str "letters",.str a.1,.str b.1,.str m.1,.str "=",.int 1]) _
 unfold Chk
 generalize famsP fs=dc at *
 rw [e_n_check_part,pureOf_fn,xe_n_check_part]
 refine⟨fun h=>?_,fun h=>⟨?_,fun S=>guard_no _ _ _ ?_⟩⟩
 ·simp [b_n_check_part,oSome,slL,vComp,compGo,upL,g1,g2,bYes,h]
 ·simp [b_n_check_part,oSome,slL,vComp,compGo,upL,g1,g2,bYes,h]
 ·simp [fnX,xb_n_check_part,oSome,slL,vComp,compGo,upL,g1,g2,bYes,h]
theorem chk_kn (n:Nat) (fs:List Fm) (w:Str) (hw:w="some knows"\/w="each knows") (f:Tx) (x:P):Chk n fs (.tup [.str w,.str f.1,x]) (look fs f.1).isSome:=by
 have g1:=fun S=>gInF f.1 fs S
 unfold Chk
 generalize famsP fs=dc at *
 rw [e_n_check_part,pureOf_fn,xe_n_check_part]
 refine⟨fun h=>?_,fun h=>⟨?_,fun S=>guard_no _ _ _ ?_⟩⟩
 ·rw [h] at g1
  rcases hw with rfl | rfl <;> simp [b_n_check_part,oSome,slK,vComp,compGo,upL,g1,bYes]
 ·rw [h] at g1
  rcases hw with rfl | rfl <;> simp [b_n_check_part,oSome,slK,vComp,compGo,upL,g1,bYes]
 ·rw [h] at g1
  rcases hw with rfl | rfl <;> simp [fnX,xb_n_check_part,oSome,slK,vComp,compGo,upL,g1,bYes]
theorem chk_hand (n:Nat) {fs:List Fm} (hG:Good fs) (k:Str) (hk:k="some"\/k="all"\/k="many") (f r:Tx) (c:Cn) (more:List P) (sl:dSl2 (.tup (.str k::.str f.1::.str r.1::cnP c::more)) (some 1) (some 2)=some (.tup [.str f.1])):Chk n fs (.tup (.str k::.str f.1::.str r.1::cnP c::more)) (goodH fs f r c):=by
 have g1:=fun S=>gInF f.1 fs S
 have ix:=famsIx f.1 fs
 have t0:dIx (.tup (.str k::.str f.1::.str r.1::cnP c::more)) (.int 0)=some (.str k):=by simp
 have t1:dIx (.tup (.str k::.str f.1::.str r.1::cnP c::more)) (.int 1)=some (.str f.1):=by simp
 have t2:dIx (.tup (.str k::.str f.1::.str r.1::cnP c::more)) (.int 2)=some (.str r.1):=by simp
 have t3:dIx (.tup (.str k::.str f.1::.str r.1::cnP c::more)) (.int 3)=some (cnP c):=by simp
 unfold Chk goodH
 generalize famsP fs=dc at *
 generalize P.tup (.str k::.str f.1::.str r.1::cnP c::more)=x at *
 rw [e_n_check_part,pureOf_fn,xe_n_check_part]
 cases hl:look fs f.1 with
 | none=>
  rw [hl] at g1
  refine⟨fun h=>by simp at h,fun h=>⟨?_,fun S=>guard_no _ _ _ ?_⟩⟩
  ·rcases hk with rfl | rfl | rfl <;> simp [b_n_check_part,oSome,sl,t0,vComp,compGo,upL,g1,bYes]
  ·rcases hk with rfl | rfl | rfl <;> simp [fnX,xb_n_check_part,oSome,sl,t0,vComp,compGo,upL,g1,bYes]
 | some F=>
  rw [hl] at g1 ix
  have hF:=(hG.all F (look_mem hl)).2
  dsimp only
  refine⟨fun h=>?_,fun h=>?_⟩
  ·have e1:=room_good n F hF r c h
   rcases hk with rfl | rfl | rfl <;> simp [b_n_check_part,oSome,sl,t0,t1,t2,t3,vComp,compGo,upL,g1,bYes,ix,e1]
  ·obtain⟨e1,e2⟩:=room_bad n F hF r c h
   refine⟨?_,fun S=>guard_no _ _ _ ?_⟩
   ·rcases hk with rfl | rfl | rfl <;> simp [b_n_check_part,oSome,sl,t0,t1,t2,t3,vComp,compGo,upL,g1,bYes,ix,e1]
   ·rcases hk with rfl | rfl | rfl <;> simp [fnX,xb_n_check_part,oSome,sl,t0,t1,t2,t3,vComp,compGo,upL,g1,bYes,ix,e2]
end My
namespace My
open PySem L2 Ev
noncomputable def ptB (fs:List Fm):Pt->List (P×Bool)
 | .sk f r c=>[(ptP (.sk f r c),(look fs f.1).isSome),(ptP (.som f r c),goodH fs f r c)]
 | .ek f r c=>[(ptP (.ek f r c),(look fs f.1).isSome),(ptP (.som f r c),goodH fs f r c)]
 | p=>[(ptP p,goodP fs p)]
noncomputable def ftB (fs:List Fm):Ft->List (P×Bool)
 | .one p=>ptB fs p
 | .nt p=>(ftP (.nt p),true)::ptB fs p
 | .an p q=>(ftP (.an p q),true)::(ptB fs p++ptB fs q)
 | .or p q=>(ftP (.or p q),true)::(ptB fs p++ptB fs q)
theorem parts_pt (n:Nat) (fs:List Fm) (p:Pt):pureOf (Psi Gv Att Exs Rs Tb (n+4) "parts_of") [ptP p]=some (.lst ((ptB fs p).map (·.1))):=by
 cases p <;> kernel_rfl
theorem ptB_len (fs:List Fm) (p:Pt):(ptB fs p).length≤2:=by cases p <;> simp [ptB]
theorem parts_ft (n:Nat) (fs:List Fm) (f:Ft):pureOf (Psi Gv Att Exs Rs Tb (n+5) "parts_of") [ftP f]=some (.lst ((ftB fs f).map (·.1))):=by
 cases f with
 | one p=>exact parts_pt (n+1) fs p
 | nt p=>
  have e1:=parts_pt n fs p
  have hl:=ptB_len fs p
  have hz:1+(ptB fs p).length≤1000000:=by omega
  simp only [ftP,ftB]
  generalize ptP p=x at *
  generalize ptB fs p=xs at *
  rw [e_n_parts_of,pureOf_fn]
  simp [b_n_parts_of,e1,hz]
 | an p q=>
  have e1:=parts_pt n fs p
  have e2:=parts_pt n fs q
  have hl:=ptB_len fs p
  have hl2:=ptB_len fs q
  have hz:1+(ptB fs p).length≤1000000:=by omega
  have hz2:(ptB fs p).length+1+(ptB fs q).length≤1000000:=by omega
  simp only [ftP,ftB]
  generalize ptP p=x at *
  generalize ptP q=y at *
  generalize ptB fs p=xs at *
  generalize ptB fs q=ys at *
  rw [e_n_parts_of,pureOf_fn]
  simp [b_n_parts_of,e1,e2,hz,hz2]
 | or p q=>
  have e1:=parts_pt n fs p
  have e2:=parts_pt n fs q
  have hl:=ptB_len fs p
  have hl2:=ptB_len fs q
  have hz:1+(ptB fs p).length≤1000000:=by omega
  have hz2:(ptB fs p).length+1+(ptB fs q).length≤1000000:=by omega
  simp only [ftP,ftB]
  generalize ptP p=x at *
  generalize ptP q=y at *
  generalize ptB fs p=xs at *
  generalize ptB fs q=ys at *
  rw [e_n_parts_of,pureOf_fn]
  simp [b_n_parts_of,e1,e2,hz,hz2]
theorem ptB_all (fs:List Fm) (p:Pt):(ptB fs p).all (·.2)=goodP fs p:=by
 cases p with
 | sk f r c=>simp only [ptB,List.all_cons,List.all_nil,Bool.and_true,goodP,goodH];cases look fs f.1 <;> simp
 | ek f r c=>simp only [ptB,List.all_cons,List.all_nil,Bool.and_true,goodP,goodH];cases look fs f.1 <;> simp
 | _=>simp [ptB]
theorem ftB_all (fs:List Fm) (f:Ft):(ftB fs f).all (·.2)=goodF fs f:=by
 cases f <;> simp [ftB,ptB_all,goodF,List.all_append]
theorem ptB_chk (n:Nat) {fs:List Fm} (h:Good fs) (p:Pt):∀x ∈ ptB fs p,Chk n fs x.1 x.2:=by
 intro x hx
 cases p with
 | lt a b m=>simp only [ptB,List.mem_singleton] at hx;subst hx;exact chk_lt n fs a b m
 | tru=>simp only [ptB,List.mem_singleton] at hx;subst hx;exact chk_tru n fs
 | dry=>simp only [ptB,List.mem_singleton] at hx;subst hx;exact chk_dry n fs
 | som f r c=>simp only [ptB,List.mem_singleton] at hx;subst hx;exact chk_hand n h "some" (.inl rfl) f r c [] rfl
 | all f r c=>simp only [ptB,List.mem_singleton] at hx;subst hx;exact chk_hand n h "all" (.inr (.inl rfl)) f r c [] rfl
 | many f r c=>simp only [ptB,List.mem_singleton] at hx;subst hx;exact chk_hand n h "many" (.inr (.inr rfl)) f r c [.str ">",.int 0] rfl
 | sk f r c=>
  simp only [ptB,List.mem_cons,List.not_mem_nil,or_false] at hx
  rcases hx with rfl | rfl
  ·exact chk_kn n fs "some knows" (.inl rfl) f _
  ·exact chk_hand n h "some" (.inl rfl) f r c [] rfl
 | ek f r c=>
  simp only [ptB,List.mem_cons,List.not_mem_nil,or_false] at hx
  rcases hx with rfl | rfl
  ·exact chk_kn n fs "each knows" (.inr rfl) f _
  ·exact chk_hand n h "some" (.inl rfl) f r c [] rfl
theorem ftB_chk (n:Nat) {fs:List Fm} (h:Good fs) (f:Ft):∀x ∈ ftB fs f,Chk n fs x.1 x.2:=by
 intro x hx
 cases f with
 | one p=>exact ptB_chk n h p x hx
 | nt p=>
  rcases List.mem_cons.mp hx with rfl | hx
  ·exact chk_wrap n fs "not" (.inl rfl) _
  ·exact ptB_chk n h p x hx
 | an p q=>
  rcases List.mem_cons.mp hx with rfl | hx
  ·exact chk_wrap n fs "and" (.inr (.inl rfl)) _
  ·rcases List.mem_append.mp hx with hx | hx
   ·exact ptB_chk n h p x hx
   ·exact ptB_chk n h q x hx
 | or p q=>
  rcases List.mem_cons.mp hx with rfl | hx
  ·exact chk_wrap n fs "or" (.inr (.inr rfl)) _
  ·rcases List.mem_append.mp hx with hx | hx
   ·exact ptB_chk n h p x hx
   ·exact ptB_chk n h q x hx
noncomputable def cpS (n:Nat):ES:=sDrop (eV (vCall (pureOf (Psi Gv Att Exs Rs Tb (n+4) "check_part")) (vsCons (vE (eVar 2)) (vsCons (vE (eVar 4)) vsNil))))
noncomputable def cpX (n:Nat):EX:=xCallX (Xsi Gv Att Exs Rs Tb (n+4) "check_part") (dsCons (eVar 2) (dsCons (eVar 4) dsNil))
theorem parts_good (n:Nat) (fs:List Fm) (a0 a1 a3:Option D) (S:Sto):∀(xs:List (P×Bool)) (q:Option D),(∀x ∈ xs,Chk n fs x.1 x.2)->xs.all (·.2)=true ->
  ∃q',forGo (gSet 4) (cpS n) (xs.map (·.1)) [a0,a1,some (.p (famsP fs)),a3,q] S=some (.nx,[a0,a1,some (.p (famsP fs)),a3,q'],S)
 | [],q,_,_=>⟨q,rfl⟩
 | x::xs,q,h,ha=>by
  rw [List.all_cons,Bool.and_eq_true] at ha
  obtain⟨q',e⟩:=parts_good n fs a0 a1 a3 S xs (some (.p x.1)) (fun y hy=>h y (List.mem_cons_of_mem _ hy)) ha.2
  have e1:=(h x List.mem_cons_self).1 ha.1
  refine⟨q',(forGo_nx rfl ?_).trans e⟩
  simp [cpS,e1]
theorem parts_bad (n:Nat) (fs:List Fm) (a0 a1 a3:Option D) (S:Sto):∀(xs:List (P×Bool)) (q:Option D),(∀x ∈ xs,Chk n fs x.1 x.2)->xs.all (·.2)=false ->
  forGo (gSet 4) (cpS n) (xs.map (·.1)) [a0,a1,some (.p (famsP fs)),a3,q] S=none/\∃L',xForGo (gSet 4) (cpS n) (cpX n) (xs.map (·.1)) [a0,a1,some (.p (famsP fs)),a3,q] S=some (("NoFact":Str),L',S)
 | [],q,_,ha=>by cases ha
 | x::xs,q,h,ha=>by
  cases hb:x.2 with
  | true=>
   rw [List.all_cons,hb,Bool.true_and] at ha
   obtain⟨e2,L',e3⟩:=parts_bad n fs a0 a1 a3 S xs (some (.p x.1)) (fun y hy=>h y (List.mem_cons_of_mem _ hy)) ha
   have e1:=(h x List.mem_cons_self).1 hb
   have e4:cpS n [a0,a1,some (.p (famsP fs)),a3,some (.p x.1)] S=some (.nx,[a0,a1,some (.p (famsP fs)),a3,some (.p x.1)],S):=by simp [cpS,e1]
   refine⟨(forGo_nx rfl e4).trans e2,L',?_⟩
   rw [List.map_cons]
   simp only [xForGo,gSet_ev,List.set_cons_succ,List.set_cons_zero,e4]
   exact e3
  | false=>
   obtain⟨e1,e2⟩:=(h x List.mem_cons_self).2 hb
   have e4:cpS n [a0,a1,some (.p (famsP fs)),a3,some (.p x.1)] S=none:=by simp [cpS,e1]
   have e5:=e2 S
   refine⟨?_,[a0,a1,some (.p (famsP fs)),a3,some (.p x.1)],?_⟩
   ·rw [List.map_cons]
    simp [forGo,e4]
   ·rw [List.map_cons]
    simp only [xForGo,gSet_ev,List.set_cons_succ,List.set_cons_zero,e4]
    simp [cpX,e5]
noncomputable def ftS (n:Nat):ES:=sFor (itS (vCall (pureOf (Psi Gv Att Exs Rs Tb (n+5) "parts_of")) (vsCons (vE (eVar 3)) vsNil))) (gSet 4) (cpS (n+1))
noncomputable def ftX (n:Nat):EX:=xFor (itS (vCall (pureOf (Psi Gv Att Exs Rs Tb (n+5) "parts_of")) (vsCons (vE (eVar 3)) vsNil))) (gSet 4) (cpS (n+1)) (cpX (n+1))
theorem fact_good (n:Nat) {fs:List Fm} (h:Good fs) (a0 a1 q:Option D) (S:Sto) (f:Ft) (hf:goodF fs f=true):∃q',ftS n [a0,a1,some (.p (famsP fs)),some (.p (ftP f)),q] S=some (.nx,[a0,a1,some (.p (famsP fs)),some (.p (ftP f)),q'],S):=by
 have e1:=parts_ft n fs f
 obtain⟨q',e2⟩:=parts_good (n+1) fs a0 a1 (some (.p (ftP f))) S (ftB fs f) q (ftB_chk (n+1) h f) (by rw [ftB_all];exact hf)
 exact⟨q',by simp [ftS,e1,e2]⟩
theorem fact_bad (n:Nat) {fs:List Fm} (h:Good fs) (a0 a1 q:Option D) (S:Sto) (f:Ft) (hf:goodF fs f=false):ftS n [a0,a1,some (.p (famsP fs)),some (.p (ftP f)),q] S=none/\∃L',ftX n [a0,a1,some (.p (famsP fs)),some (.p (ftP f)),q] S=some (("NoFact":Str),L',S):=by
 have e1:=parts_ft n fs f
 obtain⟨e2,L',e3⟩:=parts_bad (n+1) fs a0 a1 (some (.p (ftP f))) S (ftB fs f) q (ftB_chk (n+1) h f) (by rw [ftB_all];exact hf)
 exact⟨by simp [ftS,e1,e2],L',by simp [ftX,e1,e3]⟩
theorem facts_good (n:Nat) {fs:List Fm} (h:Good fs) (a0 a1:Option D) (S:Sto):∀(gs:List Ft) (q3 q4:Option D),gs.all (goodF fs)=true->∃q3' q4',forGo (gSet 3) (ftS n) (gs.map ftP) [a0,a1,some (.p (famsP fs)),q3,q4] S=some (.nx,[a0,a1,some (.p (famsP fs)),q3',q4'],S)
 | [],q3,q4,_=>⟨q3,q4,rfl⟩
 | f::gs,q3,q4,ha=>by
  rw [List.all_cons,Bool.and_eq_true] at ha
  obtain⟨q',e1⟩:=fact_good n h a0 a1 q4 S f ha.1
  obtain⟨q3',q4',e2⟩:=facts_good n h a0 a1 S gs (some (.p (ftP f))) q' ha.2
  exact⟨q3',q4',(forGo_nx rfl e1).trans e2⟩
theorem facts_bad (n:Nat) {fs:List Fm} (h:Good fs) (a0 a1:Option D) (S:Sto):∀(gs:List Ft) (q3 q4:Option D),gs.all (goodF fs)=false->forGo (gSet 3) (ftS n) (gs.map ftP) [a0,a1,some (.p (famsP fs)),q3,q4] S=none/\∃L',xForGo (gSet 3) (ftS n) (ftX n) (gs.map ftP) [a0,a1,some (.p (famsP fs)),q3,q4] S=some (("NoFact":Str),L',S)
 | [],q3,q4,ha=>by cases ha
 | f::gs,q3,q4,ha=>by
  cases hb:goodF fs f with
  | true=>
   rw [List.all_cons,hb,Bool.true_and] at ha
   obtain⟨q',e1⟩:=fact_good n h a0 a1 q4 S f hb
   obtain⟨e2,L',e3⟩:=facts_bad n h a0 a1 S gs (some (.p (ftP f))) q' ha
   refine⟨(forGo_nx rfl e1).trans e2,L',?_⟩
   rw [List.map_cons]
   simp only [xForGo,gSet_ev,List.set_cons_succ,List.set_cons_zero,e1]
   exact e3
  | false=>
   obtain⟨e1,L',e2⟩:=fact_bad n h a0 a1 q4 S f hb
   refine⟨?_,L',?_⟩
   ·rw [List.map_cons]
    simp [forGo,e1]
   ·rw [List.map_cons]
    simp only [xForGo,gSet_ev,List.set_cons_succ,List.set_cons_zero,e1]
    exact e2
end My
namespace My
open PySem L2 Ev
theorem dict_ok {fs:List Fm} (h:Good fs):c_dict [.lst (fs.map fun f=>P.tup [.str f.nm.1,famP f])]=some (famsP fs):=by
 cases h with
 | one=>simp [c_dict,pairsOf,keyOf,famsP,keysF]
 | two _ _ _ _ hne=>simp [c_dict,pairsOf,keyOf,famsP,keysF,hne]
theorem pairComp (a0 a1 a2 a3 a4:Option D) (S:Sto) (fs:List Fm) (q:Option D):compGo (gSet 5) bYes (vTup' (vsCons (vOp dIx (vE (eVar 5)) (vC (.int 0))) (vsCons (vE (eVar 5)) vsNil))) (fs.map famP) [a0,a1,a2,a3,a4,q] S=some (fs.map (fun f=>P.tup [.str f.nm.1,famP f]),S):=
 comp_all (fun q=>[a0,a1,a2,a3,a4,q]) (fun q v=>rfl) (fun x=>by simp) fs q
noncomputable def isGs (gs:List Ft):Prop:=∃f,gs=[f]\/∃g,gs=[f,g]
theorem say_sl (w:Tx) {gs:List Ft} (h:isGs gs):dSl2 (sayP w gs) (some 1) none=some (.tup (gs.map ftP)):=by
 obtain⟨f,rfl | ⟨g,rfl⟩⟩:=h
 ·exact sl2 _ _
 ·exact sl3 _ _ _
theorem L2_is (n:Nat) (ι:Str->GF) (υ:Str->GX):b_n_check_saying_L2 (Psi Gv Att Exs Rs Tb (n+5)) ι υ=ftS n:=rfl
theorem cs_good (n:Nat) {fs:List Fm} (h:Good fs) (w:Tx) {gs:List Ft} (hg:isGs gs) (ha:gs.all (goodF fs)=true):pureOf (Psi Gv Att Exs Rs Tb (n+6) "check_saying") [planP fs,sayP w gs]=some .non:=by
 have hl:fs.length≤1000000:=by have:=h.len;omega
 have e1:=say_sl w hg
 have p0:=plan0 fs
 have e2:=dict_ok h
 generalize planP fs=pl at *
 generalize sayP w gs=sp at *
 obtain⟨q3,q4,e3⟩:=facts_good n h (some (.p pl)) (some (.p sp)) [] gs none none ha
 rw [e_n_check_saying,pureOf_fn]
 simp [b_n_check_saying,p0,vComp,hl,upL,pairComp,e2,oSome,oNone,e1,L2_is,e3]
theorem cs_bad (n:Nat) {fs:List Fm} (h:Good fs) (w:Tx) {gs:List Ft} (hg:isGs gs) (ha:gs.all (goodF fs)=false):pureOf (Psi Gv Att Exs Rs Tb (n+6) "check_saying") [planP fs,sayP w gs]=none /\
  ∀S,Xsi Gv Att Exs Rs Tb (n+6) "check_saying" [.p (planP fs),.p (sayP w gs)] S=some (("NoFact":Str),S):=by
 have hl:fs.length≤1000000:=by have:=h.len;omega
 have e1:=say_sl w hg
 have p0:=plan0 fs
 have e2:=dict_ok h
 generalize planP fs=pl at *
 generalize sayP w gs=sp at *
 have e3:=fun S=>facts_bad n h (some (.p pl)) (some (.p sp)) S gs none none ha
 rw [e_n_check_saying,pureOf_fn,xe_n_check_saying]
 refine⟨?_,fun S=>guard_no _ _ _ ?_⟩
 ·simp [b_n_check_saying,p0,vComp,hl,upL,pairComp,e2,oSome,oNone,e1,L2_is,(e3 []).1]
 ·obtain⟨L',e4⟩:=(e3 S).2
  have hx:xb_n_check_saying (Psi Gv Att Exs Rs Tb (n+5)) (Psi Gv Att Exs Rs Tb (n+4)) (Xsi Gv Att Exs Rs Tb (n+5))=xSeq (sSet 2 (eV (vCall c_dict (vsCons (vComp (itS (vOp dIx (vE (eVar 0)) (vC (.int 0)))) [] 1 (gSet 5) bYes (vTup' (vsCons (vOp dIx (vE (eVar 5)) (vC (.int 0))) (vsCons (vE (eVar 5)) vsNil)))) vsNil)))) xNo
   (xFor (itS (vSl2 (vE (eVar 1)) (oSome (vC (.int 1))) oNone)) (gSet 3) (ftS n) (ftX n)):=rfl
  rw [hx]
  simp [fnX,p0,vComp,hl,upL,pairComp,e2,oSome,oNone,e1,e4]
theorem goodsComp (n:Nat) {fs:List Fm} (h:Good fs) (a1 a2 a3 a4:Option D) (S:Sto) (gs:List Ft) (q:Option D):compGo (gSet 5) bYes (vCall (pureOf (Psi Gv Att Exs Rs Tb (n+11) "_law_good")) (vsCons (vE (eVar 0)) (vsCons (vE (eVar 5)) vsNil))) (gs.map ftP) [some (.p (planP fs)),a1,a2,a3,a4,q] S=some (gs.map (fun f=>P.bl (goodF fs f)),S):=
 comp_all (fun q=>[some (.p (planP fs)),a1,a2,a3,a4,q]) (fun q v=>rfl) (fun f=>by simp [good_ft n h f]) gs q
theorem noFalseF (g:Ft->Bool) (gs:List Ft) (S:Sto):gNotIn (.p (.bl false)) (.p (.lst (gs.map fun f=>P.bl (g f)))) S=some (.bl (gs.all g)):=by
 have:=noFalse (gs.map g) S
 rw [List.map_map,List.all_map] at this
 exact this
theorem isNo:(Rs.contains ("NoFact":Str) && (Exs.lookup ("NoFact":Str)).any fun anc=>anc.contains "RoadError")=true:=by decide +kernel
theorem ans1:ansOf Exs Rs ["NoDeed","NoLine","NoPlan","NoRow","NoText","NotPossible","NoThing","TooMany"] "NoFact"=some false:=by decide +kernel
theorem ans2:ansOf Exs Rs ["NoFact"] "NoFact"=some true:=by decide +kernel
theorem ans3:ansOf Exs Rs ["ValueError"] "NoFact"=some true:=by decide +kernel
theorem right_ok (n:Nat) {fs:List Fm} (h:Good fs) (w:Tx) {gs:List Ft} (hg:isGs gs):pureOf (Psi Gv Att Exs Rs Tb (n+12) "_law_right") [planP fs,sayP w gs]=some (.bl true):=by
 have e1:=say_sl w hg
 have hz:gs.length≤1000000:=by obtain⟨f,rfl | ⟨g,rfl⟩⟩:=hg <;> simp
 have e2:=fun a1 a2 a3 a4 S q=>goodsComp n h a1 a2 a3 a4 S gs q
 have e3:=noFalseF (goodF fs) gs
 rw [e_n_law_right,pureOf_fn]
 cases ha:gs.all (goodF fs) with
 | true=>
  have c1:=cs_good (n+5) h w hg ha
  rw [ha] at e3
  generalize planP fs=pl at *
  generalize sayP w gs=sp at *
  simp [b_n_law_right,sTry,c1,oSome,oNone,e1,vComp,hz,upL,e2,e3,gIs,isNon]
 | false=>
  obtain⟨c1,c2⟩:=cs_bad (n+5) h w hg ha
  have c3:=c2 []
  rw [ha] at e3
  generalize planP fs=pl at *
  generalize sayP w gs=sp at *
  have i1:isiX (ansOf Exs Rs ["NoDeed","NoLine","NoPlan","NoRow","NoText","NotPossible","NoThing","TooMany"]) (.ref 0) [.exc "NoFact"]=some false:=ans1
  have i2:isiX (ansOf Exs Rs ["NoFact"]) (.ref 0) [.exc "NoFact"]=some true:=ans2
  have i3:isiX (ansOf Exs Rs ["ValueError"]) (.ref 0) [.exc "NoFact"]=some true:=ans3
  have sub:=isNo
  have tr:sTry (sSet 3 (eV (vCall (pureOf (Psi Gv Att Exs Rs Tb (n+11) "check_saying")) (vsCons (vE (eVar 0)) (vsCons (vE (eVar 1)) vsNil))))) (xCallX (Xsi Gv Att Exs Rs Tb (n+11) "check_saying") (dsCons (eVar 0) (dsCons (eVar 1) dsNil))) (fun c'=>Rs.contains c' && (Exs.lookup c').any fun anc=>anc.contains "RoadError") 4 (sSet 2 (eVar 4)) [some (.p pl),some (.p sp),some (.p .non),some (.p .non),none] []=some (.nx,[some (.p pl),some (.p sp),some (.ref 0),some (.p .non),none],[.exc "NoFact"]):=by
   unfold sTry
   have f0:sSet 3 (eV (vCall (pureOf (Psi Gv Att Exs Rs Tb (n+11) "check_saying")) (vsCons (vE (eVar 0)) (vsCons (vE (eVar 1)) vsNil)))) [some (.p pl),some (.p sp),some (.p .non),some (.p .non),none] []=none:=by simp [c1]
   have f1:xCallX (Xsi Gv Att Exs Rs Tb (n+11) "check_saying") (dsCons (eVar 0) (dsCons (eVar 1) dsNil)) [some (.p pl),some (.p sp),some (.p .non),some (.p .non),none] []=some (("NoFact":Str),[some (.p pl),some (.p sp),some (.p .non),some (.p .non),none],[]):=by simp [c3]
   rw [f0,f1]
   dsimp only
   rw [if_pos sub]
   rfl
  unfold b_n_law_right
  simp only [sSeq_ev,sSet_ev,eV_ev,vC_ev,bnd_some,List.map_cons,List.map_nil,List.length_cons,List.length_nil,List.cons_append,List.nil_append,List.set_cons_succ,List.set_cons_zero,Nat.reduceAdd,Nat.reduceSub,List.replicate_succ,List.replicate_zero,if_true]
  rw [tr]
  simp [oSome,oNone,e1,vComp,hz,upL,e2,e3,i1,i2,i3]
end My
namespace My
open PySem L2 Ev
theorem nums_of:∀ns:List Int,Ev.numsOf (ns.map P.int)=some ns
 | []=>rfl
 | x::xs=>by simp [Ev.numsOf,nums_of xs]
theorem law_step (n:Nat) {fs:List Fm} (h:Good fs) (N:List Tx) (hN:N.length=12) (tot:Int) (hp:pureOf (Psi Gv Att Exs Rs Tb (n+13) "_law_plan") [.int tot]=some (planP fs)) (ι:Str->GF) (υ:Str->GX) (a0 a1 q6:Option D) (c:Int) :
  ∃q6',b_n_law_L1 (Psi Gv Att Exs Rs Tb (n+13)) ι υ [a0,a1,some (.p (.int tot)),some (.p (planP fs)),some (.p (.lst (N.map tS))),some (.p (.int c)),q6] []=some (.nx,[a0,a1,some (.p (.int tot)),some (.p (planP fs)),some (.p (.lst (N.map tS))),some (.p (.int c)),q6'],[]):=by
 obtain⟨w,gs,hg,e1⟩:=saying_ex (n+7) h N hN c
 have e2:=right_ok (n+1) h w hg
 have n1:=neD_self (plan_ok fs)
 have n2:=neD_self (say_ok w gs)
 refine⟨some (.p (sayP w gs)),?_⟩
 generalize planP fs=pl at *
 generalize sayP w gs=sp at *
 simp [b_n_law_L1,e1,e2,hp,n1,n2]
theorem law_loop (n:Nat) {fs:List Fm} (h:Good fs) (N:List Tx) (hN:N.length=12) (tot:Int) (hp:pureOf (Psi Gv Att Exs Rs Tb (n+13) "_law_plan") [.int tot]=some (planP fs)) (ι:Str->GF) (υ:Str->GX) (a0 a1:Option D):∀(cs:List Int) (q5 q6:Option D),
  ∃q5' q6',forGo (gSet 5) (b_n_law_L1 (Psi Gv Att Exs Rs Tb (n+13)) ι υ) (cs.map P.int) [a0,a1,some (.p (.int tot)),some (.p (planP fs)),some (.p (.lst (N.map tS))),q5,q6] []=some (.nx,[a0,a1,some (.p (.int tot)),some (.p (planP fs)),some (.p (.lst (N.map tS))),q5',q6'],[])
 | [],q5,q6=>⟨q5,q6,rfl⟩
 | c::cs,q5,q6=>by
  obtain⟨p6,e1⟩:=law_step n h N hN tot hp ι υ a0 a1 q6 c
  obtain⟨q5',q6',e2⟩:=law_loop n h N hN tot hp ι υ a0 a1 cs (some (.p (.int c))) p6
  exact⟨q5',q6',(forGo_nx rfl e1).trans e2⟩
theorem cut40 {α:Type} (xs:List α):(Ev.cut xs none (some 40)).length≤40:=by
 unfold Ev.cut
 have:HT.sIx xs.length xs.length (some 40)≤40:=by
  unfold HT.sIx
  simp
  omega
 rw [List.length_take];omega
theorem c_sum_is (cs:List Int):c_sum [.lst (cs.map P.int)]=some (.int cs.sum):=by
 show (Ev.numsOf _).map _=_
 rw [nums_of]
 rfl
theorem law_key (n:Nat) (sc:P) (cl:List P) (cs:List Int) (tot:Int) (s1:dSl2 sc none (some 40)=some (.lst cl)) (s2:dAdd2 (.lst cl) (.lst [.int 0])=some (.lst (cs.map P.int))) (s3:c_sum [.lst (cs.map P.int)]=some (.int tot)):pureOf (Psi Gv Att Exs Rs Tb (n+14) "law") [sc]=some (.bl true):=by
 obtain⟨fs,h,e1⟩:=plan_ex (n+7) tot
 obtain⟨m,t,e2⟩:=names_ex (n+9) tot
 have hN:((List.range 12).map (nmK m t)).length=12:=by rw [List.length_map,List.length_range]
 obtain⟨q5,q6,lp⟩:=law_loop n h ((List.range 12).map (nmK m t)) hN tot e1 (Psi Gv Att Exs Rs Tb (n+12)) (Xsi Gv Att Exs Rs Tb (n+13)) (some (.p sc)) (some (.p (.lst (cs.map P.int)))) cs none none
 generalize ((List.range 12).map (nmK m t)).map tS=nl at e2 lp
 generalize planP fs=pl at e1 lp
 rw [e_n_law,pureOf_fn]
 simp only [List.map_cons,List.map_nil,List.length_cons,List.length_nil,List.cons_append,List.nil_append,Nat.reduceAdd,Nat.reduceSub,List.replicate_succ,List.replicate_zero,if_true]
 have l1:sSet 1 (eV (vOp dAdd2 (vSl2 (vE (eVar 0)) oNone (oSome (vC (.int 40)))) (vLst' (vsCons (vC (.int 0)) vsNil)))) [some (.p sc),none,none,none,none,none,none] []=some (.nx,[some (.p sc),some (.p (.lst (cs.map P.int))),none,none,none,none,none],[]):=by
  simp [oSome,oNone,s1,s2,-dAdd2_lst]
 have l2:sSet 2 (eV (vCall c_sum (vsCons (vE (eVar 1)) vsNil))) [some (.p sc),some (.p (.lst (cs.map P.int))),none,none,none,none,none] []=some (.nx,[some (.p sc),some (.p (.lst (cs.map P.int))),some (.p (.int tot)),none,none,none,none],[]):=by
  simp [s3]
 unfold b_n_law
 rw [seq_nx l1,seq_nx l2]
 simp [e1,e2,lp]
theorem law_val (n:Nat) (ns:List Int):pureOf (Psi Gv Att Exs Rs Tb (n+14) "law") [.ro (ns.map P.int)]=some (.bl true):=by
 refine law_key n _ (Ev.cut (ns.map P.int) none (some 40)) (Ev.cut ns none (some 40)++[0]) _ rfl ?_ (c_sum_is _)
 rw [dAdd2_lst,if_pos,cut_map]
 ·simp
 ·rw [capN_ev]
  have:=cut40 (ns.map P.int)
  simp
  omega
theorem law_true {K:PySem.W.Frag}{H:Hp}{a:Addr}{ns:List Int} (hl:ns.length≤63) (hO:Only H) (hS:SqL K H a (ns.map V.int)):Ev.spR K (Ev.Psi My.Gv My.Att My.Exs My.Rs My.Tb 200 "law") [.ref a] H (fun v _=>v=.bl true) (fun _ _ _=>False):=law_of hO hS (law_val 186 ns)
end My
noncomputable def PySem.W.Fast.tw10346874980593020188:Unit:=()
noncomputable def PySem.W.Fast.tw12057087242631838156:Unit:=()
noncomputable def PySem.W.Fast.tw14298090738357175905:Unit:=()
noncomputable def PySem.W.Fast.tw16527876272547020304:Unit:=()
noncomputable def PySem.W.Fast.tw1691160820951597340:Unit:=()
noncomputable def PySem.W.Fast.tw10824802744430547367:Unit:=()
noncomputable def PySem.W.Fast.tw13415625078904544917:Unit:=()
noncomputable def PySem.W.Fast.tw16669054390158937913:Unit:=()
noncomputable def PySem.W.Fast.tw3188728091000739295:Unit:=()
noncomputable def PySem.W.Fast.tw645166293707665602:Unit:=()
noncomputable def PySem.W.Fast.tw12049247778721081910:Unit:=()
noncomputable def PySem.W.Fast.tw5957783607166691700:Unit:=()
noncomputable def PySem.W.Fast.tw10353161928313196663:Unit:=()
noncomputable def PySem.W.Fast.tw7873341934800392465:Unit:=()
noncomputable def PySem.W.Fast.tw17528180212372608252:Unit:=()
noncomputable def PySem.W.Fast.tw17645566013184663337:Unit:=()
noncomputable def PySem.W.Fast.tw8015793066215805366:Unit:=()
noncomputable def PySem.W.Fast.tw10472819393355092226:Unit:=()
noncomputable def PySem.W.Fast.tw14006555454261884317:Unit:=()
noncomputable def PySem.W.Fast.tw8538959472083602609:Unit:=()
noncomputable def PySem.W.Fast.tw7094999021046647881:Unit:=()
noncomputable def PySem.W.Fast.tw9135185415727454342:Unit:=()
noncomputable def PySem.W.Fast.tw747984582050524072:Unit:=()
noncomputable def PySem.W.Fast.tw16510163618908850467:Unit:=()
noncomputable def PySem.W.Fast.tw15906137073754854449:Unit:=()
noncomputable def PySem.W.Fast.tw9048501375785330066:Unit:=()
noncomputable def PySem.W.Fast.tw4650138802562096342:Unit:=()
noncomputable def PySem.W.Fast.tw14762524837002266588:Unit:=()
noncomputable def PySem.W.Fast.tw1934180666155936314:Unit:=()
noncomputable def PySem.W.Fast.tw5871841798541237683:Unit:=()
noncomputable def PySem.W.Fast.tw6019613480222765088:Unit:=()
noncomputable def PySem.W.Fast.tw7384872993424558341:Unit:=()
noncomputable def PySem.W.Fast.tw3668696611964986419:Unit:=()
noncomputable def PySem.W.Fast.tw14652742292583536946:Unit:=()
noncomputable def PySem.W.Fast.tw13087002216135773776:Unit:=()
noncomputable def PySem.W.Fast.tw11536067135336644840:Unit:=()
noncomputable def PySem.W.Fast.tw15683307020254551473:Unit:=()
noncomputable def PySem.W.Fast.tw2624560257301969861:Unit:=()
noncomputable def PySem.W.Fast.tw16168509868557315160:Unit:=()
noncomputable def PySem.W.Fast.tw6760744769924220713:Unit:=()
noncomputable def PySem.W.Fast.tw5630576822249851200:Unit:=()
noncomputable def PySem.W.Fast.tw6588272498900939227:Unit:=()
noncomputable def PySem.W.Fast.tw3636760804581599281:Unit:=()
noncomputable def PySem.W.Fast.tw17762870212057573021:Unit:=()
noncomputable def PySem.W.Fast.tw224682684132594167:Unit:=()
noncomputable def PySem.W.Fast.tw5477316838745226226:Unit:=()
noncomputable def PySem.W.Fast.tw14212253834696913236:Unit:=()
noncomputable def PySem.W.Fast.tw11957829066919718094:Unit:=()
noncomputable def PySem.W.Fast.tw8276166378979706091:Unit:=()
noncomputable def PySem.W.Fast.tw4678088435266502838:Unit:=()
noncomputable def PySem.W.Fast.tw14179117944596694823:Unit:=()
noncomputable def PySem.W.Fast.tw976117718857160594:Unit:=()
noncomputable def PySem.W.Fast.tw11432158853500513418:Unit:=()
noncomputable def PySem.W.Fast.tw18256472707192023942:Unit:=()
noncomputable def PySem.W.Fast.tw3593957802356062088:Unit:=()
noncomputable def PySem.W.Fast.tw5104378344544715453:Unit:=()
noncomputable def PySem.W.Fast.tw5587284605416524439:Unit:=()
noncomputable def PySem.W.Fast.tw7755603570369688:Unit:=()
noncomputable def PySem.W.Fast.tw4184473633811803665:Unit:=()
noncomputable def PySem.W.Fast.tw13043464555345206272:Unit:=()
noncomputable def PySem.W.Fast.tw16324932677284742299:Unit:=()
noncomputable def PySem.W.Fast.tw13687318180613665246:Unit:=()
noncomputable def PySem.W.Fast.tw3343018154862160352:Unit:=()
noncomputable def PySem.W.Fast.tw14991057808975913803:Unit:=()
noncomputable def PySem.W.Fast.tw8182265758454659802:Unit:=()
noncomputable def PySem.W.Fast.tw5337563041551440620:Unit:=()
noncomputable def PySem.W.Fast.tw5368337442822027370:Unit:=()
noncomputable def PySem.W.Fast.tw9503262884186253647:Unit:=()
noncomputable def PySem.W.Fast.tw10391632023223559564:Unit:=()
noncomputable def PySem.W.Fast.tw10787077765428331977:Unit:=()
noncomputable def PySem.W.Fast.tw2921089739090167977:Unit:=()
noncomputable def PySem.W.Fast.tw10801026145613719481:Unit:=()
noncomputable def PySem.W.Fast.tw14198884731797841839:Unit:=()
noncomputable def PySem.W.Fast.tw13504004564409920840:Unit:=()
noncomputable def PySem.W.Fast.tw12548762035334368502:Unit:=()
noncomputable def PySem.W.Fast.tw13216789434761941259:Unit:=()
noncomputable def PySem.W.Fast.tw11258579757161459175:Unit:=()
noncomputable def PySem.W.Fast.tw1301227001143152233:Unit:=()
noncomputable def PySem.W.Fast.tw1687616048452069561:Unit:=()
noncomputable def PySem.W.Fast.tw13275944546639709502:Unit:=()
noncomputable def PySem.W.Fast.tw13321420118061718286:Unit:=()
noncomputable def PySem.W.Fast.tw15905117418097694432:Unit:=()
noncomputable def PySem.W.Fast.tw17329619943265273810:Unit:=()
noncomputable def PySem.W.Fast.tw4639361128221899401:Unit:=()
noncomputable def PySem.W.Fast.tw12320355508240473945:Unit:=()
noncomputable def PySem.W.Fast.tw12049745518150722201:Unit:=()
noncomputable def PySem.W.Fast.tw99231551185495558:Unit:=()
noncomputable def PySem.W.Fast.tw16417918316948304134:Unit:=()
noncomputable def PySem.W.Fast.tw4980951623673570567:Unit:=()
noncomputable def PySem.W.Fast.tw8079626008169831090:Unit:=()
noncomputable def PySem.W.Fast.tw9432513315800894284:Unit:=()
noncomputable def PySem.W.Fast.tw7819825581400767876:Unit:=()
noncomputable def PySem.W.Fast.tw4417403888888929436:Unit:=()
noncomputable def PySem.W.Fast.tw17464310329068573159:Unit:=()
noncomputable def PySem.W.Fast.tw15845736976028109853:Unit:=()
noncomputable def PySem.W.Fast.tw6656844683863929897:Unit:=()
noncomputable def PySem.W.Fast.tw12654637412516489124:Unit:=()
noncomputable def PySem.W.Fast.tw2747127021515798197:Unit:=()
noncomputable def PySem.W.Fast.tw5871409052641905199:Unit:=()
noncomputable def PySem.W.Fast.tw13007234927556623692:Unit:=()
noncomputable def PySem.W.Fast.tw11423797184115187953:Unit:=()
noncomputable def PySem.W.Fast.tw14007334273209297119:Unit:=()
noncomputable def PySem.W.Fast.tw10496910270112202753:Unit:=()
noncomputable def PySem.W.Fast.tw16319823124950418506:Unit:=()
noncomputable def PySem.W.Fast.tw5982370184049525405:Unit:=()
noncomputable def PySem.W.Fast.tw1637583154242767072:Unit:=()
noncomputable def PySem.W.Fast.tw7268409000647996008:Unit:=()
noncomputable def PySem.W.Fast.tw3976341480574582882:Unit:=()
noncomputable def PySem.W.Fast.tw542660124290346700:Unit:=()
noncomputable def PySem.W.Fast.tw4581579509720060359:Unit:=()
noncomputable def PySem.W.Fast.tw9983057656803083901:Unit:=()
noncomputable def PySem.W.Fast.tw5324648186573525308:Unit:=()
noncomputable def PySem.W.Fast.tw5517602271605470665:Unit:=()
noncomputable def PySem.W.Fast.tw6322118270814848023:Unit:=()
noncomputable def PySem.W.Fast.tw11482751026873532323:Unit:=()
noncomputable def PySem.W.Fast.tw2658175971316025181:Unit:=()
noncomputable def PySem.W.Fast.tw13078833612714990862:Unit:=()
noncomputable def PySem.W.Fast.tw14876388906720439544:Unit:=()
noncomputable def PySem.W.Fast.tw12642082055016773549:Unit:=()
noncomputable def PySem.W.Fast.tw9062293446399156888:Unit:=()
noncomputable def PySem.W.Fast.tw14485115540973922300:Unit:=()
noncomputable def PySem.W.Fast.tw14311659573267412399:Unit:=()
noncomputable def PySem.W.Fast.tw3456547979205577079:Unit:=()
noncomputable def PySem.W.Fast.tw16785758885688223611:Unit:=()
noncomputable def PySem.W.Fast.tw3104628794262844739:Unit:=()
noncomputable def PySem.W.Fast.tw3176090405944573873:Unit:=()
noncomputable def PySem.W.Fast.tw4685956013199217041:Unit:=()
noncomputable def PySem.W.Fast.tw893310871506754295:Unit:=()
noncomputable def PySem.W.Fast.tw4551345661958298666:Unit:=()
noncomputable def PySem.W.Fast.tw4728109534449911702:Unit:=()
noncomputable def PySem.W.Fast.tw11077758252479755658:Unit:=()
noncomputable def PySem.W.Fast.tw5817983330480519636:Unit:=()
noncomputable def PySem.W.Fast.tw5938933342743650431:Unit:=()
noncomputable def PySem.W.Fast.tw15263347020810714003:Unit:=()
noncomputable def PySem.W.Fast.tw3651806301822712163:Unit:=()
noncomputable def PySem.W.Fast.tw11079613839809586531:Unit:=()
noncomputable def PySem.W.Fast.tw14716979854107159763:Unit:=()
noncomputable def PySem.W.Fast.tw4692058425649492819:Unit:=()
noncomputable def PySem.W.Fast.tw3632683397974458243:Unit:=()
noncomputable def PySem.W.Fast.tw5335119988725487241:Unit:=()
noncomputable def PySem.W.Fast.tw11272085998256429317:Unit:=()
noncomputable def PySem.W.Fast.tw209278784913026095:Unit:=()
noncomputable def PySem.W.Fast.tw701040081227353357:Unit:=()
noncomputable def PySem.W.Fast.tw10393785276924435983:Unit:=()
noncomputable def PySem.W.Fast.tw18116371165652263602:Unit:=()
open PySem PySem.W PyProof.Rows
set_option maxRecDepth 100000 in
set_option maxHeartbeats 0 in
theorem PySem.Challenge.cw_roadsall_k93_what_a_plan_has_holds : PySem.Challenge.rw_roadsall_k93_what_a_plan_has.Holds := by
 w_on;o_law;k_head;(case hw=>w_witness2)
 k_fill
 refine L2.walk_ofK (l:=PySem.Challenge.rw_roadsall_k93_what_a_plan_has) (n:=63) (k:=200) (x:="_law_script") (CX:=L2.CX0) (sp:=fun K=>Ev.spR K (Ev.Psi My.Gv My.Att My.Exs My.Rs My.Tb 200 "law")) rfl (by decide) rfl ⟨rfl,by decide,by decide⟩ (fun w h Y=>PySem.W.kIn_of Y) ?F ?S ?C
 case F=>
  intro w mg fa h KX G hmg
  have T:Ev.TOk w My.Gv My.Att My.Exs My.Rs My.Tb (L2.KOf KX) mg:=by
   dsimp only [L2.KOf]
   refine' My.all_mk KX G ?a0 ?l0 ?c0 ?k0 ?a1 ?l1 ?c1 ?k1 ?a2 ?l2 ?c2 ?k2 ?a3 ?l3 ?c3 ?k3 ?a4 ?l4 ?c4 ?k4 ?a5 ?l5 ?c5 ?k5 ?a6 ?l6 ?c6 ?k6 ?a7 ?l7 ?c7 ?k7 ?a8 ?l8 ?c8 ?k8 ?a9 ?l9 ?c9 ?k9 ?a10 ?l10 ?c10 ?k10 ?a11 ?l11 ?c11 ?k11 ?a12 ?l12 ?c12 ?k12 ?a13 ?l13 ?c13 ?k13 ?a14 ?l14 ?c14 ?k14 ?a15 ?l15 ?c15 ?k15 ?glb0 ?glt0 ?glb1 ?glt1 ?z (My.exs_mk KX G ?ea0 ?en0 ?ea1 ?en1 ?ea2 ?en2 ?ea3 ?en3 ?ea4 ?en4 ?ea5 ?en5 ?ea6 ?en6 ?ea7 ?en7 ?ea8 ?en8 ?ea9 ?en9 ?ev ?env ?xg7 ?xh7 ?xe7 ?xc7 ?xb7 ?xd7 ?xo7 ?xi7 ?xs7 ?xv7 ?xr7 ?xk7_0 ?xm7_0 ?xk7_1 ?xk7_2 ?xk7_3 ?xk7_4 ?xk7_5 ?xk7_6 ?xk7_7 ?xm7_7 ?xk7_8 ?xk7_9)
   (case ea0=>first | k_is | rfl | kernel_rfl)
   (case en0=>first | k_is | rfl | kernel_rfl)
   (case ea1=>first | k_is | rfl | kernel_rfl)
   (case en1=>first | k_is | rfl | kernel_rfl)
   (case ea2=>first | k_is | rfl | kernel_rfl)
   (case en2=>first | k_is | rfl | kernel_rfl)
   (case ea3=>first | k_is | rfl | kernel_rfl)
   (case en3=>first | k_is | rfl | kernel_rfl)
   (case ea4=>first | k_is | rfl | kernel_rfl)
   (case en4=>first | k_is | rfl | kernel_rfl)
   (case ea5=>first | k_is | rfl | kernel_rfl)
   (case en5=>first | k_is | rfl | kernel_rfl)
   (case ea6=>first | k_is | rfl | kernel_rfl)
   (case en6=>first | k_is | rfl | kernel_rfl)
   (case ea7=>first | k_is | rfl | kernel_rfl)
   (case en7=>first | k_is | rfl | kernel_rfl)
   (case ea8=>first | k_is | rfl | kernel_rfl)
   (case en8=>first | k_is | rfl | kernel_rfl)
   (case ea9=>first | k_is | rfl | kernel_rfl)
   (case en9=>first | k_is | rfl | kernel_rfl)
   (case ev=>first | k_is | rfl | kernel_rfl)
   (case env=>first | k_is | rfl | kernel_rfl)
   (case xg7=>first | k_is | rfl | kernel_rfl)
   (case xh7=>first | k_is | rfl | kernel_rfl)
   (case xe7=>first | k_is | rfl | kernel_rfl)
   (case xc7=>first | k_is | rfl | kernel_rfl)
   (case xb7=>first | k_is | rfl | kernel_rfl)
   (case xd7=>first | k_is | rfl | kernel_rfl)
   (case xo7=>first | k_is | rfl | kernel_rfl)
   (case xi7=>first | k_is | rfl | kernel_rfl)
   (case xs7=>first | k_is | rfl | kernel_rfl)
   (case xv7=>first | k_is | rfl | kernel_rfl)
   (case xr7=>first | k_is | rfl | kernel_rfl)
   (case xk7_0=>first | k_is | rfl | kernel_rfl)
   (case xm7_0=>first | k_is | rfl | kernel_rfl)
   (case xk7_1=>first | k_is | rfl | kernel_rfl)
   (case xk7_2=>first | k_is | rfl | kernel_rfl)
   (case xk7_3=>first | k_is | rfl | kernel_rfl)
   (case xk7_4=>first | k_is | rfl | kernel_rfl)
   (case xk7_5=>first | k_is | rfl | kernel_rfl)
   (case xk7_6=>first | k_is | rfl | kernel_rfl)
   (case xk7_7=>first | k_is | rfl | kernel_rfl)
   (case xm7_7=>first | k_is | rfl | kernel_rfl)
   (case xk7_8=>first | k_is | rfl | kernel_rfl)
   (case xk7_9=>first | k_is | rfl | kernel_rfl)
   (case a0=>k_is)
   (case l0=>k_is)
   (case c0=>k_is)
   (case k0=>k_is)
   (case a1=>k_is)
   (case l1=>k_is)
   (case c1=>k_is)
   (case k1=>k_is)
   (case a2=>k_is)
   (case l2=>k_is)
   (case c2=>k_is)
   (case k2=>k_is)
   (case a3=>k_is)
   (case l3=>k_is)
   (case c3=>k_is)
   (case k3=>k_is)
   (case a4=>k_is)
   (case l4=>k_is)
   (case c4=>k_is)
   (case k4=>k_is)
   (case a5=>k_is)
   (case l5=>k_is)
   (case c5=>k_is)
   (case k5=>k_is)
   (case a6=>k_is)
   (case l6=>k_is)
   (case c6=>k_is)
   (case k6=>k_is)
   (case a7=>k_is)
   (case l7=>k_is)
   (case c7=>k_is)
   (case k7=>k_is)
   (case a8=>k_is)
   (case l8=>k_is)
   (case c8=>k_is)
   (case k8=>k_is)
   (case a9=>k_is)
   (case l9=>k_is)
   (case c9=>k_is)
   (case k9=>k_is)
   (case a10=>k_is)
   (case l10=>k_is)
   (case c10=>k_is)
   (case k10=>k_is)
   (case a11=>k_is)
   (case l11=>k_is)
   (case c11=>k_is)
   (case k11=>k_is)
   (case a12=>k_is)
   (case l12=>k_is)
   (case c12=>k_is)
   (case k12=>k_is)
   (case a13=>k_is)
   (case l13=>k_is)
   (case c13=>k_is)
   (case k13=>k_is)
   (case a14=>k_is)
   (case l14=>k_is)
   (case c14=>k_is)
   (case k14=>k_is)
   (case a15=>k_is)
   (case l15=>k_is)
   (case c15=>k_is)
   (case k15=>k_is)
   (case glb0=>k_is)
   (case glt0=>k_is)
   (case glb1=>k_is)
   (case glt1=>k_is)
   case z=>
    intro x hx
    simp only [Ev.bltN,List.mem_cons,List.not_mem_nil,or_false] at hx
    rcases hx with rfl | rfl | rfl | rfl | rfl | rfl | rfl | rfl | rfl | rfl | rfl | rfl | rfl | rfl | rfl | rfl | rfl <;> k_is
  obtain⟨f,fd,h1⟩:=T.fn My.d_n_law (by simp [My.Tb])
  have e0:=hmg.symm.trans (h1.gl (by decide +kernel))
  cases e0
  refine⟨fd,?_,fun base kb nb=>((Ev.defs_ok T 200).1 My.d_n_law (by simp [My.Tb]) _ fd h1.fn).1⟩
  obtain⟨oc,od,kV,doc,pm,an,cdv,ct,osl,rfl,lk,hcd⟩:=h1.fn.ex
  exact fun s v=>.of_eq rfl
 case S=>exact fun w H a ns hl hO hS=>My.law_true hl hO hS
 case C=>exact fun _ _ _ _ z=>z
