import PyProof.Rows.All
import Wide.All
import OpenK.AllK
import Wide.FinOn
import Lean
import PyProof.EqAt
import PyProof.EqKinds
import PyProof.TupleCall
import PySem.Challenge.RW_roadsall_k10_plans_let_by
set_option Elab.async false
set_option linter.all false
set_option maxRecDepth 100000
set_option maxHeartbeats 4000000
set_option Elab.async false
set_option linter.all false
set_option maxRecDepth 100000
namespace L2
open PySem PySem.Spec PyProof.Rows
noncomputable abbrev Key:=Sum Int Str
noncomputable def keyIs:Key->Value->Bool
 | .inl k,v=>Value.isInt k v
 | .inr x,v=>Value.isStrOf x v
noncomputable def keyH (w:World):Key->Int
 | .inl k=>hashInt k
 | .inr x=>hashStr w x
theorem keyIs_shape:∀{k:Key}{v:Value},keyIs k v=true->(∃i t,k=Sum.inl i/\v=Value.int i t)\/(∃x t,k=Sum.inr x/\v=Value.str x t)
 | .inl i,v,h=>by
  obtain⟨t,e⟩:=Value.isInt_shape (k:=i) (v:=v) h
  exact .inl ⟨i,t,rfl,e⟩
 | .inr x,v,h=>by
  obtain⟨t,e⟩:=Value.isStrOf_shape (x:=x) (v:=v) h
  exact .inr ⟨x,t,rfl,e⟩
theorem keyIs_int (i:Int) (t:Tok):keyIs (.inl i) (.int i t)=true:=by simp [keyIs,Value.isInt]
theorem keyIs_str (x:Str) (t:Tok):keyIs (.inr x) (.str x t)=true:=by simp [keyIs,Value.isStrOf]
theorem key_ll (a b:Int):decide ((Sum.inl a:Key)=Sum.inl b)=(a == b):=by
 by_cases e:a=b
 ·subst e;simp
 ·have h:¬(Sum.inl a:Key)=Sum.inl b:=fun q=>e (Sum.inl.inj q)
  rw [decide_eq_false h]
  exact (beq_eq_false_iff_ne.mpr e).symm
theorem key_rr (a b:Str):decide ((Sum.inr a:Key)=Sum.inr b)=decide (a=b):=by
 by_cases e:a=b
 ·subst e;simp
 ·have h:¬(Sum.inr a:Key)=Sum.inr b:=fun q=>e (Sum.inr.inj q)
  rw [decide_eq_false h,decide_eq_false e]
theorem key_lr (a:Int) (b:Str):decide ((Sum.inl a:Key)=Sum.inr b)=false:=decide_eq_false (fun q=>nomatch q)
theorem key_rl (a:Str) (b:Int):decide ((Sum.inr a:Key)=Sum.inl b)=false:=decide_eq_false (fun q=>nomatch q)
noncomputable def mixKind (prog:Program) (w:World):PySem.KeyKind prog w Key where
 is:=keyIs
 hash:=keyH w
 inj:=fun v a b ha hb=>by
  rcases keyIs_shape ha with ⟨i,t,rfl,rfl⟩ | ⟨x,t,rfl,rfl⟩
  ·rcases keyIs_shape hb with ⟨j,u,rfl,e⟩ | ⟨y,u,rfl,e⟩
   ·injection e with e1 _;rw [e1]
   ·exact nomatch e
  ·rcases keyIs_shape hb with ⟨j,u,rfl,e⟩ | ⟨y,u,rfl,e⟩
   ·exact nomatch e
   ·injection e with e1 _;rw [e1]
 byValue:=fun k v h=>by
  rcases keyIs_shape h with ⟨i,t,rfl,rfl⟩ | ⟨x,t,rfl,rfl⟩ <;> rfl
 pyHash:=fun hv h=>by
  rcases keyIs_shape hv with ⟨i,t,rfl,rfl⟩ | ⟨x,t,rfl,rfl⟩
  ·exact wpAny_pyHash_int h
  ·exact wpAny_pyHash_str h
 eqBool:=fun hu hv h=>by
  rcases keyIs_shape hu with ⟨i,t,rfl,rfl⟩ | ⟨x,t,rfl,rfl⟩
  ·rcases keyIs_shape hv with ⟨j,u,rfl,rfl⟩ | ⟨y,u,rfl,rfl⟩
   ·rw [key_ll] at h;exact wpAny_eqBool_int h
   ·rw [key_lr] at h;exact SeqAt.EqAt.int_str i t y u _ _ _ _ h
  ·rcases keyIs_shape hv with ⟨j,u,rfl,rfl⟩ | ⟨y,u,rfl,rfl⟩
   ·rw [key_rl] at h;exact SeqAt.EqAt.str_int x t j u _ _ _ _ h
   ·rw [key_rr] at h;exact wpAny_eqBool_str h
 «strs»:=fun k x t v h=>by
  rcases keyIs_shape h with ⟨i,u,rfl,e⟩ | ⟨y,u,rfl,e⟩
  ·exact nomatch e
  ·injection e with e1 _
   subst e1
   cases v <;> rfl
theorem mixKind_int (prog:Program) (w:World) (i:Int) (t:Tok):(mixKind prog w).is (.inl i) (.int i t)=true:=keyIs_int i t
theorem mixKind_str (prog:Program) (w:World) (x:Str) (t:Tok):(mixKind prog w).is (.inr x) (.str x t)=true:=keyIs_str x t
end L2
namespace L2
open PySem PySem.Spec PyProof.Rows
inductive V where
 | non | bl (b:Bool) | int (i:Int) | str (x:Str) | byt (b:Array UInt8) | flt (b:UInt64) | ref (a:Addr) | ty (n:String)
 deriving DecidableEq
noncomputable def RelV:V->Value->Prop
 | .non,u=>u=Value.none
 | .bl b,u=>u=Value.bool b
 | .int i,u=>∃t,u=Value.int i t
 | .str x,u=>∃t,u=Value.str x t
 | .byt b,u=>∃t,u=Value.bytes b t
 | .flt b,u=>∃t,u=Value.float b t
 | .ref a,u=>u=Value.ref a
 | .ty n,u=>u=Value.type n
noncomputable abbrev Vals:List V->List Value->Prop:=Paired RelV
theorem Vals.length {xs:List V}{us:List Value} (r:Vals xs us):xs.length=us.length:=Paired.length r
theorem Vals.get:∀{xs:List V}{us:List Value}{i:Nat}{x:V},Vals xs us->xs[i]? = some x->∃u,us[i]? = some u/\RelV x u
 | _,_,_,_,.nil,e=>by simp at e
 | _,_,0,_,.cons r _,e=>by simp at e;subst e;exact⟨_,rfl,r⟩
 | _,_,i+1,x,.cons _ t,e=>by
  obtain⟨u,h1,h2⟩:=Vals.get (i:=i) (x:=x) t (by simpa using e)
  exact⟨u,by simpa using h1,h2⟩
theorem Vals.set {x:V}{u:Value} (r:RelV x u):∀{xs:List V}{us:List Value} (i:Nat),Vals xs us->Vals (xs.set i x) (us.set i u)
 | _,_,_,.nil=>.nil
 | _,_,0,.cons _ t=>.cons r t
 | _,_,i+1,.cons q t=>.cons q (Vals.set r i t)
theorem Vals.append:∀{xs ys:List V}{us ws:List Value},Vals xs us->Vals ys ws->Vals (xs++ys) (us++ws)
 | _,_,_,_,.nil,s=>s
 | _,_,_,_,.cons r t,s=>.cons r (Vals.append t s)
theorem Vals.take:∀{xs:List V}{us:List Value} (n:Nat),Vals xs us->Vals (xs.take n) (us.take n)
 | _,_,0,_=>.nil
 | _,_,_+1,.nil=>.nil
 | _,_,n+1,.cons r t=>.cons r (Vals.take n t)
theorem Vals.drop:∀{xs:List V}{us:List Value} (n:Nat),Vals xs us->Vals (xs.drop n) (us.drop n)
 | _,_,0,r=>r
 | _,_,_+1,.nil=>.nil
 | _,_,n+1,.cons _ t=>Vals.drop n t
theorem Vals.none_of:∀{xs:List V}{us:List Value}{i:Nat},Vals xs us->xs[i]? = none->us[i]? = none:=fun {xs us i} r e=>by
 have h1:=r.length
 have h2:xs.length≤i:=List.getElem?_eq_none_iff.mp e
 exact List.getElem?_eq_none_iff.mpr (by omega)
noncomputable def RelO:Option V->Option Value->Prop
 | some v,some u=>RelV v u
 | none,none=>True
 | _,_=>False
noncomputable def KV {κ:Type}:List (κ×V)->List (κ×Value)->Prop:=Paired fun (p:κ×V) (q:κ×Value)=>p.1=q.1/\RelV p.2 q.2
noncomputable def kV:Key->V
 | .inl i=>.int i
 | .inr x=>.str x
inductive HO where
 | lst (xs:List V)
 | tup (xs:List V)
 | dK (kvs:List (Key×V)) | dT (kvs:List (List Key×V))
 | set (S:Int->Bool) (n:Nat)
 | ins (C dx:Addr) (fs:List (Str×V))
 | own (x:Addr)
 | xd (fs:List (Str×V))
 | met (f x:Addr)
 | rng (lo hi:Int)
 | frz (o:Obj) (u:HO)
 | tbl (ps:Array Value)
 | ext (φ:Heap->Prop)
noncomputable abbrev Hp:=Addr->Option HO
noncomputable def upd (H:Hp) (a:Addr) (o:HO):Hp:=fun b=>if b=a then some o else H b
theorem upd_same {H:Hp}{a:Addr}{o:HO}:upd H a o a=some o:=by unfold upd;rw [if_pos rfl]
theorem upd_ne {H:Hp}{a b:Addr}{o:HO} (h:b≠a):upd H a o b=H b:=by unfold upd;rw [if_neg h]
theorem ne_of_none {H:Hp}{a b:Addr}{o:HO} (h:H a=some o) (h':H b=none):a≠b:=by
 intro e;subst e;rw [h] at h';cases h'
section
variable (P:Program) (w:World)
noncomputable def ObjOk (H:Hp) (h:Heap) (a:Addr):HO->Prop
 | .lst xs=>xs.length≤sizeLine/\∃(its:List Value) (n:Nat),Vals xs its/\h.get? a=some { cls:=.type "list",data:=.seq its.toArray n }
 | .tup xs=>xs.length≤sizeLine/\∃its:List Value,Vals xs its/\IsTup h a its.toArray
 | .dK kvs=>kvs.length≤sizeLine/\(a == sysModules)=false/\∃vs,KV kvs vs/\h.DictOf (mixKind P w) a vs
 | .dT kvs=>kvs.length≤sizeLine/\(a == sysModules)=false/\∃xs:List (List Key×Addr×Value),
   Paired (fun (p:List Key×V) (q:List Key×Addr×Value)=>p.1=q.1/\H q.2.1=some (.tup (p.1.map kV))/\RelV p.2 q.2.2) kvs xs /\
   ∃o es ep,h.get? a=some o/\o.ExactDict/\o.data=.dict es ep/\es.toList=xs.map (entryOfKey (tupleKind (mixKind P w)))/\(xs.map (·.1)).Nodup
 | .set S n=>h.SetOf (intKind P w) a S n
 | .ins C dx fs=>H dx=some (.own a)/\fs.length≤1000/\dx≠a/\h.get? a=some (PySem.W.instObj C dx) /\
   ∃mA,h.Ns1 dx mA/\(∀f,RelO (fs.lookup f) (mA f))/\PySem.Within mA (fs.map (·.1))
 | .own _=>∃o,h.get? a=some o
 | .xd fs=>∃mA,h.Ns1 a mA/\∀f,RelO (fs.lookup f) (mA f)
 | .rng lo hi=>∃t u v,h.get? a=some { cls:=.type "range",data:=.fields #[.int lo t,.int hi u,.int 1 v] }
 | .frz o u=>h.get? a=some o/\ObjOk H h a u
 | .tbl ps=>h.get? a=some { cls:=.none,data:=.fields ps }
 | .met f x=>h.get? a=some (PySem.W.methodObj (.ref f) (.ref x))
 | .ext φ=>φ h/\(∃o,h.get? a=some o)/\∀h1 h2:Heap,φ h1->(∀o,h1.get? a=some o->h2.get? a=some o)->φ h2
noncomputable def HOk (H:Hp) (h:Heap):Prop:=∀a o,H a=some o->ObjOk P w H h a o
end
section
variable {P:Program}{w:World}{H H':Hp}{h h':Heap}{a:Addr}{o:HO}
theorem ObjOk.lt (x:ObjOk P w H h a o):a < h.objs.size:=by
 cases o with
 | lst xs=>obtain⟨_,_,_,_,e⟩:=x;exact Heap.lt_size e
 | tup xs=>obtain⟨_,_,_,p⟩:=x;exact p.lt
 | dK kvs=>obtain⟨_,_,_,_,o,_,_,e,_⟩:=x;exact Heap.lt_size e
 | dT kvs=>obtain⟨_,_,_,_,o,_,_,e,_⟩:=x;exact Heap.lt_size e
 | set S n=>obtain⟨o,_,_,_,e,_⟩:=x;exact Heap.lt_size e
 | ins C dx fs=>obtain⟨_,_,_,e,_⟩:=x;exact Heap.lt_size e
 | own y=>obtain⟨_,e⟩:=x;exact Heap.lt_size e
 | xd fs=>obtain⟨_,⟨_,_,_,e,_⟩,_⟩:=x;exact Heap.lt_size e
 | rng lo hi=>obtain⟨_,_,_,e⟩:=x;exact Heap.lt_size e
 | frz ob u=>obtain⟨e,_⟩:=x;exact Heap.lt_size e
 | tbl ps=>exact Heap.lt_size (show h.get? a=some _ from x)
 | met f y=>exact Heap.lt_size (show h.get? a=some _ from x)
 | ext φ=>obtain⟨_,⟨_,e⟩,_⟩:=x;exact Heap.lt_size e
theorem Paired.mapP {α β:Type}{F G:α->β->Prop}:∀{l₁:List α}{l₂:List β},Paired F l₁ l₂->(∀a b,F a b->G a b)->Paired G l₁ l₂
 | _,_,.nil,_=>.nil
 | _,_,.cons r t,f=>.cons (f _ _ r) (Paired.mapP t f)
theorem Paired.imp' {α β:Type}{F G:α->β->Prop} (f:∀a b,F a b->G a b) {l₁:List α}{l₂:List β} (r:Paired F l₁ l₂):Paired G l₁ l₂:=Paired.mapP r f
theorem ObjOk.stay (x:ObjOk P w H h a o) (k:∀b u,(b=a\/H b=some (.own a))->h.get? b=some u->h'.get? b=some u)
  (ho:∀b,H b=some (.own a)->H' b=some (.own a)) (ht:∀b xs,H b=some (.tup xs)->H' b=some (.tup xs)):ObjOk P w H' h' a o:=by
 induction o with
 | lst xs=>obtain⟨z,its,n,r,e⟩:=x;exact⟨z,its,n,r,k _ _ (.inl rfl) e⟩
 | tup xs=>obtain⟨z,its,r,ob,e,c⟩:=x;exact⟨z,its,r,ob,k _ _ (.inl rfl) e,c⟩
 | dK kvs=>obtain⟨z,y,vs,r,ob,es,ep,e,c⟩:=x;exact⟨z,y,vs,r,ob,es,ep,k _ _ (.inl rfl) e,c⟩
 | dT kvs=>
  obtain⟨z,y,xs,r,ob,es,ep,e,c⟩:=x
  exact⟨z,y,xs,Paired.mapP r fun p q z=>⟨z.1,ht _ _ z.2.1,z.2.2⟩,ob,es,ep,k _ _ (.inl rfl) e,c⟩
 | set S n=>obtain⟨ob,es,ep,t,e,c⟩:=x;exact⟨ob,es,ep,t,k _ _ (.inl rfl) e,c⟩
 | ins C dx fs=>
  obtain⟨d,z,ne,e,mA,⟨od,es,ep,e2,c⟩,r⟩:=x
  exact⟨ho _ d,z,ne,k _ _ (.inl rfl) e,mA,⟨od,es,ep,k _ _ (.inr d) e2,c⟩,r⟩
 | own y=>obtain⟨ob,e⟩:=x;exact⟨ob,k _ _ (.inl rfl) e⟩
 | xd fs=>obtain⟨mA,⟨od,es,ep,e,c⟩,r⟩:=x;exact⟨mA,⟨od,es,ep,k _ _ (.inl rfl) e,c⟩,r⟩
 | rng lo hi=>obtain⟨t,u,v,e⟩:=x;exact⟨t,u,v,k _ _ (.inl rfl) e⟩
 | frz ob u ih=>obtain⟨e,q⟩:=x;exact⟨k _ _ (.inl rfl) e,ih q⟩
 | tbl ps=>
  have e:h.get? a=some { cls:=.none,data:=.fields ps }:=x
  show h'.get? a=some { cls:=.none,data:=.fields ps }
  exact k a _ (.inl rfl) e
 | met f y=>
  have e:h.get? a=some (PySem.W.methodObj (.ref f) (.ref y)):=x
  show h'.get? a=some (PySem.W.methodObj (.ref f) (.ref y))
  exact k a _ (.inl rfl) e
 | ext φ=>obtain⟨p,⟨o,e⟩,st⟩:=x;exact⟨st _ _ p fun o q=>k _ _ (.inl rfl) q,⟨o,k _ _ (.inl rfl) e⟩,st⟩
theorem HOk.lt (x:HOk P w H h) (e:H a=some o):a < h.objs.size:=(x a o e).lt
theorem HOk.fresh (x:HOk P w H h) (e:h.objs.size≤a):H a=none:=by
 cases q:H a with
 | none=>rfl
 | some u=>exact absurd (Nat.lt_of_lt_of_le (x.lt q) e) (Nat.lt_irrefl _)
theorem HOk.kept (x:HOk P w H h) (k:∀b u,h.get? b=some u->h'.get? b=some u):HOk P w H h':=fun a o e=>
 (x a o e).stay (fun b u _ q=>k b u q) (fun _ q=>q) fun _ _ q=>q
theorem HOk.laid (x:HOk P w H h) (k:∀b u,h.get? b=some u->h'.get? b=some u) (hp:h.objs.size≤a) (new:ObjOk P w (upd H a o) h' a o):HOk P w (upd H a o) h':=fun b u e=>by
 have hn:=x.fresh hp
 by_cases hb:b=a
 ·subst hb;rw [upd_same] at e;cases e;exact new
 ·rw [upd_ne hb] at e
  exact (x b u e).stay (fun c v _ q=>k c v q) (fun c q=>by rw [upd_ne (ne_of_none q hn)];exact q) fun c xs q=>by rw [upd_ne (ne_of_none q hn)];exact q
end
noncomputable def Rd (H:Hp) (a:Addr) (u:HO):Prop:=H a=some u\/∃o,H a=some (.frz o u)
theorem Rd.of {H:Hp}{a:Addr}{u:HO} (h:H a=some u):Rd H a u:=.inl h
theorem Rd.ok {P:Program}{w:World}{H:Hp}{h:Heap}{a:Addr}{u:HO} (r:Rd H a u) (x:HOk P w H h):ObjOk P w H h a u:=by
 rcases r with r | ⟨o,r⟩
 ·exact x a u r
 ·obtain⟨_,q⟩:=x a _ r
  exact q
noncomputable def Mut:Option HO->Prop
 | some (.lst _)=>True
 | some (.dK _)=>True
 | some (.dT _)=>True
 | some (.set _ _)=>True
 | some (.ins _ _ _)=>True
 | some (.ext _)=>True
 | _=>False
section
variable {P:Program}{w:World}{H:Hp}{h h':Heap}{x e:Addr}{o':HO}
theorem HOk.write (ok:HOk P w H h) (mu:Mut (H x)) (he:e=x\/H e=some (.own x)) (k:∀b u,b≠e->h.get? b=some u->h'.get? b=some u) (heo:∃u,h'.get? e=some u)
  (new:ObjOk P w (upd H x o') h' x o'):HOk P w (upd H x o') h':=fun b u q=>by
 have nown:∀c y,H c=some (.own y)->c≠x:=fun c y r z=>by subst z;rw [r] at mu;exact mu
 have ntup:∀c xs,H c=some (.tup xs)->c≠x:=fun c xs r z=>by subst z;rw [r] at mu;exact mu
 by_cases hb:b=x
 ·subst hb;rw [upd_same] at q;cases q;exact new
 ·rw [upd_ne hb] at q
  by_cases hbe:b=e
  ·have q':H b=some (.own x):=by
    rcases he with z | z
    ·exact absurd (hbe.trans z) hb
    ·rw [hbe];exact z
   rw [q] at q';cases q'
   obtain⟨v,hv⟩:=heo
   exact⟨v,by rw [hbe];exact hv⟩
  ·refine (ok b u q).stay (fun c v hc r=>k c v ?_ r) (fun c r=>by rw [upd_ne (nown c b r)];exact r) fun c xs r=>by rw [upd_ne (ntup c xs r)];exact r
   rcases hc with rfl | hc
   ·exact hbe
   ·rintro rfl
    rcases he with z | z
    ·exact nown c b hc z
    ·rw [hc] at z;cases z;exact hb rfl
end
structure Un (fs ex:List Addr) (H H':Hp) (h h':Heap):Prop where
 keep:∀b o,h.get? b=some o->H b=none->b ∉ fs->b ∉ ex->h'.get? b=some o
 slot:∀b o,h.get? b=some o->H b=none->b ∈ fs->b ∉ ex->∃sl,h'.get? b=some { o with slots:=sl }
 free:∀b o,h.get? b=some o->H b=none->b ∉ ex->H' b=none
 there:∀b o,h.get? b=some o->b ∉ ex->∃o',h'.get? b=some o'
 tups:∀b xs,H b=some (.tup xs)->H' b=some (.tup xs)
 frzs:∀b o u,H b=some (.frz o u)->H' b=some (.frz o u)
 tbls:∀b ps,H b=some (.tbl ps)->∃more,H' b=some (.tbl (ps++more))
section
variable {fs fs' ex ex':List Addr}{H H1 H2:Hp}{h h1 h2 h':Heap}{a x e:Addr}{o:HO}
theorem Un.any (u:Un fs ex H H1 h h1) {b:Addr}{ob:Obj} (q:h.get? b=some ob) (n:H b=none) (hx:b ∉ ex):∃sl,h1.get? b=some { ob with slots:=sl }:=by
 by_cases hb:b ∈ fs
 ·exact u.slot b ob q n hb hx
 ·exact⟨ob.slots,u.keep b ob q n hb hx⟩
theorem Un.trans (a:Un fs ex H H1 h h1) (b:Un fs ex H1 H2 h1 h2):Un fs ex H H2 h h2 where
 keep:=fun c ob q n hc hx=>b.keep c ob (a.keep c ob q n hc hx) (a.free c ob q n hx) hc hx
 slot:=fun c ob q n hc hx=>by
  obtain⟨sl,e1⟩:=a.slot c ob q n hc hx
  obtain⟨sl',e2⟩:=b.slot c _ e1 (a.free c ob q n hx) hc hx
  exact⟨sl',e2⟩
 free:=fun c ob q n hx=>by
  obtain⟨o',e1⟩:=a.there c ob q hx
  exact b.free c o' e1 (a.free c ob q n hx) hx
 there:=fun c ob q hx=>by
  obtain⟨o',e1⟩:=a.there c ob q hx
  exact b.there c o' e1 hx
 tups:=fun c xs q=>b.tups c xs (a.tups c xs q)
 frzs:=fun c ob xs q=>b.frzs c ob xs (a.frzs c ob xs q)
 tbls:=fun c ps q=>by
  obtain⟨m1,e1⟩:=a.tbls c ps q
  obtain⟨m2,e2⟩:=b.tbls c _ e1
  exact⟨m1++m2,by rw [e2,Array.append_assoc]⟩
theorem Un.kept (k:∀b u,h.get? b=some u->h'.get? b=some u):Un fs ex H H h h':=
 ⟨fun b ob q _ _ _=>k b ob q,fun b ob q _ _ _=>⟨ob.slots,k b ob q⟩,fun _ _ _ n _=>n,fun b ob q _=>⟨ob,k b ob q⟩,fun _ _ q=>q,fun _ _ _ q=>q,fun _ ps q=>⟨#[],by rw [q];simp⟩⟩
theorem Un.refl:Un fs ex H H h h:=Un.kept fun _ _ q=>q
theorem Un.laid (k:∀b u,h.get? b=some u->h'.get? b=some u) (hp:h.objs.size≤a) (hn:H a=none):Un fs ex H (upd H a o) h h' where
 keep:=fun b u q _ _ _=>k b u q
 slot:=fun b u q _ _ _=>⟨u.slots,k b u q⟩
 free:=fun b u q n _=>by rw [upd_ne (Nat.ne_of_lt (Nat.lt_of_lt_of_le (Heap.lt_size q) hp))];exact n
 there:=fun b u q _=>⟨u,k b u q⟩
 tups:=fun b xs q=>by rw [upd_ne (ne_of_none q hn)];exact q
 frzs:=fun b u xs q=>by rw [upd_ne (ne_of_none q hn)];exact q
 tbls:=fun b ps q=>⟨#[],by rw [upd_ne (ne_of_none q hn),q];simp⟩
theorem Un.write (mu:Mut (H x)) (he:e=x\/H e=some (.own x)) (k:∀b u,b≠e->h.get? b=some u->h'.get? b=some u) (heo:∃u,h'.get? e=some u):Un fs ex H (upd H x o) h h':=by
 have hx:∀b,H b=none->b≠x:=fun b n z=>by subst z;rw [n] at mu;exact mu
 have hb:∀b,H b=none->b≠e:=fun b n z=>by
  subst z
  rcases he with r | r
  ·exact hx b n r
  ·rw [n] at r;cases r
 have hm:∀b u,H b=some u->¬Mut (some u)->b≠x:=fun b u q nm z=>by subst z;rw [q] at mu;exact nm mu
 refine⟨fun b u q n _ _=>k b u (hb b n) q,fun b u q n _ _=>⟨u.slots,k b u (hb b n) q⟩,fun b u q n _=>by rw [upd_ne (hx b n)];exact n,fun b u q _=>?_,
  fun b xs q=>by rw [upd_ne (hm b _ q fun z=>z)];exact q,fun b u xs q=>by rw [upd_ne (hm b _ q fun z=>z)];exact q,fun b ps q=>⟨#[],by rw [upd_ne (hm b _ q fun z=>z),q];simp⟩⟩
 by_cases hbe:b=e
 ·subst hbe;exact heo
 ·exact⟨u,k b u hbe q⟩
theorem Un.mono (u:Un fs ex H H1 h h1) (hs:∀b ∈ fs,b ∈ fs') (hx:∀b ∈ ex,b ∈ ex'):Un fs' ex' H H1 h h1:=
 ⟨fun b ob q n hb he=>u.keep b ob q n (fun z=>hb (hs b z)) fun z=>he (hx b z),fun _ _ q n _ he=>u.any q n fun z=>he (hx _ z),fun b ob q n he=>u.free b ob q n fun z=>he (hx b z),fun b ob q he=>u.there b ob q fun z=>he (hx b z),u.tups,u.frzs,u.tbls⟩
end
noncomputable def trk (h:Heap) (H:Hp):List Addr:=(List.range h.objs.size).filter fun a=>(H a).isSome
noncomputable def hidT (h:Heap) (H:Hp):Heap:=PySem.W.hideAll h (trk h H)
theorem hidT_size (h:Heap) (H:Hp):(hidT h H).objs.size=h.objs.size:=PySem.W.hideAll_size _ _
theorem hidT_get {h:Heap}{H:Hp}{b:Addr}{o:Obj} (e:h.get? b=some o) (n:H b=none):(hidT h H).get? b=some o:=
 PySem.W.hideAll_get _ e fun hm=>by
  have q:(H b).isSome=true:=(List.mem_filter.mp hm).2
  rw [n] at q;simp at q
theorem of_hidT {h:Heap}{H:Hp}{b:Addr}{o:Obj} (e:(hidT h H).get? b=some o):h.get? b=some o/\H b=none:=by
 have e':h.get? b=some o:=PySem.W.of_hideAll (trk h H) e
 refine⟨e',?_⟩
 cases q:H b with
 | none=>rfl
 | some x=>
  have hm:b ∈ trk h H:=List.mem_filter.mpr ⟨List.mem_range.mpr (Heap.lt_size e'),by simp [q]⟩
  have z:(hidT h H).get? b=none:=PySem.W.hideAll_none (trk h H) hm
  rw [z] at e;cases e
noncomputable def allNews (g h:Heap) (L:Addr):List (Addr×Obj):=(List.range h.objs.size).filterMap fun a=>if a=L\/(g.get? a).isSome=true then none else (h.get? a).map fun o=>(a,o)
theorem mem_allNews {g h:Heap}{L a:Addr}{o:Obj} (h1:a≠L) (h2:g.get? a=none) (h3:h.get? a=some o):(a,o) ∈ allNews g h L:=
 List.mem_filterMap.mpr ⟨a,List.mem_range.mpr (Heap.lt_size h3),by simp [h1,h2,h3]⟩
theorem of_mem_allNews {g h:Heap}{L:Addr}{p:Addr×Obj} (hp:p ∈ allNews g h L):p.1≠L/\g.get? p.1=none/\h.get? p.1=some p.2:=by
 obtain⟨b,_,e⟩:=List.mem_filterMap.mp hp
 split at e
 ·cases e
 ·rename_i hn
  cases q:h.get? b with
  | none=>rw [q] at e;simp at e
  | some u=>
   rw [q] at e
   simp only [Option.map_some,Option.some.injEq] at e
   subst e
   refine⟨fun z=>hn (.inl z),?_,q⟩
   show g.get? b=none
   cases r:g.get? b with
   | none=>rfl
   | some v=>exact (hn (.inr (by simp [r]))).elim
noncomputable def rest (g h:Heap) (L d:Addr):List (Addr×Obj):=(allNews g h L).filter fun p=>decide (p.1≠d)
theorem news_all {g h:Heap}{L:Addr}:News g L h (allNews g h L):=fun p hp=>let ⟨a,b,c⟩:=of_mem_allNews hp;⟨c,a,b⟩
end L2
namespace L2
open PySem PySem.Spec PyProof.Rows
structure Mod (K:PySem.W.Frag) (mg:Str->Option Value) (base:Heap):Prop where
 kin:K.In base
 glob:base.Ns mainGlobals mg
 blt:∃mb,base.Ns builtinsNs mb/\∀x:Str,x≠"__name__"->mb x=bootBuiltins x
 nolimit:base.NoLimit
structure Cx where
 prog:Program
 w:World
 K:PySem.W.Frag
 mg:Str->Option Value
 base:Heap
 A:Around
 N:List Str
 s₀:Shared
 H₀:Hp
 env:Env
 outer:List Env
 stack:List Env
 ex:List Addr
 fn:Str->Bool
 calm:Bool
 pn:List (Addr×Obj)
 xe:Value->Shared->Prop
noncomputable def frs (l:List Env):List Addr:=l.filterMap (·.frame)
noncomputable abbrev Cx.fs (X:Cx):List Addr:=frs X.outer
noncomputable def Vis (sc:Scope) (x:Str):Prop:=sc.names.lookup x=some .local\/sc.names.lookup x=some .cell\/sc.names.lookup x=some .free
noncomputable def Loc (sc:Scope) (x:Str):Prop:=sc.names.lookup x=some .local\/sc.names.lookup x=some .cell
noncomputable def Look (env:Env) (h:Heap) (m:Str->Option Value) (x:Str) (u:Value):Prop:=
 (env.kindOf x=some .local/\m x=some u)\/((env.kindOf x=some .cell\/env.kindOf x=some .free)/\∃c,env.cells.lookup x=some c/\h.IsCell c (some u))
structure Cx.Ok (X:Cx):Prop where
 mod:Mod X.K X.mg X.base
 kind:X.env.scope.kind=.function
 glob:X.env.globals=mainGlobals
 blt:X.env.builtins=builtinsNs
 above:X.s₀.heap.objs.size≤X.env.locals
 inj:∀x y c,X.env.cells.lookup x=some c->X.env.cells.lookup y=some c->x=y
 has:∀x,(X.env.kindOf x=some .cell\/X.env.kindOf x=some .free)->∃c,X.env.cells.lookup x=some c
 cab:∀x c,X.fn x=true->X.env.cells.lookup x=some c->X.s₀.heap.objs.size≤c
 hd:X.calm=true->X.A.handled=none
 frames:X.A.frames=some X.stack
 stk:X.stack=X.outer\/(X.stack=X.env::X.outer/\X.env.frame=some X.env.locals)
 exf:∀b ∈ X.ex,b≠X.env.locals/\∀x c,X.env.cells.lookup x=some c->c≠b
 bs:∀b o,X.base.get? b=some o->X.s₀.heap.get? b=some o/\X.H₀ b=none
 bsz:X.base.objs.size≤X.s₀.heap.objs.size
 noex:∀b o,X.base.get? b=some o->b ∉ X.ex
 exfs:∀b ∈ X.ex,b ∉ X.fs
 funs:X.s₀.heap.FunFrames X.base X.outer
 frf:∀b ∈ X.fs,X.H₀ b=none
structure Inv (X:Cx) (pins:List (Addr×Obj)) (σ:List (Option V)) (H:Hp) (s:Shared):Prop where
 ok:X.Ok
 os:s.os=X.s₀.os
 bare:AllBare s.gens
 base:Un X.fs X.ex X.H₀ H X.s₀.heap s.heap
 loc:∃m,s.heap.Ns X.env.locals m/\∀(i:Nat) (x:Str) (v:V),X.N[i]? = some x->σ[i]? = some (some v)->Vis X.env.scope x->∃u,RelV v u/\Look X.env s.heap m x u
 cell:∀x c,X.env.cells.lookup x=some c->∃v,s.heap.IsCell c v
 free:H X.env.locals=none
 freeC:∀x c,X.env.cells.lookup x=some c->H c=none
 pin:∀p ∈ X.pn++pins,s.heap.get? p.1=some p.2/\H p.1=none/\p.1≠X.env.locals/\p.1 ∉ X.fs/\∀v,p.2.data≠.cell v
 hok:HOk X.prog X.w H s.heap
 len:σ.length=X.N.length
section
variable {X:Cx}{pins:List (Addr×Obj)}{σ:List (Option V)}{H H':Hp}{s:Shared}{h':Heap}
theorem Cx.Ok.nofr (ok:X.Ok) {b:Addr}{o:Obj} (e:X.base.get? b=some o):b ∉ X.fs:=fun hb=>by
 have:=(ok.funs.mem hb).1
 rw [e] at this;cases this
theorem Inv.bs (I:Inv X pins σ H s):∀b o,X.base.get? b=some o->s.heap.get? b=some o/\H b=none:=fun b o e=>
 ⟨I.base.keep b o (I.ok.bs b o e).1 (I.ok.bs b o e).2 (I.ok.nofr e) (I.ok.noex b o e),I.base.free b o (I.ok.bs b o e).1 (I.ok.bs b o e).2 (I.ok.noex b o e)⟩
theorem Inv.bk (I:Inv X pins σ H s):∀b o,X.base.get? b=some o->s.heap.get? b=some o:=fun b o e=>(I.bs b o e).1
theorem Inv.mod (I:Inv X pins σ H s):Mod X.K X.mg X.base:=I.ok.mod
theorem Inv.kIn (I:Inv X pins σ H s):X.K.In s.heap:=I.ok.mod.kin.keeps I.bk
theorem Inv.nolimit (I:Inv X pins σ H s):s.heap.NoLimit:=I.ok.mod.nolimit.keeps I.bk
theorem Inv.fr (I:Inv X pins σ H s):∃m,Fr X.base X.env.locals s.heap m:=
 let ⟨m,hn,_⟩:=I.loc
 ⟨m,hn,I.bk,Nat.le_trans I.ok.bsz I.ok.above⟩
theorem Inv.lt (I:Inv X pins σ H s):X.env.locals < s.heap.objs.size:=let ⟨_,hn,_⟩:=I.loc;hn.lt
theorem Inv.sz (I:Inv X pins σ H s):X.s₀.heap.objs.size≤s.heap.objs.size:=Nat.le_trans I.ok.above (Nat.le_of_lt I.lt)
theorem Inv.nofs (I:Inv X pins σ H s) {a:Addr} (h:s.heap.objs.size≤a):a ∉ X.fs:=fun hb=>by
 obtain⟨_,o,ho,_⟩:=I.ok.funs.mem hb
 exact absurd (Nat.lt_of_lt_of_le (Heap.lt_size ho) (Nat.le_trans I.sz h)) (Nat.lt_irrefl _)
theorem Inv.cne (I:Inv X pins σ H s):∀x c,X.env.cells.lookup x=some c->c≠X.env.locals:=fun x c e z=>by
 obtain⟨v,o,ho,hd⟩:=I.cell x c e
 obtain⟨m,⟨o',es,ep,ho',hd',_⟩,_⟩:=I.loc
 rw [z,ho'] at ho;cases ho;rw [hd'] at hd;cases hd
theorem Inv.funs (I:Inv X pins σ H s):s.heap.FunFrames X.base X.outer:=by
 have all:∀(l:List Env),(∀b ∈ frs l,b ∈ X.fs)->X.s₀.heap.FunFrames X.base l->s.heap.FunFrames X.base l:=by
  intro l
  induction l with
  | nil=>intro _ _;trivial
  | cons env r ih=>
   intro hs hl
   obtain⟨hk,⟨L,o,hf,hn,ho,hd⟩,hr⟩:=hl
   have hL:L ∈ X.fs:=hs L (by unfold frs;rw [List.filterMap_cons,hf];exact List.mem_cons_self)
   obtain⟨sl,e⟩:=I.base.slot L o ho (I.ok.frf L hL) hL fun z=>I.ok.exfs L z hL
   exact⟨hk,⟨L,_,hf,hn,e,hd⟩,ih (fun b hb=>hs b (by unfold frs;rw [List.filterMap_cons,hf];exact List.mem_cons_of_mem _ hb)) hr⟩
 exact all X.outer (fun _ hb=>hb) I.ok.funs
theorem Inv.stack (I:Inv X pins σ H s):s.heap.FunFrames X.base X.stack:=by
 rcases I.ok.stk with e | ⟨e,hf⟩
 ·rw [e];exact I.funs
 ·rw [e]
  obtain⟨m,hn,_⟩:=I.loc
  refine .cons (by rw [I.ok.kind];decide) hf hn ?_ I.funs
  exact Heap.get?_none_of_le (Nat.le_trans I.ok.bsz I.ok.above)
theorem Inv.stkSub (I:Inv X pins σ H s):∀b ∈ frs X.stack,b ∈ X.env.locals::X.fs:=fun b hb=>by
 rcases I.ok.stk with e | ⟨e,hf⟩
 ·rw [e] at hb;exact List.mem_cons_of_mem _ hb
 ·rw [e] at hb
  unfold frs at hb
  rw [List.filterMap_cons,hf] at hb
  exact hb
theorem Inv.stkFree (I:Inv X pins σ H s):∀b ∈ frs X.stack,H b=none:=fun b hb=>by
 rcases List.mem_cons.mp (I.stkSub b hb) with e | hb
 ·rw [e];exact I.free
 ·obtain⟨_,o,ho,_⟩:=I.ok.funs.mem hb
  exact I.base.free b o ho (I.ok.frf b hb) fun z=>I.ok.exfs b z hb
theorem Inv.step {g':Array GenState}{t':Nat}{d':Drawn}{ch:List Addr} (I:Inv X pins σ H s)
  (hch:∀b ∈ ch,(b ∈ X.ex\/X.s₀.heap.objs.size≤b)/\b≠X.env.locals/\(∀x c,X.env.cells.lookup x=some c->c≠b)/\∀p ∈ X.pn++pins,p.1≠b)
  (keep:∀b o,b≠X.env.locals->b ∉ X.fs->b ∉ ch->s.heap.get? b=some o->H b=none->h'.get? b=some o)
  (slot:∀b o,b≠X.env.locals->b ∈ X.fs->b ∉ ch->s.heap.get? b=some o->H b=none->∃sl,h'.get? b=some { o with slots:=sl }) (free:∀b o,b ∉ ch->s.heap.get? b=some o->H b=none->H' b=none)
  (there:∀b o,b ∉ ch->s.heap.get? b=some o->∃o',h'.get? b=some o')
  (tups:∀b xs,H b=some (.tup xs)->H' b=some (.tup xs)) (frzs:∀b o u,H b=some (.frz o u)->H' b=some (.frz o u)) (tbls:∀b ps,H b=some (.tbl ps)->∃more,H' b=some (.tbl (ps++more)))
  (ns:∀m,s.heap.Ns X.env.locals m->h'.Ns X.env.locals m) (hok:HOk X.prog X.w H' h') (hg:AllBare g') :
  Inv X pins σ H' { s with heap:=h',gens:=g',drawn:=d',toks:=t' }:=by
 have neL:∀b o,X.s₀.heap.get? b=some o->b≠X.env.locals:=fun b o e=>Nat.ne_of_lt (Nat.lt_of_lt_of_le (Heap.lt_size e) I.ok.above)
 have neC:∀b o,X.s₀.heap.get? b=some o->b ∉ X.ex->b ∉ ch:=fun b o e hx hb=>by
  rcases (hch b hb).1 with z | z
  ·exact hx z
  ·exact absurd (Nat.lt_of_lt_of_le (Heap.lt_size e) z) (Nat.lt_irrefl _)
 have cellK:∀x c,X.env.cells.lookup x=some c->∀v,s.heap.IsCell c v->h'.IsCell c v:=fun x c e v hz=>by
  obtain⟨o,ho,hd⟩:=hz
  have nch:c ∉ ch:=fun z=>(hch c z).2.2.1 x c e rfl
  by_cases hc:c ∈ X.fs
  ·obtain⟨sl,q⟩:=slot c o (I.cne x c e) hc nch ho (I.freeC x c e)
   exact⟨_,q,hd⟩
  ·exact⟨o,keep c o (I.cne x c e) hc nch ho (I.freeC x c e),hd⟩
 refine⟨I.ok,I.os,hg,⟨fun b o e n hb hx=>?_,fun b o e n hb hx=>?_,fun b o e n hx=>?_,fun b o e hx=>?_,fun b xs e=>tups b xs (I.base.tups b xs e),fun b o xs e=>frzs b o xs (I.base.frzs b o xs e),fun b ps e=>?_⟩,?_,fun x c e=>?_,?_,fun x c e=>?_,fun p hp=>?_,hok,I.len⟩
 ·exact keep b o (neL b o e) hb (neC b o e hx) (I.base.keep b o e n hb hx) (I.base.free b o e n hx)
 ·obtain⟨sl,e1⟩:=I.base.slot b o e n hb hx
  obtain⟨sl',e2⟩:=slot b _ (neL b o e) hb (neC b o e hx) e1 (I.base.free b o e n hx)
  exact⟨sl',e2⟩
 ·obtain⟨o',e1⟩:=I.base.there b o e hx
  exact free b o' (neC b o e hx) e1 (I.base.free b o e n hx)
 ·obtain⟨o',e1⟩:=I.base.there b o e hx
  exact there b o' (neC b o e hx) e1
 ·obtain⟨m1,e1⟩:=I.base.tbls b ps e
  obtain⟨m2,e2⟩:=tbls b _ e1
  exact⟨m1++m2,by rw [e2,Array.append_assoc]⟩
 ·obtain⟨m,hn,hl⟩:=I.loc
  refine⟨m,ns m hn,fun i x v e1 e2 e3=>?_⟩
  obtain⟨u,r,l⟩:=hl i x v e1 e2 e3
  refine⟨u,r,?_⟩
  rcases l with l | ⟨k,c,e,z⟩
  ·exact .inl l
  ·exact .inr ⟨k,c,e,cellK x c e _ z⟩
 ·obtain⟨v,z⟩:=I.cell x c e
  exact⟨v,cellK x c e v z⟩
 ·obtain⟨m,⟨o,_,_,ho,_⟩,_⟩:=I.loc
  exact free _ o (fun z=>(hch _ z).2.1 rfl) ho I.free
 ·obtain⟨v,o,ho,hd⟩:=I.cell x c e
  exact free c o (fun z=>(hch c z).2.2.1 x c e rfl) ho (I.freeC x c e)
 ·obtain⟨e,n,ne,nf,d⟩:=I.pin p hp
  have nch:p.1 ∉ ch:=fun z=>(hch p.1 z).2.2.2 p hp rfl
  exact⟨keep p.1 p.2 ne nf nch e n,free p.1 p.2 nch e n,ne,nf,d⟩
theorem Inv.un {t':Nat} (I:Inv X pins σ H s) (u:Un X.fs [] H H' s.heap h') (hok:HOk X.prog X.w H' h'):Inv X pins σ H' { s with heap:=h',toks:=t' }:=by
 obtain⟨m,⟨o,es,ep,ho,r⟩,_⟩:=id I.loc
 obtain⟨sl,hL⟩:=u.any ho I.free (by simp)
 exact I.step (g':=s.gens) (d':=s.drawn) (ch:=[]) (fun _ z=>nomatch z) (fun b o _ hb _ e n=>u.keep b o e n hb (by simp)) (fun b o _ hb _ e n=>u.slot b o e n hb (by simp)) (fun b o _ e n=>u.free b o e n (by simp)) (fun b o _ e=>u.there b o e (by simp)) u.tups u.frzs u.tbls (fun m' hm=>by
  obtain⟨o',es',ep',ho',r'⟩:=hm
  rw [ho] at ho';cases ho'
  exact⟨_,es',ep',hL,r'⟩) hok I.bare
theorem Inv.call {g':Array GenState}{t':Nat}{d':Drawn}{ch:List Addr} (I:Inv X pins σ H s) (u:Un (frs X.stack) ch H H' s.heap h') (hok:HOk X.prog X.w H' h') (hg:AllBare g')
  (hch:∀b ∈ ch,(b ∈ X.ex\/X.s₀.heap.objs.size≤b)/\b≠X.env.locals/\(∀x c,X.env.cells.lookup x=some c->c≠b)/\∀p ∈ X.pn++pins,p.1≠b) :
  Inv X pins σ H' { s with heap:=h',gens:=g',drawn:=d',toks:=t' }:=by
 obtain⟨m,⟨o,es,ep,ho,r⟩,_⟩:=id I.loc
 obtain⟨sl,hL⟩:=u.any ho I.free fun z=>(hch _ z).2.1 rfl
 exact I.step (ch:=ch) hch (fun b o hL hb hc e n=>u.keep b o e n (fun z=>(List.mem_cons.mp (I.stkSub b z)).elim hL hb) hc) (fun b o _ _ hc e n=>u.any e n hc) (fun b o hc e n=>u.free b o e n hc) (fun b o hc e=>u.there b o e hc) u.tups u.frzs u.tbls (fun m' hm=>by
  obtain⟨o',es',ep',ho',r'⟩:=hm
  rw [ho] at ho';cases ho'
  exact⟨_,es',ep',hL,r'⟩) hok hg
theorem Inv.turned {t':Nat}{it:Addr} (I:Inv X pins σ H s) (k:∀b o,b≠it->s.heap.get? b=some o->h'.get? b=some o) (hn:H it=none) (hL:it≠X.env.locals)
  (h1:it ∈ X.ex\/X.s₀.heap.objs.size≤it) (h2:∀x c,X.env.cells.lookup x=some c->c≠it) (h3:∀p ∈ X.pn++pins,p.1≠it):Inv X pins σ H { s with heap:=h',toks:=t' }:=by
 have nit:∀b u,H b=some u->b≠it:=fun b u e z=>by rw [z,hn] at e;cases e
 refine I.step (g':=s.gens) (d':=s.drawn) (ch:=[it]) (fun b hb=>?_) (fun b o _ _ hc e _=>k b o (fun z=>hc (by simp [z])) e) (fun b o _ _ hc e _=>⟨o.slots,k b o (fun z=>hc (by simp [z])) e⟩) (fun _ _ _ _ n=>n)
  (fun b o hc e=>⟨o,k b o (fun z=>hc (by simp [z])) e⟩) (fun _ _ e=>e) (fun _ _ _ e=>e) (fun b ps e=>⟨#[],by rw [e];simp⟩) (fun m hm=>?_) (fun b u e=>?_) I.bare
 ·have e:b=it:=by simpa using hb
  subst e
  exact⟨h1,hL,h2,h3⟩
 ·obtain⟨o,es,ep,ho,r⟩:=hm
  exact⟨o,es,ep,k _ o (Ne.symm hL) ho,r⟩
 ·refine (I.hok b u e).stay (fun c v hc q=>k c v ?_ q) (fun _ q=>q) fun _ _ q=>q
  rcases hc with z | z
  ·rw [z];exact nit b u e
  ·exact nit c _ z
theorem Inv.tok (I:Inv X pins σ H s) (t:Nat):Inv X pins σ H { s with toks:=t }:=I.un (h':=s.heap) (t':=t) Un.refl I.hok
theorem Inv.kept {t':Nat} (I:Inv X pins σ H s) (k:∀b u,s.heap.get? b=some u->h'.get? b=some u):Inv X pins σ H { s with heap:=h',toks:=t' }:=I.un (Un.kept k) (I.hok.kept k)
theorem Inv.laid {a:Addr}{o:HO}{t':Nat} (I:Inv X pins σ H s) (k:∀b u,s.heap.get? b=some u->h'.get? b=some u) (hp:s.heap.objs.size≤a) (new:ObjOk X.prog X.w (upd H a o) h' a o) :
  Inv X pins σ (upd H a o) { s with heap:=h',toks:=t' }:=I.un (Un.laid k hp (I.hok.fresh hp)) (I.hok.laid k hp new)
theorem Inv.write {x e:Addr}{o:HO}{t':Nat} (I:Inv X pins σ H s) (mu:Mut (H x)) (he:e=x\/H e=some (.own x)) (k:∀b u,b≠e->s.heap.get? b=some u->h'.get? b=some u) (heo:∃u,h'.get? e=some u)
  (new:ObjOk X.prog X.w (upd H x o) h' x o):Inv X pins σ (upd H x o) { s with heap:=h',toks:=t' }:=I.un (Un.write mu he k heo) (I.hok.write mu he k heo new)
theorem Inv.weak {σ':List (Option V)} (I:Inv X pins σ H s) (hl:σ'.length=σ.length) (w:∀(i:Nat) v,σ'[i]? = some (some v)->σ[i]? = some (some v)):Inv X pins σ' H s:=
 ⟨I.ok,I.os,I.bare,I.base,let ⟨m,hn,hl'⟩:=I.loc;⟨m,hn,fun i x v e1 e2 e3=>hl' i x v e1 (w i v e2) e3⟩,I.cell,I.free,I.freeC,I.pin,I.hok,hl.trans I.len⟩
theorem Inv.pins_of {pins':List (Addr×Obj)} (I:Inv X pins σ H s) (h:∀p ∈ pins',s.heap.get? p.1=some p.2/\H p.1=none/\p.1≠X.env.locals/\p.1 ∉ X.fs/\∀v,p.2.data≠.cell v):Inv X pins' σ H s:=
 ⟨I.ok,I.os,I.bare,I.base,I.loc,I.cell,I.free,I.freeC,fun p hp=>(List.mem_append.mp hp).elim (fun z=>I.pin p (List.mem_append_left _ z)) (h p),I.hok,I.len⟩
theorem nodup_ix {N:List Str} (hN:N.Nodup) {i j:Nat}{x:Str} (a:N[i]? = some x) (b:N[j]? = some x):i=j:=by
 obtain⟨h1,e1⟩:=List.getElem?_eq_some_iff.mp a
 obtain⟨h2,e2⟩:=List.getElem?_eq_some_iff.mp b
 exact (List.getElem_inj hN).mp (e1.trans e2.symm)
theorem store_ok2 {M:Model}{A:Around}{E:Value->Shared->Prop}{i:Nat}{x:Str}{v:V}{u:Value}{Q:Unit->Shared->Prop} (I:Inv X pins σ H s) (hN:X.N.Nodup) (hi:X.N[i]? = some x) (hx:Loc X.env.scope x) (r:RelV v u)
  (h:∀s',Inv X pins (σ.set i (some v)) H s'->(∃a,Heap.SameBut a s.heap s'.heap/\(a=X.env.locals\/X.env.cells.lookup x=some a))->Q () s') (hf:X.fn x=true\/X.env.scope.names.lookup x=some .local:=by first | exact .inl rfl | exact .inr rfl | assumption):wpAny M A (storeName X.env x u) Q E s:=by
 obtain⟨m,hn,hl⟩:=id I.loc
 have hcls:(X.env.scope.kind == .class || (X.env.scope.kind == .module && X.env.locals != X.env.globals))=false:=by rw [I.ok.kind];rfl
 have hiσ:i < σ.length:=by rw [I.len];exact (List.getElem?_eq_some_iff.mp hi).1
 have cne:=I.cne
 have tracked:∀{a:Addr}{h':Heap},(∃o,s.heap.get? a=some o/\H a=none)->Heap.SameBut a s.heap h'->HOk X.prog X.w H h':=fun {a h'} ha hs b ob e=>by
  obtain⟨_,_,hfree⟩:=ha
  refine (I.hok b ob e).stay (fun c w' hc q=>(hs.2 c ?_).trans q) (fun _ q=>q) fun _ _ q=>q
  rintro rfl
  rcases hc with rfl | hc
  ·rw [hfree] at e;cases e
  ·rw [hfree] at hc;cases hc
 rcases hx with hk | hk
 ·refine wpAny_storeName_local hk hn (fun h' hn' hs=>?_) hcls
  obtain⟨oL,_,_,hoL,_⟩:=id hn
  refine h _ ⟨I.ok,I.os,I.bare,⟨fun b o e n hb hx=>?_,fun b o e n hb hx=>?_,I.base.free,fun b o e hx=>?_,I.base.tups,I.base.frzs,I.base.tbls⟩,⟨_,hn',fun j y v' e1 e2 e3=>?_⟩,fun y c e=>?_,I.free,I.freeC,fun p hp=>?_,tracked ⟨oL,hoL,I.free⟩ hs,by simpa using I.len⟩ ⟨_,hs,.inl rfl⟩
  ·exact (hs.2 b (Nat.ne_of_lt (Nat.lt_of_lt_of_le (Heap.lt_size e) I.ok.above))).trans (I.base.keep b o e n hb hx)
  ·obtain⟨sl,e1⟩:=I.base.slot b o e n hb hx
   exact⟨sl,(hs.2 b (Nat.ne_of_lt (Nat.lt_of_lt_of_le (Heap.lt_size e) I.ok.above))).trans e1⟩
  ·obtain⟨o',e1⟩:=I.base.there b o e hx
   exact⟨o',(hs.2 b (Nat.ne_of_lt (Nat.lt_of_lt_of_le (Heap.lt_size e) I.ok.above))).trans e1⟩
  ·by_cases hj:j=i
   ·subst hj
    rw [hi] at e1;cases e1
    rw [List.getElem?_set_self hiσ] at e2
    cases e2
    exact⟨u,r,.inl ⟨hk,by simp⟩⟩
   ·rw [List.getElem?_set_ne (Ne.symm hj)] at e2
    obtain⟨u',r',q⟩:=hl j y v' e1 e2 e3
    refine⟨u',r',?_⟩
    rcases q with ⟨k,e⟩ | ⟨k,c,e,z⟩
    ·refine .inl ⟨k,?_⟩
     have:y≠x:=fun e=>hj (nodup_ix hN e1 (e ▸ hi))
     simp [this,e]
    ·exact .inr ⟨k,c,e,z.sameBut hs (cne y c e)⟩
  ·obtain⟨w',z⟩:=I.cell y c e
   exact⟨w',z.sameBut hs (cne y c e)⟩
  ·obtain⟨e,n,ne,nf,d⟩:=I.pin p hp
   exact⟨(hs.2 p.1 ne).trans e,n,ne,nf,d⟩
 ·have hfn:X.fn x=true:=by
   rcases hf with z | z
   ·exact z
   ·rw [z] at hk;cases hk
  obtain⟨c,hc⟩:=I.ok.has x (.inl hk)
  obtain⟨w',z⟩:=I.cell x c hc
  refine wpAny_storeName_cell I.ok.kind hk hc z (fun h' hc' hs=>?_)
  obtain⟨oc,hoc,hocd⟩:=id z
  refine h { s with heap:=h' } ⟨I.ok,I.os,I.bare,⟨fun b o e n hb hx=>?_,fun b o e n hb hx=>?_,I.base.free,fun b o e hx=>?_,I.base.tups,I.base.frzs,I.base.tbls⟩,⟨m,hn.sameBut hs (Ne.symm (cne x c hc)),fun j y v' e1 e2 e3=>?_⟩,fun y c' e=>?_,I.free,I.freeC,fun p hp=>?_,tracked ⟨oc,hoc,I.freeC x c hc⟩ hs,by simpa using I.len⟩ ⟨c,hs,.inr hc⟩
  ·exact (hs.2 b (Nat.ne_of_lt (Nat.lt_of_lt_of_le (Heap.lt_size e) (I.ok.cab x c hfn hc)))).trans (I.base.keep b o e n hb hx)
  ·obtain⟨sl,e1⟩:=I.base.slot b o e n hb hx
   exact⟨sl,(hs.2 b (Nat.ne_of_lt (Nat.lt_of_lt_of_le (Heap.lt_size e) (I.ok.cab x c hfn hc)))).trans e1⟩
  ·obtain⟨o',e1⟩:=I.base.there b o e hx
   exact⟨o',(hs.2 b (Nat.ne_of_lt (Nat.lt_of_lt_of_le (Heap.lt_size e) (I.ok.cab x c hfn hc)))).trans e1⟩
  ·by_cases hj:j=i
   ·subst hj
    rw [hi] at e1;cases e1
    rw [List.getElem?_set_self hiσ] at e2
    cases e2
    exact⟨u,r,.inr ⟨.inl hk,c,hc,hc'⟩⟩
   ·rw [List.getElem?_set_ne (Ne.symm hj)] at e2
    obtain⟨u',r',q⟩:=hl j y v' e1 e2 e3
    refine⟨u',r',?_⟩
    rcases q with q | ⟨k,c',e,z'⟩
    ·exact .inl q
    ·refine .inr ⟨k,c',e,z'.sameBut hs ?_⟩
     rintro rfl
     exact hj (nodup_ix hN e1 (I.ok.inj _ _ _ e hc ▸ hi))
  ·by_cases hcc:c'=c
   ·subst hcc;exact⟨_,hc'⟩
   ·obtain⟨w2,z2⟩:=I.cell y c' e
    exact⟨w2,z2.sameBut hs hcc⟩
  ·obtain⟨e,n,ne,nf,d⟩:=I.pin p hp
   refine⟨(hs.2 p.1 ?_).trans e,n,ne,nf,d⟩
   intro q
   rw [q,hoc] at e
   have q':oc=p.2:=Option.some.inj e
   exact d w' (by rw [<- q'];exact hocd)
theorem store_ok {M:Model}{A:Around}{E:Value->Shared->Prop}{i:Nat}{x:Str}{v:V}{u:Value}{Q:Unit->Shared->Prop} (I:Inv X pins σ H s) (hN:X.N.Nodup) (hi:X.N[i]? = some x) (hx:Loc X.env.scope x) (r:RelV v u)
  (h:∀s',Inv X pins (σ.set i (some v)) H s'->Q () s') (hf:X.fn x=true\/X.env.scope.names.lookup x=some .local:=by first | exact .inl rfl | exact .inr rfl | assumption):wpAny M A (storeName X.env x u) Q E s:=
 store_ok2 I hN hi hx r (fun s' I' _=>h s' I') hf
theorem Inv.call' {s':Shared}{ch:List Addr} (I:Inv X pins σ H s) (ho:s'.os=s.os) (u:Un (frs X.stack) ch H H' s.heap s'.heap) (hok:HOk X.prog X.w H' s'.heap) (hg:AllBare s'.gens)
  (hch:∀b ∈ ch,(b ∈ X.ex\/X.s₀.heap.objs.size≤b)/\b≠X.env.locals/\(∀x c,X.env.cells.lookup x=some c->c≠b)/\∀p ∈ X.pn++pins,p.1≠b):Inv X pins σ H' s':=by
 obtain⟨h',g',d',t',o'⟩:=s'
 have e:o'=s.os:=ho
 subst e
 exact I.call (g':=g') (t':=t') (d':=d') u hok hg hch
end
noncomputable abbrev XK:=Value->Option Addr->Hp->Prop
noncomputable abbrev St:=List (Option V)
noncomputable abbrev VK:=V->Hp->Prop
noncomputable abbrev TE:=St->Hp->VK->Prop
noncomputable abbrev TT:=St->Hp->(Bool->Hp->Prop)->Prop
noncomputable abbrev TA:=St->Hp->(List V->Hp->Prop)->Prop
structure Ends where
 nx:St->Hp->Prop
 rt:VK
 bk:St->Hp->Prop:=fun _ _=>False
 ct:St->Hp->Prop:=fun _ _=>False
noncomputable abbrev TS:=Ends->St->Hp->Prop
noncomputable def EP (X:Cx) (pins:List (Addr×Obj)) (σ:St) (Q:VK) (u:Value) (s':Shared):Prop:=∃v H',Inv X pins σ H' s'/\RelV v u/\Q v H'
noncomputable def TP (X:Cx) (pins:List (Addr×Obj)) (σ:St) (Q:Bool->Hp->Prop) (b:Bool) (s':Shared):Prop:=∃H',Inv X pins σ H' s'/\Q b H'
noncomputable def AP (X:Cx) (pins:List (Addr×Obj)) (σ:St) (Q:List V->Hp->Prop) (us:List Value) (s':Shared):Prop:=∃vs H',Inv X pins σ H' s'/\Vals vs us/\Q vs H'
noncomputable def SP (X:Cx) (pins:List (Addr×Obj)) (D:Ends) (f:Flow) (s':Shared):Prop:=
 match f with
 | .next=>∃σ' H',Inv X pins σ' H' s'/\D.nx σ' H'
 | .brk=>∃σ' H',Inv X pins σ' H' s'/\D.bk σ' H'
 | .cont=>∃σ' H',Inv X pins σ' H' s'/\D.ct σ' H'
 | .ret u=>∃v σ' H',Inv X pins σ' H' s'/\RelV v u/\D.rt v H'
noncomputable def PE (X:Cx) (e:Expr) (t:TE):Prop:=
 ∀(pins:List (Addr×Obj)) (s:Shared) (σ:St) (H:Hp) (Q:VK),Inv X pins σ H s->t σ H Q->wpAny (model X.prog X.w) X.A (eval e X.env) (EP X pins σ Q) X.xe s
noncomputable def PT (X:Cx) (e:Expr) (t:TT):Prop:=
 ∀(pins:List (Addr×Obj)) (s:Shared) (σ:St) (H:Hp) (Q:Bool->Hp->Prop),Inv X pins σ H s->t σ H Q->wpAny (model X.prog X.w) X.A (isTrue e X.env (eval e X.env)) (TP X pins σ Q) X.xe s
noncomputable def PW (X:Cx) (e:Expr) (t:TT):Prop:=
 ∀(whole:Sem Value) (pins:List (Addr×Obj)) (s:Shared) (σ:St) (H:Hp) (Q:Bool->Hp->Prop),Inv X pins σ H s->t σ H Q->wpAny (model X.prog X.w) X.A (isTrue e X.env whole) (TP X pins σ Q) X.xe s
theorem PW.pt {X:Cx}{e:Expr}{t:TT} (h:PW X e t):PT X e t:=h _
noncomputable def PA (X:Cx) (es:List Expr) (t:TA):Prop:=
 ∀(pos:Pos) (pins:List (Addr×Obj)) (s:Shared) (σ:St) (H:Hp) (Q:List V->Hp->Prop),Inv X pins σ H s->t σ H Q->wpAny (model X.prog X.w) X.A (spliced (backTo pos (starEach es X.env))) (AP X pins σ Q) X.xe s
noncomputable def PS (X:Cx) (st:Stmt) (t:TS):Prop:=
 ∀(pins:List (Addr×Obj)) (s:Shared) (σ:St) (H:Hp) (D:Ends),Inv X pins σ H s->t D σ H->wpAny (model X.prog X.w) X.A (exec st X.env) (SP X pins D) X.xe s
noncomputable def PSs (X:Cx) (st:List Stmt) (t:TS):Prop:=
 ∀(pins:List (Addr×Obj)) (s:Shared) (σ:St) (H:Hp) (D:Ends),Inv X pins σ H s->t D σ H->wpAny (model X.prog X.w) X.A (execs st X.env) (SP X pins D) X.xe s
theorem thn {α:Type}{t:Sem α}{Q Q':α->Shared->Prop}{M:Model}{A:Around}{E:Value->Shared->Prop}{s:Shared} (h:wpAny M A t Q E s) (hQ:∀a s,Q a s->Q' a s):wpAny M A t Q' E s:=wpAny_mono h hQ fun _ _ x=>x
end L2
namespace L2
open PySem PySem.Spec PyProof.Rows
section
variable {X:Cx}
noncomputable def tVar (i:Nat):TE:=fun σ H Q=>∃v,σ[i]? = some (some v)/\Q v H
noncomputable def tC (v:V):TE:=fun _ H Q=>Q v H
theorem pe_var {i:Nat}{x:Str}{pos:Pos} (hN:X.N[i]? = some x) (hv:Vis X.env.scope x) (hd:(x == ("__debug__":Str))=false:=by decide) (hcd:(x == ("__classdict__":Str))=false:=by decide):PE X (.Name x pos) (tVar i):=by
 intro pins s σ H Q I h
 obtain⟨v,e,h⟩:=h
 obtain⟨m,hn,hl⟩:=I.loc
 obtain⟨u,r,l⟩:=hl i x v hN e hv
 have fin:EP X pins σ Q u s:=⟨v,H,I,r,h⟩
 rcases l with ⟨hk,hm⟩ | ⟨hk,c,hc,hcell⟩
 ·exact wpAny_Name (wpAny_loadName_local I.ok.kind hk hn hm fin) hd
 ·rcases hk with hk | hk
  ·exact wpAny_Name (wpAny_loadName_cell I.ok.kind hk hc hcell fin) hd
  ·exact wpAny_Name (wpAny_loadName_free I.ok.kind hk hc hcell fin hcd) hd
theorem pe_int {i j pos}:PE X (.Constant (.int i) j pos) (tC (.int i)):=fun _ _ _ H _ I h=>wpAny_Constant_int ⟨.int i,H,I.tok _,⟨_,rfl⟩,h⟩
theorem pe_bl {b j pos}:PE X (.Constant (.bool b) j pos) (tC (.bl b)):=fun _ _ _ H _ I h=>Constant_bool ⟨.bl b,H,I,rfl,h⟩
theorem pe_non {j pos}:PE X (.Constant .none j pos) (tC .non):=fun _ _ _ H _ I h=>Constant_none ⟨.non,H,I,rfl,h⟩
theorem pe_str {x j pos}:PE X (.Constant (.str x) j pos) (tC (.str x)):=fun _ _ _ H _ I h=>Calls.Constant_str ⟨.str x,H,I.tok _,⟨_,rfl⟩,h⟩
noncomputable def Gl (X:Cx) (x:Str):Prop:=X.env.kindOf x=some .globalImplicit
theorem ld_glob {E:Value->Shared->Prop}{pins:List (Addr×Obj)}{s:Shared}{σ:St}{H:Hp}{x:Str}{u:Value}{pos:Pos}{Q:Value->Shared->Prop} (I:Inv X pins σ H s) (hg:Gl X x) (hm:X.mg x=some u) (h:Q u s)
  (hd:(x == ("__debug__":Str))=false:=by decide):wpAny (model X.prog X.w) X.A (eval (.Name x pos) X.env) Q E s:=
 Calls.Name_function_global I.ok.kind hg (Calls.loadGlobal_global (by rw [I.ok.glob];exact I.mod.glob.keeps I.bk) hm h) hd
theorem ld_blt {E:Value->Shared->Prop}{pins:List (Addr×Obj)}{s:Shared}{σ:St}{H:Hp}{x:Str}{u:Value}{pos:Pos}{Q:Value->Shared->Prop} (I:Inv X pins σ H s) (hg:Gl X x) (hm:X.mg x=none) (hv:bootBuiltins x=some u) (h:Q u s)
  (hn:x≠"__name__":=by decide) (hd:(x == ("__debug__":Str))=false:=by decide):wpAny (model X.prog X.w) X.A (eval (.Name x pos) X.env) Q E s:=by
 obtain⟨mb,h1,h2⟩:=I.mod.blt
 exact Calls.Name_function_global I.ok.kind hg (Calls.loadGlobal_builtin (by rw [I.ok.glob];exact I.mod.glob.keeps I.bk) hm (by rw [I.ok.blt];exact h1.keeps I.bk) ((h2 x hn).trans hv) h) hd
theorem pe_glob {x:Str}{v:V}{u:Value}{pos:Pos} (hg:Gl X x) (hm:X.mg x=some u) (r:RelV v u) (hd:(x == ("__debug__":Str))=false:=by decide):PE X (.Name x pos) (tC v):=
 fun _ _ _ H _ I h=>ld_glob I hg hm ⟨v,H,I,r,h⟩ hd
theorem pe_bltn {x:Str}{v:V}{u:Value}{pos:Pos} (hg:Gl X x) (hm:X.mg x=none) (hv:bootBuiltins x=some u) (r:RelV v u) (hn:x≠"__name__":=by decide) (hd:(x == ("__debug__":Str))=false:=by decide):PE X (.Name x pos) (tC v):=
 fun _ _ _ H _ I h=>ld_blt I hg hm hv ⟨v,H,I,r,h⟩ hn hd
noncomputable def t2I (ta tb:TE) (k:Int->Int->Hp->Prop):St->Hp->Prop:=fun σ H=>ta σ H fun x H1=>tb σ H1 fun y H2=>∃i j,x=.int i/\y=.int j/\k i j H2
variable {a b:Expr}{ta tb:TE}{pos:Pos}
noncomputable def tCmp (p:Int->Int->Bool) (ta tb:TE):TE:=fun σ H Q=>t2I ta tb (fun i j H2=>Q (.bl (p i j)) H2) σ H
noncomputable abbrev tLt:TE->TE->TE:=tCmp fun i j=>decide (i < j)
noncomputable abbrev tLe:TE->TE->TE:=tCmp fun i j=>decide (i≤j)
noncomputable abbrev tGt:TE->TE->TE:=tCmp fun i j=>decide (j < i)
noncomputable abbrev tGe:TE->TE->TE:=tCmp fun i j=>decide (j≤i)
noncomputable abbrev tEqI:TE->TE->TE:=tCmp fun i j=>decide (i=j)
noncomputable abbrev tNeI:TE->TE->TE:=tCmp fun i j=>!decide (i=j)
variable {tA tB':TT}{rest:List Expr}
noncomputable def tAnd (t u:TT):TT:=fun σ H Q=>t σ H fun c H1=>if c=true then u σ H1 Q else Q false H1
noncomputable def tOr (t u:TT):TT:=fun σ H Q=>t σ H fun c H1=>if c=true then Q true H1 else u σ H1 Q
noncomputable def tNot (t:TT):TT:=fun σ H Q=>t σ H fun c H1=>Q (!c) H1
theorem pw_and1 (ha:PT X a tA):PW X (.BoolOp .And [a] pos) tA:=by
 intro wh pins s σ H Q I h
 refine isTrue_and (thn (ha pins s σ H Q I h) fun c s1 e=>?_)
 cases c with
 | true=>exact isTrue_and_nil e
 | false=>exact e
theorem pw_or1 (ha:PT X a tA):PW X (.BoolOp .Or [a] pos) tA:=by
 intro wh pins s σ H Q I h
 refine isTrue_or (thn (ha pins s σ H Q I h) fun c s1 e=>?_)
 cases c with
 | false=>exact isTrue_or_nil e
 | true=>exact e
theorem pw_and (ha:PT X a tA) (hb:PW X (.BoolOp .And (b::rest) pos) tB'):PW X (.BoolOp .And (a::b::rest) pos) (tAnd tA tB'):=by
 intro wh pins s σ H Q I h
 refine isTrue_and (thn (ha pins s σ H _ I h) fun c s1 hz=>?_)
 obtain⟨H1,I1,q1⟩:=hz
 cases c with
 | true=>exact hb wh pins s1 σ H1 Q I1 q1
 | false=>exact⟨H1,I1,q1⟩
theorem pw_or (ha:PT X a tA) (hb:PW X (.BoolOp .Or (b::rest) pos) tB'):PW X (.BoolOp .Or (a::b::rest) pos) (tOr tA tB'):=by
 intro wh pins s σ H Q I h
 refine isTrue_or (thn (ha pins s σ H _ I h) fun c s1 hz=>?_)
 obtain⟨H1,I1,q1⟩:=hz
 cases c with
 | true=>exact⟨H1,I1,q1⟩
 | false=>exact hb wh pins s1 σ H1 Q I1 q1
theorem pt_not (ha:PT X a tA):PT X (.UnaryOp .Not a pos) (tNot tA):=by
 intro pins s σ H Q I h
 exact isTrue_not (ha pins s σ H (fun c H1=>Q (!c) H1) I h)
noncomputable def tAndV (ta tb:TE):TE:=fun σ H Q=>ta σ H fun x H1=>∃c,x=.bl c/\if c=true then tb σ H1 Q else Q (.bl false) H1
noncomputable def tOrV (ta tb:TE):TE:=fun σ H Q=>ta σ H fun x H1=>∃c,x=.bl c/\if c=true then Q (.bl true) H1 else tb σ H1 Q
noncomputable def tNotV (ta:TE):TE:=fun σ H Q=>ta σ H fun x H1=>∃c,x=.bl c/\Q (.bl (!c)) H1
theorem pe_one {op}{t:TE} (h:PE X a t):PE X (.BoolOp op [a] pos) t:=fun pins s σ H Q I hw=>BoolOp_one (h pins s σ H Q I hw)
theorem pe_and (ha:PE X a ta) (hb:PE X (.BoolOp .And (b::rest) pos) tb):PE X (.BoolOp .And (a::b::rest) pos) (tAndV ta tb):=by
 intro pins s σ H Q I h
 refine BoolOp_and (thn (ha pins s σ H _ I h) fun v s1 hz=>?_)
 obtain⟨x,H1,I1,r1,q1⟩:=hz
 obtain⟨c,rfl,q1⟩:=q1
 cases r1
 refine wpAny_truthy_bool ?_
 cases c with
 | true=>exact hb pins s1 σ H1 Q I1 q1
 | false=>exact⟨.bl false,H1,I1,rfl,q1⟩
theorem pe_or (ha:PE X a ta) (hb:PE X (.BoolOp .Or (b::rest) pos) tb):PE X (.BoolOp .Or (a::b::rest) pos) (tOrV ta tb):=by
 intro pins s σ H Q I h
 refine BoolOp_or (thn (ha pins s σ H _ I h) fun v s1 hz=>?_)
 obtain⟨x,H1,I1,r1,q1⟩:=hz
 obtain⟨c,rfl,q1⟩:=q1
 cases r1
 refine wpAny_truthy_bool ?_
 cases c with
 | false=>exact hb pins s1 σ H1 Q I1 q1
 | true=>exact⟨.bl true,H1,I1,rfl,q1⟩
theorem pe_not (ha:PE X a ta):PE X (.UnaryOp .Not a pos) (tNotV ta):=by
 intro pins s σ H Q I h
 refine UnaryOp_ (thn (ha pins s σ H _ I h) fun v s1 hz=>?_)
 obtain⟨x,H1,I1,r1,q1⟩:=hz
 obtain⟨c,rfl,q1⟩:=q1
 cases r1
 exact not_of (wpAny_truthy_bool ⟨.bl (!c),H1,I1,rfl,q1⟩)
noncomputable def tIf (t:TT) (ta tb:TE):TE:=fun σ H Q=>t σ H fun c H1=>if c=true then ta σ H1 Q else tb σ H1 Q
theorem pe_ifExp {c:Expr} (hc:PT X c tA) (ha:PE X a ta) (hb:PE X b tb):PE X (.IfExp c a b pos) (tIf tA ta tb):=by
 intro pins s σ H Q I h
 refine wpAny_IfExp (thn (hc pins s σ H _ I h) fun d s1 hz=>?_)
 obtain⟨H1,I1,q1⟩:=hz
 cases d with
 | true=>exact ha pins s1 σ H1 Q I1 q1
 | false=>exact hb pins s1 σ H1 Q I1 q1
end
end L2
namespace L2
open PySem PySem.Spec PyProof.Rows
noncomputable def SqL (K:PySem.W.Frag) (H:Hp) (a:Addr) (xs:List V):Prop:=
 Rd H a (.lst xs) \/
  ∃(o:Obj) (its:Array Value) (n:Nat),K.lookup a=some o/\o.cls=.type "list"/\o.dict=none/\o.data=.seq its n/\its.size≤sizeLine/\Vals xs its.toList
noncomputable def SqT (K:PySem.W.Frag) (H:Hp) (a:Addr) (xs:List V):Prop:=
 Rd H a (.tup xs) \/
  ∃(o:Obj) (its:Array Value) (n:Nat),K.lookup a=some o/\o.cls=.type "tuple"/\o.data=.seq its n/\its.size≤sizeLine/\Vals xs its.toList
noncomputable def absV:Value->Option V
 | .none=>some .non
 | .bool b=>some (.bl b)
 | .int i _=>some (.int i)
 | .str x _=>some (.str x)
 | .bytes b _=>some (.byt b)
 | .float b _=>some (.flt b)
 | .ref a=>some (.ref a)
 | .type n=>some (.ty n)
 | _=>none
theorem RelV.abs {x:V}{u:Value} (r:RelV x u):absV u=some x:=by
 cases x with
 | non=>cases r;rfl
 | bl _=>cases r;rfl
 | int _=>obtain⟨t,rfl⟩:=r;rfl
 | str _=>obtain⟨t,rfl⟩:=r;rfl
 | byt _=>obtain⟨t,rfl⟩:=r;rfl
 | flt _=>obtain⟨t,rfl⟩:=r;rfl
 | ref _=>cases r;rfl
 | ty _=>cases r;rfl
theorem RelV.inj {x y:V}{u:Value} (r:RelV x u) (q:RelV y u):x=y:=Option.some.inj (r.abs.symm.trans q.abs)
theorem Vals.inj:∀{xs ys:List V}{us:List Value},Vals xs us->Vals ys us->xs=ys
 | _,_,_,.nil,.nil=>rfl
 | _,_,_,.cons r t,.cons r' t'=>by rw [r.inj r',Vals.inj t t']
section
variable {X:Cx}{pins:List (Addr×Obj)}{σ:St}{H:Hp}{s:Shared}{a:Addr}{xs ys:List V}
theorem SqL.of {K:PySem.W.Frag} (h:H a=some (.lst xs)):SqL K H a xs:=.inl (.inl h)
theorem SqT.of {K:PySem.W.Frag} (h:H a=some (.tup xs)):SqT K H a xs:=.inl (.inl h)
theorem Inv.list (I:Inv X pins σ H s) (h:SqL X.K H a xs):∃its:List Value,Vals xs its/\PlainL s.heap a its.toArray/\xs.length≤sizeLine:=by
 rcases h with h | ⟨o,its,n,hk,hc,hd,hs,hz,r⟩
 ·obtain⟨z,its,n,r,e⟩:=h.ok I.hok
  exact⟨its,r,⟨_,n,e,rfl,rfl,rfl⟩,z⟩
 ·refine⟨its.toList,r,⟨o,n,I.kIn a o hk,hc,hd,by simpa using hs⟩,?_⟩
  have e:=r.length
  simp only [Array.length_toList] at e
  omega
theorem Inv.tuple (I:Inv X pins σ H s) (h:SqT X.K H a xs):∃its:List Value,Vals xs its/\IsTup s.heap a its.toArray/\xs.length≤sizeLine:=by
 rcases h with h | ⟨o,its,n,hk,hc,hs,hz,r⟩
 ·obtain⟨z,its,r,p⟩:=h.ok I.hok
  exact⟨its,r,p,z⟩
 ·refine⟨its.toList,r,⟨o,I.kIn a o hk,hc,n,by simpa using hs⟩,?_⟩
  have e:=r.length
  simp only [Array.length_toList] at e
  omega
theorem Inv.list_inj (I:Inv X pins σ H s) (h:SqL X.K H a xs) (h':SqL X.K H a ys):xs=ys:=by
 obtain⟨its,r,⟨o,n,e,_,_,d⟩,_⟩:=I.list h
 obtain⟨its',r',⟨o',n',e',_,_,d'⟩,_⟩:=I.list h'
 rw [e] at e';cases e'
 rw [d] at d'
 injection d' with d1 _
 have:its=its':=by simpa using congrArg Array.toList d1
 subst this
 exact r.inj r'
theorem Inv.tuple_inj (I:Inv X pins σ H s) (h:SqT X.K H a xs) (h':SqT X.K H a ys):xs=ys:=by
 obtain⟨its,r,⟨o,e,_,n,d⟩,_⟩:=I.tuple h
 obtain⟨its',r',⟨o',e',_,n',d'⟩,_⟩:=I.tuple h'
 rw [e] at e';cases e'
 rw [d] at d'
 injection d' with d1 _
 have:its=its':=by simpa using congrArg Array.toList d1
 subst this
 exact r.inj r'
end
noncomputable abbrev Cx.wish (X:Cx) (E:Value->Shared->Prop):Cx:={ X with xe:=E }
noncomputable abbrev Cx.nox (X:Cx):Cx:=X.wish fun _ _=>False
theorem Cx.Ok.wish {X:Cx} (ok:X.Ok) (E:Value->Shared->Prop):(X.wish E).Ok:=
 ⟨ok.mod,ok.kind,ok.glob,ok.blt,ok.above,ok.inj,ok.has,ok.cab,ok.hd,ok.frames,ok.stk,ok.exf,ok.bs,ok.bsz,ok.noex,ok.exfs,ok.funs,ok.frf⟩
theorem Cx.Ok.unwish {X:Cx}{E:Value->Shared->Prop} (ok:(X.wish E).Ok):X.Ok:=
 ⟨ok.mod,ok.kind,ok.glob,ok.blt,ok.above,ok.inj,ok.has,ok.cab,ok.hd,ok.frames,ok.stk,ok.exf,ok.bs,ok.bsz,ok.noex,ok.exfs,ok.funs,ok.frf⟩
section
variable {X:Cx}{pins:List (Addr×Obj)}{σ:St}{H:Hp}{s:Shared}{E:Value->Shared->Prop}
theorem Inv.wish (I:Inv X pins σ H s) (E:Value->Shared->Prop):Inv (X.wish E) pins σ H s:=⟨I.ok.wish E,I.os,I.bare,I.base,I.loc,I.cell,I.free,I.freeC,I.pin,I.hok,I.len⟩
theorem Inv.unwish (I:Inv (X.wish E) pins σ H s):Inv X pins σ H s:=⟨I.ok.unwish,I.os,I.bare,I.base,I.loc,I.cell,I.free,I.freeC,I.pin,I.hok,I.len⟩
theorem SP.unwish {D:Ends}{f:Flow}{s':Shared} (h:SP (X.wish E) pins D f s'):SP X pins D f s':=by
 cases f with
 | next=>obtain⟨σ',H',I,q⟩:=h;exact⟨σ',H',I.unwish,q⟩
 | brk=>obtain⟨σ',H',I,q⟩:=h;exact⟨σ',H',I.unwish,q⟩
 | cont=>obtain⟨σ',H',I,q⟩:=h;exact⟨σ',H',I.unwish,q⟩
 | ret u=>obtain⟨v,σ',H',I,r,q⟩:=h;exact⟨v,σ',H',I.unwish,r,q⟩
theorem PE.nox {e:Expr}{t:TE} (h:PE X.nox e t):PE X e t:=fun pins s σ H Q I hw=>
 wpAny_mono (h pins s σ H Q (I.wish _) hw) (fun _ _ hz=>by obtain⟨v,H',I',r,q⟩:=hz;exact⟨v,H',I'.unwish,r,q⟩) fun _ _ z=>False.elim z
theorem PT.nox {e:Expr}{t:TT} (h:PT X.nox e t):PT X e t:=fun pins s σ H Q I hw=>
 wpAny_mono (h pins s σ H Q (I.wish _) hw) (fun _ _ hz=>by obtain⟨H',I',q⟩:=hz;exact⟨H',I'.unwish,q⟩) fun _ _ z=>False.elim z
theorem PSs.nox {st:List Stmt}{t:TS} (h:PSs X.nox st t):PSs X st t:=fun pins s σ H D I hw=>
 wpAny_mono (h pins s σ H D (I.wish _) hw) (fun _ _ q=>q.unwish) fun _ _ z=>False.elim z
end
section
variable {X:Cx}{st:Stmt}{rest:List Stmt}{t u:TS}{e:Expr}{te:TE}{pos:Pos}
noncomputable def tNext:TS:=fun D σ H=>D.nx σ H
noncomputable def tSeq (t u:TS):TS:=fun D σ H=>t { D with nx:=u D } σ H
theorem pss_nil:PSs X [] tNext:=fun _ _ σ H _ I h=>wpAny_execs_nil ⟨σ,H,I,h⟩
theorem pss_cons (h1:PS X st t) (h2:PSs X rest u):PSs X (st::rest) (tSeq t u):=by
 intro pins s σ H D I h
 refine wpAny_execs_cons (thn (h1 pins s σ H { D with nx:=u D } I h) fun f s1 q=>?_)
 cases f with
 | next=>
  obtain⟨σ',H',I',q⟩:=q
  exact h2 pins s1 σ' H' D I' q
 | ret v=>exact q
 | brk=>exact q
 | cont=>exact q
theorem pss_one (h1:PS X st t):PSs X [st] t:=by
 intro pins s σ H D I h
 refine wpAny_execs_cons (thn (h1 pins s σ H D I h) fun f s1 q=>?_)
 cases f with
 | next=>exact wpAny_execs_nil q
 | ret v=>exact q
 | brk=>exact q
 | cont=>exact q
theorem Inv.quiet {pins:List (Addr×Obj)}{σ:St}{H:Hp}{s:Shared} (I:Inv X pins σ H s):interactive X.env=false:=by simp [interactive,I.ok.kind]
noncomputable def tDrop (te:TE):TS:=fun D σ H=>te σ H fun _ H1=>D.nx σ H1
theorem ps_expr (he:PE X e te) (hs:swapsWith e none pos.line X.env=pure false:=by rfl):PS X (.Expr e pos) (tDrop te):=by
 intro pins s σ H D I h
 exact wpAny_Expr_any (thn (he pins s σ H _ I h) fun v s1 hz=>by obtain⟨x,H1,I1,r1,q1⟩:=hz;exact⟨σ,H1,I1,q1⟩) I.quiet hs
noncomputable def tRet (te:TE):TS:=fun D σ H=>te σ H D.rt
theorem ps_ret (he:PE X e te):PS X (.Return (some e) pos) (tRet te):=by
 intro pins s σ H D I h
 exact wpAny_Return_some (thn (he pins s σ H _ I h) fun v s1 hz=>by obtain⟨x,H1,I1,r1,q1⟩:=hz;exact⟨x,σ,H1,I1,r1,q1⟩)
noncomputable def tIfS (c:TT) (t u:TS):TS:=fun D σ H=>c σ H fun b H1=>if b=true then t D σ H1 else u D σ H1
theorem ps_if {c:Expr}{a b:List Stmt}{tc:TT} (hc:PT X c tc) (ha:PSs X a t) (hb:PSs X b u):PS X (.If c a b pos) (tIfS tc t u):=by
 intro pins s σ H D I h
 refine wpAny_If (thn (hc pins s σ H _ I h) fun d s1 hz=>?_)
 obtain⟨H1,I1,q1⟩:=hz
 cases d with
 | true=>exact ha pins s1 σ H1 D I1 q1
 | false=>exact hb pins s1 σ H1 D I1 q1
noncomputable def tNever:TS:=fun _ _ _=>False
theorem ps_never:PS X st tNever:=fun _ _ _ _ _ _ h=>h.elim
theorem pss_never {sts:List Stmt}:PSs X sts tNever:=fun _ _ _ _ _ _ h=>h.elim
end
noncomputable abbrev TG:=V->St->Hp->(St->Hp->Prop)->Prop
noncomputable abbrev TGs:=List V->St->Hp->(St->Hp->Prop)->Prop
noncomputable def PG (X:Cx) (target:Expr) (t:TG):Prop:=
 ∀(pins:List (Addr×Obj)) (s:Shared) (σ:St) (H:Hp) (v:V) (u:Value) (Q:St->Hp->Prop),Inv X pins σ H s->RelV v u->t v σ H Q ->
  wpAny (model X.prog X.w) X.A (assign target X.env u) (fun _ s'=>∃σ' H',Inv X pins σ' H' s'/\Q σ' H') X.xe s
noncomputable def PGs (X:Cx) (ts:List Expr) (t:TGs):Prop:=
 ∀(pins:List (Addr×Obj)) (s:Shared) (σ:St) (H:Hp) (vs:List V) (us:List Value) (Q:St->Hp->Prop),Inv X pins σ H s->Vals vs us->t vs σ H Q ->
  wpAny (model X.prog X.w) X.A (assignInOrder ((assignEach ts X.env).map (·.2)) us) (fun _ s'=>∃σ' H',Inv X pins σ' H' s'/\Q σ' H') X.xe s
noncomputable abbrev TSet:=V->V->V->Hp->(Hp->Prop)->Prop
noncomputable def PSet (X:Cx) (t:TSet):Prop:=
 ∀(pins:List (Addr×Obj)) (s:Shared) (σ:St) (H:Hp) (o i v:V) (ov iv u:Value) (Q:Hp->Prop),Inv X pins σ H s->RelV o ov->RelV i iv->RelV v u->t o i v H Q ->
  wpAny (model X.prog X.w) X.A (setItem ov iv u) (fun _ s'=>∃H',Inv X pins σ H' s'/\Q H') X.xe s
noncomputable abbrev TIp:=V->V->Hp->VK->Prop
section
variable {X:Cx}{pos:Pos}
noncomputable def gName (i:Nat):TG:=fun v σ H Q=>Q (σ.set i (some v)) H
theorem pg_name {i:Nat}{x:Str} (hN:X.N.Nodup) (hi:X.N[i]? = some x) (hx:Loc X.env.scope x) (hf:X.fn x=true\/X.env.scope.names.lookup x=some .local:=by first | exact .inl rfl | exact .inr rfl | assumption):PG X (.Name x pos) (gName i):=by
 intro pins s σ H v u Q I r h
 exact wpAny_assign_Name (store_ok I hN hi hx r (fun s' I'=>⟨_,H,I',h⟩) hf)
noncomputable def gNil:TGs:=fun vs σ H Q=>vs=[]/\Q σ H
noncomputable def gCons (t:TG) (u:TGs):TGs:=fun vs σ H Q=>∃v r,vs=v::r/\t v σ H fun σ' H'=>u r σ' H' Q
theorem pgs_nil:PGs X [] gNil:=by
 intro pins s σ H vs us Q I r h
 obtain⟨e,h⟩:=h
 subst e
 cases r
 exact assignInOrder_nil ⟨σ,H,I,h⟩
theorem pgs_cons {e:Expr}{es:List Expr}{t:TG}{u:TGs} (h1:PG X e t) (h2:PGs X es u)
  (hs:(assignEach (e::es) X.env).map (·.2)=assign e X.env::(assignEach es X.env).map (·.2):=by rfl):PGs X (e::es) (gCons t u):=by
 intro pins s σ H vs us Q I r h
 obtain⟨v,vr,e1,h⟩:=h
 subst e1
 cases r with
 | cons r rr=>
  rw [hs]
  refine assignInOrder_cons (thn (h1 pins s σ H _ _ _ I r h) fun _ s1 hz=>?_)
  obtain⟨σ1,H1,I1,q1⟩:=hz
  exact h2 pins s1 σ1 H1 _ _ Q I1 rr q1
noncomputable def gTup (K:PySem.W.Frag) (n:Nat) (t:TGs):TG:=fun v σ H Q=>∃a xs,v=.ref a/\SqT K H a xs/\xs.length=n/\t xs σ H Q
theorem pg_tup {es:List Expr}{k:Nat}{t:TGs}{n:Nat} (hc:X.calm=true) (h:PGs X es t)
  (hn:(assignEach es X.env).length=n:=by rfl) (hst:(assignEach es X.env).findIdx? (·.1)=none:=by rfl):PG X (.Tuple es k pos) (gTup X.K n t):=by
 intro pins s σ H v u Q I r hw
 obtain⟨a,xs,e1,hq,hl,hw⟩:=hw
 subst e1
 cases r
 obtain⟨its,rv,ht,hz⟩:=I.tuple hq
 refine assign_Tuple_tuple (I.ok.hd hc) ht (by simp [hn,<- hl,rv.length]) hst fun h' hx=>?_
 have I1:Inv X pins σ H { s with heap:=h' }:=I.kept (t':=s.toks) fun b o e=>hx b o (Nat.ne_of_lt (Heap.lt_size e)) e
 exact h pins _ σ H xs _ Q I1 (by simpa using rv) hw
noncomputable def gSub (to ti:TE) (t:TSet):TG:=fun v σ H Q=>to σ H fun o H1=>ti σ H1 fun i H2=>t o i v H2 fun H3=>Q σ H3
theorem pg_sub {o i:Expr}{to ti:TE}{t:TSet} (ho:PE X o to) (hi:PE X i ti) (hs:PSet X t)
  (ha:∀v,assign (.Subscript o i pos) X.env v=(do
   let ov <- holding [v] (eval o X.env)
   let iv <- holding [v,ov] (eval i X.env)
   standAt pos
   holding [v,ov,iv] (setItem ov iv v)
   release [v,ov,iv] []):=by intro _;rfl):PG X (.Subscript o i pos) (gSub to ti t):=by
 intro pins s σ H v u Q I r h
 rw [ha]
 refine wpAny_bind (wpAny_holding (thn (ho pins s σ H _ I h) fun ov s1 hz=>?_))
 obtain⟨x,H1,I1,r1,q1⟩:=hz
 refine wpAny_bind (wpAny_holding (thn (hi pins s1 σ H1 _ I1 q1) fun iv s2 hz=>?_))
 obtain⟨y,H2,I2,r2,q2⟩:=hz
 refine wpAny_bind (wpAny_standAt (wpAny_bind (wpAny_holding (thn (hs pins s2 σ H2 x y v ov iv u _ I2 r1 r2 r q2) fun _ s3 hz=>?_))))
 obtain⟨H3,I3,q3⟩:=hz
 exact wpAny_release ⟨σ,H3,I3,q3⟩
noncomputable def tAsg (te:TE) (g:TG):TS:=fun D σ H=>te σ H fun x H1=>g x σ H1 D.nx
theorem ps_asg {tg e:Expr}{te:TE}{g:TG} (he:PE X e te) (hg:PG X tg g) (hs:swapsWithSole [tg] e pos.line X.env=pure false:=by rfl) (hw:swappedStores [tg] e X.env=pure none:=by rfl)
  (h1:(assignEach [tg] X.env).map (·.2)=[assign tg X.env]:=by rfl):PS X (.Assign [tg] e pos) (tAsg te g):=by
 intro pins s σ H D I h
 refine wpAny_Assign_stores (thn (he pins s σ H _ I h) fun v s1 hz=>?_) hs hw
 obtain⟨x,H1,I1,r1,q1⟩:=hz
 rw [h1]
 exact thn (hg pins s1 σ H1 x v _ I1 r1 q1) fun _ s2 q=>q
theorem ps_set {i:Nat}{x:Str}{e:Expr}{te:TE}{pos':Pos} (hN:X.N.Nodup) (hi:X.N[i]? = some x) (hx:Loc X.env.scope x) (he:PE X e te) (hs:swapsWith e (some (.Name x pos')) pos.line X.env=pure false:=by rfl) (hf:X.fn x=true\/X.env.scope.names.lookup x=some .local:=by first | exact .inl rfl | exact .inr rfl | assumption) :
  PS X (.Assign [.Name x pos'] e pos) (tAsg te (gName i)):=by
 intro pins s σ H D I h
 refine wpAny_Assign_Name (thn (he pins s σ H _ I h) fun v s1 hz=>?_) hs
 obtain⟨y,H1,I1,r1,q1⟩:=hz
 exact store_ok I1 hN hi hx r1 (fun s2 I2=>⟨_,H1,I2,q1⟩) hf
end
section
variable {X:Cx}{pos:Pos}
noncomputable def tWhile (c:TT) (tb:TS):TS:=fun D σ H=>∃W:Nat->St->Hp->Prop,(∃m,W m σ H)/\∀m σ H,W m σ H ->
 c σ H fun b H1=>if b=true then ∃N:St->Hp->Prop,(∀σ' H',N σ' H'->∃m',m' < m/\W m' σ' H')/\tb { D with nx:=N,ct:=N,bk:=D.nx } σ H1 else D.nx σ H1
theorem ps_while {c:Expr}{body:List Stmt}{tc:TT}{tb:TS} (hp:PassesOwn (model X.prog X.w) X.A X.env X.xe) (hc:PT X c tc) (hb:PSs X body tb):PS X (.While c body [] pos) (tWhile tc tb):=by
 intro pins s σ H D I h
 obtain⟨W,⟨m0,w0⟩,turn⟩:=h
 refine wpAny_While (codeAny_whileLoop (fun n s'=>∃σ' H',Inv X pins σ' H' s'/\W n σ' H') ?_ m0 ⟨σ,H,I,w0⟩)
 rintro n s1 ⟨σ1,H1,I1,w1⟩
 refine wpAny_passesOwn hp (thn (hc pins s1 σ1 H1 _ I1 (turn n σ1 H1 w1)) fun b s2 hz=>?_)
 obtain⟨H2,I2,q2⟩:=hz
 cases b with
 | true=>
  obtain⟨N,hN,q2⟩:=q2
  rw [if_pos rfl]
  refine wpAny_passesOwn hp (thn (hb pins s2 σ1 H2 _ I2 q2) fun f s3 q3=>?_)
  cases f with
  | next=>
   obtain⟨σ3,H3,I3,n3⟩:=q3
   obtain⟨m',hm,w3⟩:=hN σ3 H3 n3
   exact⟨m',hm,σ3,H3,I3,w3⟩
  | cont=>
   obtain⟨σ3,H3,I3,n3⟩:=q3
   obtain⟨m',hm,w3⟩:=hN σ3 H3 n3
   exact⟨m',hm,σ3,H3,I3,w3⟩
  | brk=>exact q3
  | ret v=>exact q3
 | false=>
  rw [if_neg Bool.false_ne_true]
  exact wpAny_execs_nil ⟨σ1,H2,I2,q2⟩
end
structure It where
 go:Nat->Hp->Prop
 yld:Nat->Hp->V->Hp->Prop
 stop:Nat->Hp->Prop
noncomputable def FpOk (X:Cx) (pins:List (Addr×Obj)) (H:Hp) (b:Addr):Prop:=
 H b=none/\b≠X.env.locals/\b ∉ X.fs/\(b ∈ X.ex\/X.s₀.heap.objs.size≤b)/\(∀x c,X.env.cells.lookup x=some c->c≠b)/\∀p ∈ X.pn++pins,p.1≠b
theorem Inv.fpOk {X:Cx}{pins:List (Addr×Obj)}{σ:St}{H H':Hp}{s:Shared}{b:Addr} (I:Inv X pins σ H s) (hb:s.heap.objs.size≤b) (hn:H' b=none):FpOk X pins H' b:=by
 refine⟨hn,Nat.ne_of_gt (Nat.lt_of_lt_of_le I.lt hb),I.nofs hb,.inr (Nat.le_trans I.sz hb),fun x c e z=>?_,fun p hp z=>?_⟩
 ·obtain⟨v,q⟩:=I.cell x c e
  exact absurd (Nat.lt_of_lt_of_le q.lt (by rw [z];exact hb)) (Nat.lt_irrefl _)
 ·exact absurd (Nat.lt_of_lt_of_le (Heap.lt_size (I.pin p hp).1) (by rw [z];exact hb)) (Nat.lt_irrefl _)
structure Turn (P:Program) (w:World) (K:PySem.W.Frag) (tg:Expr) (J:It) (fp:List Addr) (it:Addr) (tn:Nat->Heap->Prop):Prop where
 mem:it ∈ fp
 obj:∀i h,tn i h->∀b ∈ fp,∃o,h.get? b=some o/\∀v,o.data≠.cell v
 keep:∀i h h',tn i h->(∀b ∈ fp,∀o,h.get? b=some o->h'.get? b=some o)->tn i h'
 item:∀(X:Cx),X.prog=P->X.w=w->X.K=K->X.calm=true->∀(i:Nat) (pins:List (Addr×Obj)) (s:Shared) (σ:St) (H:Hp) (E:Value->Shared->Prop),Inv X pins σ H s->(∀b ∈ fp,FpOk X pins H b)->tn i s.heap->J.go i H ->
  wpAny (model P w) X.A (pyNext (.ref it)) (fun r s1=>∃u,r=some u /\
   wpAny (model P w) X.A (letOwnedTupleGo tg (.ref it) u) (fun _ s2=>∃x H',Inv X pins σ H' s2/\RelV x u/\J.yld i H x H'/\tn (i+1) s2.heap/\∀b ∈ fp,H' b=none) E s1) E s
 done:∀(X:Cx),X.prog=P->X.w=w->X.K=K->X.calm=true->∀(i:Nat) (pins:List (Addr×Obj)) (s:Shared) (σ:St) (H:Hp) (E:Value->Shared->Prop),Inv X pins σ H s->(∀b ∈ fp,FpOk X pins H b)->tn i s.heap->J.stop i H ->
  wpAny (model P w) X.A (pyNext (.ref it)) (fun r s1=>r=none/\Inv X pins σ H s1) E s
 self:∀(A:Around) (i:Nat) (s:Shared) (Q:Value->Shared->Prop) (E:Value->Shared->Prop),tn i s.heap->Q (.ref it) s->wpAny (model P w) A (pyIter (.ref it)) Q E s
noncomputable abbrev TI:=St->Hp->(It->Hp->Prop)->Prop
noncomputable def PIE (X:Cx) (pins:List (Addr×Obj)) (σ:St) (tg:Expr) (R:It->Hp->Prop) (itv:Value) (s2:Shared):Prop:=
 ∃(it:Addr) (fp:List Addr) (tn:Nat->Heap->Prop) (J:It) (H':Hp),itv=.ref it/\Inv X pins σ H' s2/\Turn X.prog X.w X.K tg J fp it tn/\tn 0 s2.heap/\(∀b ∈ fp,FpOk X pins H' b)/\R J H'
noncomputable def PI (X:Cx) (tg iter:Expr) (wi:TI):Prop:=
 ∀(pins:List (Addr×Obj)) (s:Shared) (σ:St) (H:Hp) (R:It->Hp->Prop),Inv X pins σ H s->wi σ H R ->
  wpAny (model X.prog X.w) X.A (eval iter X.env) (fun v s1=>wpAny (model X.prog X.w) X.A (pyIter v) (PIE X pins σ tg R) X.xe s1) X.xe s
theorem go_of {M:Model}{A:Around}{E:Value->Shared->Prop}{s:Shared}{tg:Expr}{it:Addr}{u:Value}{o:Obj}{n:String}{vs:Array Value}{Q:Unit->Shared->Prop} (ho:s.heap.get? it=some o) (hc:o.cls=.type n) (hd:o.data=.fields vs)
    (hn:["enumerate","zip","dict_itemiterator","dict_reverseitemiterator","odict_iterator","itertools.zip_longest","itertools.pairwise"].contains n=false) (hQ:Q () s):wpAny M A (letOwnedTupleGo tg (.ref it) u) Q E s:=by
  unfold letOwnedTupleGo
  cases tg <;> first
    | exact wpAny_pure hQ
    | (cases u <;> first
        | exact wpAny_pure hQ
        | (refine wpAny_bind (wpAny_load ho ?_)
           rw [hc,hd]
           show wpAny M A (if (["enumerate","zip","dict_itemiterator","dict_reverseitemiterator","odict_iterator","itertools.zip_longest","itertools.pairwise"].contains n && vs[0]? == some (rawInt _))=true then _ else _) Q E s
           rw [if_neg (by intro h;rw [hn,Bool.false_and] at h;cases h)]
           exact wpAny_pure hQ))
noncomputable def Itl (K:PySem.W.Frag) (a:Addr):It:=
 ⟨fun i H=>∃xs x,SqL K H a xs/\xs[i]? = some x,fun i H x H'=>H'=H/\∀xs,SqL K H a xs->xs[i]? = some x,fun i H=>∃xs,SqL K H a xs/\xs.length≤i⟩
noncomputable def Itt (K:PySem.W.Frag) (a:Addr):It:=
 ⟨fun i H=>∃xs x,SqT K H a xs/\xs[i]? = some x,fun i H x H'=>H'=H/\∀xs,SqT K H a xs->xs[i]? = some x,fun i H=>∃xs,SqT K H a xs/\xs.length≤i⟩
noncomputable def Itr (lo:Int) (n:Nat):It:=⟨fun i _=>i < n,fun i H x H'=>H'=H/\x=.int (lo+i),fun i _=>n≤i⟩
theorem turn_list {P:Program}{w:World}{K:PySem.W.Frag}{tg:Expr} (a it:Addr):Turn P w K tg (Itl K a) [it] it (fun i h=>h.IsListIter it a i) where
 mem:=by simp
 obj:=fun i h st b hb=>by
  have e:b=it:=by simpa using hb
  subst e
  obtain⟨o,e,c,d⟩:=st
  exact⟨o,e,fun v z=>by rw [d] at z;cases z⟩
 keep:=fun i h h' st k=>st.at fun o e=>k it (by simp) o e
 item:=by
  intro X hP hw hK hc i pins s σ H E I hf st hg
  subst hP hw hK
  obtain⟨xs,x,hq,hx⟩:=hg
  obtain⟨its,rv,p,hz⟩:=I.list hq
  obtain⟨u,hu,ru⟩:=rv.get hx
  obtain⟨f0,f1,f2,f3,f4,f5⟩:=hf it (by simp)
  refine wpAny_pyNext_list_item st p.isList (x:=u) (by simpa using hu) fun h' st' sb=>?_
  have I1:Inv X pins σ H { s with heap:=h' }:=I.turned (t':=s.toks) (fun b o hb e=>(sb.2 b hb).trans e) f0 f1 f3 f4 f5
  obtain⟨o,e,c,d⟩:=id st'
  exact⟨u,rfl,go_of (s:={ s with heap:=h' }) e c d (by decide) ⟨x,H,I1,ru,⟨rfl,fun ys hy=>by rw [I.list_inj hy hq];exact hx⟩,st',fun b hb=>(hf b hb).1⟩⟩
 done:=by
  intro X hP hw hK hc i pins s σ H E I hf st hg
  subst hP hw hK
  obtain⟨xs,hq,hx⟩:=hg
  obtain⟨its,rv,p,hz⟩:=I.list hq
  obtain⟨f0,f1,f2,f3,f4,f5⟩:=hf it (by simp)
  have hl:=rv.length
  exact wpAny_pyNext_list_end (I.ok.hd hc) st p.isList (by simp;omega) fun h' eb=>⟨rfl,I.turned (t':=s.toks) (fun b o hb e=>eb b o hb e) f0 f1 f3 f4 f5⟩
 self:=fun _ _ _ _ _ st h=>wpAny_pyIter_listiter st h
theorem turn_tuple {P:Program}{w:World}{K:PySem.W.Frag}{tg:Expr} (a it:Addr):Turn P w K tg (Itt K a) [it] it (fun i h=>h.IsTupleIter it a i) where
 mem:=by simp
 obj:=fun i h st b hb=>by
  have e:b=it:=by simpa using hb
  subst e
  obtain⟨o,e,c,d⟩:=st
  exact⟨o,e,fun v z=>by rw [d] at z;cases z⟩
 keep:=fun i h h' st k=>st.at fun o e=>k it (by simp) o e
 item:=by
  intro X hP hw hK hc i pins s σ H E I hf st hg
  subst hP hw hK
  obtain⟨xs,x,hq,hx⟩:=hg
  obtain⟨its,rv,p,hz⟩:=I.tuple hq
  obtain⟨u,hu,ru⟩:=rv.get hx
  obtain⟨f0,f1,f2,f3,f4,f5⟩:=hf it (by simp)
  refine wpAny_pyNext_tuple_item st (show s.heap.IsTuple a its.toArray from p) (x:=u) (by simpa using hu) fun h' st' sb=>?_
  have I1:Inv X pins σ H { s with heap:=h' }:=I.turned (t':=s.toks) (fun b o hb e=>(sb.2 b hb).trans e) f0 f1 f3 f4 f5
  obtain⟨o,e,c,d⟩:=id st'
  exact⟨u,rfl,go_of (s:={ s with heap:=h' }) e c d (by decide) ⟨x,H,I1,ru,⟨rfl,fun ys hy=>by rw [I.tuple_inj hy hq];exact hx⟩,st',fun b hb=>(hf b hb).1⟩⟩
 done:=by
  intro X hP hw hK hc i pins s σ H E I hf st hg
  subst hP hw hK
  obtain⟨xs,hq,hx⟩:=hg
  obtain⟨its,rv,p,hz⟩:=I.tuple hq
  obtain⟨f0,f1,f2,f3,f4,f5⟩:=hf it (by simp)
  have hl:=rv.length
  exact wpAny_pyNext_tuple_end (I.ok.hd hc) st (show s.heap.IsTuple a its.toArray from p) (by simp;omega) fun h' eb=>⟨rfl,I.turned (t':=s.toks) (fun b o hb e=>eb b o hb e) f0 f1 f3 f4 f5⟩
 self:=fun _ _ _ _ _ st h=>wpAny_pyIter_tupleiter st h
theorem turn_range {P:Program}{w:World}{K:PySem.W.Frag}{tg:Expr} (it:Addr) (lo:Int) (n:Nat):Turn P w K tg (Itr lo n) [it] it (fun i h=>IsRangeIter h it (lo+(i:Nat) * 1) ((n:Int)-(i:Nat)) 1) where
 mem:=by simp
 obj:=fun i h st b hb=>by
  have e:b=it:=by simpa using hb
  subst e
  exact⟨_,st,fun v z=>by
   have z':Data.fields _=Data.cell v:=z
   cases z'⟩
 keep:=fun i h h' st k=>k it (by simp) _ st
 item:=by
  intro X hP hw hK hc i pins s σ H E I hf st hg
  subst hP hw hK
  obtain⟨f0,f1,f2,f3,f4,f5⟩:=hf it (by simp)
  have W:=Walks.range (prog:=X.prog) (w:=X.w) (I.ok.hd hc) it lo 1 n
  refine W.item i s _ _ hg st fun v h' tk hv st' kk=>?_
  obtain⟨t,rfl⟩:=hv
  have I1:Inv X pins σ H { s with heap:=h',toks:=tk }:=I.turned (fun b o hb e=>kk b o (by simpa using hb) e) f0 f1 f3 f4 f5
  refine⟨_,rfl,go_of (s:={ s with heap:=h',toks:=tk }) (n:="range_iterator") st' rfl rfl (by decide) ⟨.int (lo+i),H,I1,⟨t,?_⟩,⟨rfl,rfl⟩,st',fun b hb=>(hf b hb).1⟩⟩
  rw [Int.mul_one]
 done:=by
  intro X hP hw hK hc i pins s σ H E I hf st hg
  subst hP hw hK
  obtain⟨f0,f1,f2,f3,f4,f5⟩:=hf it (by simp)
  exact wpAny_pyNext_range_end (I.ok.hd hc) st (by have:n≤i:=hg;omega) fun h' eb=>⟨rfl,I.turned (t':=s.toks) (fun b o hb e=>eb b o hb e) f0 f1 f3 f4 f5⟩
 self:=fun _ _ _ _ _ st h=>wpAny_pyIter_rangeiter st h
end L2
namespace L2
open PySem PySem.Spec PyProof.Rows
section
variable {X:Cx}{tg:Expr}
noncomputable def iList (K:PySem.W.Frag) (tl:TE):TI:=fun σ H R=>tl σ H fun x H1=>∃a,x=.ref a/\(∃xs,SqL K H1 a xs)/\R (Itl K a) H1
theorem pi_list {l:Expr}{tl:TE} (hl:PE X l tl):PI X tg l (iList X.K tl):=by
 intro pins s σ H R I h
 refine thn (hl pins s σ H _ I h) fun v s1 hz=>?_
 obtain⟨x,H1,I1,r1,q1⟩:=hz
 obtain⟨a,e,⟨xs,hq⟩,q⟩:=q1
 subst e
 cases r1
 obtain⟨its,rv,p,hz⟩:=I1.list hq
 refine wpAny_pyIter_list p.isList ?_
 refine⟨s1.heap.objs.size,[s1.heap.objs.size],_,_,H1,rfl,I1.kept (t':=s1.toks) fun b o e=>Heap.get?_push_of_some _ e,turn_list a _,⟨_,Heap.get?_push_size _ rfl,rfl,rfl⟩,fun b hb=>?_,q⟩
 have e:b=s1.heap.objs.size:=by simpa using hb
 subst e
 exact I1.fpOk (Nat.le_refl _) (I1.hok.fresh (Nat.le_refl _))
theorem range_it {pins:List (Addr×Obj)}{σ:St}{H:Hp}{s:Shared}{R:It->Hp->Prop}{E:Value->Shared->Prop}{lo hi:Int}{t u v:Tok}{tk:Nat} (I:Inv X pins σ H s) (h1:-(2 ^ 62)≤lo) (h2:lo < 2 ^ 62) (h3:-(2 ^ 62)≤hi) (h4:hi < 2 ^ 62)
  (q:R (Itr lo (hi-lo).toNat) H):wpAny (model X.prog X.w) X.A (pyIter (.ref s.heap.objs.size)) (PIE X pins σ tg R) E { s with heap:=s.heap.push { cls:=.type "range",data:=.fields #[.int lo t,.int hi u,.int 1 v] },toks:=tk }:=by
 refine wpAny_pyIter_range (IsRange.new ..) (small_one h1 h2 h3 h4) ?_
 have I1:Inv X pins σ H { s with heap:=s.heap.push { cls:=.type "range",data:=.fields #[.int lo t,.int hi u,.int 1 v] },toks:=tk }:=I.kept fun b o e=>Heap.get?_push_of_some _ e
 refine⟨(s.heap.push { cls:=.type "range",data:=.fields #[.int lo t,.int hi u,.int 1 v] }).objs.size,[(s.heap.push { cls:=.type "range",data:=.fields #[.int lo t,.int hi u,.int 1 v] }).objs.size],_,_,H,rfl,
  I1.kept (t':=tk) fun b o e=>Heap.get?_push_of_some _ e,turn_range _ lo (hi-lo).toNat,?_,fun b hb=>?_,q⟩
 ·have e1:lo+((0:Nat):Int) * 1=lo:=by simp
  have e2:(((hi-lo).toNat:Nat):Int)-((0:Nat):Int)=Builtin.Range.rangeSize lo hi 1:=by rw [rangeSize_one];split <;> omega
  show IsRangeIter _ _ (lo+((0:Nat):Int) * 1) ((((hi-lo).toNat:Nat):Int)-((0:Nat):Int)) 1
  rw [e1,e2]
  exact Heap.get?_push_size _ rfl
 ·have e:b=(s.heap.push { cls:=.type "range",data:=.fields #[.int lo t,.int hi u,.int 1 v] }).objs.size:=by simpa using hb
  subst e
  exact I1.fpOk (Nat.le_refl _) (I1.hok.fresh (Nat.le_refl _))
noncomputable def iRng1 (ta:TA):TI:=fun σ H R=>ta σ H fun vs H1=>∃j:Int,vs=[.int j]/\-(2 ^ 62)≤j/\j < 2 ^ 62/\R (Itr 0 j.toNat) H1
theorem pi_range1 {a:Expr}{ta:TA}{p pos:Pos} (hg:Gl X "range") (hm:X.mg "range"=none) (ha:PA X [a] ta) (hs:starEach [a] X.env=[(false,eval a X.env)]:=by rfl):PI X tg (.Call (.Name "range" p) [a] [] pos) (iRng1 ta):=by
 intro pins s σ H R I h
 refine Call_ (ld_blt I hg hm boot_range (PyProof.Rows.callWith_type1 (thn (ha pos pins s σ H _ I h) fun us s1 hz=>?_) hs rfl))
 obtain⟨vs,H1,I1,r1,q1⟩:=hz
 obtain⟨j,e,q1,q2,q⟩:=q1
 subst e
 cases r1 with
 | cons r rr=>
  cases rr
  obtain⟨t,rfl⟩:=r
  exact call_range_1 (range_it I1 (by omega) (by omega) q1 q2 (by simpa using q))
noncomputable def tFor (wi:TI) (g:TG) (tb:TS):TS:=fun D σ H=>wi σ H fun J H1=>∃W:Nat->Nat->St->Hp->Prop,(∃m,W 0 m σ H1)/\∀i m σ H,W i m σ H ->
 (J.stop i H/\D.nx σ H)\/(J.go i H/\∃N:St->Hp->Prop,(∀σ' H',N σ' H'->∃m',m' < m/\W (i+1) m' σ' H')/\∀x H',J.yld i H x H'->g x σ H' fun σ2 H2=>tb { D with nx:=N,ct:=N,bk:=D.nx } σ2 H2)
noncomputable def pinsAt (fp:List Addr) (h:Heap):List (Addr×Obj):=fp.filterMap fun b=>(h.get? b).map fun o=>(b,o)
theorem mem_pinsAt {fp:List Addr}{h:Heap}{b:Addr}{o:Obj} (hb:b ∈ fp) (e:h.get? b=some o):(b,o) ∈ pinsAt fp h:=List.mem_filterMap.mpr ⟨b,hb,by rw [e];rfl⟩
theorem of_pinsAt {fp:List Addr}{h:Heap}{p:Addr×Obj} (hp:p ∈ pinsAt fp h):p.1 ∈ fp/\h.get? p.1=some p.2:=by
 obtain⟨b,hb,e⟩:=List.mem_filterMap.mp hp
 cases q:h.get? b with
 | none=>rw [q] at e;cases e
 | some o=>
  rw [q] at e
  have e':(b,o)=p:=Option.some.inj e
  subst e'
  exact⟨hb,q⟩
theorem Inv.pinned {pins:List (Addr×Obj)}{σ:St}{H:Hp}{s:Shared}{fp:List Addr} (I:Inv X pins σ H s) (hf:∀b ∈ fp,FpOk X pins H b) (ho:∀b ∈ fp,∃o,s.heap.get? b=some o/\∀v,o.data≠.cell v):Inv X (pins++pinsAt fp s.heap) σ H s:=
 I.pins_of fun p hp=>(List.mem_append.mp hp).elim (fun z=>I.pin p (List.mem_append_right _ z)) fun z=>by
  obtain⟨hb,e⟩:=of_pinsAt z
  obtain⟨f0,f1,f2,_⟩:=hf p.1 hb
  obtain⟨o,e',d⟩:=ho p.1 hb
  rw [e] at e';cases e'
  exact⟨e,f0,f1,f2,d⟩
theorem Inv.unpinned {pins pl:List (Addr×Obj)}{σ:St}{H:Hp}{s:Shared} (I:Inv X (pins++pl) σ H s):Inv X pins σ H s:=I.pins_of fun p hp=>I.pin p (List.mem_append_right _ (List.mem_append_left _ hp))
theorem ps_for {iter:Expr}{body:List Stmt}{wi:TI}{g:TG}{tb:TS}{pos:Pos} (hp:PassesOwn (model X.prog X.w) X.A X.env X.xe) (hc:X.calm=true) (hi:PI X tg iter wi) (hg:PG X tg g) (hb:PSs X body tb)
  (hs:∀x,foldedSetIterable iter X.env x=pure x:=by intro _;rfl):PS X (.For tg iter body [] pos) (tFor wi g tb):=by
 intro pins s σ H D I h
 refine wpAny_For (thn (hi pins s σ H _ I h) fun v s1 h1=>thn h1 fun itv s2 h2=>?_) hs
 obtain⟨it,fp,tn,J,H2,e,I2,T,st2,f2,W,⟨m0,w0⟩,turn⟩:=h2
 subst e
 have stat:∀{H':Hp},(∀b ∈ fp,H' b=none)->∀b ∈ fp,FpOk X pins H' b:=fun hn b hb=>⟨hn b hb,(f2 b hb).2⟩
 refine codeAny_forLoop_any (fun n s'=>∃i σ' H',Inv X pins σ' H' s'/\tn i s'.heap/\(∀b ∈ fp,H' b=none)/\W i n σ' H') ?_ m0 ⟨0,σ,H2,I2,st2,fun b hb=>(f2 b hb).1,w0⟩
 rintro n s3 ⟨i,σ3,H3,I3,st3,fr3,w3⟩
 rcases turn i n σ3 H3 w3 with ⟨stop,qn⟩ | ⟨go,N,hN,step⟩
 ·refine wpAny_passesOwn hp (thn (T.done X rfl rfl rfl hc i pins s3 σ3 H3 X.xe I3 (stat fr3) st3 stop) fun r s4 hz=>?_)
  obtain⟨hr,I4⟩:=hz
  subst hr
  exact wpAny_execs_nil ⟨σ3,H3,I4,qn⟩
 ·refine wpAny_passesOwn hp (thn (T.item X rfl rfl rfl hc i pins s3 σ3 H3 X.xe I3 (stat fr3) st3 go) fun r s4 hz=>?_)
  obtain⟨u,hr,h4⟩:=hz
  subst hr
  refine wpAny_passesOwn hp (thn h4 fun _ s5 hz=>?_)
  obtain⟨x,H5,I5,r5,y5,st5,fr5⟩:=hz
  have I5':=I5.pinned (stat fr5) (T.obj _ _ st5)
  refine wpAny_passesOwn hp (thn (hg _ s5 σ3 H5 x u _ I5' r5 (step x H5 y5)) fun _ s6 hz=>?_)
  obtain⟨σ6,H6,I6,q6⟩:=hz
  refine wpAny_passesOwn hp (thn (hb _ s6 σ6 H6 _ I6 q6) fun f s7 q7=>?_)
  have again:∀{σ7:St}{H7:Hp},Inv X (pins++pinsAt fp s5.heap) σ7 H7 s7->N σ7 H7->∃m,m < n/\∃i σ' H',Inv X pins σ' H' s7/\tn i s7.heap/\(∀b ∈ fp,H' b=none)/\W i m σ' H':=fun {σ7 H7} I7 n7=>by
   obtain⟨m',hm,w7⟩:=hN σ7 H7 n7
   refine⟨m',hm,i+1,σ7,H7,I7.unpinned,T.keep _ _ _ st5 fun b hb o e=>(I7.pin (b,o) (List.mem_append_right _ (List.mem_append_right _ (mem_pinsAt hb e)))).1,fun b hb=>?_,w7⟩
   obtain⟨o,e,d⟩:=T.obj _ _ st5 b hb
   exact (I7.pin (b,o) (List.mem_append_right _ (List.mem_append_right _ (mem_pinsAt hb e)))).2.1
  cases f with
  | next=>obtain⟨σ7,H7,I7,n7⟩:=q7;exact again I7 n7
  | cont=>obtain⟨σ7,H7,I7,n7⟩:=q7;exact again I7 n7
  | brk=>obtain⟨σ7,H7,I7,q7⟩:=q7;exact⟨σ7,H7,I7.unpinned,q7⟩
  | ret v=>obtain⟨x7,σ7,H7,I7,r7,q7⟩:=q7;exact⟨x7,σ7,H7,I7.unpinned,r7,q7⟩
end
end L2
namespace L2
open PySem PySem.Spec PyProof.Rows
noncomputable abbrev R2:=V->V->Hp->VK->Prop
noncomputable def OpR (X:Cx) (f:Value->Value->Sem Value) (r:R2):Prop:=
 ∀(pins:List (Addr×Obj)) (s:Shared) (σ:St) (H:Hp) (x y:V) (v u:Value) (Q:VK),Inv X pins σ H s->RelV x v->RelV y u->r x y H Q ->
  wpAny (model X.prog X.w) X.A (f v u) (EP X pins σ Q) X.xe s
noncomputable def UnR (X:Cx) (f:Value->Sem Value) (r:V->Hp->VK->Prop):Prop:=
 ∀(pins:List (Addr×Obj)) (s:Shared) (σ:St) (H:Hp) (x:V) (v:Value) (Q:VK),Inv X pins σ H s->RelV x v->r x H Q ->
  wpAny (model X.prog X.w) X.A (f v) (EP X pins σ Q) X.xe s
noncomputable def CallR (X:Cx) (f:Value) (r:List V->Hp->VK->Prop):Prop:=
 ∀(pins:List (Addr×Obj)) (s:Shared) (σ:St) (H:Hp) (xs:List V) (us:List Value) (Q:VK),Inv X pins σ H s->Vals xs us->r xs H Q ->
  wpAny (model X.prog X.w) X.A (call f us) (EP X pins σ Q) X.xe s
noncomputable def TruR (X:Cx) (r:V->Hp->(Bool->Hp->Prop)->Prop):Prop:=
 ∀(pins:List (Addr×Obj)) (s:Shared) (σ:St) (H:Hp) (x:V) (v:Value) (Q:Bool->Hp->Prop),Inv X pins σ H s->RelV x v->r x H Q ->
  wpAny (model X.prog X.w) X.A (truthy v) (TP X pins σ Q) X.xe s
noncomputable def tOp (r:R2) (ta tb:TE):TE:=fun σ H Q=>ta σ H fun x H1=>tb σ H1 fun y H2=>r x y H2 Q
noncomputable def tUn (r:V->Hp->VK->Prop) (ta:TE):TE:=fun σ H Q=>ta σ H fun x H1=>r x H1 Q
noncomputable def rI (C:Int->Int->Prop) (g:Int->Int->V):R2:=fun x y H Q=>∃i j,x=.int i/\y=.int j/\C i j/\Q (g i j) H
noncomputable def rI0 (g:Int->Int->V):R2:=fun x y H Q=>∃i j,x=.int i/\y=.int j/\Q (g i j) H
noncomputable def rU (g:Int->V):V->Hp->VK->Prop:=fun x H Q=>∃i,x=.int i/\Q (g i) H
section
variable {X:Cx}{a b c:Expr}{ta tb tc:TE}{pos:Pos}
theorem binT (ha:PE X a ta) (hb:PE X b tb) {pins:List (Addr×Obj)}{s:Shared}{σ:St}{H:Hp}{R:V->V->Hp->Prop} (I:Inv X pins σ H s)
  (h:ta σ H fun x H1=>tb σ H1 fun y H2=>R x y H2) {Q:Value->Shared->Prop}{f:Value->Value->Sem Value}
  (hf:∀v u s2 x y H2,Inv X pins σ H2 s2->RelV x v->RelV y u->R x y H2->wpAny (model X.prog X.w) X.A (f v u) Q X.xe s2) :
  wpAny (model X.prog X.w) X.A (eval a X.env) (fun v s₁=>wpAny (model X.prog X.w) X.A (eval b X.env) (fun u s₂=>wpAny (model X.prog X.w) X.A (f v u) Q X.xe s₂) X.xe s₁) X.xe s:=by
 refine thn (ha pins s σ H _ I h) fun v s1 hz=>?_
 obtain⟨x,H1,I1,r1,q1⟩:=hz
 refine thn (hb pins s1 σ H1 _ I1 q1) fun u s2 hz=>?_
 obtain⟨y,H2,I2,r2,q2⟩:=hz
 exact hf v u s2 x y H2 I2 r1 r2 q2
theorem pe_op {op:Operator}{r:R2} (ho:OpR X (binaryOp op) r) (ha:PE X a ta) (hb:PE X b tb):PE X (.BinOp a op b pos) (tOp r ta tb):=by
 intro pins s σ H Q I h
 exact wpAny_BinOp (binT ha hb I h fun v u s2 x y H2 I2 rx ry q=>ho pins s2 σ H2 x y v u Q I2 rx ry q)
theorem pe_un {op:UnaryOp}{r:V->Hp->VK->Prop} (ho:UnR X (unaryOp op) r) (ha:PE X a ta):PE X (.UnaryOp op a pos) (tUn r ta):=by
 intro pins s σ H Q I h
 exact UnaryOp_ (thn (ha pins s σ H _ I h) fun v s1 hz=>by obtain⟨x,H1,I1,r1,q1⟩:=hz;exact ho pins s1 σ H1 x v Q I1 r1 q1)
theorem opI {f:Value->Value->Sem Value}{C:Int->Int->Prop}{g:Int->Int->Int}
  (rule:∀(i j:Int) (t u:Tok) (s:Shared) (Q:Value->Shared->Prop) (E:Value->Shared->Prop),C i j->Q (.int (g i j) s.toks) { s with toks:=s.toks+1 }->wpAny (model X.prog X.w) X.A (f (.int i t) (.int j u)) Q E s) :
  OpR X f (rI C fun i j=>.int (g i j)):=by
 intro pins s σ H x y v u Q I rx ry h
 obtain⟨i,j,rfl,rfl,hc,q⟩:=h
 obtain⟨t,rfl⟩:=rx
 obtain⟨t',rfl⟩:=ry
 exact rule i j t t' s _ _ hc ⟨.int (g i j),H,I.tok _,⟨_,rfl⟩,q⟩
theorem opI0 {f:Value->Value->Sem Value}{g:Int->Int->Int}
  (rule:∀(i j:Int) (t u:Tok) (s:Shared) (Q:Value->Shared->Prop) (E:Value->Shared->Prop),Q (.int (g i j) s.toks) { s with toks:=s.toks+1 }->wpAny (model X.prog X.w) X.A (f (.int i t) (.int j u)) Q E s) :
  OpR X f (rI0 fun i j=>.int (g i j)):=by
 intro pins s σ H x y v u Q I rx ry h
 obtain⟨i,j,rfl,rfl,q⟩:=h
 obtain⟨t,rfl⟩:=rx
 obtain⟨t',rfl⟩:=ry
 exact rule i j t t' s _ _ ⟨.int (g i j),H,I.tok _,⟨_,rfl⟩,q⟩
theorem opB0 {f:Value->Value->Sem Value}{g:Int->Int->Bool}
  (rule:∀(i j:Int) (t u:Tok) (s:Shared) (Q:Value->Shared->Prop) (E:Value->Shared->Prop),Q (.bool (g i j)) s->wpAny (model X.prog X.w) X.A (f (.int i t) (.int j u)) Q E s) :
  OpR X f (rI0 fun i j=>.bl (g i j)):=by
 intro pins s σ H x y v u Q I rx ry h
 obtain⟨i,j,rfl,rfl,q⟩:=h
 obtain⟨t,rfl⟩:=rx
 obtain⟨t',rfl⟩:=ry
 exact rule i j t t' s _ _ ⟨.bl (g i j),H,I,rfl,q⟩
noncomputable def CPow (i j:Int):Prop:=0≤j/\j≤1000000/\i.natAbs < 2 ^ 64
noncomputable def CMul (i j:Int):Prop:=(-(2 ^ 64) < i/\i < 2 ^ 64)\/(-(2 ^ 64) < j/\j < 2 ^ 64)
theorem CMul.ok {i j:Int} (h:CMul i j):IntMulOk i j:=by
 rcases h with ⟨h1,h2⟩ | ⟨h1,h2⟩
 ·exact .of_left (intBits_le_64 h1 h2)
 ·exact .of_right (intBits_le_64 h1 h2)
theorem op_add:OpR X (binaryOp .Add) (rI0 fun i j=>.int (i+j)):=opI0 fun _ _ _ _ _ _ _ q=>add_int q
theorem op_sub:OpR X (binaryOp .Sub) (rI0 fun i j=>.int (i-j)):=opI0 fun _ _ _ _ _ _ _ q=>sub_int q
theorem op_mod:OpR X (binaryOp .Mod) (rI (fun _ j=>0 < j) fun i j=>.int (i % j)):=opI fun i j _ _ _ _ _ hc q=>by
 have h1:(0:Int) < j:=hc
 exact mod_int' (by omega) (by rw [Int.fmod_eq_emod_of_nonneg i (by omega)];exact q)
theorem op_pow:OpR X (binaryOp .Pow) (rI CPow fun i j=>.int (i ^ j.toNat)):=opI fun _ _ _ _ _ _ _ hc q=>pow_int_small hc.1 hc.2.1 hc.2.2 q
theorem unI {f:Value->Sem Value}{g:Int->Int}
  (rule:∀(i:Int) (t:Tok) (s:Shared) (Q:Value->Shared->Prop) (E:Value->Shared->Prop),Q (.int (g i) s.toks) { s with toks:=s.toks+1 }->wpAny (model X.prog X.w) X.A (f (.int i t)) Q E s) :
  UnR X f (rU fun i=>.int (g i)):=by
 intro pins s σ H x v Q I rx h
 obtain⟨i,rfl,q⟩:=h
 obtain⟨t,rfl⟩:=rx
 exact rule i t s _ _ ⟨.int (g i),H,I.tok _,⟨_,rfl⟩,q⟩
theorem un_neg:UnR X (unaryOp .USub) (rU fun i=>.int (-i)):=unI fun _ _ _ _ _ q=>neg_int q
end
noncomputable def scal:V->V->Bool
 | .non,.non=>true | .non,.int _=>true | .int _,.non=>true | .non,.bl _=>true | .bl _,.non=>true | .non,.str _=>true | .str _,.non=>true
 | .int _,.int _=>true | .bl _,.bl _=>true | .str _,.str _=>true | .byt _,.byt _=>true
 | .int _,.str _=>true | .str _,.int _=>true | .bl _,.str _=>true | .str _,.bl _=>true
 | _,_=>false
noncomputable def rEq:R2:=fun x y H Q=>scal x y=true/\Q (.bl (decide (x=y))) H
noncomputable def rNe:R2:=fun x y H Q=>scal x y=true/\Q (.bl (!decide (x=y))) H
theorem dec_int {i j:Int}:decide (V.int i=V.int j)=(i == j):=by
 rw [Bool.eq_iff_iff]
 simp
theorem dec_bl {i j:Bool}:decide (V.bl i=V.bl j)=(i == j):=by
 rw [Bool.eq_iff_iff]
 simp
theorem dec_str {i j:Str}:decide (V.str i=V.str j)=(i == j):=by
 rw [Bool.eq_iff_iff]
 simp
theorem dec_byt {i j:Array UInt8}:decide (V.byt i=V.byt j)=(i.toList == j.toList):=by
 rw [Bool.eq_iff_iff]
 cases i
 cases j
 simp
section
variable {X:Cx}{a b c:Expr}{ta tb tc:TE}{pos:Pos}
theorem fin_bl {pins:List (Addr×Obj)}{σ:St}{H:Hp}{s:Shared}{Q:VK}{k k':Bool} (I:Inv X pins σ H s) (q:Q (.bl k) H) (e:k=k'):EP X pins σ Q (.bool k') s:=by
 subst e
 exact⟨.bl k,H,I,rfl,q⟩
theorem op_eq:OpR X (compareOp .Eq) rEq:=by
 intro pins s σ H x y v u Q I rx ry h
 obtain⟨hs,q⟩:=h
 cases x with
 | non=>
  cases rx
  cases y with
  | non=>cases ry;exact PySem.EqNone.eq_none_none (fin_bl I q (by simp))
  | bl j=>cases ry;exact PySem.EqNone.eq_none_bool (fin_bl I q (by simp))
  | int j=>obtain⟨t',rfl⟩:=ry;exact PySem.EqNone.eq_none_int (fin_bl I q (by simp))
  | str j=>obtain⟨t',rfl⟩:=ry;exact PySem.EqNone.eq_none_str (fin_bl I q (by simp))
  | _=>exact absurd (show false=true from hs) Bool.false_ne_true
 | bl i=>
  cases rx
  cases y with
  | non=>cases ry;exact PySem.EqNone.eq_bool_none (fin_bl I q (by simp))
  | bl j=>cases ry;exact eq_bool (fin_bl I q dec_bl)
  | str j=>obtain⟨t',rfl⟩:=ry;exact PySem.EqMixed.eq_bool_str (fin_bl I q (by simp))
  | _=>exact absurd (show false=true from hs) Bool.false_ne_true
 | int i=>
  obtain⟨t,rfl⟩:=rx
  cases y with
  | non=>cases ry;exact PySem.EqNone.eq_int_none (fin_bl I q (by simp))
  | int j=>obtain⟨t',rfl⟩:=ry;exact eq_int (fin_bl I q dec_int)
  | str j=>obtain⟨t',rfl⟩:=ry;exact PySem.EqMixed.eq_int_str (fin_bl I q (by simp))
  | _=>exact absurd (show false=true from hs) Bool.false_ne_true
 | str i=>
  obtain⟨t,rfl⟩:=rx
  cases y with
  | non=>cases ry;exact PySem.EqNone.eq_str_none (fin_bl I q (by simp))
  | bl j=>cases ry;exact PySem.EqMixed.eq_str_bool (fin_bl I q (by simp))
  | int j=>obtain⟨t',rfl⟩:=ry;exact PySem.EqMixed.eq_str_int (fin_bl I q (by simp))
  | str j=>obtain⟨t',rfl⟩:=ry;exact eq_str (fin_bl I q dec_str)
  | _=>exact absurd (show false=true from hs) Bool.false_ne_true
 | byt i=>
  obtain⟨t,rfl⟩:=rx
  cases y with
  | byt j=>obtain⟨t',rfl⟩:=ry;exact PySem.W.eq_bytes (fin_bl I q dec_byt)
  | _=>exact absurd (show false=true from hs) Bool.false_ne_true
 | _=>cases y <;> exact absurd (show false=true from hs) Bool.false_ne_true
theorem op_ne:OpR X (compareOp .NotEq) rNe:=by
 intro pins s σ H x y v u Q I rx ry h
 obtain⟨hs,q⟩:=h
 cases x with
 | non=>
  cases rx
  cases y with
  | non=>cases ry;exact PySem.EqNone.ne_none_none (fin_bl I q (by simp))
  | bl j=>cases ry;exact PySem.EqNone.ne_none_bool (fin_bl I q (by simp))
  | int j=>obtain⟨t',rfl⟩:=ry;exact PySem.EqNone.ne_none_int (fin_bl I q (by simp))
  | str j=>obtain⟨t',rfl⟩:=ry;exact PySem.EqNone.ne_none_str (fin_bl I q (by simp))
  | _=>exact absurd (show false=true from hs) Bool.false_ne_true
 | bl i=>
  cases rx
  cases y with
  | non=>cases ry;exact PySem.EqNone.ne_bool_none (fin_bl I q (by simp))
  | bl j=>cases ry;exact ne_bool (fin_bl I q (congrArg not dec_bl))
  | str j=>obtain⟨t',rfl⟩:=ry;exact PySem.EqMixed.ne_bool_str (fin_bl I q (by simp))
  | _=>exact absurd (show false=true from hs) Bool.false_ne_true
 | int i=>
  obtain⟨t,rfl⟩:=rx
  cases y with
  | non=>cases ry;exact PySem.EqNone.ne_int_none (fin_bl I q (by simp))
  | int j=>obtain⟨t',rfl⟩:=ry;exact ne_int (fin_bl I q (congrArg not dec_int))
  | str j=>obtain⟨t',rfl⟩:=ry;exact PySem.EqMixed.ne_int_str (fin_bl I q (by simp))
  | _=>exact absurd (show false=true from hs) Bool.false_ne_true
 | str i=>
  obtain⟨t,rfl⟩:=rx
  cases y with
  | non=>cases ry;exact PySem.EqNone.ne_str_none (fin_bl I q (by simp))
  | bl j=>cases ry;exact PySem.EqMixed.ne_str_bool (fin_bl I q (by simp))
  | int j=>obtain⟨t',rfl⟩:=ry;exact PySem.EqMixed.ne_str_int (fin_bl I q (by simp))
  | str j=>obtain⟨t',rfl⟩:=ry;exact ne_str (fin_bl I q (congrArg not dec_str))
  | _=>exact absurd (show false=true from hs) Bool.false_ne_true
 | byt i=>
  obtain⟨t,rfl⟩:=rx
  cases y with
  | byt j=>obtain⟨t',rfl⟩:=ry;exact PySem.W.ne_bytes (fin_bl I q (congrArg not dec_byt))
  | _=>exact absurd (show false=true from hs) Bool.false_ne_true
 | _=>cases y <;> exact absurd (show false=true from hs) Bool.false_ne_true
theorem op_lt:OpR X (compareOp .Lt) (rI0 fun i j=>.bl (decide (i < j))):=opB0 fun _ _ _ _ _ _ _ q=>lt_int q
theorem op_le:OpR X (compareOp .LtE) (rI0 fun i j=>.bl (decide (i≤j))):=opB0 fun _ _ _ _ _ _ _ q=>le_int q
theorem op_gt:OpR X (compareOp .Gt) (rI0 fun i j=>.bl (decide (j < i))):=opB0 fun _ _ _ _ _ _ _ q=>gt_int q
theorem op_ge:OpR X (compareOp .GtE) (rI0 fun i j=>.bl (decide (j≤i))):=opB0 fun _ _ _ _ _ _ _ q=>ge_int q
theorem op_in_str:OpR X (compareOp .In) (fun x y H Q=>∃i j,x=.str i/\y=.str j/\Q (.bl (!(Builtin.Str.occurrences j i 0 j.length 1).isEmpty)) H):=by
 intro pins s σ H x y v u Q I rx ry h
 obtain⟨i,j,rfl,rfl,q⟩:=h
 obtain⟨t,rfl⟩:=rx
 obtain⟨t',rfl⟩:=ry
 exact in_str (fin_bl I q rfl)
theorem op_isN:OpR X (compareOp .Is) (fun x y H Q=>y=.non/\Q (.bl (decide (x=.non))) H):=by
 intro pins s σ H x y v u Q I rx ry h
 obtain⟨rfl,q⟩:=h
 cases ry
 refine is_none_gen (fin_bl I q ?_)
 cases x <;> first
  | (cases rx;rfl)
  | (obtain⟨t,rfl⟩:=rx;rfl)
theorem op_notN:OpR X (compareOp .IsNot) (fun x y H Q=>y=.non/\Q (.bl (!decide (x=.non))) H):=by
 intro pins s σ H x y v u Q I rx ry h
 obtain⟨rfl,q⟩:=h
 cases ry
 refine isnot_none_gen (fin_bl I q ?_)
 cases x <;> first
  | (cases rx;rfl)
  | (obtain⟨t,rfl⟩:=rx;rfl)
theorem op_notin_str:OpR X (compareOp .NotIn) (fun x y H Q=>∃i j,x=.str i/\y=.str j/\Q (.bl (!(!(Builtin.Str.occurrences j i 0 j.length 1).isEmpty))) H):=by
 intro pins s σ H x y v u Q I rx ry h
 obtain⟨i,j,rfl,rfl,q⟩:=h
 obtain⟨t,rfl⟩:=rx
 obtain⟨t',rfl⟩:=ry
 exact notIn_str (fin_bl I q rfl)
theorem OpR.or {f:Value->Value->Sem Value}{r r':R2} (h:OpR X f r) (h':OpR X f r'):OpR X f (fun x y H Q=>r x y H Q\/r' x y H Q):=by
 intro pins s σ H x y v u Q I rx ry q
 rcases q with q | q
 ·exact h pins s σ H x y v u Q I rx ry q
 ·exact h' pins s σ H x y v u Q I rx ry q
theorem nomark (b:Expr) {op:CmpOp} (h:op≠.In:=by decide) (h2:op≠.NotIn:=by decide):behindInMarks op b=false:=by
 have e1:(op == CmpOp.In)=false:=by cases op <;> first | rfl | exact absurd rfl h
 have e2:(op == CmpOp.NotIn)=false:=by cases op <;> first | rfl | exact absurd rfl h2
 cases b <;> simp [behindInMarks,e1,e2]
theorem pe_cmpR {op:CmpOp}{r:R2} (ho:OpR X (compareOp op) r) (ha:PE X a ta) (hb:PE X b tb) (hm:behindInMarks op b=false):PE X (.Compare a [op] [b] pos) (tOp r ta tb):=by
 intro pins s σ H Q I h
 exact wpAny_Compare1 (binT ha hb I h fun v u s2 x y H2 I2 rx ry q=>ho pins s2 σ H2 x y v u Q I2 rx ry q) hm
noncomputable def tTest (t:TE):TT:=fun σ H Q=>t σ H fun x H'=>∃k,x=.bl k/\Q k H'
theorem pt_cmpR {op:CmpOp}{r:R2} (ho:OpR X (compareOp op) r) (ha:PE X a ta) (hb:PE X b tb) (hm:behindInMarks op b=false):PT X (.Compare a [op] [b] pos) (tTest (tOp r ta tb)):=by
 intro pins s σ H Q I h
 refine wpAny_isTrue_Compare1 (thn (ha pins s σ H _ I h) fun v s1 ⟨x,H1,I1,r1,q1⟩=>thn (hb pins s1 σ H1 _ I1 q1) fun u s2 ⟨y,H2,I2,r2,q2⟩=>
  thn (ho pins s2 σ H2 x y v u _ I2 r1 r2 q2) fun c s3 ⟨z,H3,I3,r3,k,e,q3⟩=>?_) hm
 subst e
 cases r3
 exact wpAny_truthy_bool ⟨H3,I3,q3⟩
noncomputable def tChain (r r':R2) (ta tb tc:TE):TE:=fun σ H Q=>ta σ H fun x H1=>tb σ H1 fun y H2=>r x y H2 fun z H3=>∃k,z=.bl k /\
 (if k=true then tc σ H3 fun w' H4=>r' y w' H4 Q else Q (.bl false) H3)
theorem pe_chain {op op':CmpOp}{r r':R2} (ho:OpR X (compareOp op) r) (ho':OpR X (compareOp op') r') (ha:PE X a ta) (hb:PE X b tb) (hc:PE X c tc)
  (hm:lastMarks [op,op'] [b,c]=false:=by with_unfolding_all rfl):PE X (.Compare a [op,op'] [b,c] pos) (tChain r r' ta tb tc):=by
 intro pins s σ H Q I h
 refine Compare_chain (thn (ha pins s σ H _ I h) fun v s1 ⟨x,H1,I1,r1,q1⟩=>chain_link (thn (hb pins s1 σ H1 _ I1 q1) fun u s2 ⟨y,H2,I2,r2,q2⟩=>
  thn (ho pins s2 σ H2 x y v u _ I2 r1 r2 q2) fun d s3 ⟨z,H3,I3,r3,k,e,q3⟩=>?_)) hm
 subst e
 cases r3
 refine wpAny_truthy_bool ?_
 cases k with
 | false=>exact ite_ff ⟨.bl false,H3,I3,rfl,q3⟩
 | true=>exact ite_tt (chain_last (thn (hc pins s3 σ H3 _ I3 q3) fun w' s4 ⟨z',H4,I4,r4,q4⟩=>ho' pins s4 σ H4 y z' u w' Q I4 r2 r4 q4))
theorem pt_chain {op op':CmpOp}{r r':R2} (ho:OpR X (compareOp op) r) (ho':OpR X (compareOp op') r') (ha:PE X a ta) (hb:PE X b tb) (hc:PE X c tc)
  (hm:lastMarks [op,op'] [b,c]=false:=by with_unfolding_all rfl):PT X (.Compare a [op,op'] [b,c] pos) (tTest (tChain r r' ta tb tc)):=by
 intro pins s σ H Q I h
 refine isTrue_chain (thn (ha pins s σ H _ I h) fun v s1 ⟨x,H1,I1,r1,q1⟩=>test_link (thn (hb pins s1 σ H1 _ I1 q1) fun u s2 ⟨y,H2,I2,r2,q2⟩=>
  thn (ho pins s2 σ H2 x y v u _ I2 r1 r2 q2) fun d s3 ⟨z,H3,I3,r3,k,e,q3⟩=>?_)) hm
 subst e
 cases r3
 refine wpAny_truthy_bool ?_
 cases k with
 | false=>
  obtain⟨k',e',q'⟩:=q3
  cases e'
  exact ite_ff ⟨H3,I3,q'⟩
 | true=>
  refine ite_tt (test_last (thn (hc pins s3 σ H3 _ I3 q3) fun w' s4 ⟨z',H4,I4,r4,q4⟩=>thn (ho' pins s4 σ H4 y z' u w' _ I4 r2 r4 q4) fun d' s5 hz=>?_))
  obtain⟨z2,H5,I5,r5,k2,e2,q5⟩:=hz
  subst e2
  cases r5
  exact wpAny_truthy_bool ⟨H5,I5,q5⟩
noncomputable def TruV (K:PySem.W.Frag) (x:V) (H:Hp) (k:Bool):Prop:=
 match x with
 | .non=>k=false
 | .bl b=>k=b
 | .int i=>k=(i != 0)
 | .str y=>y.length≤sizeLine/\k=((y.length:Int) != 0)
 | .byt y=>y.size≤sizeLine/\k=((y.size:Int) != 0)
 | .ref p=>(∃xs,SqL K H p xs/\k=!xs.isEmpty)\/(∃xs,SqT K H p xs/\k=!xs.isEmpty)\/∃kvs,H p=some (.dK kvs)/\k=!kvs.isEmpty
 | _=>False
theorem isEmpty_kv {κ:Type}{kvs:List (κ×V)}{vs:List (κ×Value)} (r:KV kvs vs):(!vs.isEmpty)=!kvs.isEmpty:=by
 cases r <;> rfl
theorem isEmpty_of {xs:List V}{its:List Value} (r:Vals xs its):(!its.toArray.isEmpty)=!xs.isEmpty:=by
 cases r <;> simp
theorem line63:(sizeLine:Nat) < 2 ^ 63:=by rw [sizeLine_eq];decide
theorem tru_ok:TruR X (fun x H Q=>∃k,TruV X.K x H k/\Q k H):=by
 intro pins s σ H x v Q I rx h
 obtain⟨k,e,q⟩:=h
 have hl:=line63
 have hs:sizeLine=16777216:=sizeLine_eq
 cases x with
 | non=>
  cases rx
  have e':k=false:=e
  subst e'
  exact truthy_none ⟨H,I,q⟩
 | bl b=>
  cases rx
  have e':k=b:=e
  subst e'
  exact wpAny_truthy_bool ⟨H,I,q⟩
 | int i=>
  obtain⟨t,rfl⟩:=rx
  have e':k=(i != 0):=e
  subst e'
  exact PySem.P.truthy_int ⟨H,I,q⟩
 | str y=>
  obtain⟨t,rfl⟩:=rx
  obtain⟨hy,e'⟩:y.length≤sizeLine/\k=((y.length:Int) != 0):=e
  subst e'
  exact PySem.P.truthy_str (by omega) ⟨H,I.tok _,q⟩
 | byt y=>
  obtain⟨t,rfl⟩:=rx
  obtain⟨hy,e'⟩:y.size≤sizeLine/\k=((y.size:Int) != 0):=e
  subst e'
  exact PySem.W.truthy_bytes (by omega) ⟨H,I.tok _,q⟩
 | ref p=>
  cases rx
  have e':(∃xs,SqL X.K H p xs/\k=!xs.isEmpty)\/(∃xs,SqT X.K H p xs/\k=!xs.isEmpty)\/∃kvs,H p=some (.dK kvs)/\k=!kvs.isEmpty:=e
  rcases e' with ⟨xs,hx,e'⟩ | ⟨xs,hx,e'⟩ | ⟨kvs,hx,e'⟩
  ·subst e'
   obtain⟨its,r,pl,hz⟩:=I.list hx
   have hlen:=r.length
   exact wpAny_truthy_list pl.isList (by simp only [List.size_toArray];omega) ⟨H,I.tok _,by rw [isEmpty_of r];exact q⟩
  ·subst e'
   obtain⟨its,r,pl,hz⟩:=I.tuple hx
   have hlen:=r.length
   exact truthy_tuple pl (by simp only [List.size_toArray];omega) ⟨H,I.tok _,by rw [isEmpty_of r];exact q⟩
  ·subst e'
   obtain⟨hz,hS,vs,r,m⟩:kvs.length≤sizeLine/\(p == sysModules)=false/\∃vs,KV kvs vs/\s.heap.DictOf (mixKind X.prog X.w) p vs:=I.hok p _ hx
   have hlen:kvs.length=vs.length:=Paired.length r
   exact wpAny_truthy_dict hS m (by omega) ⟨H,I.tok _,by rw [isEmpty_kv r];exact q⟩
 | _=>exact (show False from e).elim
theorem pt_truth (ha:PE X a ta) (he:∀whole,isTrue a X.env whole=(do let v <- whole;standAt a.pos;holding [v] (truthy v))) :
  PT X a (fun σ H Q=>ta σ H fun x H'=>∃k,TruV X.K x H' k/\Q k H'):=by
 intro pins s σ H Q I h
 exact isTrue_plain (thn (ha pins s σ H _ I h) fun v s1 hz=>by obtain⟨x,H1,I1,r1,q1⟩:=hz;exact tru_ok pins s1 σ H1 x v Q I1 r1 q1) (he _)
theorem op_add_str:OpR X (binaryOp .Add) (fun x y H Q=>∃i j,x=.str i/\y=.str j/\i.length+j.length≤sizeLine/\Q (.str (i++j)) H):=by
 intro pins s σ H x y v u Q I rx ry h
 obtain⟨i,j,rfl,rfl,hz,q⟩:=h
 obtain⟨t,rfl⟩:=rx
 obtain⟨t',rfl⟩:=ry
 exact add_str (fun t' tk=>⟨.str (i++j),H,I.tok _,⟨_,rfl⟩,q⟩) hz
theorem vals1 {x:V}{us:List Value} (r:Vals [x] us):∃u,us=[u]/\RelV x u:=by
 cases r with
 | cons r1 r2=>cases r2;exact⟨_,rfl,r1⟩
theorem vals2 {x y:V}{us:List Value} (r:Vals [x,y] us):∃u w',us=[u,w']/\RelV x u/\RelV y w':=by
 cases r with
 | cons r1 r2=>
  cases r2 with
  | cons r3 r4=>cases r4;exact⟨_,_,rfl,r1,r3⟩
theorem call_max2 (hc:X.calm=true):CallR X (.builtin "max") (fun xs H Q=>∃i j,xs=[.int i,.int j]/\Q (.int (if j > i then j else i)) H):=by
 intro pins s σ H xs us Q I r h
 obtain⟨i,j,rfl,q⟩:=h
 obtain⟨u,w',rfl,⟨t,rfl⟩,⟨t',rfl⟩⟩:=vals2 r
 refine max_two_ints (I.ok.hd hc) fun h' tk k=>⟨_,H,I.kept k,?_,q⟩
 by_cases hj:j > i
 ·rw [if_pos hj,if_pos hj];exact⟨_,rfl⟩
 ·rw [if_neg hj,if_neg hj];exact⟨_,rfl⟩
theorem call_min2 (hc:X.calm=true):CallR X (.builtin "min") (fun xs H Q=>∃i j,xs=[.int i,.int j]/\Q (.int (if j < i then j else i)) H):=by
 intro pins s σ H xs us Q I r h
 obtain⟨i,j,rfl,q⟩:=h
 obtain⟨u,w',rfl,⟨t,rfl⟩,⟨t',rfl⟩⟩:=vals2 r
 refine min_two_ints (I.ok.hd hc) fun h' tk k=>⟨_,H,I.kept k,?_,q⟩
 by_cases hj:j < i
 ·rw [if_pos hj,if_pos hj];exact⟨_,rfl⟩
 ·rw [if_neg hj,if_neg hj];exact⟨_,rfl⟩
end
end L2
namespace L2
open PySem PySem.Spec PyProof.Rows
structure ObjM (h:Heap) (x dx C:Addr) (mA:Str->Option Value):Prop where
 obj:h.get? x=some (PySem.W.instObj C dx)
 ns:h.Ns1 dx mA
 ne:dx≠x
theorem lookIn_ns {h:Heap}{dx:Addr}{mA:Str->Option Value} (n:h.Ns1 dx mA):∃od,h.get? dx=some od/\∀name,PySem.W.lookIn name od=some (mA name):=by
 obtain⟨o,es,ep,ho,hd,hk,_,hm⟩:=n
 refine⟨o,ho,fun name=>?_⟩
 have e:=hm name
 unfold nsFind findBy at e
 rw [<- Array.find?_toList] at e
 unfold PySem.W.lookIn
 rw [hd]
 dsimp only
 split
 ·rename_i y q
  rw [q] at e
  exact congrArg some e
 ·rename_i q
  rw [q] at e
  have a:es.toList.any (·.refKey)=false:=by
   rw [List.any_eq_false]
   intro y hy
   obtain⟨z,t,hkey⟩:=hk y (Array.mem_toList_iff.mp hy)
   simp [DictEntry.refKey,hkey]
  have a':¬es.toList.any (·.refKey)=true:=by rw [a];exact Bool.false_ne_true
  rw [if_neg a']
  exact congrArg some e
theorem ObjM.look {h:Heap}{x dx C:Addr}{mA:Str->Option Value} (I:ObjM h x dx C mA):∃od,PySem.W.InstAt h x (PySem.W.instObj C dx) C (some od)/\∀name,PySem.W.lookIn name od=some (mA name):=
 let ⟨od,ho,hl⟩:=lookIn_ns I.ns
 ⟨od,⟨I.obj,rfl,rfl,ho⟩,hl⟩
section
variable {prog:Program}{w:World}{A:Around}{E:Value->Shared->Prop}{s:Shared}{K:PySem.W.Frag}{x dx C f:Addr}{mA:Str->Option Value}{name:Str}{v:Value}
end
theorem RelO.some_of {v:V}{o:Option Value} (r:RelO (some v) o):∃u,o=some u/\RelV v u:=by
 cases o with
 | none=>exact (show False from r).elim
 | some u=>exact⟨u,rfl,r⟩
theorem RelO.none_of {o:Option Value} (r:RelO none o):o=none:=by
 cases o with
 | none=>rfl
 | some u=>exact (show False from r).elim
section
variable {P:Program}{w:World}{H H':Hp}{h h':Heap}{a C dx:Addr}{fs fs':List (Str×V)}
theorem ins_get (hok:HOk P w H h) (e:H a=some (.ins C dx fs)):∃mA,ObjM h a dx C mA/\(∀f,RelO (fs.lookup f) (mA f))/\PySem.Within mA (fs.map (·.1))/\fs.length≤1000/\H dx=some (.own a):=by
 obtain⟨d,z,ne,ob,mA,n,r,q⟩:=(show ObjOk P w H h a (.ins C dx fs) from hok a _ e)
 exact⟨mA,⟨ob,n,ne⟩,r,q,z,d⟩
end
structure Cls (K:PySem.W.Frag) (C:Addr):Prop where
 pg:PySem.W.plainGet K C Str.empty=true
 hd:PySem.W.hasDictIn K C=true
 po:PySem.W.plainOver K C=true
 sa:PySem.W.findIn K (.ref C) "__setattr__"=some (some (.builtin "object.__setattr__"))
theorem Cls.get {K:PySem.W.Frag}{C:Addr} (c:Cls K C) (f:Str):PySem.W.plainGet K C f=true:=c.pg
noncomputable def NoAttr (K:PySem.W.Frag) (C:Addr) (f:Str):Prop:=PySem.W.findIn K (.ref C) f=some none
structure Con (K:PySem.W.Frag) (C:Addr) (f:Str) (v:V) (u:Value):Prop where
 at_:PySem.W.findIn K (.ref C) f=some (some u)
 rel:RelV v u
 get:PySem.W.specialIn K u "__get__"=some none
 cp:PySem.W.copiedNames.contains f=false
structure Meth (K:PySem.W.Frag) (C:Addr) (m:Str) (f:Addr):Prop where
 at_:PySem.W.findIn K (.ref C) m=some (some (.ref f))
 fn:PySem.W.isFn K (.ref f)=true
 kp:PySem.W.keepIn K (.ref f)=true
section
variable {X:Cx}{pins:List (Addr×Obj)}{σ:St}{H:Hp}{s:Shared}{a C dx:Addr}{fs:List (Str×V)}{f:Str}{v:V}{A:Around}{E:Value->Shared->Prop}
theorem Inv.made (I:Inv X pins σ H s):Inv X pins σ (upd (upd H s.heap.objs.size (.own (s.heap.objs.size+1))) (s.heap.objs.size+1) (.ins C s.heap.objs.size []))
  { s with heap:=(s.heap.push PySem.W.emptyDict).push (PySem.W.instObj C s.heap.objs.size) }:=by
 have e1:(s.heap.push PySem.W.emptyDict).get? s.heap.objs.size=some PySem.W.emptyDict:=Heap.get?_push_size s.heap rfl
 have e2:((s.heap.push PySem.W.emptyDict).push (PySem.W.instObj C s.heap.objs.size)).get? (s.heap.objs.size+1)=some (PySem.W.instObj C s.heap.objs.size):=by
  have:=Heap.get?_push_size (s.heap.push PySem.W.emptyDict) (o:=PySem.W.instObj C s.heap.objs.size) rfl
  rwa [Heap.size_push] at this
 have e3:(s.heap.push PySem.W.emptyDict).Ns s.heap.objs.size (fun _=>none):=⟨PySem.W.emptyDict,#[],_,e1,rfl,(fun e he=>absurd he (by simp)),fun _=>rfl⟩
 have I1:=I.laid (a:=s.heap.objs.size) (o:=.own (s.heap.objs.size+1)) (h':=s.heap.push PySem.W.emptyDict) (t':=s.toks) (fun b u q=>Heap.get?_push_of_some _ q) (Nat.le_refl _) ⟨_,e1⟩
 refine I1.laid (a:=s.heap.objs.size+1) (o:=.ins C s.heap.objs.size []) (t':=s.toks) (fun b u q=>Heap.get?_push_of_some _ q) (Nat.le_of_eq (Heap.size_push _ _)) ?_
 have ne:s.heap.objs.size≠s.heap.objs.size+1:=Nat.ne_of_lt (Nat.lt_succ_self _)
 refine⟨by rw [upd_ne ne,upd_same],Nat.zero_le _,ne,e2,fun _=>none,(Heap.Ns1.of_empty e3).at fun o q=>Heap.get?_push_of_some _ q,fun _=>True.intro,fun y hy=>absurd rfl hy⟩
end
section
variable {X:Cx}{o e value:Expr}{f:Str}{pos pos' tpos:Pos}{ta tv:TE}
end
section
variable {X:Cx}{pins:List (Addr×Obj)}{σ:St}{H:Hp}{s:Shared}{A:Around}{E:Value->Shared->Prop}{Q:Value->Shared->Prop}{c:Value}{b:Bool}
inductive TyOf (K:PySem.W.Frag) (H:Hp):V->Value->Prop where
 | non:TyOf K H .non (.type "NoneType")
 | bl (x:Bool):TyOf K H (.bl x) (.type "bool")
 | int (i:Int):TyOf K H (.int i) (.type "int")
 | str (x:Str):TyOf K H (.str x) (.type "str")
 | flt (x:UInt64):TyOf K H (.flt x) (.type "float")
 | lst {a:Addr}{xs:List V} (e:H a=some (.lst xs)):TyOf K H (.ref a) (.type "list")
 | frz {a:Addr}{o:Obj}{xs:List V} (e:H a=some (.frz o (.lst xs))):TyOf K H (.ref a) (.type "list")
 | tup {a:Addr}{xs:List V} (e:H a=some (.tup xs)):TyOf K H (.ref a) (.type "tuple")
 | dK {a:Addr}{kvs:List (Key×V)} (e:H a=some (.dK kvs)):TyOf K H (.ref a) (.type "dict")
 | dT {a:Addr}{kvs:List (List Key×V)} (e:H a=some (.dT kvs)):TyOf K H (.ref a) (.type "dict")
 | ins {a C dx:Addr}{fs:List (Str×V)} (e:H a=some (.ins C dx fs)) (cl:Cls K C) (ha:PySem.W.findIn K (.ref C) "__class__"=some (some (.builtin "object.__class__")))
   (hn:PySem.W.specialIn K (.builtin "object.__class__") "__get__"=some (some (.builtin "getset_descriptor.__get__"))) (htk:PySem.W.takesIn K (.builtin "object.__class__")=some true)
   (hm:PySem.W.mroIn K C (.type "object")=some true):TyOf K H (.ref a) (.ref C)
theorem isinst_ok {x:V}{u t:Value} (I:Inv X pins σ H s) (rx:RelV x u) (ty:TyOf X.K H x t) (e:PySem.W.kitOne X.K t c=some b) (h:∀tk,Q (.bool b) { s with toks:=tk }) :
  wpAny (model X.prog X.w) A (call (.builtin "isinstance") [u,c]) Q E s:=by
 cases ty with
 | non=>cases (show u=Value.none from rx);exact PySem.W.kia_one PySem.W.kitx_none I.kIn True.intro e (fun z=>nomatch z) h
 | bl y=>cases (show u=Value.bool y from rx);exact PySem.W.kia_one PySem.W.kitx_bool I.kIn True.intro e (fun z=>nomatch z) h
 | int i=>obtain⟨t,q⟩:=(show ∃t,u=Value.int i t from rx);cases q;exact PySem.W.kia_one PySem.W.kitx_int I.kIn True.intro e (fun z=>nomatch z) h
 | str y=>obtain⟨t,q⟩:=(show ∃t,u=Value.str y t from rx);cases q;exact PySem.W.kia_one PySem.W.kitx_str I.kIn True.intro e (fun z=>nomatch z) h
 | flt y=>obtain⟨t,q⟩:=(show ∃t,u=Value.float y t from rx);cases q;exact PySem.W.kia_one PySem.W.kitx_float I.kIn True.intro e (fun z=>nomatch z) h
 | @lst a xs ea=>
  cases (show u=Value.ref a from rx)
  obtain⟨_,_,n,_,h1⟩:=(show ObjOk X.prog X.w H s.heap a (.lst xs) from I.hok a _ ea)
  exact PySem.W.kia_one PySem.W.kitx_list I.kIn ⟨_,h1,rfl⟩ e (fun z=>nomatch z) h
 | @frz a ob xs ea=>
  cases (show u=Value.ref a from rx)
  obtain⟨_,_,_,n,_,h1⟩:=(show ObjOk X.prog X.w H s.heap a (.frz ob (.lst xs)) from I.hok a _ ea)
  exact PySem.W.kia_one PySem.W.kitx_list I.kIn ⟨_,h1,rfl⟩ e (fun z=>nomatch z) h
 | @tup a xs ea=>
  cases (show u=Value.ref a from rx)
  obtain⟨_,_,_,p⟩:=(show ObjOk X.prog X.w H s.heap a (.tup xs) from I.hok a _ ea)
  obtain⟨o,h1,h2,_⟩:=p
  exact PySem.W.kia_one PySem.W.kitx_tuple I.kIn ⟨o,h1,h2⟩ e (fun z=>nomatch z) h
 | @dK a kvs ea=>
  cases (show u=Value.ref a from rx)
  obtain⟨_,_,vs,_,p⟩:=(show ObjOk X.prog X.w H s.heap a (.dK kvs) from I.hok a _ ea)
  obtain⟨o,es,ep,h1,h2,_⟩:=p
  exact PySem.W.kia_one PySem.W.kitx_dict I.kIn ⟨o,h1,h2.1⟩ e (fun z=>nomatch z) h
 | @dT a kvs ea=>
  cases (show u=Value.ref a from rx)
  obtain⟨_,_,xs,_,o,es,ep,h1,h2,_⟩:=(show ObjOk X.prog X.w H s.heap a (.dT kvs) from I.hok a _ ea)
  exact PySem.W.kia_one PySem.W.kitx_dict I.kIn ⟨o,h1,h2.1⟩ e (fun z=>nomatch z) h
 | @ins a C dx fs ea cl ha hn htk hm=>
  cases (show u=Value.ref a from rx)
  obtain⟨mA,O,_⟩:=ins_get I.hok ea
  obtain⟨od,J,_⟩:=O.look
  exact PySem.W.kia_one (PySem.W.kitx_own (cl.get _) cl.hd ha hn htk hm) I.kIn J e (fun z=>nomatch z) h
end
end L2
namespace L2
open PySem PySem.Spec PyProof.Rows
structure Room (k:Nat) (A:Around):Prop where
 hd:A.handled=none
 dp:A.depth+3 * k+5 < recursionLimit
 un:A.units+16 * k+200 < cLine
theorem Room.mono {j k:Nat}{A:Around} (r:Room k A) (h:j≤k):Room j A:=⟨r.hd,by have:=r.dp;omega,by have:=r.un;omega⟩
theorem Room.deeper {k:Nat}{A:Around} (r:Room (k+1) A) (env:Env):Room k (A.deeper env):=
 ⟨r.hd,by have:=r.dp;show A.depth+1+3 * k+5 < _;omega,by have:=r.un;show A.units+3+16 * k+200 < _;omega⟩
theorem Room.in1 {k:Nat}{A:Around} (r:Room (k+1) A):Room k A.in1:=
 ⟨r.hd,by have:=r.dp;show A.depth+3 * k+5 < _;omega,by have:=r.un;show A.units+1+16 * k+200 < _;omega⟩
theorem make_depth {A:Around}{C:Addr}{us:List Value}{kw:List (Str×Value)}:(A.under (.builtin "type.__call__" ⟨.ref C::us,kw⟩)).depth=A.depth+1:=by
 first | rfl | simp [Around.under,Code.weight,Code.isCreation,Code.isGuard,Code.isCaller,Code.frames,Code.isFrame,guardIds]
theorem make_units {A:Around}{C:Addr}{us:List Value}{kw:List (Str×Value)}:(A.under (.builtin "type.__call__" ⟨.ref C::us,kw⟩)).units=A.units+1:=by
 first | rfl | simp [Around.under,Code.cUnits,Code.frames,Code.isFrame]
theorem Room.make {k:Nat}{A:Around} (r:Room (k+1) A) (C:Addr) (us:List Value) (kw:List (Str×Value)):Room k (A.under (.builtin "type.__call__" ⟨.ref C::us,kw⟩)):=
 ⟨r.hd,by have:=r.dp;rw [make_depth];omega,by have:=r.un;rw [make_units];omega⟩
theorem Room.depth {k:Nat}{A:Around} (r:Room k A):A.depth < recursionLimit:=by have:=r.dp;omega
theorem Room.units {k:Nat}{A:Around} (r:Room k A):A.units+64 < cLine:=by have:=r.un;omega
noncomputable def tNil:TA:=fun _ H Q=>Q [] H
noncomputable def tCons (ta:TE) (tr:TA):TA:=fun σ H Q=>ta σ H fun x H1=>tr σ H1 fun xs H2=>Q (x::xs) H2
section
variable {X:Cx}{e:Expr}{es:List Expr}{te:TE}{t:TA}{pos:Pos}
theorem pa_nil:PA X [] tNil:=fun _ _ _ _ H Q I h=>Calls.spliced_nil ⟨[],H,I,.nil,h⟩
theorem pa_cons (ha:PE X e te) (hr:PA X es t) (hs:starEach (e::es) X.env=(false,eval e X.env)::starEach es X.env:=by rfl):PA X (e::es) (tCons te t):=by
 intro pos pins s σ H Q I h
 rw [hs]
 show wpAny _ _ (spliced ((false,eval e X.env)::backTo pos (starEach es X.env))) _ _ s
 refine Calls.spliced_cons (thn (ha pins s σ H _ I h) fun u s1 hz=>?_)
 obtain⟨x,H1,I1,r1,q1⟩:=hz
 exact thn (hr pos pins s1 σ H1 _ I1 q1) fun us s2 hz=>by obtain⟨xs,H2,I2,r2,q2⟩:=hz;exact⟨x::xs,H2,I2,.cons r1 r2,q2⟩
noncomputable def tTup (t:TA):TE:=fun σ H Q=>t σ H fun xs H1=>xs.length≤sizeLine/\∀p,H1 p=none->Q (.ref p) (upd H1 p (.tup xs))
noncomputable def tLst (t:TA):TE:=fun σ H Q=>t σ H fun xs H1=>xs.length≤sizeLine/\∀p,H1 p=none->Q (.ref p) (upd H1 p (.lst xs))
theorem pe_tup {x1} (h:PA X es t):PE X (.Tuple es x1 pos) (tTup t):=by
 intro pins s σ H Q I hq
 refine wpAny_Tuple_spliced (thn (h pos pins s σ H _ I hq) fun us s1 hz=>?_)
 obtain⟨xs,H1,I1,r,z,q⟩:=hz
 refine⟨by rw [<- r.length];exact z,?_⟩
 have hf:H1 s1.heap.objs.size=none:=I1.hok.fresh (Nat.le_refl _)
 refine⟨.ref s1.heap.objs.size,upd H1 s1.heap.objs.size (.tup xs),I1.laid (t':=s1.toks) (fun b u e=>Heap.get?_push_of_some _ e) (Nat.le_refl _) ?_,rfl,q _ hf⟩
 exact⟨z,us,r,⟨_,Heap.get?_push_size _ rfl,rfl,_,rfl⟩⟩
theorem pe_lst (h:PA X es t):PE X (.List es pos) (tLst t):=by
 intro pins s σ H Q I hq
 refine wpAny_List_spliced (thn (h pos pins s σ H _ I hq) fun us s1 hz=>?_)
 obtain⟨xs,H1,I1,r,z,q⟩:=hz
 refine⟨by rw [<- r.length];exact z,?_⟩
 have hf:H1 s1.heap.objs.size=none:=I1.hok.fresh (Nat.le_refl _)
 refine⟨.ref s1.heap.objs.size,upd H1 s1.heap.objs.size (.lst xs),I1.laid (t':=s1.toks) (fun b u e=>Heap.get?_push_of_some _ e) (Nat.le_refl _) ?_,rfl,q _ hf⟩
 exact⟨z,us,0,r,Heap.get?_push_size _ rfl⟩
end
noncomputable abbrev Sp:=List V->Hp->VK->XK->Prop
noncomputable abbrev CXT:=List Env->Hp->Shared->XK->Value->Shared->Prop
structure Env0 (P:Program) (w:World) (K:PySem.W.Frag) (mg:Str->Option Value) (base:Heap) (A:Around) (outer:List Env) (s:Shared) (H:Hp):Prop where
 frames:A.frames=some outer
 mod:Mod K mg base
 bs:∀b o,base.get? b=some o->s.heap.get? b=some o/\H b=none
 bsz:base.objs.size≤s.heap.objs.size
 funs:s.heap.FunFrames base outer
 frf:∀b ∈ frs outer,H b=none
 hok:HOk P w H s.heap
 bare:AllBare s.gens
noncomputable def CE (outer:List Env) (P:Program) (w:World) (H:Hp) (s:Shared) (Q:VK) (u:Value) (s':Shared):Prop:=
 ∃v H',s'.os=s.os/\AllBare s'.gens/\Un (frs outer) [] H H' s.heap s'.heap/\HOk P w H' s'.heap/\RelV v u/\Q v H'
noncomputable def CR (CX:CXT) (outer:List Env) (P:Program) (w:World) (H:Hp) (s:Shared) (Q:VK) (E:XK) (r:Result) (s':Shared):Prop:=
 match r with
 | .ok (.ret u)=>CE outer P w H s Q u s'
 | .ok _=>False
 | .error e=>CX outer H s E e s'
structure FnOk (P:Program) (w:World) (K:PySem.W.Frag) (mg:Str->Option Value) (base:Heap) (CX:CXT) (k:Nat) (f:Addr) (fd:FuncData) (ps:List Str) (sp:Sp):Prop where
 len:∀vs H Q E,sp vs H Q E->vs.length=ps.length
 run:∀(A:Around) (outer:List Env) (s:Shared) (H:Hp) (args:Args) (us:List Value) (vs:List V) (Q:VK) (E:XK),Room k A->Env0 P w K mg base A outer s H->BindsTo s fd args (ps.zip us)->Vals vs us->sp vs H Q E ->
  codeAny (model P w) A (.call (.ref f) args) (CR CX outer P w H s Q E) s
theorem FnOk.mono {P:Program}{w:World}{K:PySem.W.Frag}{mg:Str->Option Value}{base:Heap}{CX:CXT}{j k:Nat}{f:Addr}{fd:FuncData}{ps:List Str}{sp:Sp} (F:FnOk P w K mg base CX j f fd ps sp) (h:j≤k) :
  FnOk P w K mg base CX k f fd ps sp:=⟨F.len,fun A outer s H args us vs Q E hr=>F.run A outer s H args us vs Q E (hr.mono h)⟩
theorem FnOk.imp {P:Program}{w:World}{K:PySem.W.Frag}{mg:Str->Option Value}{base:Heap}{CX:CXT}{k:Nat}{f:Addr}{fd:FuncData}{ps:List Str}{sp sp':Sp} (F:FnOk P w K mg base CX k f fd ps sp)
  (h:∀vs H Q E,sp' vs H Q E->sp vs H Q E):FnOk P w K mg base CX k f fd ps sp':=
 ⟨fun vs H Q E q=>F.len vs H Q E (h _ _ _ _ q),fun A outer s H args us vs Q E hr he hb hv hs=>F.run A outer s H args us vs Q E hr he hb hv (h _ _ _ _ hs)⟩
theorem Env0.make {P:Program}{w:World}{K:PySem.W.Frag}{mg:Str->Option Value}{base:Heap}{A:Around}{outer:List Env}{s:Shared}{H:Hp} (e:Env0 P w K mg base A outer s H) (C:Addr) (us:List Value) (kw:List (Str×Value)) :
  Env0 P w K mg base (A.under (.builtin "type.__call__" ⟨.ref C::us,kw⟩)) outer s H:=⟨by first | exact e.frames | (simpa [Around.under,Code.envs,Code.isFrame,pushEnvs] using e.frames),e.mod,e.bs,e.bsz,e.funs,e.frf,e.hok,e.bare⟩
theorem Env0.in1 {P:Program}{w:World}{K:PySem.W.Frag}{mg:Str->Option Value}{base:Heap}{A:Around}{outer:List Env}{s:Shared}{H:Hp} (e:Env0 P w K mg base A outer s H) :
  Env0 P w K mg base A.in1 outer s H:=⟨e.frames,e.mod,e.bs,e.bsz,e.funs,e.frf,e.hok,e.bare⟩
section
variable {X:Cx}{pins:List (Addr×Obj)}{σ:St}{H:Hp}{s s':Shared}
theorem Inv.env0 (I:Inv X pins σ H s):Env0 X.prog X.w X.K X.mg X.base X.A X.stack s H:=
 ⟨I.ok.frames,I.ok.mod,I.bs,Nat.le_trans I.ok.bsz I.sz,I.stack,I.stkFree,I.hok,I.bare⟩
theorem Inv.after {Q:VK}{u:Value} (I:Inv X pins σ H s) (h:CE X.stack X.prog X.w H s Q u s'):EP X pins σ Q u s':=by
 obtain⟨v,H',os,bare,un,hok,r,q⟩:=h
 obtain⟨hh,g,d,t,os'⟩:=s'
 obtain rfl:os'=s.os:=os
 exact⟨v,H',I.call (h':=hh) (g':=g) (d':=d) (t':=t) (ch:=[]) un hok bare (fun b z=>absurd z (by simp)),r,q⟩
end
noncomputable def tCall (sp:Sp) (dvs:List V) (E:XK) (t:TA):TE:=fun σ H Q=>t σ H fun vs H1=>sp (vs++dvs) H1 Q E
noncomputable def Binds (K:PySem.W.Frag) (fd:FuncData) (ps:List Str) (ds:List Value):Prop:=
 ∀(s:Shared) (us:List Value),K.In s.heap->(us++ds).length=ps.length->BindsTo s fd ⟨us,[]⟩ (ps.zip (us++ds))
theorem Binds.all {K:PySem.W.Frag}{fd:FuncData}{ps:List Str} (h:∀us:List Value,us.length=ps.length->bindArgs fd ⟨us,[]⟩=pure (ps.zip us)):Binds K fd ps []:=fun s us _ hl=>by
 rw [List.append_nil] at hl ⊢
 exact .of_eq (h us hl)
noncomputable def Passes (CX:CXT) (X:Cx) (E:XK):Prop:=∀(pins:List (Addr×Obj)) (σ:St) (H:Hp) (s:Shared) (e:Value) (s':Shared),Inv X pins σ H s->CX X.stack H s E e s'->X.xe e s'
section
variable {X:Cx}{CX:CXT}{k:Nat}{f C:Addr}{fd:FuncData}{ps:List Str}{sp:Sp}{dvs:List V}{ds:List Value}{E:XK}{x m:Str}{p pos apos:Pos}{e o:Expr}{es:List Expr}{ta:TE}{t:TA}
theorem run_fn {pins:List (Addr×Obj)}{σ:St}{H:Hp}{s:Shared}{Q:VK}{us:List Value}{vs:List V} (F:FnOk X.prog X.w X.K X.mg X.base CX k f fd ps sp) (hr:Room k X.A) (hb:Binds X.K fd ps ds) (hd:Vals dvs ds) (hx:Passes CX X E)
  (I:Inv X pins σ H s) (r:Vals vs us) (h:sp (vs++dvs) H Q E):wpAny (model X.prog X.w) X.A (call (.ref f) us) (EP X pins σ Q) X.xe s:=by
 have r2:Vals (vs++dvs) (us++ds):=r.append hd
 have hl:(us++ds).length=ps.length:=by rw [<- r2.length];exact F.len _ _ _ _ h
 refine wpAny_call (codeAny_mono (F.run X.A X.stack s H ⟨us,[]⟩ (us++ds) (vs++dvs) Q E hr I.env0 (hb s us I.kIn hl) r2 h) fun r s' hq=>?_)
 cases r with
 | error e=>exact hx pins σ H s e s' I hq
 | ok fl=>
  cases fl with
  | ret u=>exact I.after hq
  | next=>exact False.elim hq
  | brk=>exact False.elim hq
  | cont=>exact False.elim hq
theorem pe_call (F:FnOk X.prog X.w X.K X.mg X.base CX k f fd ps sp) (hr:Room k X.A) (hg:Gl X x) (hm:X.mg x=some (.ref f)) (hk:PySem.W.keepIn X.K (.ref f)=true) (hb:Binds X.K fd ps ds) (hd:Vals dvs ds) (hx:Passes CX X E)
  (ha:PA X (e::es) t) (hdb:(x == ("__debug__":Str))=false:=by decide) (he:starEach (e::es) X.env=(false,eval e X.env)::starEach es X.env:=by rfl) (hpl:(backTo pos (starEach es X.env)).any (·.1)=false:=by rfl) :
  PE X (.Call (.Name x p) (e::es) [] pos) (tCall sp dvs E t):=by
 intro pins s σ H Q I h
 refine wpAny_Call_Name_kw (ld_glob I hg hm ?_ hdb)
 refine PySem.W.callWith_K (h₀:=X.base) I.ok.mod.kin hk (thn (ha pos pins s σ H _ I h) fun us s1 hz=>?_) he hpl
 obtain⟨vs,H1,I1,r,q⟩:=hz
 refine⟨I1.kIn,?_⟩
 exact run_fn F hr hb hd hx I1 r q
structure Mk (K:PySem.W.Frag) (C f:Addr):Prop where
 makes:PySem.W.makesIn K C=true
 init:PySem.W.findIn K (.ref C) "__init__"=some (some (.ref f))
 fn:PySem.W.isFn K (.ref f)=true
 kp:PySem.W.keepIn K (.ref C)=true
end
section
variable {X:Cx}{CX:CXT}{k:Nat}{f C:Addr}{fd:FuncData}{ps ks:List Str}{sp:Sp}{E:XK}{x m:Str}{p pos apos kpos:Pos}{e o:Expr}{es:List Expr}{kws:List Keyword}{te ta:TE}{t tk:TA}{nm:Option Str}
structure KBinds (K:PySem.W.Frag) (fd:FuncData) (ps ks:List Str) (g:List Value->List Value->List Value) (gV:List V->List V->List V):Prop where
 to:∀(s:Shared) (us ws:List Value),K.In s.heap->(g us ws).length=ps.length->BindsTo s fd ⟨us,ks.zip ws⟩ (ps.zip (g us ws))
 rel:∀{vs:List V}{us:List Value}{zs:List V}{ws:List Value},Vals vs us->Vals zs ws->Vals (gV vs zs) (g us ws)
variable {g:List Value->List Value->List Value}{gV:List V->List V->List V}
end
structure FnScope (N P:List Str) (sc:Scope):Prop where
 kind:sc.kind=.function
 co:sc.isCoroutine=false
 gen:sc.isGenerator=false
 nd:N.Nodup
 pre:N.take P.length=P
 par:∀x ∈ P,sc.names.lookup x=some .local\/sc.names.lookup x=some .cell
 nofree:∀y ∈ sc.names,y.2≠.free
theorem bindL_out {kindOf:Str->Option NameKind}{x:Str}:∀{binds:List (Str×Value)}{m:Str->Option Value},(∀v,(x,v) ∉ binds)->bindL kindOf binds m x=m x
 | [],_,_=>rfl
 | (n,v)::r,m,h=>by
  unfold bindL
  rw [bindL_out fun w hw=>h w (List.mem_cons_of_mem _ hw)]
  split
  ·have:x≠n:=by rintro rfl;exact h v List.mem_cons_self
   simp [this]
  ·rfl
theorem bindC_out {kindOf:Str->Option NameKind}{x:Str}:∀{binds:List (Str×Value)}{m:Str->Option Value},(∀v,(x,v) ∉ binds)->bindC kindOf binds m x=m x
 | [],_,_=>rfl
 | (n,v)::r,m,h=>by
  unfold bindC
  rw [bindC_out fun w hw=>h w (List.mem_cons_of_mem _ hw)]
  split
  ·rfl
  ·have:x≠n:=by rintro rfl;exact h v List.mem_cons_self
   simp [this]
theorem bindL_get {kindOf:Str->Option NameKind}{x:Str}{v:Value}:∀{P:List Str}{vs:List Value}{i:Nat}{m:Str->Option Value},P.Nodup->P[i]? = some x->vs[i]? = some v->kindOf x=some .local ->
  bindL kindOf (P.zip vs) m x=some v
 | [],_,_,_,_,h,_,_=>by simp at h
 | _::_,[],_,_,_,_,h,_=>by simp at h
 | p::P,w::vs,0,m,nd,h1,h2,hk=>by
  simp at h1 h2;subst h1;subst h2
  show bindL kindOf ((p,w)::P.zip vs) m p=_
  unfold bindL
  rw [bindL_out fun v hv=>(List.nodup_cons.mp nd).1 (List.of_mem_zip hv).1,if_pos hk]
  simp
 | p::P,w::vs,i+1,m,nd,h1,h2,hk=>by
  show bindL kindOf ((p,w)::P.zip vs) m x=_
  unfold bindL
  exact bindL_get (i:=i) (List.nodup_cons.mp nd).2 (by simpa using h1) (by simpa using h2) hk
theorem bindC_get {kindOf:Str->Option NameKind}{x:Str}{v:Value}:∀{P:List Str}{vs:List Value}{i:Nat}{m:Str->Option Value},P.Nodup->P[i]? = some x->vs[i]? = some v->kindOf x≠some .local ->
  bindC kindOf (P.zip vs) m x=some v
 | [],_,_,_,_,h,_,_=>by simp at h
 | _::_,[],_,_,_,_,h,_=>by simp at h
 | p::P,w::vs,0,m,nd,h1,h2,hk=>by
  simp at h1 h2;subst h1;subst h2
  show bindC kindOf ((p,w)::P.zip vs) m p=_
  unfold bindC
  rw [bindC_out fun v hv=>(List.nodup_cons.mp nd).1 (List.of_mem_zip hv).1,if_neg hk]
  simp
 | p::P,w::vs,i+1,m,nd,h1,h2,hk=>by
  show bindC kindOf ((p,w)::P.zip vs) m x=_
  unfold bindC
  exact bindC_get (i:=i) (List.nodup_cons.mp nd).2 (by simpa using h1) (by simpa using h2) hk
noncomputable def start (N:List Str) (vs:List V):St:=vs.map some++List.replicate (N.length-vs.length) none
noncomputable def cxOf (CX:CXT) (P:Program) (w:World) (K:PySem.W.Frag) (mg:Str->Option Value) (base:Heap) (N:List Str) (qual:Str) (scope:Scope) (f:Addr) (cd:Value) (A:Around) (outer:List Env) (s:Shared) (H:Hp) (E:XK):Cx where
 prog:=P
 w:=w
 K:=K
 mg:=mg
 base:=base
 A:=A.deeper (envOfC qual scope s.heap.objs.size f cd)
 N:=N
 s₀:=s
 H₀:=H
 env:=envOfC qual scope s.heap.objs.size f cd
 outer:=outer
 stack:=envOfC qual scope s.heap.objs.size f cd::outer
 ex:=[]
 calm:=true
 fn:=fun _=>true
 pn:=[]
 xe:=fun e s'=>wpAny (model P w) (A.deeper (envOfC qual scope s.heap.objs.size f cd)) (leaving (envOfC qual scope s.heap.objs.size f cd) e) (fun _ s''=>CX outer H s E e s'') (fun e' s''=>CX outer H s E e' s'') s'
theorem cell_has {sc:Scope}{n:Nat}{x:Str} (h:sc.names.lookup x=some .cell):∃c,(cellsFrom n sc.names []).lookup x=some c:=by
 have q:=PySem.W.cellsFrom_some sc.names n [] (.inl h)
 exact Option.isSome_iff_exists.mp q
theorem inv_start {CX:CXT}{P:Program}{w:World}{K:PySem.W.Frag}{mg:Str->Option Value}{base:Heap}{N ps:List Str}{qual:Str}{scope:Scope}{f:Addr}{cd:Value}{A:Around}{outer:List Env}{s s1:Shared}{H:Hp}{E:XK}{us:List Value}{vs:List V}
  (S:FnScope N ps scope) (hd:A.handled=none) (e0:Env0 P w K mg base A outer s H) (hl:vs.length=ps.length) (r:Vals vs us)
  (x:InCallC s s.heap.objs.size (bindL (envOfC qual scope s.heap.objs.size f cd).kindOf (ps.zip us) fun _=>none) (cellsFrom (s.heap.objs.size+1) scope.names []) (bindC (envOfC qual scope s.heap.objs.size f cd).kindOf (ps.zip us) fun _=>none) s1) :
  Inv (cxOf CX P w K mg base N qual scope f cd A outer s H E) [] (start N vs) H s1:=by
 have hpl:ps.length≤N.length:=by have:=congrArg List.length S.pre;rw [List.length_take] at this;omega
 obtain⟨h1,tk,rfl,hk⟩:=x.done
 have noA:∀b:Addr,b ∉ (cxOf CX P w K mg base N qual scope f cd A outer s H E).ex:=fun b z=>absurd (show b ∈ ([]:List Addr) from z) (by simp)
 refine⟨⟨e0.mod,S.kind,rfl,rfl,Nat.le_refl _,fun y z c h1 h2=>?_,fun y hy=>?_,fun y c _ h=>?_,fun _=>hd,Around.frames_deeper e0.frames,.inr ⟨rfl,rfl⟩,fun b z=>absurd z (noA b),e0.bs,e0.bsz,fun b _ _=>noA b,fun b z=>absurd z (noA b),e0.funs,e0.frf⟩,
  rfl,e0.bare,Un.kept hk,⟨_,x.toInCall.ns,fun i y v h1 h2 h3=>?_⟩,fun y c h=>⟨_,x.cell y c h⟩,e0.hok.fresh (Nat.le_refl _),fun y c h=>?_,fun p hp=>absurd (show p ∈ ([]:List (Addr×Obj)) from hp) (by simp),e0.hok.kept hk,?_⟩
 ·exact name_of_addr x.apart (PySem.mem_of_lookup h1) (PySem.mem_of_lookup h2)
 ·have hy:scope.names.lookup y=some .cell\/scope.names.lookup y=some .free:=hy
  rcases hy with hy | hy
  ·exact cell_has hy
  ·exact absurd rfl (S.nofree _ (PySem.mem_of_lookup hy))
 ·exact Nat.le_of_lt (x.above y c (PySem.mem_of_lookup h))
 ·have hi:i < vs.length:=by
   unfold start at h2
   by_cases hi:i < vs.length
   ·exact hi
   ·rw [List.getElem?_append_right (by simpa using hi)] at h2
    rw [List.getElem?_replicate] at h2
    split at h2 <;> cases h2
  have ha:vs[i]? = some v:=by
   unfold start at h2
   rw [List.getElem?_append_left (by simpa using hi),List.getElem?_map] at h2
   cases e:vs[i]? with
   | none=>rw [e] at h2;cases h2
   | some a=>rw [e] at h2;cases h2;rfl
  obtain⟨u,hu,rv⟩:=r.get ha
  have hp:ps[i]? = some y:=by
   rw [<- S.pre,List.getElem?_take_of_lt (by omega)];exact h1
  have ndP:ps.Nodup:=by rw [<- S.pre];exact S.nd.sublist (List.take_sublist _ _)
  refine⟨u,rv,?_⟩
  rcases S.par y (List.mem_of_getElem? hp) with k | k
  ·exact .inl ⟨k,bindL_get ndP hp hu k⟩
  ·obtain⟨c,e⟩:=cell_has (n:=s.heap.objs.size+1) k
   refine .inr ⟨.inl k,c,e,?_⟩
   have q:=x.cell y c e
   rw [bindC_get ndP hp hu (by show scope.names.lookup y≠_;rw [k];decide)] at q
   exact q
 ·exact e0.hok.fresh (Nat.le_of_lt (x.above y c (PySem.mem_of_lookup h)))
 ·unfold start
  show _=N.length
  rw [List.length_append,List.length_map,List.length_replicate]
  omega
theorem fn_of {CX:CXT}{P:Program}{w:World}{K:PySem.W.Frag}{mg:Str->Option Value}{base:Heap}{k:Nat}{f:Addr}{name qual:Str}{params:Arguments}{body:List Stmt}{scope:Scope}{dV kV doc pm cdv ct oc:Value}{an od:Option Addr}
  {osl:Array (Option Value)}{N ps:List Str}{sp:Sp} (lk:K.lookup f=some ⟨oc,od,.func (PySem.W.fnOf name qual params body scope dV kV doc pm an cdv ct),osl⟩) (hcd:PySem.W.codeIn K cdv qual=true) (S:FnScope N ps scope)
  (len:∀vs H Q E,sp vs H Q E->vs.length=ps.length)
  (hbody:∀(A:Around) (outer:List Env) (s:Shared) (H:Hp) (vs:List V) (Q:VK) (E:XK),Room k (A.deeper (envOfC qual scope s.heap.objs.size f cdv))->sp vs H Q E ->
   ∃t,PSs (cxOf CX P w K mg base N qual scope f cdv A outer s H E) body t/\t { nx:=fun _ H'=>Q .non H',rt:=Q } (start N vs) H) :
  FnOk P w K mg base CX (k+1) f (PySem.W.fnOf name qual params body scope dV kV doc pm an cdv ct) ps sp:=by
 refine⟨len,fun A outer s H args us vs Q E hr e0 hb r hsp=>?_⟩
 have hl:=len _ _ _ _ hsp
 have KX:K.In s.heap:=e0.mod.kin.keeps fun b o e=>(e0.bs b o e).1
 have lim:s.heap.NoLimit:=e0.mod.nolimit.keeps fun b o e=>(e0.bs b o e).1
 have hkind:∀y ∈ ps.zip us,scope.names.lookup y.1=some .local\/(scope.names.lookup y.1=some .cell/\((cellsFrom (s.heap.objs.size+1) scope.names []).lookup y.1).isSome=true):=fun ⟨n,v⟩ hy=>by
  rcases S.par n (List.of_mem_zip hy).1 with q | q
  ·exact .inl q
  ·exact .inr ⟨q,PySem.W.cellsFrom_some _ _ _ (.inl q)⟩
 refine codeAny_call_function hr.depth (KX _ _ lk) rfl S.co S.gen rfl (PySem.W.codeRec_of KX hcd) (hb _ _ _ _ ?_)
 refine wpAny_newFunctionEnv_cells S.kind hkind fun env he s1 x=>?_
 subst he
 refine⟨lim.keeps x.toInCall.keep,codeAny_func ?_⟩
 obtain⟨t,ht,hq⟩:=hbody A outer s H vs Q E (hr.deeper _) hsp
 have I:Inv (cxOf CX P w K mg base N qual scope f cdv A outer s H E) [] (start N vs) H s1:=inv_start S hr.hd e0 hl r x
 refine wpAny_mono (ht [] s1 (start N vs) H _ I hq) (fun fl s' hs=>?_) fun e s' hs=>hs
 have fin:∀{σ':St}{H':Hp}{v:V}{u:Value},Inv (cxOf CX P w K mg base N qual scope f cdv A outer s H E) [] σ' H' s'->RelV v u->Q v H'->CE outer P w H s Q u s':=
  fun {σ' H' v u} J rv q=>⟨v,H',J.os,J.bare,J.base,J.hok,rv,q⟩
 cases fl with
 | ret u=>
  obtain⟨v,σ',H',J,rv,q⟩:=hs
  exact fin J rv q
 | next=>
  obtain⟨σ',H',J,q⟩:=hs
  exact fin (v:=V.non) (u:=Value.none) J rfl q
 | brk=>
  obtain⟨_,_,_,q⟩:=hs
  exact False.elim q
 | cont=>
  obtain⟨_,_,_,q⟩:=hs
  exact False.elim q
end L2
namespace L2
open PySem PySem.Spec PyProof.Rows
section
variable {X:Cx}{x:Str}{p pos:Pos}{e:Expr}{es:List Expr}{t:TA}{id T:String}{r:List V->Hp->VK->Prop}
noncomputable def tCB (r:List V->Hp->VK->Prop) (t:TA):TE:=fun σ H Q=>t σ H fun vs H1=>r vs H1 Q
theorem pe_callB (hc:CallR X (.builtin id) r) (hg:Gl X x) (hm:X.mg x=none) (hv:bootBuiltins x=some (.builtin id)) (ha:PA X (e::es) t) (hn:x≠"__name__":=by decide) (hdb:(x == ("__debug__":Str))=false:=by decide)
  (he:starEach (e::es) X.env=(false,eval e X.env)::starEach es X.env:=by rfl) (hpl:(backTo pos (starEach es X.env)).any (·.1)=false:=by rfl):PE X (.Call (.Name x p) (e::es) [] pos) (tCB r t):=by
 intro pins s σ H Q I h
 refine wpAny_Call_Name_kw (ld_blt I hg hm hv ?_ hn hdb)
 exact PyProof.Rows.callWith_builtin1 (thn (ha pos pins s σ H _ I h) fun us s1 hz=>by obtain⟨vs,H1,I1,r1,q1⟩:=hz;exact hc pins s1 σ H1 vs us Q I1 r1 q1) he hpl
theorem pe_callTy (hc:CallR X (.type T) r) (hg:Gl X x) (hm:X.mg x=none) (hv:bootBuiltins x=some (.type T)) (ha:PA X (e::es) t) (hn:x≠"__name__":=by decide) (hdb:(x == ("__debug__":Str))=false:=by decide)
  (he:starEach (e::es) X.env=(false,eval e X.env)::starEach es X.env:=by rfl) (hpl:(backTo pos (starEach es X.env)).any (·.1)=false:=by rfl):PE X (.Call (.Name x p) (e::es) [] pos) (tCB r t):=by
 intro pins s σ H Q I h
 refine wpAny_Call_Name_kw (ld_blt I hg hm hv ?_ hn hdb)
 exact PyProof.Rows.callWith_type1 (thn (ha pos pins s σ H _ I h) fun us s1 hz=>by obtain⟨vs,H1,I1,r1,q1⟩:=hz;exact hc pins s1 σ H1 vs us Q I1 r1 q1) he hpl
end
end L2
namespace HT
open PySem PyProof.Rows
section
open PySem.SeqAt
open PySem.AutoSeq1 (wpAny_loadPart')
open PySem.MeetsSeq PySem.MeetsSeq2 PySem.MeetsSeq3
end
section
variable {prog:Program}{w:World}{A:Around}{E:Value->Shared->Prop}{s:Shared}
theorem cat_tup {t b:Addr}{vs ws:List Value}{Q:Value->Shared->Prop} (ht:IsTup s.heap t vs.toArray) (hb:IsTup s.heap b ws.toArray) (hv:vs≠[])
  (h1:ws=[]->Q (.ref t) s) (h2:ws≠[]->Q (.ref s.heap.objs.size) { s with heap:=s.heap.push { cls:=.type "tuple",data:=.seq (vs++ws).toArray } })
  (hsz:vs.length+ws.length≤sizeLine):wpAny (model prog w) A (binaryOp .Add (.ref t) (.ref b)) Q E s:=by
 obtain⟨⟨cls,dd,data,sl⟩,ho,hc,n,hd⟩:=id ht
 obtain⟨⟨cls2,dd2,data2,sl2⟩,ho2,hc2,n2,hd2⟩:=id hb
 simp only at hc hd hc2 hd2
 subst hc hd hc2 hd2
 have e:vs.toArray++ws.toArray=(vs++ws).toArray:=by simp
 by_cases hw:ws=[]
 ·exact concat_meets ⟨_,ho,rfl⟩ ⟨_,ho2,rfl⟩ noFill_tuple_add seq_tuple_add PySem.F.slot_tuple_add PySem.F.entry_tuple_add (PySem.F.args_tuple_add_2 _ _)
   (tuple_addW1 t b vs.toArray ws.toArray n n2 dd dd2 sl sl2 (by simpa using hv) (by simp [hw])) ⟨ho,ho2,h1 hw⟩
 ·refine concat_meets ⟨_,ho,rfl⟩ ⟨_,ho2,rfl⟩ noFill_tuple_add seq_tuple_add PySem.F.slot_tuple_add PySem.F.entry_tuple_add (PySem.F.args_tuple_add_2 _ _)
   (tuple_addW2 t b vs.toArray ws.toArray n n2 dd dd2 sl sl2 (by simpa using hv) (by simpa using hw) (by rw [List.size_toArray,List.size_toArray];exact hsz)) ⟨ho,ho2,?_⟩
  rw [e]
  exact h2 hw
noncomputable def sIx (n d:Nat):Option Int->Nat
 | none=>d
 | some v=>if v < 0 then (v+(n:Int)).toNat else min v.toNat n
theorem sIx_le (n d:Nat) (hd:d≤n) (o:Option Int):sIx n d o≤n:=by
 cases o with
 | none=>exact hd
 | some v=>
  show (if v < 0 then (v+(n:Int)).toNat else min v.toNat n)≤n
  by_cases hv:v < 0
  ·rw [if_pos hv];omega
  ·rw [if_neg hv];exact Nat.min_le_right _ _
theorem clip_eq (v:Int) (n d:Nat):(if v < 0 then max (v+(n:Int)) 0 else min v (n:Int))=((sIx n d (some v):Nat):Int):=by
 show (if v < 0 then max (v+(n:Int)) 0 else min v (n:Int))=(((if v < 0 then (v+(n:Int)).toNat else min v.toNat n):Nat):Int)
 by_cases hv:v < 0
 ·simp only [if_pos hv];omega
 ·simp only [if_neg hv];omega
theorem adjust_gen (lo hi:Option Int) (n:Nat):Builtin.Slice.sliceAdjust lo hi 1 (n:Int)=(((sIx n 0 lo:Nat):Int),((sIx n n hi:Nat):Int)):=by
 have h1:¬((1:Int) < 0):=by omega
 unfold Builtin.Slice.sliceAdjust
 simp only [h1,if_false]
 refine Prod.ext ?_ ?_
 ·cases lo with
  | none=>rfl
  | some v=>exact clip_eq v n 0
 ·cases hi with
  | none=>rfl
  | some v=>exact clip_eq v n n
theorem places_gen (i j:Nat):Builtin.Slice.slicePlaces (i:Int) (j:Int) 1=j-i:=by
 unfold Builtin.Slice.slicePlaces
 have h1:(1:Int) > 0:=by omega
 simp only [h1,if_true,Int.ediv_one]
 split <;> omega
theorem slicePart_ {v:Value}{o:Option Int}{Q:Option Int->Shared->Prop} (p:IsPart v o) (h:Q o s):wpAny (model prog w) A (Builtin.Slice.slicePartIndex v) Q E s:=by
 cases p with
 | none=>exact slicePart_none h
 | int i t=>exact slicePart_int h
theorem sliceApplied_gen {sl:Addr}{vl vu:Value}{lo hi:Option Int}{n:Nat}{Q:Int×Int×Nat->Shared->Prop} (hs:s.heap.IsSliceOf sl vl vu .none) (pl:IsPart vl lo) (pu:IsPart vu hi)
  (h:Q (((sIx n 0 lo:Nat):Int),1,sIx n n hi-sIx n 0 lo) s):wpAny (model prog w) A (Builtin.Slice.sliceApplied (.ref sl) (pure (n:Int))) Q E s:=by
 obtain⟨os,hos,hcs,hds⟩:=id hs
 unfold Builtin.Slice.sliceApplied Builtin.Slice.sliceFields
 refine wpAny_bind (wpAny_bind (wpAny_field hos hds (x:=vl) rfl (wpAny_bind (wpAny_field hos hds (x:=vu) rfl (wpAny_bind (wpAny_field hos hds (x:=.none) rfl (wpAny_pure ?_)))))))
 refine wpAny_bind (slicePart_none ?_)
 show wpAny _ _ (if ((1:Int) == 0)=true then _ else _) _ _ s
 rw [if_neg (by decide)]
 refine wpAny_bind (slicePart_ pl (wpAny_bind (slicePart_ pu (wpAny_bind (wpAny_pure ?_)))))
 show wpAny _ _ (match Builtin.Slice.sliceAdjust lo hi 1 (n:Int) with | (lo,hi)=>pure (lo,(1:Int),Builtin.Slice.slicePlaces lo hi 1)) _ _ s
 rw [adjust_gen lo hi n]
 show wpAny _ _ (pure (((sIx n 0 lo:Nat):Int),(1:Int),Builtin.Slice.slicePlaces ((sIx n 0 lo:Nat):Int) ((sIx n n hi:Nat):Int) 1)) _ _ s
 rw [places_gen]
 exact wpAny_pure h
theorem pick_gen (xs:Array Value) (i k:Nat):((List.range k).filterMap fun (m:Nat)=>xs[((i:Int)+(m:Int) * 1).toNat]?).toArray=((xs.toList.drop i).take k).toArray:=by
 have e:(fun (m:Nat)=>xs[((i:Int)+(m:Int) * 1).toNat]?)=fun m=>xs[i+m]?:=by
  funext m
  have:((i:Int)+(m:Int) * 1).toNat=i+m:=by omega
  rw [this]
 rw [e]
 have:=pick_run xs i k
 rw [List.filterMap_map] at this
 have e2:((fun x=>xs[x]?) ∘ fun x=>i+x)=fun m=>xs[i+m]?:=rfl
 rw [e2] at this
 rw [this]
theorem getItem_tuple_cut {t sl:Addr}{items:Array Value}{vl vu:Value}{lo hi:Option Int}{Q:Value->Shared->Prop} (ht:IsTup s.heap t items) (hs:s.heap.IsSliceOf sl vl vu .none) (pl:IsPart vl lo) (pu:IsPart vu hi)
  (hw:¬(sIx items.size 0 lo=0/\sIx items.size items.size hi=items.size))
  (h:Q (.ref s.heap.objs.size) { s with heap:=s.heap.push { cls:=.type "tuple",data:=.seq ((items.toList.drop (sIx items.size 0 lo)).take (sIx items.size items.size hi-sIx items.size 0 lo)).toArray } })
  (hsz:items.size≤sizeLine):wpAny (model prog w) A (getItem (.ref t) (.ref sl)) Q E s:=by
 have htake:sizeOk (.seq ((items.toList.drop (sIx items.size 0 lo)).take (sIx items.size items.size hi-sIx items.size 0 lo)).toArray):=by
  show ((items.toList.drop (sIx items.size 0 lo)).take (sIx items.size items.size hi-sIx items.size 0 lo)).toArray.size≤sizeLine
  rw [List.size_toArray,List.length_take,List.length_drop,Array.length_toList]
  omega
 have hj:sIx items.size items.size hi≤items.size:=sIx_le _ _ (Nat.le_refl _) hi
 obtain⟨os,hos,hcs,hds⟩:=id hs
 have hTs:s.TypeIs (.ref sl) "slice":=⟨os,hos,hcs⟩
 unfold getItem
 try with_reducible refine wpAny_holding ?_
 first | refine wpAny_bind (wpAny_pure ?_) | skip
 refine wpAny_bind (wpAny_sequenceKey ht.typeIs (by decide) ?_)
 refine wpAny_bind (wpAny_callSpecial?_slot (name:=Str.ofString "__getitem__") ht.typeIs PyProof.Rows.slot_tuple_getitem
  (wpAny_call_entry PyProof.Rows.slot_tuple_getitem ht.typeIs entry_tuple_getitem ?_ (args_tuple_getitem _ _)))
 show wpAny _ _ (Builtin.Tuple.tupleItemsOf (.ref t) >>= _) _ _ s
 refine wpAny_bind (tupleItemsOf_ ht ?_)
 refine wpAny_bind (wpAny_typeOf hTs ?_)
 rw [if_pos (by decide)]
 refine wpAny_bind (sliceApplied_gen hs pl pu ?_)
 have hno:¬((((sIx items.size 0 lo:Nat):Int) == 0 && (1:Int) == 1 && (sIx items.size items.size hi-sIx items.size 0 lo) == items.size)=true):=by
  intro q
  rw [Bool.and_eq_true,Bool.and_eq_true] at q
  have q1:((sIx items.size 0 lo:Nat):Int)=0:=eq_of_beq q.1.1
  have q2:sIx items.size items.size hi-sIx items.size 0 lo=items.size:=eq_of_beq q.2
  exact hw ⟨by omega,by omega⟩
 show wpAny _ _ (if (((sIx items.size 0 lo:Nat):Int) == 0 && (1:Int) == 1 && (sIx items.size items.size hi-sIx items.size 0 lo) == items.size)=true then _ else _) _ _ s
 rw [if_neg hno,pick_gen]
 first
  | exact wpAny_bind (m:=Builtin.Tuple.tupleExact _) (wpAny_newObj_type (wpAny_pure ⟨_,rfl,wpAny_pure h⟩) htake)
  | exact wpAny_bind (m:=Builtin.Tuple.tupleExact _) (wpAny_newObj_type (wpAny_bind (wpAny_pure (wpAny_pure ⟨_,rfl,wpAny_pure h⟩))) htake)
  | exact wpAny_bind (wpAny_bind (m:=Builtin.Tuple.tupleExact _) (wpAny_newObj_type (wpAny_pure (wpAny_pure ⟨_,rfl,wpAny_pure h⟩)) htake))
  | exact wpAny_bind (wpAny_bind (m:=Builtin.Tuple.tupleExact _) (wpAny_newObj_type (wpAny_pure ⟨_,rfl,wpAny_pure h⟩) htake))
end
end HT
namespace L2
open PySem PySem.Spec PyProof.Rows
noncomputable abbrev TO:=St->Hp->(Option Int->Hp->Prop)->Prop
noncomputable def PO (X:Cx) (e:Option Expr) (t:TO):Prop:=
 ∀(pins:List (Addr×Obj)) (s:Shared) (σ:St) (H:Hp) (Q:Option Int->Hp->Prop),Inv X pins σ H s->t σ H Q ->
  wpAny (model X.prog X.w) X.A (evalPart e X.env) (fun u s'=>∃o H',Inv X pins σ H' s'/\IsPart u o/\Q o H') X.xe s
noncomputable def tNoPart:TO:=fun _ H Q=>Q none H
noncomputable def tPart (t:TE):TO:=fun σ H Q=>t σ H fun x H1=>∃i,x=.int i/\Q (some i) H1
section
variable {X:Cx}{e:Expr}{te:TE}{lo hi:Option Expr}{tl th:TO}{pos p2:Pos}
theorem po_none:PO X none tNoPart:=by
 intro pins s σ H Q I h
 rw [evalPart_none]
 exact wpAny_pure ⟨none,H,I,.none,h⟩
theorem po_some (h:PE X e te):PO X (some e) (tPart te):=by
 intro pins s σ H Q I hw
 rw [evalPart_some]
 refine thn (h pins s σ H _ I hw) fun u s1 hz=>?_
 obtain⟨x,H1,I1,r1,q1⟩:=hz
 obtain⟨i,rfl,q⟩:=q1
 obtain⟨t,rfl⟩:=r1
 exact⟨some i,H1,I1,.int i t,q⟩
noncomputable def SlR (X:Cx) (r:V->Option Int->Option Int->Hp->VK->Prop):Prop:=
 ∀(pins:List (Addr×Obj)) (s:Shared) (σ:St) (H:Hp) (x:V) (v vl vu:Value) (lo hi:Option Int) (sl:Addr) (Q:VK),Inv X pins σ H s->RelV x v->s.heap.IsSliceOf sl vl vu .none->IsPart vl lo->IsPart vu hi->r x lo hi H Q ->
  ∃T id,typeLookup (.type T) "__getitem__"=pure (some (.builtin id))/\s.TypeIs v T/\wpAny (model X.prog X.w) X.A (getItem v (.ref sl)) (EP X pins σ Q) X.xe s
theorem SlR.or {r r':V->Option Int->Option Int->Hp->VK->Prop} (h:SlR X r) (h':SlR X r'):SlR X (fun x lo hi H Q=>r x lo hi H Q\/r' x lo hi H Q):=by
 intro pins s σ H x v vl vu lo hi sl Q I rx hs pl pu q
 rcases q with q | q
 ·exact h pins s σ H x v vl vu lo hi sl Q I rx hs pl pu q
 ·exact h' pins s σ H x v vl vu lo hi sl Q I rx hs pl pu q
noncomputable def tSl (r:V->Option Int->Option Int->Hp->VK->Prop) (te:TE) (tl th:TO):TE:=fun σ H Q=>te σ H fun x H1=>tl σ H1 fun l H2=>th σ H2 fun u H3=>r x l u H3 Q
theorem pe_slice {r:V->Option Int->Option Int->Hp->VK->Prop} (hr:SlR X r) (he:PE X e te) (hl:PO X lo tl) (hu:PO X hi th):PE X (.Subscript e (.Slice lo hi none p2) pos) (tSl r te tl th):=by
 intro pins s σ H Q I h
 refine Subscript_ (thn (he pins s σ H _ I h) fun v s1 hz=>?_)
 obtain⟨x,H1,I1,r1,q1⟩:=hz
 refine wpAny_Slice (thn (hl pins s1 σ H1 _ I1 q1) fun vl s2 ⟨l,H2,I2,pl,q2⟩=>thn (hu pins s2 σ H2 _ I2 q2) fun vu s3 hz=>?_)
 obtain⟨u,H3,I3,pu,q3⟩:=hz
 rw [evalPart_none]
 refine wpAny_pure ?_
 have I4:Inv X pins σ H3 { s3 with heap:=s3.heap.push { cls:=.type "slice",data:=.fields #[vl,vu,.none] } }:=I3.kept (t':=s3.toks) fun b ob q=>Heap.get?_push_of_some _ q
 obtain⟨T,id,hT,ht,hg⟩:=hr pins { s3 with heap:=s3.heap.push { cls:=.type "slice",data:=.fields #[vl,vu,.none] } } σ H3 x v vl vu l u s3.heap.objs.size Q I4 r1 (Heap.IsSliceOf.new ..) pl pu q3
 show wpAny (model X.prog X.w) X.A (subscriptTail e (.Slice lo hi none p2) v (.ref s3.heap.objs.size)) (EP X pins σ Q) X.xe { s3 with heap:=s3.heap.push { cls:=.type "slice",data:=.fields #[vl,vu,.none] } }
 exact tail_any (ops:=[.ref s3.heap.objs.size,v]) ht hT hg (by with_unfolding_all rfl)
noncomputable def cutV (xs:List V) (lo hi:Option Int):List V:=(xs.drop (HT.sIx xs.length 0 lo)).take (HT.sIx xs.length xs.length hi-HT.sIx xs.length 0 lo)
theorem cutV_length (xs:List V) (lo hi:Option Int):(cutV xs lo hi).length≤xs.length:=by
 unfold cutV
 rw [List.length_take,List.length_drop]
 omega
noncomputable def rSlT (K:PySem.W.Frag):V->Option Int->Option Int->Hp->VK->Prop:=fun x lo hi H Q=>∃a xs,x=.ref a/\SqT K H a xs /\
 ¬(HT.sIx xs.length 0 lo=0/\HT.sIx xs.length xs.length hi=xs.length)/\∀p,H p=none->Q (.ref p) (upd H p (.tup (cutV xs lo hi)))
theorem sl_tup:SlR X (rSlT X.K):=by
 intro pins s σ H x v vl vu lo hi sl Q I rx hs pl pu h
 obtain⟨a,xs,rfl,hx,hw,q⟩:=h
 cases rx
 obtain⟨its,r,ht,hz⟩:=I.tuple hx
 have hlen:its.toArray.size=xs.length:=by rw [List.size_toArray];exact r.length.symm
 refine⟨"tuple",_,PyProof.Rows.slot_tuple_getitem.lookup,ht.typeIs,?_⟩
 refine HT.getItem_tuple_cut ht hs pl pu (by rw [hlen];exact hw) ?_ (by rw [hlen];exact hz)
 rw [hlen]
 refine⟨.ref s.heap.objs.size,_,I.laid (t':=s.toks) (o:=.tup (cutV xs lo hi)) (fun b ob q=>Heap.get?_push_of_some _ q) (Nat.le_refl _) ?_,rfl,q _ (I.hok.fresh (Nat.le_refl _))⟩
 exact⟨Nat.le_trans (cutV_length xs lo hi) hz,_,(r.drop (HT.sIx xs.length 0 lo)).take (HT.sIx xs.length xs.length hi-HT.sIx xs.length 0 lo),IsTup.new _ _⟩
noncomputable def rCatT (K:PySem.W.Frag):R2:=fun x y H Q=>∃a b xs ys,x=.ref a/\y=.ref b/\SqT K H a xs/\SqT K H b ys/\xs≠[]/\xs.length+ys.length≤sizeLine /\
 (ys=[]->Q (.ref a) H)/\(ys≠[]->∀p,H p=none->Q (.ref p) (upd H p (.tup (xs++ys))))
theorem Vals.nil_iff {xs:List V}{us:List Value} (r:Vals xs us):us=[]↔xs=[]:=by
 cases r with
 | nil=>simp
 | cons _ _=>simp
theorem op_catT:OpR X (binaryOp .Add) (rCatT X.K):=by
 intro pins s σ H x y v u Q I rx ry h
 obtain⟨a,b,xs,ys,rfl,rfl,ha,hb,hx,hz,q1,q2⟩:=h
 cases rx
 cases ry
 obtain⟨its,r1,p1,_⟩:=I.tuple ha
 obtain⟨its2,r2,p2,_⟩:=I.tuple hb
 refine HT.cat_tup p1 p2 (fun z=>hx (r1.nil_iff.mp z)) (fun z=>⟨.ref a,H,I,rfl,q1 (r2.nil_iff.mp z)⟩) (fun z=>?_) (by rw [<- r1.length,<- r2.length];exact hz)
 refine⟨.ref s.heap.objs.size,_,I.laid (t':=s.toks) (o:=.tup (xs++ys)) (fun b ob q=>Heap.get?_push_of_some _ q) (Nat.le_refl _) ?_,rfl,q2 (fun w=>z (r2.nil_iff.mpr w)) _ (I.hok.fresh (Nat.le_refl _))⟩
 exact⟨by rw [List.length_append];exact hz,_,r1.append r2,IsTup.new _ _⟩
end
end L2
namespace L2
open PySem PySem.Spec PyProof.Rows
noncomputable def ixN (n:Nat) (i:Int):Option Nat:=if 0≤i then (if i < n then some i.toNat else none) else if -(n:Int)≤i then some (i+n).toNat else none
noncomputable def atI {α:Type} (xs:List α) (i:Int):Option α:=(ixN xs.length i).bind fun j=>xs[j]?
theorem ixN_seq {n:Nat}{i:Int}{j:Nat} (h:ixN n i=some j):seqIndex? i n=some j/\j < n/\-(n:Int)≤i/\i < n:=by
 unfold ixN at h
 by_cases h0:0≤i
 ·rw [if_pos h0] at h
  by_cases h1:i < n
  ·rw [if_pos h1] at h
   have e:i.toNat=j:=Option.some.inj h
   exact⟨by rw [seqIndex_of h0 h1,e],by omega,by omega,h1⟩
  ·rw [if_neg h1] at h;cases h
 ·rw [if_neg h0] at h
  by_cases h1:-(n:Int)≤i
  ·rw [if_pos h1] at h
   have e:(i+n).toNat=j:=Option.some.inj h
   exact⟨by rw [seqIndex_neg (by omega) h1,e],by omega,h1,by omega⟩
  ·rw [if_neg h1] at h;cases h
theorem atI_get {α:Type}{xs:List α}{i:Int}{v:α} (h:atI xs i=some v):∃j,seqIndex? i xs.length=some j/\xs[j]? = some v/\j < xs.length/\-(xs.length:Int)≤i/\i < xs.length:=by
 unfold atI at h
 cases e:ixN xs.length i with
 | none=>rw [e] at h;cases h
 | some j=>
  rw [e] at h
  obtain⟨h1,h2,h3,h4⟩:=ixN_seq e
  exact⟨j,h1,h,h2,h3,h4⟩
theorem atI_last {α:Type} (xs:List α) (v:α):atI (xs++[v]) (-1)=some v:=by
 have hl:(xs++[v]).length=xs.length+1:=by simp
 have e:ixN (xs++[v]).length (-1)=some xs.length:=by
  unfold ixN
  rw [hl,if_neg (by decide),if_pos (by omega)]
  congr 1
  omega
 unfold atI
 rw [e]
 show (xs++[v])[xs.length]? = some v
 simp
noncomputable def PlainIx (b:Expr):Prop:=∀o i,subscripted b false o i=operate [o,i] (getItem o i)
noncomputable def IxR (X:Cx) (r:R2):Prop:=
 ∀(value slice:Expr) (pins:List (Addr×Obj)) (s:Shared) (σ:St) (H:Hp) (x y:V) (v u:Value) (Q:VK),Inv X pins σ H s->RelV x v->RelV y u->r x y H Q ->
  subscripted slice false v u=operate [v,u] (getItem v u)->wpAny (model X.prog X.w) X.A (subscriptTail value slice v u) (EP X pins σ Q) X.xe s
noncomputable def MtR (X:Cx) (id:String) (r:V->List V->Hp->VK->Prop):Prop:=
 ∀(pins:List (Addr×Obj)) (s:Shared) (σ:St) (H:Hp) (x:V) (xs:List V) (v:Value) (us:List Value) (Q:VK),Inv X pins σ H s->RelV x v->Vals xs us->r x xs H Q ->
  wpAny (model X.prog X.w) X.A (call (.builtin id) (v::us)) (EP X pins σ Q) X.xe s
section
variable {X:Cx}{a b:Expr}{ta tb:TE}{pos:Pos}
theorem IxR.or {r r':R2} (h:IxR X r) (h':IxR X r'):IxR X (fun x y H Q=>r x y H Q\/r' x y H Q):=by
 intro value slice pins s σ H x y v u Q I rx ry q hs
 rcases q with q | q
 ·exact h value slice pins s σ H x y v u Q I rx ry q hs
 ·exact h' value slice pins s σ H x y v u Q I rx ry q hs
theorem MtR.or {id:String}{r r':V->List V->Hp->VK->Prop} (h:MtR X id r) (h':MtR X id r'):MtR X id (fun x xs H Q=>r x xs H Q\/r' x xs H Q):=by
 intro pins s σ H x xs v us Q I rx rs q
 rcases q with q | q
 ·exact h pins s σ H x xs v us Q I rx rs q
 ·exact h' pins s σ H x xs v us Q I rx rs q
theorem pe_ix {r:R2} (hr:IxR X r) (ha:PE X a ta) (hb:PE X b tb) (hs:PlainIx b):PE X (.Subscript a b pos) (tOp r ta tb):=by
 intro pins s σ H Q I h
 exact Subscript_ (binT ha hb I h fun v u s2 x y H2 I2 rx ry q=>hr a b pins s2 σ H2 x y v u Q I2 rx ry q (hs _ _))
noncomputable def rIxL (K:PySem.W.Frag):R2:=fun x y H Q=>∃p xs i v,x=.ref p/\y=.int i/\SqL K H p xs/\atI xs i=some v/\Q v H
noncomputable def rIxT (K:PySem.W.Frag):R2:=fun x y H Q=>∃p xs i v,x=.ref p/\y=.int i/\SqT K H p xs/\atI xs i=some v/\Q v H
noncomputable def rIxS:R2:=fun x y H Q=>∃z i c,x=.str z/\y=.int i/\z.length≤sizeLine/\atI z.cps.toList i=some c/\Q (.str ⟨#[c]⟩) H
theorem ix_list:IxR X (rIxL X.K):=by
 intro value slice pins s σ H x y v u Q I rx ry h hs
 obtain⟨p,xs,i,z,rfl,rfl,hq,he,q⟩:=h
 cases rx
 obtain⟨t,rfl⟩:=ry
 obtain⟨its,r,pl,hz⟩:=I.list hq
 obtain⟨j,h1,h2,h3,h4,h5⟩:=atI_get he
 obtain⟨w,ew,rw'⟩:=r.get h2
 have hl:=r.length
 have hn:=line63
 have fin:EP X pins σ Q w s:=⟨z,H,I,rw',q⟩
 by_cases h0:0≤i
 ·have hj:i.toNat=j:=by
   rw [seqIndex_of h0 h5] at h1
   exact Option.some.inj h1
  exact item_listR pl.isList h0 (by omega) (by rw [hj];simpa using ew) fin hs
 ·have hj:(i+(its.toArray.size:Int)).toNat=j:=by
   rw [seqIndex_neg (by omega) h4] at h1
   rw [List.size_toArray,<- hl]
   exact Option.some.inj h1
  exact subscriptTail_builtinR (x:=w) pl.isList.typeIs slot_list_getitem.lookup
   (wpAny_getItem_list_neg (Q:=fun r s'=>r=w/\EP X pins σ Q r s') pl.isList (by omega) (by rw [List.size_toArray] <;> omega) (by omega) (by rw [hj];simpa using ew) ⟨rfl,fin⟩) hs
theorem ix_tup:IxR X (rIxT X.K):=by
 intro value slice pins s σ H x y v u Q I rx ry h hs
 obtain⟨p,xs,i,z,rfl,rfl,hq,he,q⟩:=h
 cases rx
 obtain⟨t,rfl⟩:=ry
 obtain⟨its,r,pl,hz⟩:=I.tuple hq
 obtain⟨j,h1,h2,h3,h4,h5⟩:=atI_get he
 obtain⟨w,ew,rw'⟩:=r.get h2
 have hl:=r.length
 have hn:=line63
 have fin:EP X pins σ Q w s:=⟨z,H,I,rw',q⟩
 exact subscriptTail_builtinR (x:=w) pl.typeIs slot_tuple_getitem.lookup
  (getItem_tuple (j:=j) (Q:=fun r s'=>r=w/\EP X pins σ Q r s') pl (by omega) (by omega) (by rw [List.size_toArray,<- hl];exact h1) (by simpa using ew) ⟨rfl,fin⟩) hs
theorem ix_str:IxR X rIxS:=by
 intro value slice pins s σ H x y v u Q I rx ry h hs
 obtain⟨z,i,c,rfl,rfl,hz,he,q⟩:=h
 obtain⟨t,rfl⟩:=rx
 obtain⟨t',rfl⟩:=ry
 obtain⟨j,h1,h2,h3,h4,h5⟩:=atI_get he
 have hl:z.cps.toList.length=z.length:=by simp [Str.length]
 rw [hl] at h1 h4 h5
 have hn:=line63
 exact tail_any (typeIs_str s z t) slot_str_getitem.lookup (getItem_str (c:=c) (by
  have e1:decide (i < -(2 ^ 63:Int))=false:=decide_eq_false (by omega)
  have e2:decide (i ≥ 2 ^ 63)=false:=decide_eq_false (by omega)
  rw [e1,e2,Bool.or_false]) (by rw [h1];simpa using h2) ⟨.str ⟨#[c]⟩,H,I.tok _,⟨_,rfl⟩,q⟩) hs
theorem mapSeq_set (its:List Value) (n j:Nat) (u:Value):Obj.mapSeq (·.setIfInBounds j u) { cls:=.type "list",data:=.seq its.toArray n }={ cls:=.type "list",data:=.seq (its.set j u).toArray n }:=by
 simp [Obj.mapSeq]
theorem Inv.lst {pins:List (Addr×Obj)}{σ:St}{H:Hp}{s:Shared}{p:Addr}{xs:List V} (I:Inv X pins σ H s) (h:H p=some (.lst xs)) :
  ∃(its:List Value) (n:Nat),Vals xs its/\s.heap.get? p=some { cls:=.type "list",data:=.seq its.toArray n }/\xs.length≤sizeLine:=by
 obtain⟨z,its,n,r,e⟩:=I.hok p _ h
 exact⟨its,n,r,e,z⟩
theorem Inv.lstUpd {pins:List (Addr×Obj)}{σ:St}{H:Hp}{s:Shared}{p:Addr}{xs ys:List V}{its its':List Value}{n n':Nat}{f:Obj->Obj} (I:Inv X pins σ H s) (h:H p=some (.lst xs))
  (ho:s.heap.get? p=some { cls:=.type "list",data:=.seq its.toArray n }) (hf:f { cls:=.type "list",data:=.seq its.toArray n }={ cls:=.type "list",data:=.seq its'.toArray n' }) (r:Vals ys its') (hz:ys.length≤sizeLine) (t:Nat) :
  Inv X pins σ (upd H p (.lst ys)) { s with heap:=s.heap.update p f,toks:=t }:=by
 have e:(s.heap.update p f).get? p=some { cls:=.type "list",data:=.seq its'.toArray n' }:=by
  rw [Heap.get?_update_self f ho (by rw [hf] <;> rfl),hf]
 refine I.write (x:=p) (e:=p) (by rw [h];trivial) (.inl rfl) (fun b u hb q=>(Heap.get?_update_other _ _ (Ne.symm hb)).trans q) ⟨_,e⟩ ?_
 exact⟨hz,its',n',r,e⟩
noncomputable def rSetL:V->V->V->Hp->(Hp->Prop)->Prop:=fun o i v H Q=>∃p xs k j,o=.ref p/\i=.int k/\H p=some (.lst xs)/\ixN xs.length k=some j/\Q (upd H p (.lst (xs.set j v)))
theorem set_list:PSet X rSetL:=by
 intro pins s σ H o i v ov iv u Q I ro ri rv h
 obtain⟨p,xs,k,j,rfl,rfl,hp,hj,q⟩:=h
 cases ro
 obtain⟨t,rfl⟩:=ri
 obtain⟨its,n,r,ho,hz⟩:=I.lst hp
 obtain⟨h1,h2,h3,h4⟩:=ixN_seq hj
 have hl:=r.length
 have hn:=line63
 have I':Inv X pins σ (upd H p (.lst (xs.set j v))) { s with heap:=s.heap.update p (Obj.mapSeq (·.setIfInBounds j u)) }:=
  I.lstUpd hp ho (mapSeq_set its n j u) (r.set rv j) (by rw [List.length_set];exact hz) s.toks
 by_cases h0:0≤k
 ·have hk:k.toNat=j:=by
   rw [seqIndex_of h0 h4] at h1
   exact Option.some.inj h1
  exact PySem.W.ki_setAt ho h0 (by omega) (by rw [List.size_toArray,<- hl];exact h4) (by rw [hk];exact⟨_,I',q⟩)
 ·have hk:(k+(its.toArray.size:Int)).toNat=j:=by
   rw [seqIndex_neg (by omega) h3] at h1
   rw [List.size_toArray,<- hl]
   exact Option.some.inj h1
  exact PySem.W.ki_setBack ho (by omega) (by rw [List.size_toArray,<- hl];exact h3) (by omega) (by rw [hk];exact⟨_,I',q⟩)
theorem slice_bounds (lo hi:Option Int) (n:Nat):(sliceBounds lo hi none n).1=((HT.sIx n 0 lo:Nat):Int)/\(sliceBounds lo hi none n).2.1=((HT.sIx n n hi:Nat):Int)/\(sliceBounds lo hi none n).2.2=1:=by
 refine⟨?_,?_,rfl⟩
 ·cases lo with
  | none=>simp [sliceBounds,HT.sIx]
  | some i=>
   simp only [sliceBounds,HT.sIx,Option.getD_none,show (1:Int) > 0 by decide,if_true]
   by_cases h:i < 0
   ·simp only [h,if_true] <;> omega
   ·simp only [h,if_false] <;> omega
 ·cases hi with
  | none=>simp [sliceBounds,HT.sIx]
  | some i=>
   simp only [sliceBounds,HT.sIx,Option.getD_none,show (1:Int) > 0 by decide,if_true]
   by_cases h:i < 0
   ·simp only [h,if_true] <;> omega
   ·simp only [h,if_false] <;> omega
theorem slicePick_cut (its:List Value) (lo hi:Option Int):slicePick its.toArray lo hi none=((its.drop (HT.sIx its.length 0 lo)).take (HT.sIx its.length its.length hi-HT.sIx its.length 0 lo)).toArray:=by
 obtain⟨h1,h2,h3⟩:=slice_bounds lo hi its.toArray.size
 unfold slicePick
 rw [h1,h2,h3]
 simp only [sliceRange_one,pick_run,List.size_toArray] <;> rfl
noncomputable def rSlL (K:PySem.W.Frag):V->Option Int->Option Int->Hp->VK->Prop:=fun x lo hi H Q=>∃a xs,x=.ref a/\SqL K H a xs/\∀p,H p=none->Q (.ref p) (upd H p (.lst (cutV xs lo hi)))
theorem sl_list:SlR X (rSlL X.K):=by
 intro pins s σ H x v vl vu lo hi sl Q I rx hs pl pu h
 obtain⟨a,xs,rfl,hx,q⟩:=h
 cases rx
 obtain⟨its,r,ht,hz⟩:=I.list hx
 have hlen:=r.length
 refine⟨"list",_,slot_list_getitem.lookup,ht.isList.typeIs,?_⟩
 refine wpAny_getItem_list_slice ht.isList hs pl pu .none (by simp) ?_ (by rw [List.size_toArray] <;> omega)
 rw [slicePick_cut,<- hlen]
 refine⟨.ref s.heap.objs.size,_,I.laid (t':=s.toks) (o:=.lst (cutV xs lo hi)) (fun b ob q=>Heap.get?_push_of_some _ q) (Nat.le_refl _) ?_,rfl,q _ (I.hok.fresh (Nat.le_refl _))⟩
 exact⟨Nat.le_trans (cutV_length xs lo hi) hz,_,0,(r.drop (HT.sIx xs.length 0 lo)).take (HT.sIx xs.length xs.length hi-HT.sIx xs.length 0 lo),Heap.get?_push_size _ rfl⟩
theorem call_len_seq:CallR X (.builtin "len") (fun xs H Q=>∃p ys,xs=[.ref p]/\(SqL X.K H p ys\/SqT X.K H p ys)/\Q (.int ys.length) H):=by
 intro pins s σ H xs us Q I r h
 obtain⟨p,ys,rfl,hq,q⟩:=h
 obtain⟨u,rfl,rx⟩:=vals1 r
 cases rx
 have hn:=line63
 rcases hq with hq | hq
 ·obtain⟨its,r',pl,hz⟩:=I.list hq
  have hlen:=r'.length
  exact Calls.call_len_list pl.isList (by simp only [List.size_toArray] <;> omega) ⟨.int ys.length,H,I.tok _,⟨s.toks+1,by rw [List.size_toArray,hlen]⟩,q⟩
 ·obtain⟨its,r',pl,hz⟩:=I.tuple hq
  have hlen:=r'.length
  exact len_tuple pl (by simp only [List.size_toArray] <;> omega) ⟨.int ys.length,H,I.tok _,⟨s.toks+1,by rw [List.size_toArray,hlen]⟩,q⟩
theorem call_len_str:CallR X (.builtin "len") (fun xs H Q=>∃z,xs=[.str z]/\z.length≤sizeLine/\Q (.int z.length) H):=by
 intro pins s σ H xs us Q I r h
 obtain⟨z,rfl,hz,q⟩:=h
 obtain⟨u,rfl,t,rfl⟩:=vals1 r
 have hn:=line63
 exact len_str (by omega) ⟨.int z.length,H,I.tok _,⟨_,rfl⟩,q⟩
theorem CallR.or {f:Value}{r r':List V->Hp->VK->Prop} (h:CallR X f r) (h':CallR X f r'):CallR X f (fun xs H Q=>r xs H Q\/r' xs H Q):=by
 intro pins s σ H xs us Q I rs q
 rcases q with q | q
 ·exact h pins s σ H xs us Q I rs q
 ·exact h' pins s σ H xs us Q I rs q
theorem call_list_of:CallR X (.type "list") (fun xs H Q=>∃p ys,xs=[.ref p]/\(SqL X.K H p ys\/SqT X.K H p ys)/\∀l,H l=none->Q (.ref l) (upd H l (.lst ys))):=by
 intro pins s σ H xs us Q I r h
 obtain⟨p,ys,rfl,hq,q⟩:=h
 obtain⟨u,rfl,rx⟩:=vals1 r
 cases rx
 have fin:∀(its:List Value),Vals ys its->ys.length≤sizeLine->∀(h':Heap) (c':Nat),(∀b o',s.heap.get? b=some o'->h'.get? b=some o') ->
   h'.get? s.heap.objs.size=some { cls:=.type "list",dict:=none,data:=.seq its.toArray c',slots:=#[] }->EP X pins σ Q (.ref s.heap.objs.size) { s with heap:=h' }:=fun its r' hz h' c' kp e=>
  ⟨.ref s.heap.objs.size,_,I.laid (t':=s.toks) kp (Nat.le_refl _) (show ObjOk X.prog X.w _ h' _ (.lst ys) from ⟨hz,its,c',r',e⟩),rfl,q _ (I.hok.fresh (Nat.le_refl _))⟩
 rcases hq with hq | hq
 ·obtain⟨its,r',pl,hz⟩:=I.list hq
  have hlen:=r'.length
  obtain⟨o,ho,hc,n,hd⟩:=pl.isList
  exact call_list_seq p (.inl rfl) ho hc hd (fun h' c' kp e=>fin its r' hz h' c' kp e) (by simp only [List.size_toArray] <;> omega)
 ·obtain⟨its,r',pl,hz⟩:=I.tuple hq
  have hlen:=r'.length
  obtain⟨o,ho,hc,n,hd⟩:=pl
  exact call_list_seq p (.inr rfl) ho hc hd (fun h' c' kp e=>fin its r' hz h' c' kp e) (by simp only [List.size_toArray] <;> omega)
theorem call_tuple_of:CallR X (.type "tuple") (fun xs H Q=>∃p ys,xs=[.ref p]/\((SqL X.K H p ys/\∀l,H l=none->Q (.ref l) (upd H l (.tup ys)))\/(SqT X.K H p ys/\Q (.ref p) H))):=by
 intro pins s σ H xs us Q I r h
 obtain⟨p,ys,rfl,h⟩:=h
 obtain⟨u,rfl,rx⟩:=vals1 r
 cases rx
 rcases h with ⟨hq,q⟩ | ⟨hq,q⟩
 ·obtain⟨its,r',pl,hz⟩:=I.list hq
  have hlen:=r'.length
  refine call_tuple_list pl.isList (fun h' kp=>?_) (by simp only [List.size_toArray] <;> omega)
  have I1:Inv X pins σ H { s with heap:=h' }:=I.kept (t':=s.toks) kp
  have I2:Inv X pins σ (upd H h'.objs.size (.tup ys)) { s with heap:=h'.push { cls:=.type "tuple",data:=.seq its.toArray } }:=
   I1.laid (t':=s.toks) (fun b o e=>Heap.get?_push_of_some _ e) (Nat.le_refl _) (show ObjOk X.prog X.w _ _ _ (.tup ys) from ⟨hz,its,r',IsTup.new _ _⟩)
  exact⟨.ref h'.objs.size,_,I2,rfl,q _ (I1.hok.fresh (Nat.le_refl _))⟩
 ·obtain⟨its,r',pl,hz⟩:=I.tuple hq
  exact call_tuple_same pl ⟨.ref p,H,I,rfl,q⟩
noncomputable def tyV (K:PySem.W.Frag) (T:String) (x:V) (H:Hp):Prop:=match x with
 | .str _=>T="str"
 | .int _=>T="int"
 | .ref p=>(T="list"/\∃xs,SqL K H p xs)\/(T="tuple"/\∃o,K.lookup p=some o/\o.cls=.type "tuple"/\o.dict=none) \/
   (T="dict"/\((∃kvs,H p=some (.dK kvs))\/∃kvs,H p=some (.dT kvs)))\/(T="set"/\∃S n,H p=some (.set S n))
 | _=>False
theorem tyV_is {pins:List (Addr×Obj)}{σ:St}{H:Hp}{s:Shared}{T:String}{x:V}{v:Value} (I:Inv X pins σ H s) (r:RelV x v) (ty:tyV X.K T x H) :
  s.TypeIs v T/\∀a,v=.ref a->∃ob,s.heap.get? a=some ob/\ob.dict=none:=by
 cases x with
 | str z=>
  obtain⟨t,rfl⟩:=r
  cases (show T="str" from ty)
  exact⟨typeIs_str s z t,fun _ e=>nomatch e⟩
 | int i=>
  obtain⟨t,rfl⟩:=r
  cases (show T="int" from ty)
  exact⟨typeIs_int s i t,fun _ e=>nomatch e⟩
 | ref p=>
  cases r
  rcases ty with ⟨rfl,xs,hq⟩ | ⟨rfl,o,hk,hc,hd⟩ | ⟨rfl,hk⟩ | ⟨rfl,S,n,hk⟩
  ·obtain⟨its,_,pl,_⟩:=I.list hq
   refine⟨pl.isList.typeIs,fun a e=>?_⟩
   cases e
   obtain⟨o,n,e,c,hd,_⟩:=pl
   exact⟨o,e,hd⟩
  ·refine⟨⟨o,I.kIn p o hk,hc⟩,fun a e=>?_⟩
   cases e
   exact⟨o,I.kIn _ o hk,hd⟩
  ·have z:∃o,s.heap.get? p=some o/\o.ExactDict:=by
    rcases hk with ⟨kvs,hk⟩ | ⟨kvs,hk⟩
    ·obtain⟨_,_,_,_,o,_,_,e,ex,_⟩:=I.hok p _ hk
     exact⟨o,e,ex⟩
    ·obtain⟨_,_,_,_,o,_,_,e,ex,_⟩:=I.hok p _ hk
     exact⟨o,e,ex⟩
   obtain⟨o,e,ex⟩:=z
   refine⟨⟨o,e,ex.1⟩,fun a e2=>?_⟩
   cases e2
   exact⟨o,e,ex.2.1⟩
  ·obtain⟨o,_,_,_,e,ex,_⟩:=I.hok p _ hk
   refine⟨⟨o,e,ex.1⟩,fun a e2=>?_⟩
   cases e2
   exact⟨o,e,ex.2.1⟩
 | _=>exact False.elim ty
noncomputable def tBM0 (K:PySem.W.Frag) (T:String) (r:V->List V->Hp->VK->Prop) (to:TE):TE:=fun σ H Q=>to σ H fun x H1=>tyV K T x H1/\r x [] H1 Q
noncomputable def tBM (K:PySem.W.Frag) (T:String) (r:V->List V->Hp->VK->Prop) (to:TE) (t:TA):TE:=fun σ H Q=>to σ H fun x H1=>tyV K T x H1/\t σ H1 fun xs H2=>r x xs H2 Q
variable {o e:Expr}{es:List Expr}{to:TE}{t:TA}{name:Str}{apos cpos:Pos}{T id:String}{r:V->List V->Hp->VK->Prop}
theorem pe_bm0 (pa:PlainAttrs T) (slot:Slot T name id) (hty:typeOf (.builtin id)=pure (.type "method_descriptor")) (hm:MtR X id r) (ho:PE X o to)
  (hbase:attributeBase o name X.env (eval o X.env)=eval o X.env:=by rfl) (hline:(apos.endLine == cpos.line)=true:=by rfl):PE X (.Call (.Attribute o name apos) [] [] cpos) (tBM0 X.K T r to):=by
 intro pins s σ H Q I h
 refine wpAny_Call_method0_late hbase hline (thn (ho pins s σ H _ I h) fun v s1 hz=>?_)
 obtain⟨x,H1,I1,r1,ty,q1⟩:=hz
 obtain⟨h1,h2⟩:=tyV_is I1 r1 ty
 exact⟨T,id,pa,slot,hty,h1,h2,Calls.callWith_builtin rfl (PySem.evalArgs_none (hm pins s1 σ H1 x [] v [] Q I1 r1 .nil q1))⟩
theorem pe_bm (pa:PlainAttrs T) (slot:Slot T name id) (hty:typeOf (.builtin id)=pure (.type "method_descriptor")) (hm:MtR X id r) (ho:PE X o to) (ha:PA X (e::es) t)
  (hbase:attributeBase o name X.env (eval o X.env)=eval o X.env:=by rfl)
  (hfew:((backTo cpos (starEach (e::es) X.env)).all (fun x=>!x.1) && (backToKw cpos (keywordEach [] X.env)).all (fun x=>x.1.isSome)
   && decide ((e::es).length+([]:List Keyword).length+(if ([]:List Keyword).isEmpty then 0 else 1) < 30))=true:=by rfl)
  (hline:(apos.endLine == cpos.line)=true:=by rfl) (hs:starEach (e::es) X.env=(false,eval e X.env)::starEach es X.env:=by rfl) (hplain:(backTo cpos (starEach es X.env)).any (·.1)=false:=by rfl) :
  PE X (.Call (.Attribute o name apos) (e::es) [] cpos) (tBM X.K T r to t):=by
 intro pins s σ H Q I h
 refine wpAny_Call_method_late hbase hfew hline rfl (thn (ho pins s σ H _ I h) fun v s1 hz=>?_)
 obtain⟨x,H1,I1,r1,ty,q1⟩:=hz
 obtain⟨h1,h2⟩:=tyV_is I1 r1 ty
 refine⟨T,id,pa,slot,hty,h1,h2,?_⟩
 have hA:=ha cpos pins s1 σ H1 _ I1 q1
 rw [hs] at hA ⊢
 refine Calls.callWith_builtin (by show (false || (backTo cpos (starEach es X.env)).any (·.1))=false;rw [hplain] <;> rfl) (Calls.evalArgs_plain ?_)
 exact thn hA fun us s2 hz=>by obtain⟨vs,H2,I2,r2,q2⟩:=hz;exact hm pins s2 σ H2 x vs v us Q I2 r1 r2 q2
end
end L2
namespace L2
open PySem PySem.Spec PyProof.Rows
noncomputable def MtM (X:Cx) (id:String) (r:V->List V->Hp->VK->Prop):Prop:=
 ∀(pins:List (Addr×Obj)) (s:Shared) (σ:St) (H:Hp) (x:V) (xs:List V) (v:Value) (us:List Value) (Q:VK),Inv X pins σ H s->RelV x v->Vals xs us->r x xs H Q ->
  wpAny (model X.prog X.w) X.A (call (.builtin id) (v::us)) (EP X pins σ Q) X.xe s
theorem Vals.one:∀{x:V}{us:List Value},Vals [x] us->∃u,us=[u]/\RelV x u
 | _,_,.cons r .nil=>⟨_,rfl,r⟩
theorem Vals.zero:∀{us:List Value},Vals [] us->us=[]
 | _,.nil=>rfl
theorem Vals.dropLast {xs:List V}{us:List Value} (h:Vals xs us):Vals xs.dropLast us.dropLast:=by
 induction h with
 | nil=>exact .nil
 | cons r t ih=>
  cases t with
  | nil=>exact .nil
  | cons q t'=>exact .cons r ih
theorem Vals.eraseIdx:∀{xs:List V}{us:List Value} (i:Nat),Vals xs us->Vals (xs.eraseIdx i) (us.eraseIdx i)
 | _,_,_,.nil=>.nil
 | _,_,0,.cons _ t=>t
 | _,_,i+1,.cons r t=>.cons r (Vals.eraseIdx i t)
theorem Vals.reverse {xs:List V}{us:List Value} (h:Vals xs us):Vals xs.reverse us.reverse:=by
 induction h with
 | nil=>exact .nil
 | cons r t ih=>rw [List.reverse_cons,List.reverse_cons];exact Vals.append ih (.cons r .nil)
theorem Vals.rep {xs:List V}{us:List Value} (h:Vals xs us):∀k:Nat,Vals (List.replicate k xs).flatten (List.replicate k us).flatten
 | 0=>.nil
 | k+1=>by
  rw [List.replicate_succ,List.replicate_succ,List.flatten_cons,List.flatten_cons]
  exact Vals.append h (Vals.rep h k)
theorem erase_last {α:Type} (l:List α):l.eraseIdx (l.length-1)=l.dropLast:=by
 induction l with
 | nil=>rfl
 | cons a r ih=>
  cases r with
  | nil=>rfl
  | cons b r=>
   have e:(a::b::r).length-1=((b::r).length-1)+1:=by
    have h1:(a::b::r).length=r.length+2:=rfl
    have h2:(b::r).length=r.length+1:=rfl
    omega
   rw [e,List.eraseIdx_cons_succ,ih]
   all_goals rfl
section
variable {X:Cx}{pins:List (Addr×Obj)}{σ:St}{H:Hp}{s:Shared}{l b:Addr}{xs ys zs:List V}
theorem Inv.lset {its its':List Value}{n:Nat}{f:Array Value->Array Value}{t':Nat} (I:Inv X pins σ H s) (hH:H l=some (.lst xs))
  (e:s.heap.get? l=some { cls:=.type "list",data:=.seq its.toArray n }) (hf:f its.toArray=its'.toArray) (hv:Vals ys its') (hz:ys.length≤sizeLine) :
  Inv X pins σ (upd H l (.lst ys)) { s with heap:=s.heap.update l (Obj.mapSeq f),toks:=t' }:=by
 have q:=PySem.IsL.update e f
 rw [hf] at q
 refine I.write (x:=l) (e:=l) (by rw [hH];exact trivial) (.inl rfl) (fun b' u hb hu=>(Heap.get?_update_other s.heap (Obj.mapSeq f) (Ne.symm hb)).trans hu) ⟨_,q⟩ ?_
 exact⟨hz,its',_,hv,q⟩
theorem Inv.lnew {its:List Value}{t':Nat} (I:Inv X pins σ H s) (hv:Vals ys its) (hz:ys.length≤sizeLine) :
  Inv X pins σ (upd H s.heap.objs.size (.lst ys)) { s with heap:=s.heap.push { cls:=.type "list",data:=.seq its.toArray },toks:=t' }:=
 I.laid (fun _ _ q=>Heap.get?_push_of_some _ q) (Nat.le_refl _) ⟨hz,its,0,hv,Heap.get?_push_size _ rfl⟩
theorem Inv.fresh (I:Inv X pins σ H s):H s.heap.objs.size=none:=I.hok.fresh (Nat.le_refl _)
theorem Inv.lstM (I:Inv X pins σ H s) (hH:H l=some (.lst xs)):xs.length≤sizeLine/\∃(its:List Value) (n:Nat),Vals xs its/\xs.length=its.length/\s.heap.get? l=some { cls:=.type "list",data:=.seq its.toArray n }:=by
 obtain⟨z,its,n,r,e⟩:=I.hok l _ hH
 exact⟨z,its,n,r,r.length,e⟩
theorem notLongL {n:Nat} (h:n≤sizeLine):Builtin.List.listTooLong n=false:=by
 unfold Builtin.List.listTooLong
 exact decide_eq_false (by omega)
end
section
variable {X:Cx}
noncomputable def rAppend:V->List V->Hp->VK->Prop:=fun x vs H Q=>∃l xs y,x=.ref l/\vs=[y]/\H l=some (.lst xs)/\xs.length < sizeLine/\Q .non (upd H l (.lst (xs++[y])))
theorem mt_append:MtM X "list.append" rAppend:=by
 intro pins s σ H x vs v us Q I rx rv h
 obtain⟨l,xs,y,rfl,rfl,hH,hz,q⟩:=h
 cases rx
 obtain⟨u,rfl,ru⟩:=rv.one
 obtain⟨z,its,n,r,hl,e⟩:=I.lstM hH
 refine call_meets F.slot_list_append ⟨_,e,rfl⟩ F.entry_list_append (F.args_list_append_2 _ _) (PySem.list_append l its.toArray n u (by rw [List.size_toArray];omega)) ⟨e,?_⟩
 refine⟨.non,_,I.lset (its':=its++[u]) hH e (by simp) (r.append (.cons ru .nil)) ?_,rfl,q⟩
 rw [List.length_append,List.length_singleton]
 omega
noncomputable def rExtend:V->List V->Hp->VK->Prop:=fun x vs H Q=>∃l b xs zs,x=.ref l/\vs=[.ref b]/\H l=some (.lst xs)/\H b=some (.lst zs)/\xs.length+zs.length≤sizeLine/\Q .non (upd H l (.lst (xs++zs)))
theorem mt_extend:MtM X "list.extend" rExtend:=by
 intro pins s σ H x vs v us Q I rx rv h
 obtain⟨l,b,xs,zs,rfl,rfl,hH,hB,hz,q⟩:=h
 cases rx
 obtain⟨u,rfl,ru⟩:=rv.one
 cases ru
 obtain⟨z,its,n,r,hl,e⟩:=I.lstM hH
 obtain⟨z2,its2,n2,r2,hl2,e2⟩:=I.lstM hB
 have hsz:its.toArray.size+its2.toArray.size≤sizeLine:=by rw [List.size_toArray,List.size_toArray];omega
 have hlong:¬(!its.toArray.isEmpty && Builtin.List.listTooLong (its.toArray.size+its2.toArray.size))=true:=by
  rw [notLongL hsz,Bool.and_false]
  exact Bool.false_ne_true
 refine call_meets F.slot_list_extend ⟨_,e,rfl⟩ F.entry_list_extend (F.args_list_extend_2 _ _)
  (AutoSeq1.list_extend_list_list_0 l its.toArray n b its2.toArray n2 hlong (by rw [List.size_toArray];omega) (by omega)) ⟨e,e2,?_⟩
 refine⟨.non,_,I.lset (its':=its++its2) hH e (by simp) (r.append r2) ?_,rfl,q⟩
 rw [List.length_append]
 omega
noncomputable def rPop:V->List V->Hp->VK->Prop:=fun x vs H Q=>∃l xs y,x=.ref l/\vs=[]/\H l=some (.lst xs)/\xs[xs.length-1]? = some y/\Q y (upd H l (.lst xs.dropLast))
theorem mt_pop:MtM X "list.pop" rPop:=by
 intro pins s σ H x vs v us Q I rx rv h
 obtain⟨l,xs,y,rfl,rfl,hH,hy,q⟩:=h
 cases rx
 have hus:=rv.zero
 subst hus
 obtain⟨z,its,n,r,hl,e⟩:=I.lstM hH
 obtain⟨u,hu,ru⟩:=r.get hy
 have hy':its.toArray[its.toArray.size-1]? = some u:=by
  show its.toArray[its.length-1]? = some u
  rw [<- Array.getElem?_toList,<- hl]
  exact hu
 refine call_meets F.slot_list_pop ⟨_,e,rfl⟩ F.entry_list_pop (F.args_list_pop_1 _) (MeetsSeq.list_pop_last l its.toArray n u hy' (by rw [List.size_toArray];omega)) ⟨e,?_⟩
 refine⟨y,_,I.lset (its':=its.dropLast) hH e ?_ r.dropLast ?_,ru,q⟩
 ·show its.toArray.eraseIdxIfInBounds (its.toArray.size-1)=its.dropLast.toArray
  rw [List.size_toArray,List.eraseIdxIfInBounds_toArray,erase_last]
 ·rw [List.length_dropLast]
  omega
noncomputable def rCat:R2:=fun x y H Q=>∃l b xs zs,x=.ref l/\y=.ref b/\H l=some (.lst xs)/\H b=some (.lst zs)/\xs.length+zs.length≤sizeLine/\∀p,H p=none->Q (.ref p) (upd H p (.lst (xs++zs)))
theorem op_cat:OpR X (binaryOp .Add) rCat:=by
 intro pins s σ H x y v u Q I rx ry h
 obtain⟨l,b,xs,zs,rfl,rfl,hH,hB,hz,q⟩:=h
 cases rx
 cases ry
 obtain⟨z,its,n,r,hl,e⟩:=I.lstM hH
 obtain⟨z2,its2,n2,r2,hl2,e2⟩:=I.lstM hB
 refine PySem.P.add_list e e2 ?_ (by rw [List.size_toArray,List.size_toArray];omega)
 have ea:its.toArray++its2.toArray=(its++its2).toArray:=by simp
 rw [ea]
 exact⟨.ref _,_,I.lnew (t':=s.toks) (r.append r2) (by rw [List.length_append];omega),rfl,q _ I.fresh⟩
end
section
variable {prog:Program}{w:World}{A:Around}{E:Value->Shared->Prop}{s:Shared}
end
section
variable {X:Cx}
end
end L2
namespace L2
open PySem PySem.Spec PyProof.Rows
section
variable {κ:Type} [DecidableEq κ]
noncomputable def valV (kvs:List (κ×V)) (k:κ):Option V:=(kvs.find? fun kv=>decide (kv.1=k)).map (·.2)
noncomputable def putK (kvs:List (κ×V)) (k:κ) (v:V):List (κ×V):=
 if (kvs.any fun kv=>decide (kv.1=k))=true then kvs.map (fun kv=>if kv.1=k then (kv.1,v) else kv) else kvs++[(k,v)]
noncomputable def dropK (kvs:List (κ×V)) (k:κ):List (κ×V):=kvs.filter fun kv=>decide (kv.1≠k)
theorem valV_pos {p:κ×V}{r:List (κ×V)}{k:κ} (e:p.1=k):valV (p::r) k=some p.2:=by simp [valV,List.find?_cons,e]
theorem valV_neg {p:κ×V}{r:List (κ×V)}{k:κ} (e:¬p.1=k):valV (p::r) k=valV r k:=by simp [valV,List.find?_cons,e]
theorem valV_any (k:κ):∀kvs:List (κ×V),(kvs.any fun kv=>decide (kv.1=k))=(valV kvs k).isSome
 | []=>rfl
 | p::r=>by
  rw [List.any_cons]
  by_cases e:p.1=k
  ·simp only [valV_pos e,decide_eq_true e,Bool.true_or,Option.isSome_some]
  ·rw [valV_neg e,decide_eq_false e,Bool.false_or];exact valV_any k r
theorem RelO.isSome_eq {o:Option V}{u:Option Value} (r:RelO o u):o.isSome=u.isSome:=by
 cases o with
 | none=>cases u with
  | none=>rfl
  | some _=>exact (show False from r).elim
 | some _=>cases u with
  | none=>exact (show False from r).elim
  | some _=>rfl
theorem RelO.getD {o:Option V}{u:Option Value}{d:V}{d':Value} (r:RelO o u) (rd:RelV d d'):RelV (o.getD d) (u.getD d'):=by
 cases o with
 | none=>cases u with
  | none=>exact rd
  | some _=>exact (show False from r).elim
 | some _=>cases u with
  | none=>exact (show False from r).elim
  | some _=>exact r
theorem KV.val {kvs:List (κ×V)}{vs:List (κ×Value)} (r:KV kvs vs) (k:κ):RelO (valV kvs k) (valueAt vs k):=by
 unfold KV at r
 induction r with
 | nil=>exact True.intro
 | @cons p q ps qs h t ih=>
  obtain⟨h1,h2⟩:=h
  by_cases e:p.1=k
  ·have e':q.1=k:=h1.symm.trans e
   have b:valueAt (q::qs) k=some q.2:=by simp [valueAt,List.find?_cons,e']
   rw [valV_pos e,b];exact h2
  ·have e':¬q.1=k:=fun z=>e (h1.trans z)
   have b:valueAt (q::qs) k=valueAt qs k:=by simp [valueAt,List.find?_cons,e']
   rw [valV_neg e,b];exact ih
theorem KV.any {kvs:List (κ×V)}{vs:List (κ×Value)} (r:KV kvs vs) (k:κ):(kvs.any fun kv=>decide (kv.1=k))=vs.any fun kv=>decide (kv.1=k):=by
 unfold KV at r
 induction r with
 | nil=>rfl
 | cons h t ih=>rw [List.any_cons,List.any_cons,ih,h.1]
theorem KV.repl {kvs:List (κ×V)}{vs:List (κ×Value)} (r:KV kvs vs) (k:κ) {y:V}{u:Value} (ry:RelV y u) :
  KV (kvs.map fun kv=>if kv.1=k then (kv.1,y) else kv) (vs.map fun kv=>if kv.1=k then (kv.1,u) else kv):=by
 unfold KV at r ⊢
 induction r with
 | nil=>exact .nil
 | @cons p q ps qs h t ih=>
  rw [List.map_cons,List.map_cons]
  refine .cons ?_ ih
  obtain⟨h1,h2⟩:=h
  by_cases e:p.1=k
  ·rw [if_pos e,if_pos (h1.symm.trans e)];exact⟨h1,ry⟩
  ·rw [if_neg e,if_neg (fun z=>e (h1.trans z))];exact⟨h1,h2⟩
theorem KV.put {kvs:List (κ×V)}{vs:List (κ×Value)} (r:KV kvs vs) (k:κ) {y:V}{u:Value} (ry:RelV y u):KV (putK kvs k y) (stored vs k u):=by
 unfold putK stored
 rw [r.any k]
 by_cases e:(vs.any fun kv=>decide (kv.1=k))=true
 ·rw [if_pos e,if_pos e];exact r.repl k ry
 ·rw [if_neg e,if_neg e];exact Paired.snoc r ⟨rfl,ry⟩
theorem KV.drop {kvs:List (κ×V)}{vs:List (κ×Value)} (r:KV kvs vs) (k:κ):KV (dropK kvs k) (without vs k):=by
 unfold KV at r ⊢
 unfold dropK without
 induction r with
 | nil=>exact .nil
 | @cons p q ps qs h t ih=>
  obtain⟨h1,h2⟩:=h
  rw [List.filter_cons,List.filter_cons]
  by_cases e:p.1=k
  ·have a:¬decide (p.1≠k)=true:=by simp [e]
   have b:¬decide (q.1≠k)=true:=by simp [h1.symm.trans e]
   rw [if_neg a,if_neg b];exact ih
  ·have e':¬q.1=k:=fun z=>e (h1.trans z)
   have a:decide (p.1≠k)=true:=by simp [e]
   have b:decide (q.1≠k)=true:=by simp [e']
   rw [if_pos a,if_pos b];exact .cons ⟨h1,h2⟩ ih
theorem KV.length {kvs:List (κ×V)}{vs:List (κ×Value)} (r:KV kvs vs):kvs.length=vs.length:=Paired.length r
end
theorem kV_is {P:Program}{w:World}{k:Key}{u:Value} (r:RelV (kV k) u):(mixKind P w).is k u=true:=by
 cases k with
 | inl i=>obtain⟨t,e⟩:=(show ∃t,u=Value.int i t from r);subst e;exact mixKind_int P w i t
 | inr x=>obtain⟨t,e⟩:=(show ∃t,u=Value.str x t from r);subst e;exact mixKind_str P w x t
theorem items_are {P:Program}{w:World}:∀{ks:List Key}{us:List Value},Vals (ks.map kV) us->ItemsAre (mixKind P w) ks us
 | [],_,r=>by rw [List.map_nil] at r;cases r;exact .nil
 | k::ks,_,r=>by
  rw [List.map_cons] at r
  cases r with
  | cons h t=>exact .cons (kV_is h) (items_are t)
noncomputable abbrev KT (H:Hp):List (List Key×V)->List (List Key×Addr×Value)->Prop:=Paired fun p q=>p.1=q.1/\H q.2.1=some (.tup (p.1.map kV))/\RelV p.2 q.2.2
theorem KT.val {H:Hp}{kvs:List (List Key×V)}{xs:List (List Key×Addr×Value)} (r:KT H kvs xs) (k:List Key):RelO (valV kvs k) ((atKey xs k).map (·.2)):=by
 induction r with
 | nil=>exact True.intro
 | @cons p q ps qs h t ih=>
  obtain⟨h1,_,h2⟩:=h
  by_cases e:p.1=k
  ·have e':q.1=k:=h1.symm.trans e
   have b:atKey (q::qs) k=some q.2:=by simp [atKey,List.find?_cons,e']
   rw [valV_pos e,b];exact h2
  ·have e':¬q.1=k:=fun z=>e (h1.trans z)
   have b:atKey (q::qs) k=atKey qs k:=by simp [atKey,List.find?_cons,e']
   rw [valV_neg e,b];exact ih
theorem KT.repl {H:Hp}{kvs:List (List Key×V)}{xs:List (List Key×Addr×Value)} (r:KT H kvs xs) (k:List Key) {y:V}{u:Value} (ry:RelV y u) :
  KT H (kvs.map fun kv=>if kv.1=k then (kv.1,y) else kv) (xs.map (putAt k u)):=by
 induction r with
 | nil=>exact .nil
 | @cons p q ps qs h t ih=>
  rw [List.map_cons,List.map_cons]
  refine .cons ?_ ih
  obtain⟨h1,h2,h3⟩:=h
  unfold putAt
  by_cases e:p.1=k
  ·rw [if_pos e,if_pos (h1.symm.trans e)];exact⟨h1,h2,ry⟩
  ·rw [if_neg e,if_neg (fun z=>e (h1.trans z))];exact⟨h1,h2,h3⟩
theorem KT.put {H:Hp}{kvs:List (List Key×V)}{xs:List (List Key×Addr×Value)} (r:KT H kvs xs) (k:List Key) {b:Addr}{y:V}{u:Value} (hb:H b=some (.tup (k.map kV))) (ry:RelV y u) :
  KT H (putK kvs k y) (storedH xs k b u):=by
 have e:(kvs.any fun kv=>decide (kv.1=k))=(atKey xs k).isSome:=by
  rw [valV_any,(r.val k).isSome_eq,Option.isSome_map]
 unfold putK storedH
 rw [e]
 by_cases q:(atKey xs k).isSome=true
 ·rw [if_pos q,if_pos q];exact r.repl k ry
 ·rw [if_neg q,if_neg q];exact Paired.snoc r ⟨rfl,hb,ry⟩
theorem KT.keeps {H H':Hp}{kvs:List (List Key×V)}{xs:List (List Key×Addr×Value)} (r:KT H kvs xs) (ht:∀b ys,H b=some (.tup ys)->H' b=some (.tup ys)):KT H' kvs xs:=
 Paired.mapP r fun _ _ z=>⟨z.1,ht _ _ z.2.1,z.2.2⟩
section
variable {P:Program}{w:World}{H:Hp}{h:Heap}{a:Addr}
theorem rd_of {u:HO} (ok:HOk P w H h) (e:Rd H a u):ObjOk P w H h a u:=e.ok ok
theorem dk_rd {kvs:List (Key×V)} (ok:HOk P w H h) (e:Rd H a (.dK kvs)):kvs.length≤sizeLine/\(a == sysModules)=false/\∃vs,KV kvs vs/\h.DictOf (mixKind P w) a vs:=
 show ObjOk P w H h a (.dK kvs) from rd_of ok e
theorem dk_of {kvs:List (Key×V)} (ok:HOk P w H h) (e:H a=some (.dK kvs)):kvs.length≤sizeLine/\(a == sysModules)=false/\∃vs,KV kvs vs/\h.DictOf (mixKind P w) a vs:=dk_rd ok (.inl e)
theorem key_of {ks:List Key} (ok:HOk P w H h) (e:H a=some (.tup (ks.map kV))):(tupleKind (mixKind P w)).is h ks a:=by
 obtain⟨_,its,r,o,h1,h2,n,h3⟩:=(show ObjOk P w H h a (.tup (ks.map kV)) from ok a _ e)
 exact⟨o,its.toArray,n,h1,h2,h3,by simpa using items_are r⟩
theorem dt_rd {kvs:List (List Key×V)} (ok:HOk P w H h) (e:Rd H a (.dT kvs)):kvs.length≤sizeLine/\(a == sysModules)=false /\
  ∃xs,KT H kvs xs/\h.DictOfH (tupleKind (mixKind P w)) a xs:=by
 obtain⟨z,y,xs,r,o,es,ep,h1,h2,h3,h4,h5⟩:=(show ObjOk P w H h a (.dT kvs) from rd_of ok e)
 refine⟨z,y,xs,r,o,es,ep,h1,h2,h3,h4,fun x hx=>?_,h5⟩
 have all:∀{l:List (List Key×V)}{m:List (List Key×Addr×Value)},KT H l m->∀x ∈ m,(tupleKind (mixKind P w)).is h x.1 x.2.1:=by
  intro l m q
  induction q with
  | nil=>intro x hx;exact nomatch hx
  | @cons p q ps qs hq t ih=>
   intro x hx
   rcases List.mem_cons.mp hx with e | hx
   ·subst e
    exact key_of ok (by rw [<- hq.1];exact hq.2.1)
   ·exact ih x hx
 exact all r x hx
end
noncomputable def DGet (H:Hp) (a:Addr) (y:V) (r:Option V):Prop:=
 (∃kvs k,Rd H a (.dK kvs)/\y=kV k/\r=valV kvs k)\/∃kvs k b,Rd H a (.dT kvs)/\y=.ref b/\H b=some (.tup (k.map kV))/\r=valV kvs k
noncomputable def DPut (H:Hp) (a:Addr) (y v:V) (H':Hp):Prop:=
 (∃kvs k,H a=some (.dK kvs)/\y=kV k/\kvs.length < sizeLine/\H'=upd H a (.dK (putK kvs k v))) \/
 ∃kvs k b,H a=some (.dT kvs)/\y=.ref b/\H b=some (.tup (k.map kV))/\kvs.length < sizeLine/\H'=upd H a (.dT (putK kvs k v))
theorem DGet.k {H:Hp}{a:Addr}{kvs:List (Key×V)}{k:Key} (e:H a=some (.dK kvs)):DGet H a (kV k) (valV kvs k):=.inl ⟨kvs,k,.inl e,rfl,rfl⟩
theorem DGet.t {H:Hp}{a b:Addr}{kvs:List (List Key×V)}{k:List Key} (e:H a=some (.dT kvs)) (eb:H b=some (.tup (k.map kV))):DGet H a (.ref b) (valV kvs k):=.inr ⟨kvs,k,b,.inl e,rfl,eb,rfl⟩
theorem DPut.k {H:Hp}{a:Addr}{kvs:List (Key×V)}{k:Key}{v:V} (e:H a=some (.dK kvs)) (hl:kvs.length < sizeLine):DPut H a (kV k) v (upd H a (.dK (putK kvs k v))):=.inl ⟨kvs,k,e,rfl,hl,rfl⟩
theorem DPut.t {H:Hp}{a b:Addr}{kvs:List (List Key×V)}{k:List Key}{v:V} (e:H a=some (.dT kvs)) (eb:H b=some (.tup (k.map kV))) (hl:kvs.length < sizeLine) :
  DPut H a (.ref b) v (upd H a (.dT (putK kvs k v))):=.inr ⟨kvs,k,b,e,rfl,eb,hl,rfl⟩
section
variable {X:Cx}{pins:List (Addr×Obj)}{σ:St}{H:Hp}{s:Shared}{a:Addr}{y v:V}{u r:Value}{o:Option V}{A:Around}{E:Value->Shared->Prop}
theorem d_getItem {Q:Value->Shared->Prop} (hu:A.units+1 < cLine) (I:Inv X pins σ H s) (g:DGet H a y (some v)) (ry:RelV y u) (h:∀w' s',Inv X pins σ H s'->RelV v w'->Q w' s') :
  wpAny (model X.prog X.w) A (getItem (.ref a) u) Q E s:=by
 rcases g with ⟨kvs,k,e,ey,l⟩ | ⟨kvs,k,b,e,ey,eb,l⟩
 ·subst ey
  obtain⟨z,hd,vs,rel,dd⟩:=dk_rd I.hok e
  obtain⟨w',hw,rw'⟩:=RelO.some_of (v:=v) (o:=valueAt vs k) (by rw [l];exact rel.val k)
  exact wpAny_getItem_of (kV_is ry) dd.mapOf hw (h w' _ (I.tok _) rw')
 ·subst ey
  cases (show u=Value.ref b from ry)
  obtain⟨z,hd,xs,rel,dd⟩:=dt_rd I.hok e
  obtain⟨w',hw,rw'⟩:=RelO.some_of (v:=v) (o:=(atKey xs k).map (·.2)) (by rw [l];exact rel.val k)
  obtain⟨p,hp,hp2⟩:=Option.map_eq_some_iff.mp hw
  refine wpAny_getItem_heap (tupleKind_room_in1 hu) (key_of I.hok eb) dd hp ?_
  rw [hp2]
  exact h w' _ (I.tok _) rw'
theorem d_in {Q:Value->Shared->Prop} (hu:A.units+1 < cLine) (I:Inv X pins σ H s) (g:DGet H a y o) (ry:RelV y u) (h:∀s',Inv X pins σ H s'->Q (.bool o.isSome) s') :
  wpAny (model X.prog X.w) A (compareOp .In u (.ref a)) Q E s:=by
 rcases g with ⟨kvs,k,e,ey,l⟩ | ⟨kvs,k,b,e,ey,eb,l⟩
 ·subst ey
  obtain⟨z,hd,vs,rel,dd⟩:=dk_rd I.hok e
  refine wpAny_in_of (kV_is ry) hd dd.mapOf ?_
  rw [<- (rel.val k).isSome_eq,<- l]
  exact h _ (I.tok _)
 ·subst ey
  cases (show u=Value.ref b from ry)
  obtain⟨z,hd,xs,rel,dd⟩:=dt_rd I.hok e
  refine wpAny_in_heap (tupleKind_room_in1 hu) (key_of I.hok eb) hd dd ?_
  have q:=(rel.val k).isSome_eq
  rw [Option.isSome_map] at q
  rw [<- q,<- l]
  exact h _ (I.tok _)
theorem d_notIn {Q:Value->Shared->Prop} (hu:A.units+1 < cLine) (I:Inv X pins σ H s) (g:DGet H a y o) (ry:RelV y u) (h:∀s',Inv X pins σ H s'->Q (.bool (!o.isSome)) s') :
  wpAny (model X.prog X.w) A (compareOp .NotIn u (.ref a)) Q E s:=by
 rcases g with ⟨kvs,k,e,ey,l⟩ | ⟨kvs,k,b,e,ey,eb,l⟩
 ·subst ey
  obtain⟨z,hd,vs,rel,dd⟩:=dk_rd I.hok e
  refine wpAny_notIn_of (kV_is ry) hd dd.mapOf ?_
  rw [<- (rel.val k).isSome_eq,<- l]
  exact h _ (I.tok _)
 ·subst ey
  cases (show u=Value.ref b from ry)
  obtain⟨z,hd,xs,rel,dd⟩:=dt_rd I.hok e
  refine wpAny_notIn_heap (tupleKind_room_in1 hu) (key_of I.hok eb) hd dd ?_
  have q:=(rel.val k).isSome_eq
  rw [Option.isSome_map] at q
  rw [<- q,<- l]
  exact h _ (I.tok _)
end
section
variable {X:Cx}{pins:List (Addr×Obj)}{σ:St}{H:Hp}{s:Shared}{a:Addr}{kvs:List (Key×V)}{k:Key}{u:Value}{A:Around}{E:Value->Shared->Prop}
end
section
variable {X:Cx}{o i e value:Expr}{pos pos' tpos:Pos}{td ty tv:TE}
end
section
variable {X:Cx}{pos:Pos}
end
noncomputable abbrev VV:List (V×V)->List (Value×Value)->Prop:=Paired fun p q=>RelV p.1 q.1/\RelV p.2 q.2
structure M1 (X:Cx) (o:Expr) (m:Str) (apos:Pos) (e:Expr) (cpos:Pos):Prop where
 base:attributeBase o m X.env (eval o X.env)=eval o X.env
 few:((backTo cpos (starEach [e] X.env)).all (fun x=>!x.1) && (backToKw cpos (keywordEach [] X.env)).all (fun x=>x.1.isSome)
  && decide (([e]:List Expr).length+([]:List Keyword).length+(if ([]:List Keyword).isEmpty then 0 else 1) < 30))=true
 line:(apos.endLine == cpos.line)=true
 trees:backTo cpos (starEach [e] X.env)=[(false,eval e X.env)]
structure M2 (X:Cx) (o:Expr) (m:Str) (apos:Pos) (e f:Expr) (cpos:Pos):Prop where
 base:attributeBase o m X.env (eval o X.env)=eval o X.env
 few:((backTo cpos (starEach [e,f] X.env)).all (fun x=>!x.1) && (backToKw cpos (keywordEach [] X.env)).all (fun x=>x.1.isSome)
  && decide (([e,f]:List Expr).length+([]:List Keyword).length+(if ([]:List Keyword).isEmpty then 0 else 1) < 30))=true
 line:(apos.endLine == cpos.line)=true
 trees:backTo cpos (starEach [e,f] X.env)=[(false,eval e X.env),(false,eval f X.env)]
section
variable {X:Cx}{pins:List (Addr×Obj)}{σ:St}{H:Hp}{s:Shared}{a:Addr}{y d:V}{u r:Value}{o:Option V}{A:Around}{E:Value->Shared->Prop}
end
section
variable {X:Cx}{o e f:Expr}{apos cpos:Pos}{td ty tx:TE}
end
section
variable {X:Cx}{pins:List (Addr×Obj)}{σ:St}{H:Hp}{s:Shared}{a:Addr}{kvs:List (Key×V)}{A:Around}{E:Value->Shared->Prop}
end
section
variable {X:Cx}{pins:List (Addr×Obj)}{σ:St}{H:Hp}{s:Shared}{a:Addr}{y:V}{u:Value}{A:Around}{E:Value->Shared->Prop}
end
end L2
namespace Att
open PySem PySem.W PySem.Calls PyProof.Rows
theorem ints_of_wellAll {P:Params}{h:Heap}:∀(ns:List Int) (vs:List Value),WellAll P h vs (ns.map WData.int)->IntsAre vs ns:=by
 intro ns
 induction ns with
 | nil=>
  intro vs w
  rw [List.map_nil] at w
  cases w
  exact .nil
 | cons n ns ih=>
  intro vs w
  rw [List.map_cons] at w
  cases w with
  | cons a b=>
   cases a
   exact .cons _ _ (ih _ b)
theorem script_of {l:OpenLaw}{n:Nat} (hn:l.most=some n) {P:Params}{h:Heap}{args:List WData}{vals:List Value}
  (hpre:l.row.toRowW.claim.pre args=true) (hwl:WellAll P h vals args) :
  ∃a vs ns,vals=[Value.ref a]/\args=[WData.list (ns.map WData.int)]/\h.get? a=some { cls:=.type "list",data:=.seq vs.toArray }/\IntsAre vs ns/\ns.length≤n:=by
 have hsh:WShape.hasAll [] args [.list .int]=true:=(pre_splitW hpre).1
 have hc:l.pre.holds [] { args:=args }=true:=(pre_splitW hpre).2
 obtain⟨d,r,rfl,h1,h2⟩:=hasAllW_cons hsh
 obtain rfl:=hasAllW_nil h2
 obtain⟨xs,rfl,h3⟩:=hasW_list h1
 obtain⟨ns,rfl⟩:=items_int h3
 have hlen:ns.length≤n:=by
  unfold OpenLaw.pre at hc
  have h4:(WTm.not (.lt (.lit (.int (n:Int))) (.len (.arg 0)))).holds [] { args:=[.list (ns.map .int)] }=true:=by
   have h4:=(holds_andW hc).1
   rw [hn] at h4
   exact h4
  have h5:=condW_of h4 (w_not (w_lt w_lit (w_len_list (w_arg rfl))))
  rw [List.length_map] at h5
  refine Nat.le_of_not_lt fun q=>?_
  have q':(n:Int) < ((ns.length:Nat):Int):=by omega
  first
   | (rw [decide_eq_true q'] at h5;exact absurd h5 (by decide))
   | (simp at h5;omega)
 cases hwl with
 | cons w1 w2=>
  cases w2
  cases w1 with
  | list ho hall=>exact⟨_,_,ns,rfl,rfl,ho,ints_of_wellAll ns _ hall,hlen⟩
theorem post_true (l:OpenLaw) (args:List WData):l.row.toRowW.claim.post args (.bool true) args=true:=
 postW_of (r:=l.row.toRowW) (X:=(true == true))
  (show WShape.has [] (.bool true) .bool=true by first | rfl | decide | simp [WShape.has,WShape.arms,WShape.armsAll])
  (show (WTm.eq .res (.lit (.bool true))).value [] { args:=args,res:=some (.bool true),after:=args }=some (.bool (true == true)) from w_eq_bool (w_res rfl) w_lit) rfl
theorem attach_call {l:OpenLaw}{n:Nat}{q:Program}{loose:List Str}{XP:(Str->Option Value)->Heap->Prop}{YP:World->Heap->Prop}{d:DefRec}
  (hn:l.most=some n) (hdf:d.params.defaults=[])
  (call:∀(w:World) (s₀ s₁:Shared) (mg mb:Str->Option Value) (fa:Addr) (o:Obj) (pm cd doc:Value) (a:Addr) (vs:List Value) (ns:List Int),
   Ground q loose [] XP w s₀ mg mb s₁.heap->YP w s₁.heap ->
   s₁.heap.get? fa=some o->o.data=.func (docDef d.name d.params d.body d.scope pm cd doc)->s₁.heap.CodeRec cd d.name->mg d.name=some (.ref fa) ->
   s₁.heap.get? a=some { cls:=.type "list",data:=.seq vs.toArray }->IntsAre vs ns->ns.length≤n->s₁.gens=#[] ->
   codeAny (model l.prog w) callerA (.call (.ref fa) ⟨[.ref a],[]⟩) (fun r s'=>r=.ok (.ret (.bool true))/\OldK s₁.heap s'.heap/\s'.os=s₁.os/\AllBare s'.gens) s₁) :
  WalkO q loose XP YP l.row.toRowW d [] (fun f vs=>PySem.call f vs):=by
 intro w s₀ s₁ mg mb G Y fa o pm cd doc dV kV ho hd hcd hD hmg hg args vals as hpre hlay hrd hwl hlo
 obtain rfl:dV=.none:=Dflts.none hD hdf
 obtain rfl:kV=.none:=Dflts.noKw hD
 obtain⟨a,vs,ns,rfl,rfl,hobj,hints,hlen⟩:=script_of hn hpre hwl
 refine enter_call (codeAny_mono (call w s₀ s₁ mg mb fa o pm cd doc a vs ns G Y ho (fd_plain hd) hcd hmg hobj hints hlen hg) fun r s' hq=>?_)
 obtain⟨rfl,h2,h3,h4⟩:=hq
 exact⟨.inl ⟨.bool true,.bool true,[],rfl,fun _=>rfl,.bool true,post_true l _,fun _=>⟨List.Pairwise.nil,fun _ hm=>(nomatch hm)⟩⟩,h2,h3,h4⟩
section
variable {prog:Program}{w:World}{A:Around}{E:Value->Shared->Prop}{s:Shared}{K:Frag}
end
end Att
namespace L2
open PySem PySem.Spec PyProof.Rows
theorem vals_ints:∀{vs:List Value}{ns:List Int},IntsAre vs ns->Vals (ns.map V.int) vs
 | _,_,.nil=>.nil
 | _,_,.cons n t h=>.cons ⟨t,rfl⟩ (vals_ints h)
noncomputable def Only (H:Hp):Prop:=∀b,H b=none\/∃o xs,H b=some (.frz o (.lst xs))
theorem law_call {P:Program}{w:World}{K:PySem.W.Frag}{mg mb:Str->Option Value}{CX:CXT}{k:Nat}{fa a:Addr}{fd:FuncData}{x:Str}{sp:Sp}{s₁:Shared}{vs:List Value}{ns:List Int}
  (KX:K.In s₁.heap) (hns:s₁.heap.Ns mainGlobals mg) (hb:s₁.heap.Ns builtinsNs mb) (hbb:∀x:Str,x≠"__name__"->mb x=bootBuiltins x) (hlim:s₁.heap.NoLimit) (hg:s₁.gens=#[])
  (ha:s₁.heap.get? a=some { cls:=.type "list",data:=.seq vs.toArray }) (hi:IntsAre vs ns) (hl:ns.length≤sizeLine) (hr:Room k callerA)
  (F:∀base:Heap,K.In base->base.Ns mainGlobals mg->FnOk P w K mg base CX k fa fd [x] sp) (hbind:∀(s:Shared) (u:Value),BindsTo s fd ⟨[u],[]⟩ [(x,u)])
  (hsp:∀H:Hp,Only H->SqL K H a (ns.map V.int)->sp [.ref a] H (fun v _=>v=.bl true) fun _ _ _=>False)
  (hCX:∀H e s',CX [] H s₁ (fun _ _ _=>False) e s'->False) :
  codeAny (model P w) callerA (.call (.ref fa) ⟨[.ref a],[]⟩) (fun r s'=>r=.ok (.ret (.bool true))/\OldK s₁.heap s'.heap/\s'.os=s₁.os/\AllBare s'.gens) s₁:=by
 have rv:=vals_ints hi
 have lenV:=hi.length
 have core:∀H:Hp,Only H->SqL K H a (ns.map V.int)->HOk P w H s₁.heap->(∀b,H b≠none->b=a)->(H a≠none->K.lookup a=none) ->
   codeAny (model P w) callerA (.call (.ref fa) ⟨[.ref a],[]⟩) (fun r s'=>r=.ok (.ret (.bool true))/\OldK s₁.heap s'.heap/\s'.os=s₁.os/\AllBare s'.gens) s₁:=by
  intro H hO hS hok hA hK
  have base_of:∀{b:Addr}{o:Obj},s₁.heap.get? b=some o->H b=none->(hidT s₁.heap H).get? b=some o:=fun e n=>hidT_get e n
  have noA:∀{b:Addr}{o:Obj}{es:Array DictEntry}{ep:Nat},s₁.heap.get? b=some o->o.data=.dict es ep->H b=none:=fun {b o es ep} e d=>by
   cases q:H b with
   | none=>rfl
   | some u=>
    have e':b=a:=hA b (by rw [q];simp)
    subst e'
    rw [ha] at e;cases e
    have d':Data.seq vs.toArray _=Data.dict es ep:=d
    cases d'
  have nsK:∀{b:Addr}{m:Str->Option Value},s₁.heap.Ns b m->(hidT s₁.heap H).Ns b m:=fun {b m} ⟨o,es,ep,e,d,r⟩=>⟨o,es,ep,base_of e (noA e d),d,r⟩
  have hKb:K.In (hidT s₁.heap H):=fun b o e=>base_of (KX b o e) (by
   cases q:H b with
   | none=>rfl
   | some u=>
    have e':b=a:=hA b (by rw [q];simp)
    subst e'
    rw [hK (by rw [q];simp)] at e;cases e)
  have hM:Mod K mg (hidT s₁.heap H):=⟨hKb,nsK hns,⟨mb,nsK hb,hbb⟩,let ⟨mc,h1,h2⟩:=hlim;⟨mc,nsK h1,h2⟩⟩
  have e0:Env0 P w K mg (hidT s₁.heap H) callerA [] s₁ H:=⟨rfl,hM,fun b o e=>of_hidT e,Nat.le_of_eq (hidT_size _ _),trivial,fun b hb=>absurd (show b ∈ ([]:List Addr) from hb) (by simp),hok,.of_eq hg⟩
  refine codeAny_mono ((F _ hKb (nsK hns)).run callerA [] s₁ H ⟨[.ref a],[]⟩ [.ref a] [.ref a] _ _ hr e0 (hbind s₁ (.ref a)) (.cons rfl .nil) (hsp H hO hS)) fun r s' h=>?_
  cases r with
  | error e=>exact (hCX H e s' h).elim
  | ok fl=>
   cases fl with
   | next=>exact False.elim h
   | brk=>exact False.elim h
   | cont=>exact False.elim h
   | ret u=>
    obtain⟨v,H',os,bare,un,hok',r',q⟩:=h
    have q':v=.bl true:=q
    subst q'
    obtain rfl:u=Value.bool true:=r'
    refine⟨rfl,OldK.of_keep fun b o e=>?_,os,bare⟩
    cases q:H b with
    | none=>exact un.keep b o e q (by intro z;exact absurd (show b ∈ ([]:List Addr) from z) (by simp)) (by simp)
    | some u=>
     rcases hO b with z | ⟨ob,xs,z⟩
     ·rw [q] at z;cases z
     ·have z2:=un.frzs b ob _ z
      obtain⟨e1,_⟩:=hok b _ z
      obtain⟨e2,_⟩:=hok' b _ z2
      rw [e] at e1;cases e1
      exact e2
 cases hk:K.lookup a with
 | some o=>
  have e:=KX a o hk
  rw [ha] at e
  cases e
  refine core (fun _=>none) (fun _=>.inl rfl) (.inr ⟨_,vs.toArray,_,hk,rfl,rfl,rfl,by rw [List.size_toArray,lenV];exact hl,by simpa using rv⟩) (fun b u z=>by have z':(none:Option HO)=some u:=z;cases z') (fun b z=>absurd rfl z) fun z=>absurd rfl z
 | none=>
  refine core (fun b=>if b=a then some (.frz { cls:=.type "list",data:=.seq vs.toArray } (.lst (ns.map V.int))) else none) (fun b=>?_) (.inl (.inr ⟨{ cls:=.type "list",data:=.seq vs.toArray },if_pos rfl⟩)) (fun b u z=>?_) (fun b z=>?_) fun _=>hk
  ·by_cases hb:b=a
   ·exact .inr ⟨_,_,if_pos hb⟩
   ·exact .inl (if_neg hb)
  ·by_cases hb:b=a
   ·have z':=(if_pos hb).symm.trans z
    cases z'
    subst hb
    exact⟨ha,by rw [List.length_map];exact hl,vs,_,rv,ha⟩
   ·have z':=(if_neg hb).symm.trans z
    cases z'
  ·by_cases hb:b=a
   ·exact hb
   ·exact absurd (if_neg hb) z
end L2
namespace L2
open PySem PySem.Spec PyProof.Rows
noncomputable abbrev KOf {K:PySem.W.Frag}{h:Heap} (_:K.In h):PySem.W.Frag:=K
theorem walk_of {l:PySem.W.OpenLaw}{n k:Nat}{q:Program}{loose:List Str}{XP:(Str->Option Value)->Heap->Prop}{YP:World->Heap->Prop}{d:DefRec}{K:Params->PySem.W.Frag}{CX:World->CXT}{sp:World->Sp}{x:Str}
  (hn:l.most=some n) (hn2:n≤sizeLine) (hdf:d.params.defaults=[]) (hr:Room k callerA)
  (hY:∀(w:World) (h:Heap),YP w h->(K w.params).In h)
  (F:∀(w:World) (mg:Str->Option Value) (fa:Addr) (h:Heap),(K w.params).In h->h.Ns mainGlobals mg->mg d.name=some (.ref fa) ->
   ∃fd:FuncData,(∀(s:Shared) (u:Value),BindsTo s fd ⟨[u],[]⟩ [(x,u)]) /\
    ∀base:Heap,(K w.params).In base->base.Ns mainGlobals mg->FnOk l.prog w (K w.params) mg base (CX w) k fa fd [x] (sp w))
  (hsp:∀(w:World) (H:Hp) (a:Addr) (ns:List Int),ns.length≤n->Only H->SqL (K w.params) H a (ns.map V.int)->sp w [.ref a] H (fun v _=>v=.bl true) fun _ _ _=>False)
  (hCX:∀(w:World) (H:Hp) (s:Shared) (e:Value) (s':Shared),CX w [] H s (fun _ _ _=>False) e s'->False) :
  PySem.W.WalkO q loose XP YP l.row.toRowW d [] (fun f vs=>PySem.call f vs):=by
 refine Att.attach_call hn hdf fun w s₀ s₁ mg mb fa o pm cd doc a vs ns G Y ho hd hcd hmg hobj hints hlen hg=>?_
 have KX:=hY w _ Y
 obtain⟨fd,hb,hF⟩:=F w mg fa _ KX G.T.g hmg
 exact law_call KX G.T.g G.T.b G.T.builtins G.T.nolimit hg hobj hints (Nat.le_trans hlen hn2) hr hF hb (fun H hO hS=>hsp w H a ns hlen hO hS) fun H e s'=>hCX w H s₁ e s'
theorem walk_ofK {l:PySem.W.OpenLaw}{n k:Nat}{q:Program}{loose:List Str}{XP:(Str->Option Value)->Heap->Prop}{YP:World->Heap->Prop}{d:DefRec}{K:Params->PySem.W.Frag}{CX:CXT}{sp:PySem.W.Frag->Sp}{x:Str}
  (hn:l.most=some n) (hn2:n≤sizeLine) (hdf:d.params.defaults=[]) (hr:Room k callerA)
  (hY:∀(w:World) (h:Heap),YP w h->(K w.params).In h)
  (F:∀(w:World) (mg:Str->Option Value) (fa:Addr) (h:Heap),(K w.params).In h->h.Ns mainGlobals mg->mg d.name=some (.ref fa) ->
   ∃fd:FuncData,(∀(s:Shared) (u:Value),BindsTo s fd ⟨[u],[]⟩ [(x,u)]) /\
    ∀base:Heap,(K w.params).In base->base.Ns mainGlobals mg->FnOk l.prog w (K w.params) mg base CX k fa fd [x] (sp (K w.params)))
  (hsp:∀(K:PySem.W.Frag) (H:Hp) (a:Addr) (ns:List Int),ns.length≤n->Only H->SqL K H a (ns.map V.int)->sp K [.ref a] H (fun v _=>v=.bl true) fun _ _ _=>False)
  (hCX:∀(H:Hp) (s:Shared) (e:Value) (s':Shared),CX [] H s (fun _ _ _=>False) e s'->False) :
  PySem.W.WalkO q loose XP YP l.row.toRowW d [] (fun f vs=>PySem.call f vs):=
 walk_of (K:=K) (CX:=fun _=>CX) (sp:=fun w=>sp (K w.params)) hn hn2 hdf hr hY F (fun w H a ns h1 h2 h3=>hsp (K w.params) H a ns h1 h2 h3) fun _ H s e s'=>hCX H s e s'
end L2
namespace L2
open PySem PySem.Spec PyProof.Rows
noncomputable def defArgs (s:Stmt):Arguments:=match s with
 | .FunctionDef _ a _ _ _ _ _ _ _ _=>a
 | _=>{ posonlyargs:=[],args:=[],vararg:=none,kwonlyargs:=[],kw_defaults:=[],kwarg:=none,defaults:=[] }
noncomputable def defBody (s:Stmt):List Stmt:=match s with
 | .FunctionDef _ _ b _ _ _ _ _ _ _=>b
 | _=>[]
noncomputable def defScope (s:Stmt):Scope:=match s with
 | .FunctionDef _ _ _ _ _ _ sc _ _ _=>sc
 | _=>{ kind:=.function,names:=[],isGenerator:=false,isCoroutine:=false }
noncomputable abbrev CX0:CXT:=fun _ _ _ _ _ _=>False
noncomputable abbrev E0:XK:=fun _ _ _=>False
theorem pass0 {X:Cx}:Passes CX0 X E0:=fun _ _ _ _ _ _ _ h=>h.elim
structure Fun (K:PySem.W.Frag) (x qual:Str) (st:Stmt) (f:Addr) (fd:FuncData):Prop where
 ex:∃(oc:Value) (od:Option Addr) (kV doc pm:Value) (an:Option Addr) (cdv ct:Value) (osl:Array (Option Value)),
  fd=PySem.W.fnOf x qual (defArgs st) (defBody st) (defScope st) .none kV doc pm an cdv ct/\K.lookup f=some ⟨oc,od,.func fd,osl⟩/\PySem.W.codeIn K cdv qual=true
 kp:PySem.W.keepIn K (.ref f)=true
section
variable {P:Program}{w:World}{K:PySem.W.Frag}{mg:Str->Option Value}{base:Heap}
theorem Fun.ok {x qual:Str}{st:Stmt}{f:Addr}{fd:FuncData}{N ps:List Str}{k:Nat}{sp:Sp} (F:Fun K x qual st f fd) (S:FnScope N ps (defScope st)) (len:∀vs H Q E,sp vs H Q E->vs.length=ps.length)
  (hbody:∀(cdv:Value) (A:Around) (outer:List Env) (s:Shared) (H:Hp) (vs:List V) (Q:VK) (E:XK),Room k (A.deeper (envOfC qual (defScope st) s.heap.objs.size f cdv))->sp vs H Q E ->
   ∃t,PSs (cxOf CX0 P w K mg base N qual (defScope st) f cdv A outer s H E).nox (defBody st) t/\t { nx:=fun _ H'=>Q .non H',rt:=Q } (start N vs) H):FnOk P w K mg base CX0 (k+1) f fd ps sp:=by
 obtain⟨oc,od,kV,doc,pm,an,cdv,ct,osl,rfl,lk,hcd⟩:=F.ex
 refine fn_of lk hcd S len fun A outer s H vs Q E hr hsp=>?_
 obtain⟨t,h,q⟩:=hbody cdv A outer s H vs Q E hr hsp
 exact⟨t,h.nox,q⟩
theorem Fun.binds {x qual:Str}{st:Stmt}{f:Addr}{fd:FuncData}{ps:List Str} (F:Fun K x qual st f fd)
  (h:∀(kV doc pm:Value) (an:Option Addr) (cdv ct:Value) (us:List Value),us.length=ps.length->bindArgs (PySem.W.fnOf x qual (defArgs st) (defBody st) (defScope st) .none kV doc pm an cdv ct) ⟨us,[]⟩=pure (ps.zip us)):Binds K fd ps []:=by
 obtain⟨oc,od,kV,doc,pm,an,cdv,ct,osl,rfl,lk,hcd⟩:=F.ex
 exact .all (h kV doc pm an cdv ct)
theorem fun_mk {x qual:Str}{st:Stmt}{f:Addr}{oc:Value}{od an:Option Addr}{osl:Array (Option Value)}{kV doc pm cdv ct:Value} (l:K.lookup f=some ⟨oc,od,.func (PySem.W.fnOf x qual (defArgs st) (defBody st) (defScope st) .none kV doc pm an cdv ct),osl⟩)
  (c:PySem.W.codeIn K cdv qual=true) (k:PySem.W.keepIn K (.ref f)=true):Fun K x qual st f (PySem.W.fnOf x qual (defArgs st) (defBody st) (defScope st) .none kV doc pm an cdv ct):=⟨⟨oc,od,kV,doc,pm,an,cdv,ct,osl,rfl,l,c⟩,k⟩
end
section
variable {X:Cx}
theorem pv (i:Nat) {x:Str}{pos:Pos} (hN:X.N[i]? = some x:=by rfl) (hv:Vis X.env.scope x:=by first | exact Or.inl rfl | exact Or.inr (Or.inl rfl) | exact Or.inr (Or.inr rfl)) (hd:(x == ("__debug__":Str))=false:=by decide)
  (hcd:(x == ("__classdict__":Str))=false:=by decide):PE X (.Name x pos) (tVar i):=pe_var hN hv hd hcd
end
noncomputable def Same (H H':Hp):Prop:=∀b o,H b=some o->H' b=some o
theorem Same.refl (H:Hp):Same H H:=fun _ _ h=>h
theorem Same.trans {H H1 H2:Hp} (a:Same H H1) (b:Same H1 H2):Same H H2:=fun c o h=>b c o (a c o h)
theorem Same.free {H H':Hp} (e:Same H H') {l:Addr} (h:H' l=Option.none):H l=Option.none:=by
 cases q:H l with
 | none=>rfl
 | some o=>
  rw [e l o q] at h
  cases h
theorem Same.seq {K:PySem.W.Frag}{H H':Hp}{a:Addr}{xs:List V} (e:Same H H') (h:SqL K H a xs):SqL K H' a xs:=by
 rcases h with (h | ⟨o,h⟩) | h
 ·exact .inl (.inl (e _ _ h))
 ·exact .inl (.inr ⟨o,e _ _ h⟩)
 ·exact .inr h
section
variable {κ:Type} [DecidableEq κ]
end
end L2
namespace Ev
open PySem L2
inductive P where
 | non | bl (b:Bool) | int (i:Int) | str (x:Str) | tup (xs:List P) | lst (xs:List P) | ro (xs:List P) | dct (ks:List Key) (vs:List P)
inductive D where
 | p (v:P) | ref (i:Nat)
inductive SO where
 | lst (xs:List D) | dct (ks:List Key) (vs:List D) | fz (v:P) | ins (c:Str) (ks:List Str) (vs:List D)
noncomputable abbrev Sto:=List SO
noncomputable abbrev Lc:=List (Option D)
noncomputable def KTup (K:PySem.W.Frag) (a:Addr) (xs:List V):Prop:=SqT K (fun _=>none) a xs
noncomputable def KLst (K:PySem.W.Frag) (a:Addr) (xs:List V):Prop:=SqL K (fun _=>none) a xs
noncomputable def TupAt (K:PySem.W.Frag) (H:Hp) (a:Addr) (xs:List V):Prop:=H a=some (.tup xs)\/KTup K a xs
noncomputable def LstAt (F:Addr->Prop) (H:Hp) (a:Addr) (xs:List V):Prop:=F a/\H a=some (.lst xs)
noncomputable def RoAt (K:PySem.W.Frag) (F:Addr->Prop) (H:Hp) (a:Addr) (xs:List V):Prop:=(F a/\∃o,H a=some (.frz o (.lst xs)))\/KLst K a xs
theorem TupAt.sq {K:PySem.W.Frag}{H:Hp}{a:Addr}{xs:List V} (h:TupAt K H a xs):SqT K H a xs:=by
 rcases h with h | (h | h)
 ·exact .inl (.inl h)
 ·rcases h with h | ⟨o,h⟩ <;> cases h
 ·exact .inr h
theorem LstAt.sq {K:PySem.W.Frag}{F:Addr->Prop}{H:Hp}{a:Addr}{xs:List V} (h:LstAt F H a xs):SqL K H a xs:=.inl (.inl h.2)
theorem RoAt.sq {K:PySem.W.Frag}{F:Addr->Prop}{H:Hp}{a:Addr}{xs:List V} (h:RoAt K F H a xs):SqL K H a xs:=by
 rcases h with ⟨_,o,h⟩ | (h | h)
 ·exact .inl (.inr ⟨o,h⟩)
 ·rcases h with h | ⟨o,h⟩ <;> cases h
 ·exact .inr h
section
variable (K:PySem.W.Frag) (F:Addr->Prop) (H:Hp)
mutual
noncomputable def RP:P->V->Prop
 | .non,v=>v=.non
 | .bl b,v=>v=.bl b
 | .int i,v=>v=.int i
 | .str x,v=>v=.str x
 | .tup ds,v=>∃a xs,v=.ref a/\TupAt K H a xs/\RPs ds xs
 | .lst ds,v=>∃a xs,v=.ref a/\LstAt F H a xs/\RPs ds xs
 | .ro ds,v=>∃a xs,v=.ref a/\RoAt K F H a xs/\RPs ds xs
 | .dct ks ds,v=>∃a kvs,v=.ref a/\F a/\H a=some (.dK kvs)/\kvs.map (·.1)=ks/\RPs ds (kvs.map (·.2))
noncomputable def RPs:List P->List V->Prop
 | [],xs=>xs=[]
 | d::ds,xs=>∃x r,xs=x::r/\RP d x/\RPs ds r
end
noncomputable def RD (m:List Addr):D->V->Prop
 | .p d,v=>RP K F H d v
 | .ref i,v=>∃a,v=.ref a/\m[i]? = some a
noncomputable def RDs (m:List Addr):List D->List V->Prop
 | [],xs=>xs=[]
 | d::ds,xs=>∃x r,xs=x::r/\RD K F H m d x/\RDs m ds r
noncomputable def RO (m:List Addr) (a:Addr):SO->Prop
 | .lst ds=>∃xs,H a=some (.lst xs)/\RDs K F H m ds xs
 | .dct ks ds=>∃kvs,H a=some (.dK kvs)/\kvs.map (·.1)=ks/\RDs K F H m ds (kvs.map (·.2))
 | .fz v=>RP K F H v (.ref a)
 | .ins c ks ds=>∃C dx kvs,PySem.W.nsIn K mainGlobals c=some (some (.ref C))/\H a=some (.ins C dx kvs)/\kvs.map (·.1)=ks/\RDs K F H m ds (kvs.map (·.2))
noncomputable def SO.own:SO->Prop
 | .fz _=>False
 | _=>True
structure Rel (m:List Addr) (S:Sto):Prop where
 len:m.length=S.length
 nd:m.Nodup
 obj:∀(i:Nat) a o,m[i]? = some a->S[i]? = some o->RO K F H m a o
 sep:∀(i:Nat) a o,m[i]? = some a->S[i]? = some o->o.own->¬F a
 trk:∀a ∈ m,H a≠none
 ft:∀a,F a->H a≠none
end
structure Kp (F:Addr->Prop) (m:List Addr) (H:Hp) (F':Addr->Prop) (m':List Addr) (H':Hp):Prop where
 pre:∃n,m'=m++n
 frz:∀b,F b->F' b
 frk:∀b o,F b->H b=some o->H' b=some o
 tup:∀b xs,H b=some (.tup xs)->H' b=some (.tup xs)
structure Stp (F:Addr->Prop) (m:List Addr) (H:Hp) (F':Addr->Prop) (m':List Addr) (H':Hp):Prop where
 pre:∃n,m'=m++n
 oth:∀b o,H b=some o->b ∉ m->H' b=some o
 frz:∀b,F b->F' b
 frk:∀b o,F b->H b=some o->H' b=some o
 tup:∀b xs,H b=some (.tup xs)->H' b=some (.tup xs)
 trk:∀b,H b≠none->H' b≠none
 nf:∀b,F' b->F b\/H b=none\/b ∈ m
 nm:∀b,b ∈ m'->b ∈ m\/H b=none
theorem Stp.kp {F F':Addr->Prop}{m m':List Addr}{H H':Hp} (s:Stp F m H F' m' H'):Kp F m H F' m' H':=⟨s.pre,s.frz,s.frk,s.tup⟩
theorem Stp.refl {F:Addr->Prop}{m:List Addr}{H:Hp}:Stp F m H F m H:=
 ⟨⟨[],by simp⟩,fun _ _ h _=>h,fun _ h=>h,fun _ _ _ h=>h,fun _ _ h=>h,fun _ h=>h,fun _ h=>.inl h,fun _ h=>.inl h⟩
theorem Stp.trans {F F1 F2:Addr->Prop}{m m1 m2:List Addr}{H H1 H2:Hp} (a:Stp F m H F1 m1 H1) (b:Stp F1 m1 H1 F2 m2 H2):Stp F m H F2 m2 H2 where
 pre:=by
  obtain⟨n1,e1⟩:=a.pre
  obtain⟨n2,e2⟩:=b.pre
  exact⟨n1++n2,by rw [e2,e1,List.append_assoc]⟩
 oth:=fun c o h hc=>b.oth c o (a.oth c o h hc) fun z=>by
  rcases a.nm c z with z | z
  ·exact hc z
  ·rw [h] at z;cases z
 frz:=fun c h=>b.frz c (a.frz c h)
 frk:=fun c o h e=>b.frk c o (a.frz c h) (a.frk c o h e)
 tup:=fun c xs h=>b.tup c xs (a.tup c xs h)
 trk:=fun c h=>b.trk c (a.trk c h)
 nf:=fun c h=>by
  rcases b.nf c h with h | h | h
  ·exact a.nf c h
  ·by_cases e:H c=none
   ·exact .inr (.inl e)
   ·exact absurd h (a.trk c e)
  ·rcases a.nm c h with h | h
   ·exact .inr (.inr h)
   ·exact .inr (.inl h)
 nm:=fun c h=>by
  rcases b.nm c h with h | h
  ·exact a.nm c h
  ·by_cases e:H c=none
   ·exact .inr e
   ·exact absurd h (a.trk c e)
section
variable {K:PySem.W.Frag}{F F':Addr->Prop}{H H':Hp}{m m':List Addr}{S S':Sto}
theorem TupAt.kp {a:Addr}{xs:List V} (s:Kp F m H F' m' H') (h:TupAt K H a xs):TupAt K H' a xs:=by
 rcases h with h | h
 ·exact .inl (s.tup _ _ h)
 ·exact .inr h
theorem LstAt.kp {a:Addr}{xs:List V} (s:Kp F m H F' m' H') (h:LstAt F H a xs):LstAt F' H' a xs:=⟨s.frz _ h.1,s.frk _ _ h.1 h.2⟩
theorem RoAt.kp {a:Addr}{xs:List V} (s:Kp F m H F' m' H') (h:RoAt K F H a xs):RoAt K F' H' a xs:=by
 rcases h with ⟨f,o,h⟩ | h
 ·exact .inl ⟨s.frz _ f,o,s.frk _ _ f h⟩
 ·exact .inr h
mutual
theorem RP.kp (s:Kp F m H F' m' H'):∀{d:P}{v:V},RP K F H d v->RP K F' H' d v
 | .non,_,h=>h
 | .bl _,_,h=>h
 | .int _,_,h=>h
 | .str _,_,h=>h
 | .tup _,_,h=>by
  obtain⟨a,xs,e,t,r⟩:=h
  exact⟨a,xs,e,t.kp s,RPs.kp s r⟩
 | .lst _,_,h=>by
  obtain⟨a,xs,e,t,r⟩:=h
  exact⟨a,xs,e,t.kp s,RPs.kp s r⟩
 | .ro _,_,h=>by
  obtain⟨a,xs,e,t,r⟩:=h
  exact⟨a,xs,e,t.kp s,RPs.kp s r⟩
 | .dct _ _,_,h=>by
  obtain⟨a,kvs,e,f,t,k,r⟩:=h
  exact⟨a,kvs,e,s.frz _ f,s.frk _ _ f t,k,RPs.kp s r⟩
theorem RPs.kp (s:Kp F m H F' m' H'):∀{ds:List P}{xs:List V},RPs K F H ds xs->RPs K F' H' ds xs
 | [],_,h=>h
 | _::_,_,h=>by
  obtain⟨x,r,e,h1,h2⟩:=h
  exact⟨x,r,e,RP.kp s h1,RPs.kp s h2⟩
end
theorem RD.kp (s:Kp F m H F' m' H'):∀{d:D}{v:V},RD K F H m d v->RD K F' H' m' d v
 | .p _,_,h=>RP.kp s h
 | .ref i,_,h=>by
  obtain⟨a,e,h⟩:=h
  obtain⟨n,e2⟩:=s.pre
  refine⟨a,e,?_⟩
  rw [e2]
  have hi:i < m.length:=(List.getElem?_eq_some_iff.mp h).1
  rw [List.getElem?_append_left hi];exact h
theorem RDs.kp (s:Kp F m H F' m' H'):∀{ds:List D}{xs:List V},RDs K F H m ds xs->RDs K F' H' m' ds xs
 | [],_,h=>h
 | _::_,_,h=>by
  obtain⟨x,r,e,h1,h2⟩:=h
  exact⟨x,r,e,RD.kp s h1,RDs.kp s h2⟩
theorem RP.mono (s:Stp F m H F' m' H') {d:P}{v:V} (h:RP K F H d v):RP K F' H' d v:=RP.kp s.kp h
theorem RPs.mono (s:Stp F m H F' m' H') {d:List P}{v:List V} (h:RPs K F H d v):RPs K F' H' d v:=RPs.kp s.kp h
theorem RD.mono (s:Stp F m H F' m' H') {d:D}{v:V} (h:RD K F H m d v):RD K F' H' m' d v:=RD.kp s.kp h
theorem RDs.mono (s:Stp F m H F' m' H') {d:List D}{v:List V} (h:RDs K F H m d v):RDs K F' H' m' d v:=RDs.kp s.kp h
theorem RPs.length:∀{ds:List P}{xs:List V},RPs K F H ds xs->ds.length=xs.length
 | [],_,h=>by rw [show _=([]:List V) from h] <;> rfl
 | _::_,_,h=>by
  obtain⟨x,r,e,_,h2⟩:=h
  rw [e,List.length_cons,List.length_cons,RPs.length h2]
theorem RDs.length:∀{ds:List D}{xs:List V},RDs K F H m ds xs->ds.length=xs.length
 | [],_,h=>by rw [show _=([]:List V) from h] <;> rfl
 | _::_,_,h=>by
  obtain⟨x,r,e,_,h2⟩:=h
  rw [e,List.length_cons,List.length_cons,RDs.length h2]
theorem RPs.get:∀{ds:List P}{xs:List V}{i:Nat}{d:P},RPs K F H ds xs->ds[i]? = some d->∃x,xs[i]? = some x/\RP K F H d x
 | [],_,_,_,_,e=>by simp at e
 | _::_,_,0,_,h,e=>by
  obtain⟨x,r,rfl,h1,_⟩:=h
  simp at e;subst e
  exact⟨x,rfl,h1⟩
 | _::_,_,i+1,d,h,e=>by
  obtain⟨x,r,rfl,_,h2⟩:=h
  obtain⟨y,e1,h3⟩:=RPs.get (i:=i) h2 (by simpa using e)
  exact⟨y,by simpa using e1,h3⟩
theorem RPs.append:∀{ds es:List P}{xs ys:List V},RPs K F H ds xs->RPs K F H es ys->RPs K F H (ds++es) (xs++ys)
 | [],_,_,_,h,g=>by rw [show _=([]:List V) from h];exact g
 | _::_,_,_,_,h,g=>by
  obtain⟨x,r,rfl,h1,h2⟩:=h
  exact⟨x,r++_,rfl,h1,RPs.append h2 g⟩
theorem RDs.append:∀{ds es:List D}{xs ys:List V},RDs K F H m ds xs->RDs K F H m es ys->RDs K F H m (ds++es) (xs++ys)
 | [],_,_,_,h,g=>by rw [show _=([]:List V) from h];exact g
 | _::_,_,_,_,h,g=>by
  obtain⟨x,r,rfl,h1,h2⟩:=h
  exact⟨x,r++_,rfl,h1,RDs.append h2 g⟩
theorem RPs.take:∀(n:Nat) {ds:List P}{xs:List V},RPs K F H ds xs->RPs K F H (ds.take n) (xs.take n)
 | 0,_,_,_=>rfl
 | _+1,[],_,h=>by rw [show _=([]:List V) from h];rfl
 | n+1,_::_,_,h=>by
  obtain⟨x,r,rfl,h1,h2⟩:=h
  exact⟨x,r.take n,rfl,h1,RPs.take n h2⟩
theorem RPs.drop:∀(n:Nat) {ds:List P}{xs:List V},RPs K F H ds xs->RPs K F H (ds.drop n) (xs.drop n)
 | 0,_,_,h=>h
 | _+1,[],_,h=>by rw [show _=([]:List V) from h];rfl
 | n+1,_::_,_,h=>by
  obtain⟨x,r,rfl,_,h2⟩:=h
  exact RPs.drop n h2
theorem RDs.take:∀(n:Nat) {ds:List D}{xs:List V},RDs K F H m ds xs->RDs K F H m (ds.take n) (xs.take n)
 | 0,_,_,_=>rfl
 | _+1,[],_,h=>by rw [show _=([]:List V) from h];rfl
 | n+1,_::_,_,h=>by
  obtain⟨x,r,rfl,h1,h2⟩:=h
  exact⟨x,r.take n,rfl,h1,RDs.take n h2⟩
theorem RDs.get:∀{ds:List D}{xs:List V}{i:Nat}{d:D},RDs K F H m ds xs->ds[i]? = some d->∃x,xs[i]? = some x/\RD K F H m d x
 | [],_,_,_,_,e=>by simp at e
 | _::_,_,0,_,h,e=>by
  obtain⟨x,r,rfl,h1,_⟩:=h
  simp at e;subst e
  exact⟨x,rfl,h1⟩
 | _::_,_,i+1,d,h,e=>by
  obtain⟨x,r,rfl,_,h2⟩:=h
  obtain⟨y,e1,h3⟩:=RDs.get (i:=i) h2 (by simpa using e)
  exact⟨y,by simpa using e1,h3⟩
theorem RDs.ofP:∀{ds:List P}{xs:List V},RPs K F H ds xs->RDs K F H m (ds.map .p) xs
 | [],_,h=>h
 | _::_,_,h=>by
  obtain⟨x,r,e,h1,h2⟩:=h
  exact⟨x,r,e,h1,RDs.ofP h2⟩
theorem Rel.fresh_m (r:Rel K F H m S) {p:Addr} (hp:H p=none):p ∉ m:=fun z=>r.trk p z hp
theorem Rel.fresh_F (r:Rel K F H m S) {p:Addr} (hp:H p=none):¬F p:=fun z=>r.ft p z hp
theorem stp_new {p:Addr}{o:HO} (hp:H p=none):Stp F m H F m (upd H p o) where
 pre:=⟨[],by simp⟩
 oth:=fun b u h _=>by rw [upd_ne (by rintro rfl;rw [hp] at h;cases h)];exact h
 frz:=fun _ h=>h
 frk:=fun b u _ h=>by rw [upd_ne (by rintro rfl;rw [hp] at h;cases h)];exact h
 tup:=fun b u h=>by rw [upd_ne (by rintro rfl;rw [hp] at h;cases h)];exact h
 trk:=fun b h=>by
  by_cases e:b=p
  ·subst e;rw [upd_same];exact fun z=>nomatch z
  ·rw [upd_ne e];exact h
 nf:=fun _ h=>.inl h
 nm:=fun _ h=>.inl h
theorem RO.kp (s:Kp F m H F' m' H') {a:Addr}{o:SO} (k:∀u,H a=some u->H' a=some u) (h:RO K F H m a o):RO K F' H' m' a o:=by
 cases o with
 | lst ds=>
  obtain⟨xs,e,r⟩:=h
  exact⟨xs,k _ e,RDs.kp s r⟩
 | dct ks ds=>
  obtain⟨kvs,e,e2,r⟩:=h
  exact⟨kvs,k _ e,e2,RDs.kp s r⟩
 | fz v=>exact RP.kp s (show RP K F H v (.ref a) from h)
 | ins c ks ds=>
  obtain⟨C,dx,kvs,n,e,e2,r⟩:=h
  exact⟨C,dx,kvs,n,k _ e,e2,RDs.kp s r⟩
theorem RO.mono (s:Stp F m H F' m' H') {a:Addr}{o:SO} (k:∀u,H a=some u->H' a=some u) (h:RO K F H m a o):RO K F' H' m' a o:=RO.kp s.kp k h
theorem Rel.stayK (r:Rel K F H m S) (s:Kp F m H F' m H') (k:∀a u,a ∈ m->H a=some u->H' a=some u) (nF:∀a,F' a->F a\/H a=none) (ft:∀a,F' a->H' a≠none):Rel K F' H' m S where
 len:=r.len
 nd:=r.nd
 obj:=fun i a o e1 e2=>(r.obj i a o e1 e2).kp s fun u h=>k a u (List.mem_of_getElem? e1) h
 sep:=fun i a o e1 e2 w f=>by
  rcases nF a f with f | f
  ·exact r.sep i a o e1 e2 w f
  ·exact r.trk a (List.mem_of_getElem? e1) f
 trk:=fun a h=>by
  cases q:H a with
  | none=>exact absurd q (r.trk a h)
  | some u=>rw [k a u h q];exact fun z=>nomatch z
 ft:=ft
theorem Rel.stay (r:Rel K F H m S) (s:Stp F m H F' m H') (k:∀a u,a ∈ m->H a=some u->H' a=some u) (nF:∀a,F' a->F a\/H a=none) (ft:∀a,F' a->H' a≠none):Rel K F' H' m S where
 len:=r.len
 nd:=r.nd
 obj:=fun i a o e1 e2=>(r.obj i a o e1 e2).mono s fun u h=>k a u (List.mem_of_getElem? e1) h
 sep:=fun i a o e1 e2 w f=>by
  rcases nF a f with f | f
  ·exact r.sep i a o e1 e2 w f
  ·exact r.trk a (List.mem_of_getElem? e1) f
 trk:=fun a h=>s.trk a (r.trk a h)
 ft:=ft
theorem Rel.new (r:Rel K F H m S) {p:Addr}{o:HO} (hp:H p=none):Rel K F (upd H p o) m S:=
 r.stay (stp_new hp) (fun a u ha h=>by rw [upd_ne (by rintro rfl;exact r.fresh_m hp ha)];exact h) (fun _ f=>.inl f) fun a f=>(stp_new (F:=F) (m:=m) hp).trk a (r.ft a f)
theorem stp_own {p:Addr}{o:HO} (hp:H p=none):Stp F m H F (m++[p]) (upd H p o) where
 pre:=⟨[p],rfl⟩
 oth:=(stp_new (F:=F) (m:=m) (o:=o) hp).oth
 frz:=fun _ h=>h
 frk:=(stp_new (F:=F) (m:=m) (o:=o) hp).frk
 tup:=(stp_new (F:=F) (m:=m) (o:=o) hp).tup
 trk:=(stp_new (F:=F) (m:=m) (o:=o) hp).trk
 nf:=fun _ h=>.inl h
 nm:=fun b h=>by
  rcases List.mem_append.mp h with h | h
  ·exact .inl h
  ·have:b=p:=by simpa using h
   subst this;exact .inr hp
theorem Rel.own (r:Rel K F H m S) {p:Addr}{o:HO}{so:SO} (hp:H p=none) (ho:RO K F (upd H p o) (m++[p]) p so):Rel K F (upd H p o) (m++[p]) (S++[so]) where
 len:=by rw [List.length_append,List.length_append,r.len];rfl
 nd:=by
  rw [List.nodup_append]
  refine⟨r.nd,by simp,fun a ha b hb e=>?_⟩
  have:b=p:=by simpa using hb
  subst this;subst e
  exact r.fresh_m hp ha
 obj:=fun i a u e1 e2=>by
  by_cases hi:i < m.length
  ·rw [List.getElem?_append_left hi] at e1
   rw [List.getElem?_append_left (by rw [<- r.len];exact hi)] at e2
   exact (r.obj i a u e1 e2).mono (stp_own hp) fun w h=>by rw [upd_ne (by rintro rfl;rw [hp] at h;cases h)];exact h
  ·have hl:i=m.length:=by
    have:=(List.getElem?_eq_some_iff.mp e1).1
    rw [List.length_append] at this;simp at this;omega
   subst hl
   rw [List.getElem?_append_right (Nat.le_refl _)] at e1
   rw [r.len,List.getElem?_append_right (Nat.le_refl _)] at e2
   simp at e1 e2
   subst e1;subst e2;exact ho
 sep:=fun i a u e1 e2 w f=>by
  by_cases hi:i < m.length
  ·rw [List.getElem?_append_left hi] at e1
   rw [List.getElem?_append_left (by rw [<- r.len];exact hi)] at e2
   exact r.sep i a u e1 e2 w f
  ·have hl:i=m.length:=by
    have:=(List.getElem?_eq_some_iff.mp e1).1
    rw [List.length_append] at this;simp at this;omega
   subst hl
   rw [List.getElem?_append_right (Nat.le_refl _)] at e1
   simp at e1
   subst e1;exact r.fresh_F hp f
 trk:=fun a h=>by
  rcases List.mem_append.mp h with h | h
  ·exact (stp_own (F:=F) (m:=m) hp).trk a (r.trk a h)
  ·have:a=p:=by simpa using h
   subst this;rw [upd_same];exact fun z=>nomatch z
 ft:=fun a f=>(stp_own (F:=F) (m:=m) hp).trk a (r.ft a f)
theorem stp_set (r:Rel K F H m S) {i:Nat}{p:Addr}{so:SO}{o:HO} (hm:m[i]? = some p) (hs:S[i]? = some so) (hw:so.own) (ht:∀xs,H p≠some (.tup xs)):Stp F m H F m (upd H p o) where
 pre:=⟨[],by simp⟩
 oth:=fun b u h hb=>by rw [upd_ne (by rintro rfl;exact hb (List.mem_of_getElem? hm))];exact h
 frz:=fun _ h=>h
 frk:=fun b u f h=>by rw [upd_ne (by rintro rfl;exact r.sep i _ so hm hs hw f)];exact h
 tup:=fun b xs h=>by rw [upd_ne (by rintro rfl;exact ht xs h)];exact h
 trk:=fun b h=>by
  by_cases e:b=p
  ·subst e;rw [upd_same];exact fun z=>nomatch z
  ·rw [upd_ne e];exact h
 nf:=fun _ h=>.inl h
 nm:=fun _ h=>.inl h
theorem nodup_at {m:List Addr} (h:m.Nodup) {i j:Nat}{a:Addr} (e1:m[i]? = some a) (e2:m[j]? = some a):i=j:=by
 exact (List.getElem?_inj (List.getElem?_eq_some_iff.mp e1).1 h).mp (e1.trans e2.symm)
theorem Rel.set (r:Rel K F H m S) {i:Nat}{p:Addr}{so so':SO}{o:HO} (hm:m[i]? = some p) (hs:S[i]? = some so) (hw:so.own) (ht:∀xs,H p≠some (.tup xs)) (ho:RO K F (upd H p o) m p so') :
  Rel K F (upd H p o) m (S.set i so') where
 len:=by rw [List.length_set];exact r.len
 nd:=r.nd
 obj:=fun j a u e1 e2=>by
  by_cases hj:i=j
  ·subst hj
   rw [hm] at e1;cases e1
   rw [List.getElem?_set_self (by exact (List.getElem?_eq_some_iff.mp hs).1)] at e2
   cases e2;exact ho
  ·rw [List.getElem?_set_ne hj] at e2
   exact (r.obj j a u e1 e2).mono (stp_set r hm hs hw ht) fun w h=>by rw [upd_ne (by rintro rfl;exact hj (nodup_at r.nd hm e1))];exact h
 sep:=fun j a u e1 e2 w f=>by
  by_cases hj:i=j
  ·subst hj
   rw [hm] at e1;cases e1
   exact r.sep i p so hm hs hw f
  ·rw [List.getElem?_set_ne hj] at e2
   exact r.sep j a u e1 e2 w f
 trk:=fun a h=>(stp_set (o:=o) r hm hs hw ht).trk a (r.trk a h)
 ft:=fun a f=>(stp_set (o:=o) r hm hs hw ht).trk a (r.ft a f)
theorem stp_frz {p:Addr} (hm:p ∈ m):Stp F m H (fun b=>F b\/b=p) m H:=
 ⟨⟨[],by simp⟩,fun _ _ h _=>h,fun _ h=>.inl h,fun _ _ _ h=>h,fun _ _ h=>h,fun _ h=>h,fun b h=>by
  rcases h with h | h
  ·exact .inl h
  ·subst h;exact .inr (.inr hm),fun _ h=>.inl h⟩
theorem Rel.frz (r:Rel K F H m S) {i:Nat}{p:Addr}{so:SO}{v:P} (hm:m[i]? = some p) (hs:S[i]? = some so) (ho:RP K (fun b=>F b\/b=p) H v (.ref p)):Rel K (fun b=>F b\/b=p) H m (S.set i (.fz v)) where
 len:=by rw [List.length_set];exact r.len
 nd:=r.nd
 obj:=fun j a u e1 e2=>by
  by_cases hj:i=j
  ·subst hj
   rw [hm] at e1;cases e1
   rw [List.getElem?_set_self (by exact (List.getElem?_eq_some_iff.mp hs).1)] at e2
   cases e2;exact ho
  ·rw [List.getElem?_set_ne hj] at e2
   exact (r.obj j a u e1 e2).mono (stp_frz (List.mem_of_getElem? hm)) fun w h=>h
 sep:=fun j a u e1 e2 w f=>by
  by_cases hj:i=j
  ·subst hj
   rw [List.getElem?_set_self (by exact (List.getElem?_eq_some_iff.mp hs).1)] at e2
   cases e2;exact w
  ·rw [List.getElem?_set_ne hj] at e2
   rcases f with f | f
   ·exact r.sep j a u e1 e2 w f
   ·subst f;exact hj (nodup_at r.nd hm e1)
 trk:=r.trk
 ft:=fun a f=>by
  rcases f with f | f
  ·exact r.ft a f
  ·subst f;exact r.trk _ (List.mem_of_getElem? hm)
end
end Ev
namespace Ev
open PySem L2
noncomputable abbrev EE:=Lc->Sto->Option (D×Sto)
noncomputable abbrev EV:=Lc->Sto->Option (P×Sto)
noncomputable abbrev EB:=Lc->Sto->Option (Bool×Sto)
noncomputable abbrev EVs:=Lc->Sto->Option (List P×Sto)
inductive Fl where
 | nx | rt (d:D) | bk | ct
noncomputable abbrev ES:=Lc->Sto->Option (Fl×Lc×Sto)
noncomputable def bnd {α β:Type} (x:Option (α×Sto)) (f:α->Sto->Option β):Option β:=match x with
 | some (a,S)=>f a S
 | none=>none
@[simp] theorem bnd_some {α β:Type} (a:α) (S:Sto) (f:α->Sto->Option β):bnd (some (a,S)) f=f a S:=rfl
@[simp] theorem bnd_none {α β:Type} (f:α->Sto->Option β):bnd none f=none:=rfl
theorem bnd_eq {α β:Type}{x:Option (α×Sto)}{f:α->Sto->Option β}{r:β} (h:bnd x f=some r):∃a S,x=some (a,S)/\f a S=some r:=by
 cases x with
 | none=>cases h
 | some p=>exact⟨p.1,p.2,rfl,h⟩
noncomputable def mapS (f:D->Sto->Option (P×Sto)):List D->Sto->Option (List P×Sto)
 | [],S=>some ([],S)
 | d::r,S=>bnd (f d S) fun v S1=>bnd (mapS f r S1) fun vs S2=>some (v::vs,S2)
noncomputable def toP:Nat->D->Sto->Option (P×Sto)
 | _,.p v,S=>some (v,S)
 | 0,.ref _,_=>none
 | n+1,.ref i,S=>match S[i]? with
  | some (.lst ds)=>bnd (mapS (toP n) ds S) fun vs S1=>some (.lst vs,S1.set i (.fz (.lst vs)))
  | some (.dct ks ds)=>bnd (mapS (toP n) ds S) fun vs S1=>some (.dct ks vs,S1.set i (.fz (.dct ks vs)))
  | some (.fz v)=>some (v,S)
  | some (.ins _ _ _)=>none
  | none=>none
@[simp] theorem toP_p (n:Nat) (v:P) (S:Sto):toP n (.p v) S=some (v,S):=by cases n <;> rfl
theorem mapS_ps (n:Nat):∀(vs:List P) (S:Sto),mapS (toP n) (vs.map .p) S=some (vs,S)
 | [],_=>rfl
 | v::r,S=>by simp [mapS,mapS_ps n r S]
theorem toP_lst {n:Nat}{i:Nat}{S:Sto}{vs:List P} (h:S[i]? = some (.lst (vs.map .p))):toP (n+1) (.ref i) S=some (.lst vs,S.set i (.fz (.lst vs))):=by
 simp [toP,h,mapS_ps]
section
variable {K:PySem.W.Frag}{F:Addr->Prop}{H:Hp}{m:List Addr}{S S':Sto}
theorem mapS_ok {f:D->Sto->Option (P×Sto)}
  (hf:∀{d:D}{x:V}{v:P}{F:Addr->Prop}{S S':Sto},f d S=some (v,S')->Rel K F H m S->RD K F H m d x->∃F',Stp F m H F' m H/\Rel K F' H m S'/\S'.length=S.length/\RP K F' H v x) :
  ∀{ds:List D}{xs:List V}{vs:List P}{F:Addr->Prop}{S S':Sto},mapS f ds S=some (vs,S')->Rel K F H m S->RDs K F H m ds xs->∃F',Stp F m H F' m H/\Rel K F' H m S'/\S'.length=S.length/\RPs K F' H vs xs
 | [],xs,vs,F,S,S',h,r,rd=>by
  cases h
  exact⟨F,.refl,r,rfl,rd⟩
 | d::ds,xs,vs,F,S,S',h,r,rd=>by
  obtain⟨x,xr,e,h1,h2⟩:=rd
  obtain⟨v,S1,e1,h⟩:=bnd_eq h
  obtain⟨vr,S2,e2,h⟩:=bnd_eq h
  cases h
  obtain⟨F1,s1,r1,l1,p1⟩:=hf e1 r h1
  obtain⟨F2,s2,r2,l2,p2⟩:=mapS_ok hf e2 r1 (RDs.mono s1 h2)
  exact⟨F2,s1.trans s2,r2,l2.trans l1,x,xr,e,RP.mono s2 p1,p2⟩
theorem toP_ok:∀(n:Nat) {d:D}{x:V}{v:P}{F:Addr->Prop}{S S':Sto},toP n d S=some (v,S')->Rel K F H m S->RD K F H m d x->∃F',Stp F m H F' m H/\Rel K F' H m S'/\S'.length=S.length/\RP K F' H v x
 | n,.p w,x,v,F,S,S',h,r,rd=>by
  rw [toP_p] at h;cases h
  exact⟨F,.refl,r,rfl,rd⟩
 | 0,.ref i,x,v,F,S,S',h,r,rd=>by cases h
 | n+1,.ref i,x,v,F,S,S',h,r,rd=>by
  obtain⟨a,e,hm⟩:=rd
  subst e
  have hi:i < S.length:=by rw [<- r.len];exact (List.getElem?_eq_some_iff.mp hm).1
  obtain⟨o,ho⟩:∃o,S[i]? = some o:=⟨S[i],by simp [hi]⟩
  have ob:=r.obj i a o hm ho
  simp only [toP,ho] at h
  cases o with
  | fz w=>
   cases h
   exact⟨F,.refl,r,rfl,ob⟩
  | ins c ks ds=>cases h
  | lst ds=>
   obtain⟨vs,S1,e1,h⟩:=bnd_eq h
   cases h
   obtain⟨xs,hH,rs⟩:=ob
   obtain⟨F1,s1,r1,l1,p1⟩:=mapS_ok (fun h=>toP_ok n h) e1 r rs
   obtain⟨o1,ho1⟩:∃o,S1[i]? = some o:=⟨S1[i]'(by rw [l1];exact hi),by simp [l1,hi]⟩
   have st:Stp F1 m H (fun b=>F1 b\/b=a) m H:=stp_frz (List.mem_of_getElem? hm)
   have q:RP K (fun b=>F1 b\/b=a) H (.lst vs) (.ref a):=⟨a,xs,rfl,⟨.inr rfl,hH⟩,RPs.mono st p1⟩
   exact⟨_,s1.trans st,r1.frz hm ho1 q,by rw [List.length_set];exact l1,q⟩
  | dct ks ds=>
   obtain⟨vs,S1,e1,h⟩:=bnd_eq h
   cases h
   obtain⟨kvs,hH,hk,rs⟩:=ob
   obtain⟨F1,s1,r1,l1,p1⟩:=mapS_ok (fun h=>toP_ok n h) e1 r rs
   obtain⟨o1,ho1⟩:∃o,S1[i]? = some o:=⟨S1[i]'(by rw [l1];exact hi),by simp [l1,hi]⟩
   have st:Stp F1 m H (fun b=>F1 b\/b=a) m H:=stp_frz (List.mem_of_getElem? hm)
   have q:RP K (fun b=>F1 b\/b=a) H (.dct ks vs) (.ref a):=⟨a,kvs,rfl,.inr rfl,hH,hk,RPs.mono st p1⟩
   exact⟨_,s1.trans st,r1.frz hm ho1 q,by rw [List.length_set];exact l1,q⟩
end
structure Grow (F:Addr->Prop) (H:Hp) (F':Addr->Prop) (H':Hp):Prop where
 keep:∀b o,H b=some o->H' b=some o
 frz:∀b,F b->F' b
 nf:∀b,F' b->F b\/(H b=none/\H' b≠none)
section
variable {K:PySem.W.Frag}{F F' F1 F2:Addr->Prop}{H H' H1 H2:Hp}{m:List Addr}{S S':Sto}
theorem Grow.refl:Grow F H F H:=⟨fun _ _ h=>h,fun _ h=>h,fun _ h=>.inl h⟩
theorem Grow.trans (a:Grow F H F1 H1) (b:Grow F1 H1 F2 H2):Grow F H F2 H2:=
 ⟨fun c o h=>b.keep c o (a.keep c o h),fun c h=>b.frz c (a.frz c h),fun c h=>by
  rcases b.nf c h with h | ⟨h,h2⟩
  ·rcases a.nf c h with h | ⟨h,h2⟩
   ·exact .inl h
   ·refine .inr ⟨h,?_⟩
    cases q:H1 c with
    | none=>exact absurd q h2
    | some o=>rw [b.keep c o q];exact fun z=>nomatch z
  ·refine .inr ⟨?_,h2⟩
   cases q:H c with
   | none=>rfl
   | some o=>rw [a.keep c o q] at h;cases h⟩
theorem Grow.stp (g:Grow F H F' H'):Stp F m H F' m H' where
 pre:=⟨[],by simp⟩
 oth:=fun b o h _=>g.keep b o h
 frz:=g.frz
 frk:=fun b o _ h=>g.keep b o h
 tup:=fun b xs h=>g.keep b _ h
 trk:=fun b h=>by
  cases q:H b with
  | none=>exact absurd q h
  | some o=>rw [g.keep b o q];exact fun z=>nomatch z
 nf:=fun b h=>by
  rcases g.nf b h with h | ⟨h,_⟩
  ·exact .inl h
  ·exact .inr (.inl h)
 nm:=fun _ h=>.inl h
theorem Rel.grow (r:Rel K F H m S) (g:Grow F H F' H'):Rel K F' H' m S:=
 r.stay g.stp (fun a u _ h=>g.keep a u h) (fun a f=>by
  rcases g.nf a f with f | ⟨f,_⟩
  ·exact .inl f
  ·exact .inr f) fun a f=>by
  rcases g.nf a f with f | ⟨_,f⟩
  ·exact (g.stp (m:=m)).trk a (r.ft a f)
  ·exact f
theorem grow_new {p:Addr}{o:HO} (hp:H p=none):Grow F H F (upd H p o):=
 ⟨fun b u h=>by rw [upd_ne (by rintro rfl;rw [hp] at h;cases h)];exact h,fun _ h=>h,fun _ h=>.inl h⟩
theorem grow_frz {p:Addr}{o:HO} (hp:H p=none):Grow F H (fun b=>F b\/b=p) (upd H p o):=
 ⟨fun b u h=>by rw [upd_ne (by rintro rfl;rw [hp] at h;cases h)];exact h,fun _ h=>.inl h,fun b h=>by
  rcases h with h | h
  ·exact .inl h
  ·subst h;exact .inr ⟨hp,by rw [upd_same];exact fun z=>nomatch z⟩⟩
theorem RP.grow {d:P}{v:V} (g:Grow F H F' H') (h:RP K F H d v):RP K F' H' d v:=RP.mono (m:=[]) g.stp h
theorem RPs.grow {d:List P}{v:List V} (g:Grow F H F' H') (h:RPs K F H d v):RPs K F' H' d v:=RPs.mono (m:=[]) g.stp h
theorem RP.newTup {p:Addr}{ds:List P}{xs:List V} (hp:H p=none) (r:RPs K F H ds xs):RP K F (upd H p (.tup xs)) (.tup ds) (.ref p):=⟨p,xs,rfl,.inl upd_same,r.grow (grow_new hp)⟩
theorem RP.newLst {p:Addr}{ds:List P}{xs:List V} (hp:H p=none) (r:RPs K F H ds xs):RP K (fun b=>F b\/b=p) (upd H p (.lst xs)) (.lst ds) (.ref p):=⟨p,xs,rfl,⟨.inr rfl,upd_same⟩,r.grow (grow_frz hp)⟩
end
noncomputable def vC (v:P):EV:=fun _ S=>some (v,S)
noncomputable def eVar (i:Nat):EE:=fun L S=>match L[i]? with
 | some (some d)=>some (d,S)
 | _=>none
noncomputable def vE (f:EE):EV:=fun L S=>bnd (f L S) (toP 9)
noncomputable def eV (f:EV):EE:=fun L S=>bnd (f L S) fun v S1=>some (.p v,S1)
noncomputable def vVar (i:Nat):EV:=vE (eVar i)
noncomputable def vOp (g:P->P->Option P) (a b:EV):EV:=fun L S=>bnd (a L S) fun x S1=>bnd (b L S1) fun y S2=>(g x y).map fun v=>(v,S2)
noncomputable def vUn (g:P->Option P) (a:EV):EV:=fun L S=>bnd (a L S) fun x S1=>(g x).map fun v=>(v,S1)
noncomputable def bV (a:EV):EB:=fun L S=>bnd (a L S) fun x S1=>match x with
 | .bl b=>some (b,S1)
 | _=>none
noncomputable def bAnd (a b:EB):EB:=fun L S=>bnd (a L S) fun c S1=>if c=true then b L S1 else some (false,S1)
noncomputable def bOr (a b:EB):EB:=fun L S=>bnd (a L S) fun c S1=>if c=true then some (true,S1) else b L S1
noncomputable def bNot (a:EB):EB:=fun L S=>bnd (a L S) fun c S1=>some (!c,S1)
noncomputable def vB (a:EB):EV:=fun L S=>bnd (a L S) fun c S1=>some (.bl c,S1)
noncomputable def vIf (c:EB) (a b:EV):EV:=fun L S=>bnd (c L S) fun k S1=>if k=true then a L S1 else b L S1
noncomputable def vsNil:EVs:=fun _ S=>some ([],S)
noncomputable def vsCons (a:EV) (r:EVs):EVs:=fun L S=>bnd (a L S) fun x S1=>bnd (r L S1) fun xs S2=>some (x::xs,S2)
noncomputable def vCall (g:List P->Option P) (a:EVs):EV:=fun L S=>bnd (a L S) fun xs S1=>(g xs).map fun v=>(v,S1)
noncomputable def sNx:ES:=fun L S=>some (.nx,L,S)
noncomputable def sSeq (f g:ES):ES:=fun L S=>match f L S with
 | some (.nx,L1,S1)=>g L1 S1
 | r=>r
noncomputable def sSet (i:Nat) (f:EE):ES:=fun L S=>bnd (f L S) fun d S1=>some (.nx,L.set i (some d),S1)
noncomputable def sRet (f:EE):ES:=fun L S=>bnd (f L S) fun d S1=>some (.rt d,L,S1)
noncomputable def sDrop (f:EE):ES:=fun L S=>bnd (f L S) fun _ S1=>some (.nx,L,S1)
noncomputable def sIf (c:EB) (a b:ES):ES:=fun L S=>bnd (c L S) fun k S1=>if k=true then a L S1 else b L S1
noncomputable def sNever:ES:=fun _ _=>none
noncomputable abbrev TGv:=P->Lc->Option Lc
noncomputable def gSet (i:Nat):TGv:=fun v L=>some (L.set i (some (.p v)))
noncomputable def forGo (g:TGv) (b:ES):List P->Lc->Sto->Option (Fl×Lc×Sto)
 | [],L,S=>some (.nx,L,S)
 | v::r,L,S=>match g v L with
  | none=>none
  | some L1=>match b L1 S with
   | some (.nx,L2,S2)=>forGo g b r L2 S2
   | some (.ct,L2,S2)=>forGo g b r L2 S2
   | some (.bk,L2,S2)=>some (.nx,L2,S2)
   | x=>x
noncomputable def sFor (it:EVs) (g:TGv) (b:ES):ES:=fun L S=>bnd (it L S) fun xs S1=>forGo g b xs L S1
noncomputable def whileGo (c:EB) (b:ES):Nat->Lc->Sto->Option (Fl×Lc×Sto)
 | 0,_,_=>none
 | n+1,L,S=>bnd (c L S) fun k S1=>if k=true then match b L S1 with
   | some (.nx,L2,S2)=>whileGo c b n L2 S2
   | some (.ct,L2,S2)=>whileGo c b n L2 S2
   | some (.bk,L2,S2)=>some (.nx,L2,S2)
   | x=>x
  else some (.nx,L,S1)
noncomputable def sWhile (n:Nat) (c:EB) (b:ES):ES:=whileGo c b n
end Ev
namespace Ev
open PySem PySem.Spec PyProof.Rows L2
section
variable (K:PySem.W.Frag)
structure RL (F:Addr->Prop) (H:Hp) (m:List Addr) (σ:L2.St) (L:Lc):Prop where
 len:σ.length=L.length
 at':∀(i:Nat) d,L[i]? = some (some d)->∃v,σ[i]? = some (some v)/\RD K F H m d v
noncomputable def tE (f:EE):TE:=fun σ H Q=>∃F m L S d S',Rel K F H m S/\RL K F H m σ L/\f L S=some (d,S')/\∀v F' m' H',Stp F m H F' m' H'->Rel K F' H' m' S'->RD K F' H' m' d v->Q v H'
noncomputable def tV (f:EV):TE:=fun σ H Q=>∃F m L S d S',Rel K F H m S/\RL K F H m σ L/\f L S=some (d,S')/\∀v F' m' H',Stp F m H F' m' H'->Rel K F' H' m' S'->RP K F' H' d v->Q v H'
noncomputable def tQ (f:EB):TT:=fun σ H Q=>∃F m L S b S',Rel K F H m S/\RL K F H m σ L/\f L S=some (b,S')/\∀F' m' H',Stp F m H F' m' H'->Rel K F' H' m' S'->Q b H'
noncomputable def tVs (f:EVs):TA:=fun σ H Q=>∃F m L S ds S',Rel K F H m S/\RL K F H m σ L/\f L S=some (ds,S')/\∀xs F' m' H',Stp F m H F' m' H'->Rel K F' H' m' S'->RPs K F' H' ds xs->Q xs H'
noncomputable def tFin (D:Ends) (F:Addr->Prop) (m:List Addr) (σ:L2.St) (H:Hp):Fl->Prop
 | .nx=>D.nx σ H
 | .bk=>D.bk σ H
 | .ct=>D.ct σ H
 | .rt d=>∀v,RD K F H m d v->D.rt v H
noncomputable def tSt (f:ES):TS:=fun D σ H=>∃F m L S fl L' S',Rel K F H m S/\RL K F H m σ L/\f L S=some (fl,L',S') /\
 ∀σ' F' m' H',Stp F m H F' m' H'->Rel K F' H' m' S'->RL K F' H' m' σ' L'->tFin K D F' m' σ' H' fl
end
section
variable {K:PySem.W.Frag}{F F':Addr->Prop}{H H':Hp}{m m':List Addr}{σ:L2.St}{L:Lc}{S:Sto}
theorem RL.mono (s:Stp F m H F' m' H') (h:RL K F H m σ L):RL K F' H' m' σ L:=⟨h.len,fun i d e=>by
 obtain⟨v,e1,r⟩:=h.at' i d e
 exact⟨v,e1,RD.mono s r⟩⟩
theorem RL.set (h:RL K F H m σ L) {d:D}{v:V} (r:RD K F H m d v) (i:Nat):RL K F H m (σ.set i (some v)) (L.set i (some d)):=⟨by rw [List.length_set,List.length_set];exact h.len,fun j e q=>by
 by_cases hj:i=j
 ·subst hj
  by_cases hi:i < L.length
  ·rw [List.getElem?_set_self hi] at q
   cases q
   exact⟨v,List.getElem?_set_self (by rw [h.len];exact hi),r⟩
  ·rw [List.getElem?_eq_none (by rw [List.length_set];omega)] at q;cases q
 ·rw [List.getElem?_set_ne hj] at q
  rw [List.getElem?_set_ne hj]
  exact h.at' j e q⟩
end
section
variable {X:Cx}{e:Expr}{es:List Expr}{st:Stmt}{sts:List Stmt}
theorem _root_.L2.PE.imp' {t t':TE} (h:PE X e t) (i:∀σ H Q,t' σ H Q->t σ H Q):PE X e t':=fun pins s σ H Q I q=>h pins s σ H Q I (i σ H Q q)
theorem _root_.L2.PT.imp' {t t':TT} (h:PT X e t) (i:∀σ H Q,t' σ H Q->t σ H Q):PT X e t':=fun pins s σ H Q I q=>h pins s σ H Q I (i σ H Q q)
theorem _root_.L2.PW.imp' {t t':TT} (h:PW X e t) (i:∀σ H Q,t' σ H Q->t σ H Q):PW X e t':=fun wh pins s σ H Q I q=>h wh pins s σ H Q I (i σ H Q q)
theorem _root_.L2.PA.imp' {t t':TA} (h:PA X es t) (i:∀σ H Q,t' σ H Q->t σ H Q):PA X es t':=fun pos pins s σ H Q I q=>h pos pins s σ H Q I (i σ H Q q)
theorem _root_.L2.PS.imp' {t t':TS} (h:PS X st t) (i:∀D σ H,t' D σ H->t D σ H):PS X st t':=fun pins s σ H D I q=>h pins s σ H D I (i D σ H q)
theorem _root_.L2.PSs.imp' {t t':TS} (h:PSs X sts t) (i:∀D σ H,t' D σ H->t D σ H):PSs X sts t':=fun pins s σ H D I q=>h pins s σ H D I (i D σ H q)
end
section
variable {X:Cx}{a b c e:Expr}{es:List Expr}{fa fb:EV}{fe:EE}{pos:Pos}
theorem xVE (h:PE X e (tE X.K fe)):PE X e (tV X.K (vE fe)):=h.imp' fun σ H Q hz=>by
 obtain⟨F,m,L,S,d,S',r,l,q,k⟩:=hz
 obtain⟨d0,S1,e1,e2⟩:=bnd_eq q
 refine⟨F,m,L,S,d0,S1,r,l,e1,fun v F' m' H' s r' rd=>?_⟩
 obtain⟨F2,s2,r2,_,p⟩:=toP_ok 9 e2 r' rd
 exact k v F2 m' H' (s.trans s2) r2 p
theorem xEV (h:PE X e (tV X.K fa)):PE X e (tE X.K (eV fa)):=h.imp' fun σ H Q hz=>by
 obtain⟨F,m,L,S,d,S',r,l,q,k⟩:=hz
 obtain⟨d0,S1,e1,e2⟩:=bnd_eq q
 cases e2
 exact⟨F,m,L,S,d0,S',r,l,e1,fun v F' m' H' s r' rd=>k v F' m' H' s r' rd⟩
theorem xVar (i:Nat) {x:Str}{pos:Pos} (hN:X.N[i]? = some x:=by rfl) (hv:Vis X.env.scope x:=by first | exact Or.inl rfl | exact Or.inr (Or.inl rfl) | exact Or.inr (Or.inr rfl)) (hd:(x == ("__debug__":Str))=false:=by decide)
  (hcd:(x == ("__classdict__":Str))=false:=by decide):PE X (.Name x pos) (tE X.K (eVar i)):=(pe_var hN hv hd hcd).imp' fun σ H Q hz=>by
 obtain⟨F,m,L,S,d,S',r,l,q,k⟩:=hz
 unfold eVar at q
 split at q
 ·rename_i d' e
  cases q
  obtain⟨v,e1,rd⟩:=l.at' i _ e
  exact⟨v,e1,k v F m H .refl r rd⟩
 ·cases q
theorem xC {v:V}{d:P} (h:PE X e (tC v)) (r:∀F H,RP X.K F H d v):PE X e (tV X.K (vC d)):=h.imp' fun σ H Q hz=>by
 obtain⟨F,m,L,S,d',S',r',l,q,k⟩:=hz
 cases q
 exact k v F m H .refl r' (r F H)
theorem xInt {i j pos}:PE X (.Constant (.int i) j pos) (tV X.K (vC (.int i))):=xC pe_int fun _ _=>rfl
theorem xBl {i j pos}:PE X (.Constant (.bool i) j pos) (tV X.K (vC (.bl i))):=xC pe_bl fun _ _=>rfl
theorem xNon {j pos}:PE X (.Constant .none j pos) (tV X.K (vC .non)):=xC pe_non fun _ _=>rfl
theorem xStr {i j pos}:PE X (.Constant (.str i) j pos) (tV X.K (vC (.str i))):=xC pe_str fun _ _=>rfl
noncomputable def rP (K:PySem.W.Frag) (g:P->P->Option P):R2:=fun x y H Q=>∃F dx dy d,(∀a,F a->H a≠none)/\RP K F H dx x/\RP K F H dy y/\g dx dy=some d/\∀v F' H',Grow F H F' H'->RP K F' H' d v->Q v H'
noncomputable def OpP (X:Cx) (f:Value->Value->Sem Value) (g:P->P->Option P):Prop:=OpR X f (rP X.K g)
theorem tOp_of {g:P->P->Option P}{σ:L2.St}{H:Hp}{Q:VK} (h:tV X.K (vOp g fa fb) σ H Q):tOp (rP X.K g) (tV X.K fa) (tV X.K fb) σ H Q:=by
 obtain⟨F,m,L,S,d,S',r,l,q,k⟩:=h
 obtain⟨x,S1,e1,q⟩:=bnd_eq q
 obtain⟨y,S2,e2,q⟩:=bnd_eq q
 refine⟨F,m,L,S,x,S1,r,l,e1,fun v F1 m1 H1 s1 r1 p1=>?_⟩
 refine⟨F1,m1,L,S1,y,S2,r1,l.mono s1,e2,fun u F2 m2 H2 s2 r2 p2=>?_⟩
 cases eg:g x y with
 | none=>rw [eg] at q;cases q
 | some z=>
  rw [eg] at q
  cases q
  refine⟨F2,x,y,_,r2.ft,RP.mono s2 p1,p2,eg,fun w F3 H3 gr p3=>?_⟩
  exact k w F3 m2 H3 (s1.trans (s2.trans gr.stp)) (r2.grow gr) p3
theorem xOp {op:Operator}{g:P->P->Option P} (ho:OpP X (binaryOp op) g) (ha:PE X a (tV X.K fa)) (hb:PE X b (tV X.K fb)):PE X (.BinOp a op b pos) (tV X.K (vOp g fa fb)):=
 (pe_op ho ha hb).imp' fun _ _ _ h=>tOp_of h
theorem xCmp {op:CmpOp}{g:P->P->Option P} (ho:OpP X (compareOp op) g) (ha:PE X a (tV X.K fa)) (hb:PE X b (tV X.K fb)) (hm:behindInMarks op b=false):PE X (.Compare a [op] [b] pos) (tV X.K (vOp g fa fb)):=
 (pe_cmpR ho ha hb hm).imp' fun _ _ _ h=>tOp_of h
theorem tTest_of {g:P->P->Option P}{σ:L2.St}{H:Hp}{Q:Bool->Hp->Prop} (h:tQ X.K (bV (vOp g fa fb)) σ H Q):tTest (tOp (rP X.K g) (tV X.K fa) (tV X.K fb)) σ H Q:=by
 refine tOp_of ?_
 obtain⟨F,m,L,S,d,S',r,l,q,k⟩:=h
 obtain⟨x,S1,e1,q⟩:=bnd_eq q
 cases x with
 | bl b=>cases q;exact⟨F,m,L,S,_,_,r,l,e1,fun v F' m' H' s r' p=>⟨_,p,k F' m' H' s r'⟩⟩
 | _=>cases q
theorem yCmp {op:CmpOp}{g:P->P->Option P} (ho:OpP X (compareOp op) g) (ha:PE X a (tV X.K fa)) (hb:PE X b (tV X.K fb)) (hm:behindInMarks op b=false):PT X (.Compare a [op] [b] pos) (tQ X.K (bV (vOp g fa fb))):=
 (pt_cmpR ho ha hb hm).imp' fun _ _ _ h=>tTest_of h
variable {qa qb:EB}{rest:List Expr}
theorem yAnd1 (ha:PT X a (tQ X.K qa)):PW X (.BoolOp .And [a] pos) (tQ X.K qa):=pw_and1 ha
theorem yOr1 (ha:PT X a (tQ X.K qa)):PW X (.BoolOp .Or [a] pos) (tQ X.K qa):=pw_or1 ha
theorem yAnd (ha:PT X a (tQ X.K qa)) (hb:PW X (.BoolOp .And (b::rest) pos) (tQ X.K qb)):PW X (.BoolOp .And (a::b::rest) pos) (tQ X.K (bAnd qa qb)):=
 (pw_and ha hb).imp' fun σ H Q hz=>by
  obtain⟨F,m,L,S,d,S',r,l,q,k⟩:=hz
  obtain⟨c,S1,e1,q⟩:=bnd_eq q
  refine⟨F,m,L,S,c,S1,r,l,e1,fun F' m' H' s r'=>?_⟩
  cases c with
  | true=>rw [if_pos rfl] at q ⊢;exact⟨F',m',L,S1,d,S',r',l.mono s,q,fun F2 m2 H2 s2 r2=>k F2 m2 H2 (s.trans s2) r2⟩
  | false=>rw [if_neg Bool.false_ne_true] at q ⊢;cases q;exact k F' m' H' s r'
theorem yOr (ha:PT X a (tQ X.K qa)) (hb:PW X (.BoolOp .Or (b::rest) pos) (tQ X.K qb)):PW X (.BoolOp .Or (a::b::rest) pos) (tQ X.K (bOr qa qb)):=
 (pw_or ha hb).imp' fun σ H Q hz=>by
  obtain⟨F,m,L,S,d,S',r,l,q,k⟩:=hz
  obtain⟨c,S1,e1,q⟩:=bnd_eq q
  refine⟨F,m,L,S,c,S1,r,l,e1,fun F' m' H' s r'=>?_⟩
  cases c with
  | false=>rw [if_neg Bool.false_ne_true] at q ⊢;exact⟨F',m',L,S1,d,S',r',l.mono s,q,fun F2 m2 H2 s2 r2=>k F2 m2 H2 (s.trans s2) r2⟩
  | true=>rw [if_pos rfl] at q ⊢;cases q;exact k F' m' H' s r'
theorem yNot (ha:PT X a (tQ X.K qa)):PT X (.UnaryOp .Not a pos) (tQ X.K (bNot qa)):=
 (pt_not ha).imp' fun σ H Q hz=>by
  obtain⟨F,m,L,S,d,S',r,l,q,k⟩:=hz
  obtain⟨c,S1,e1,q⟩:=bnd_eq q
  cases q
  exact⟨F,m,L,S,c,S',r,l,e1,fun F' m' H' s r'=>k F' m' H' s r'⟩
theorem xAnd1 {op} (h:PE X a (tV X.K (vB qa))):PE X (.BoolOp op [a] pos) (tV X.K (vB qa)):=pe_one h
theorem vB_of {σ:L2.St}{H:Hp}{Q:VK}{k:Bool->Hp->Prop} (h:tQ X.K qa σ H k) (hk:∀b H',k b H'->Q (.bl b) H'):tV X.K (vB qa) σ H Q:=by
 obtain⟨F,m,L,S,d,S',r,l,q,kk⟩:=h
 exact⟨F,m,L,S,.bl d,S',r,l,by unfold vB;rw [q];rfl,fun v F' m' H' s r' p=>by rw [show v=.bl d from p];exact hk _ _ (kk F' m' H' s r')⟩
theorem of_vB {σ:L2.St}{H:Hp}{Q:VK} (h:tV X.K (vB qa) σ H Q):tQ X.K qa σ H fun b H'=>Q (.bl b) H':=by
 obtain⟨F,m,L,S,d,S',r,l,q,kk⟩:=h
 obtain⟨c,S1,e1,q⟩:=bnd_eq q
 cases q
 exact⟨F,m,L,S,c,S',r,l,e1,fun F' m' H' s r'=>kk _ F' m' H' s r' rfl⟩
theorem xAnd (ha:PE X a (tV X.K (vB qa))) (hb:PE X (.BoolOp .And (b::rest) pos) (tV X.K (vB qb))):PE X (.BoolOp .And (a::b::rest) pos) (tV X.K (vB (bAnd qa qb))):=
 (pe_and ha hb).imp' fun σ H Q h=>by
  obtain⟨F,m,L,S,d,S',r,l,q,k⟩:=of_vB h
  obtain⟨c,S1,e1,q⟩:=bnd_eq q
  refine vB_of (k:=fun c H1=>if c=true then tV X.K (vB qb) σ H1 Q else Q (.bl false) H1) ⟨F,m,L,S,c,S1,r,l,e1,fun F' m' H' s r'=>?_⟩ fun b H' q=>⟨b,rfl,q⟩
  cases c with
  | true=>rw [if_pos rfl] at q ⊢;exact vB_of (k:=fun b H2=>Q (.bl b) H2) ⟨F',m',L,S1,d,S',r',l.mono s,q,fun F2 m2 H2 s2 r2=>k F2 m2 H2 (s.trans s2) r2⟩ fun _ _ q=>q
  | false=>rw [if_neg Bool.false_ne_true] at q ⊢;cases q;exact k F' m' H' s r'
theorem xOr (ha:PE X a (tV X.K (vB qa))) (hb:PE X (.BoolOp .Or (b::rest) pos) (tV X.K (vB qb))):PE X (.BoolOp .Or (a::b::rest) pos) (tV X.K (vB (bOr qa qb))):=
 (pe_or ha hb).imp' fun σ H Q h=>by
  obtain⟨F,m,L,S,d,S',r,l,q,k⟩:=of_vB h
  obtain⟨c,S1,e1,q⟩:=bnd_eq q
  refine vB_of (k:=fun c H1=>if c=true then Q (.bl true) H1 else tV X.K (vB qb) σ H1 Q) ⟨F,m,L,S,c,S1,r,l,e1,fun F' m' H' s r'=>?_⟩ fun b H' q=>⟨b,rfl,q⟩
  cases c with
  | false=>rw [if_neg Bool.false_ne_true] at q ⊢;exact vB_of (k:=fun b H2=>Q (.bl b) H2) ⟨F',m',L,S1,d,S',r',l.mono s,q,fun F2 m2 H2 s2 r2=>k F2 m2 H2 (s.trans s2) r2⟩ fun _ _ q=>q
  | true=>rw [if_pos rfl] at q ⊢;cases q;exact k F' m' H' s r'
theorem xNot (ha:PE X a (tV X.K (vB qa))):PE X (.UnaryOp .Not a pos) (tV X.K (vB (bNot qa))):=
 (pe_not ha).imp' fun σ H Q h=>by
  obtain⟨F,m,L,S,d,S',r,l,q,k⟩:=of_vB h
  obtain⟨c,S1,e1,q⟩:=bnd_eq q
  cases q
  exact vB_of (k:=fun b H'=>Q (.bl (!b)) H') ⟨F,m,L,S,c,S',r,l,e1,fun F' m' H' s r'=>k F' m' H' s r'⟩ fun b H' q=>⟨b,rfl,q⟩
theorem xBool (h:PE X e (tV X.K fa)):PE X e (tV X.K (vB (bV fa))):=h.imp' fun σ H Q h=>by
 obtain⟨F,m,L,S,d,S',r,l,q,k⟩:=of_vB h
 obtain⟨x,S1,e1,q⟩:=bnd_eq q
 cases x with
 | bl b=>cases q;exact⟨F,m,L,S,_,_,r,l,e1,fun v F' m' H' s r' p=>by cases (show v=.bl d from p);exact k F' m' H' s r'⟩
 | _=>cases q
theorem xIf {c:Expr} (hc:PT X c (tQ X.K qa)) (ha:PE X a (tV X.K fa)) (hb:PE X b (tV X.K fb)):PE X (.IfExp c a b pos) (tV X.K (vIf qa fa fb)):=
 (pe_ifExp hc ha hb).imp' fun σ H Q hz=>by
  obtain⟨F,m,L,S,d,S',r,l,q,k⟩:=hz
  obtain⟨c,S1,e1,q⟩:=bnd_eq q
  refine⟨F,m,L,S,c,S1,r,l,e1,fun F' m' H' s r'=>?_⟩
  cases c with
  | true=>rw [if_pos rfl] at q ⊢;exact⟨F',m',L,S1,d,S',r',l.mono s,q,fun v F2 m2 H2 s2 r2=>k v F2 m2 H2 (s.trans s2) r2⟩
  | false=>rw [if_neg Bool.false_ne_true] at q ⊢;exact⟨F',m',L,S1,d,S',r',l.mono s,q,fun v F2 m2 H2 s2 r2=>k v F2 m2 H2 (s.trans s2) r2⟩
variable {fs:EVs}
theorem aNil:PA X [] (tVs X.K vsNil):=pa_nil.imp' fun σ H Q hz=>by
 obtain⟨F,m,L,S,d,S',r,l,q,k⟩:=hz
 cases q
 exact k [] F m H .refl r rfl
theorem aCons (ha:PE X e (tV X.K fa)) (hr:PA X es (tVs X.K fs)) (hs:starEach (e::es) X.env=(false,eval e X.env)::starEach es X.env:=by rfl):PA X (e::es) (tVs X.K (vsCons fa fs)):=
 (pa_cons ha hr hs).imp' fun σ H Q hz=>by
  obtain⟨F,m,L,S,d,S',r,l,q,k⟩:=hz
  obtain⟨x,S1,e1,q⟩:=bnd_eq q
  obtain⟨xs,S2,e2,q⟩:=bnd_eq q
  cases q
  refine⟨F,m,L,S,x,S1,r,l,e1,fun v F1 m1 H1 s1 r1 p1=>?_⟩
  refine⟨F1,m1,L,S1,xs,S',r1,l.mono s1,e2,fun vs F2 m2 H2 s2 r2 p2=>?_⟩
  exact k (v::vs) F2 m2 H2 (s1.trans s2) r2 ⟨v,vs,rfl,RP.mono s2 p1,p2⟩
noncomputable def few {α:Type} (xs:List α):Bool:=decide (xs.length≤1000000)
theorem few_le {α:Type}{xs:List α} (h:few xs=true):xs.length≤sizeLine:=Nat.le_trans (of_decide_eq_true h) (by decide)
noncomputable def vTup' (a:EVs):EV:=fun L S=>bnd (a L S) fun xs S1=>if few xs=true then some (.tup xs,S1) else none
noncomputable def vLst' (a:EVs):EV:=fun L S=>bnd (a L S) fun xs S1=>if few xs=true then some (.lst xs,S1) else none
noncomputable def eLst' (a:EVs):EE:=fun L S=>bnd (a L S) fun xs S1=>if few xs=true then some (.ref S1.length,S1++[.lst (xs.map .p)]) else none
theorem xTup {x1} (h:PA X es (tVs X.K fs)):PE X (.Tuple es x1 pos) (tV X.K (vTup' fs)):=(pe_tup h).imp' fun σ H Q hz=>by
 obtain⟨F,m,L,S,d,S',r,l,q,k⟩:=hz
 obtain⟨xs,S1,e1,q⟩:=bnd_eq q
 split at q
 ·rename_i hf
  cases q
  refine⟨F,m,L,S,xs,S',r,l,e1,fun vs F1 m1 H1 s1 r1 p1=>⟨by rw [<- p1.length];exact few_le hf,fun p hp=>?_⟩⟩
  exact k (.ref p) F1 m1 _ (s1.trans (grow_new hp).stp) (r1.grow (grow_new hp)) (.newTup hp p1)
 ·cases q
theorem xLst (h:PA X es (tVs X.K fs)):PE X (.List es pos) (tV X.K (vLst' fs)):=(pe_lst h).imp' fun σ H Q hz=>by
 obtain⟨F,m,L,S,d,S',r,l,q,k⟩:=hz
 obtain⟨xs,S1,e1,q⟩:=bnd_eq q
 split at q
 ·rename_i hf
  cases q
  refine⟨F,m,L,S,xs,S',r,l,e1,fun vs F1 m1 H1 s1 r1 p1=>⟨by rw [<- p1.length];exact few_le hf,fun p hp=>?_⟩⟩
  exact k (.ref p) _ m1 _ (s1.trans (grow_frz hp).stp) (r1.grow (grow_frz hp)) (.newLst hp p1)
 ·cases q
theorem xLstE (h:PA X es (tVs X.K fs)):PE X (.List es pos) (tE X.K (eLst' fs)):=(pe_lst h).imp' fun σ H Q hz=>by
 obtain⟨F,m,L,S,d,S',r,l,q,k⟩:=hz
 obtain⟨xs,S1,e1,q⟩:=bnd_eq q
 split at q
 ·rename_i hf
  cases q
  refine⟨F,m,L,S,xs,S1,r,l,e1,fun vs F1 m1 H1 s1 r1 p1=>⟨by rw [<- p1.length];exact few_le hf,fun p hp=>?_⟩⟩
  have s2:Stp F1 m1 H1 F1 (m1++[p]) (upd H1 p (.lst vs)):=stp_own hp
  refine k (.ref p) F1 (m1++[p]) _ (s1.trans s2) (r1.own hp ⟨vs,upd_same,RDs.ofP (RPs.mono s2 p1)⟩) ⟨p,rfl,?_⟩
  rw [<- r1.len,List.getElem?_append_right (Nat.le_refl _)];simp
 ·cases q
noncomputable def rC (K:PySem.W.Frag) (g:List P->Option P):List V->Hp->VK->Prop:=fun xs H Q=>∃F ds d,(∀a,F a->H a≠none)/\RPs K F H ds xs/\g ds=some d/\∀v F' H',Grow F H F' H'->RP K F' H' d v->Q v H'
theorem tCB_of {g:List P->Option P}{σ:L2.St}{H:Hp}{Q:VK} (h:tV X.K (vCall g fs) σ H Q):tVs X.K fs σ H fun vs H1=>rC X.K g vs H1 Q:=by
 obtain⟨F,m,L,S,d,S',r,l,q,k⟩:=h
 obtain⟨xs,S1,e1,q⟩:=bnd_eq q
 cases eg:g xs with
 | none=>rw [eg] at q;cases q
 | some z=>
  rw [eg] at q
  cases q
  exact⟨F,m,L,S,xs,_,r,l,e1,fun vs F1 m1 H1 s1 r1 p1=>⟨F1,xs,_,r1.ft,p1,eg,fun v F2 H2 gr p=>k v F2 m1 H2 (s1.trans gr.stp) (r1.grow gr) p⟩⟩
theorem xCallB {x:Str}{p:Pos}{id:String}{g:List P->Option P} (hc:CallR X (.builtin id) (rC X.K g)) (hg:Gl X x) (hm:X.mg x=none) (hv:bootBuiltins x=some (.builtin id)) (ha:PA X (e::es) (tVs X.K fs)) (hn:x≠"__name__":=by decide) (hdb:(x == ("__debug__":Str))=false:=by decide)
  (he:starEach (e::es) X.env=(false,eval e X.env)::starEach es X.env:=by rfl) (hpl:(backTo pos (starEach es X.env)).any (·.1)=false:=by rfl):PE X (.Call (.Name x p) (e::es) [] pos) (tV X.K (vCall g fs)):=
 (pe_callB hc hg hm hv ha hn hdb he hpl).imp' fun _ _ _ h=>tCB_of h
theorem xCallT {x:Str}{p:Pos}{T:String}{g:List P->Option P} (hc:CallR X (.type T) (rC X.K g)) (hg:Gl X x) (hm:X.mg x=none) (hv:bootBuiltins x=some (.type T)) (ha:PA X (e::es) (tVs X.K fs)) (hn:x≠"__name__":=by decide) (hdb:(x == ("__debug__":Str))=false:=by decide)
  (he:starEach (e::es) X.env=(false,eval e X.env)::starEach es X.env:=by rfl) (hpl:(backTo pos (starEach es X.env)).any (·.1)=false:=by rfl):PE X (.Call (.Name x p) (e::es) [] pos) (tV X.K (vCall g fs)):=
 (pe_callTy hc hg hm hv ha hn hdb he hpl).imp' fun _ _ _ h=>tCB_of h
noncomputable def spV (K:PySem.W.Frag) (g:List P->Option P):Sp:=fun vs H Q _=>rC K g vs H Q
theorem xCall {f:Addr}{fd:FuncData}{ps:List Str}{k:Nat}{x:Str}{p:Pos}{g:List P->Option P} (G:FnOk X.prog X.w X.K X.mg X.base CX0 k f fd ps (spV X.K g)) (hr:Room k X.A) (hg:Gl X x) (hm:X.mg x=some (.ref f)) (hk:PySem.W.keepIn X.K (.ref f)=true) (hb:Binds X.K fd ps [])
  (ha:PA X (e::es) (tVs X.K fs)) (hdb:(x == ("__debug__":Str))=false:=by decide) (he:starEach (e::es) X.env=(false,eval e X.env)::starEach es X.env:=by rfl) (hpl:(backTo pos (starEach es X.env)).any (·.1)=false:=by rfl) :
  PE X (.Call (.Name x p) (e::es) [] pos) (tV X.K (vCall g fs)):=
 (pe_call G hr hg hm hk hb .nil pass0 ha hdb he hpl).imp' fun σ H Q h=>by
  obtain⟨F,m,L,S,ds,S',r,l,q,k⟩:=tCB_of h
  exact⟨F,m,L,S,ds,S',r,l,q,fun xs F' m' H' s r' p=>by show spV X.K g (xs++[]) H' Q E0;rw [List.append_nil];exact k xs F' m' H' s r' p⟩
end
section
variable {X:Cx}{a b e:Expr}{st:Stmt}{rest bs cs:List Stmt}{f g:ES}{fe:EE}{qa:EB}{pos:Pos}
theorem zNil:PSs X [] (tSt X.K sNx):=pss_nil.imp' fun D σ H hz=>by
 obtain⟨F,m,L,S,fl,L',S',r,l,q,k⟩:=hz
 cases q
 exact k σ F m H .refl r l
theorem zCons (h1:PS X st (tSt X.K f)) (h2:PSs X rest (tSt X.K g)):PSs X (st::rest) (tSt X.K (sSeq f g)):=(pss_cons h1 h2).imp' fun D σ H hz=>by
 obtain⟨F,m,L,S,fl,L',S',r,l,q,k⟩:=hz
 cases ef:f L S with
 | none=>rw [show sSeq f g L S=none by unfold sSeq;rw [ef]] at q;cases q
 | some x=>
  obtain⟨fl1,L1,S1⟩:=x
  cases fl1 with
  | nx=>
   have q':g L1 S1=some (fl,L',S'):=by have:=q;unfold sSeq at this;rw [ef] at this;exact this
   exact⟨F,m,L,S,.nx,L1,S1,r,l,ef,fun σ1 F1 m1 H1 s1 r1 l1=>⟨F1,m1,L1,S1,fl,L',S',r1,l1,q',fun σ2 F2 m2 H2 s2 r2 l2=>k σ2 F2 m2 H2 (s1.trans s2) r2 l2⟩⟩
  | rt d=>
   have q':some (Fl.rt d,L1,S1)=some (fl,L',S'):=by have:=q;unfold sSeq at this;rw [ef] at this;exact this
   cases q'
   exact⟨F,m,L,S,_,_,_,r,l,ef,fun σ1 F1 m1 H1 s1 r1 l1=>k σ1 F1 m1 H1 s1 r1 l1⟩
  | bk=>
   have q':some (Fl.bk,L1,S1)=some (fl,L',S'):=by have:=q;unfold sSeq at this;rw [ef] at this;exact this
   cases q'
   exact⟨F,m,L,S,_,_,_,r,l,ef,fun σ1 F1 m1 H1 s1 r1 l1=>k σ1 F1 m1 H1 s1 r1 l1⟩
  | ct=>
   have q':some (Fl.ct,L1,S1)=some (fl,L',S'):=by have:=q;unfold sSeq at this;rw [ef] at this;exact this
   cases q'
   exact⟨F,m,L,S,_,_,_,r,l,ef,fun σ1 F1 m1 H1 s1 r1 l1=>k σ1 F1 m1 H1 s1 r1 l1⟩
theorem zOne (h1:PS X st (tSt X.K f)):PSs X [st] (tSt X.K f):=pss_one h1
theorem zRet (h:PE X e (tE X.K fe)):PS X (.Return (some e) pos) (tSt X.K (sRet fe)):=(ps_ret h).imp' fun D σ H hz=>by
 obtain⟨F,m,L,S,fl,L',S',r,l,q,k⟩:=hz
 obtain⟨d,S1,e1,q⟩:=bnd_eq q
 cases q
 exact⟨F,m,L,S,d,S',r,l,e1,fun v F' m' H' s r' p=>k σ F' m' H' s r' (l.mono s) v p⟩
theorem zDrop (h:PE X e (tE X.K fe)) (hs:swapsWith e none pos.line X.env=pure false:=by rfl):PS X (.Expr e pos) (tSt X.K (sDrop fe)):=(ps_expr h hs).imp' fun D σ H hz=>by
 obtain⟨F,m,L,S,fl,L',S',r,l,q,k⟩:=hz
 obtain⟨d,S1,e1,q⟩:=bnd_eq q
 cases q
 exact⟨F,m,L,S,d,S',r,l,e1,fun v F' m' H' s r' p=>k σ F' m' H' s r' (l.mono s)⟩
theorem zSet (i:Nat) {x:Str}{pos':Pos} (hN:X.N.Nodup) (h:PE X e (tE X.K fe)) (hi:X.N[i]? = some x:=by rfl) (hx:Loc X.env.scope x:=by first | exact Or.inl rfl | exact Or.inr rfl) (hs:swapsWith e (some (.Name x pos')) pos.line X.env=pure false:=by rfl)
  (hf:X.fn x=true\/X.env.scope.names.lookup x=some .local:=by first | exact .inl rfl | exact .inr rfl | assumption):PS X (.Assign [.Name x pos'] e pos) (tSt X.K (sSet i fe)):=
 (ps_set hN hi hx h hs hf).imp' fun D σ H hz=>by
  obtain⟨F,m,L,S,fl,L',S',r,l,q,k⟩:=hz
  obtain⟨d,S1,e1,q⟩:=bnd_eq q
  cases q
  exact⟨F,m,L,S,d,S',r,l,e1,fun v F' m' H' s r' p=>k (σ.set i (some v)) F' m' H' s r' ((l.mono s).set p i)⟩
theorem zIf {c:Expr} (hc:PT X c (tQ X.K qa)) (ha:PSs X bs (tSt X.K f)) (hb:PSs X cs (tSt X.K g)):PS X (.If c bs cs pos) (tSt X.K (sIf qa f g)):=(ps_if hc ha hb).imp' fun D σ H hz=>by
 obtain⟨F,m,L,S,fl,L',S',r,l,q,k⟩:=hz
 obtain⟨c,S1,e1,q⟩:=bnd_eq q
 refine⟨F,m,L,S,c,S1,r,l,e1,fun F' m' H' s r'=>?_⟩
 cases c with
 | true=>rw [if_pos rfl] at q ⊢;exact⟨F',m',L,S1,fl,L',S',r',l.mono s,q,fun σ2 F2 m2 H2 s2 r2 l2=>k σ2 F2 m2 H2 (s.trans s2) r2 l2⟩
 | false=>rw [if_neg Bool.false_ne_true] at q ⊢;exact⟨F',m',L,S1,fl,L',S',r',l.mono s,q,fun σ2 F2 m2 H2 s2 r2 l2=>k σ2 F2 m2 H2 (s.trans s2) r2 l2⟩
theorem zNever:PS X st (tSt X.K sNever):=ps_never.imp' fun D σ H hz=>by obtain⟨F,m,L,S,fl,L',S',r,l,q,k⟩:=hz;cases q
noncomputable def gT (K:PySem.W.Frag) (g:TGv):TG:=fun x σ H Q=>∃F m L v L',RL K F H m σ L/\RP K F H v x/\g v L=some L'/\∀σ',RL K F H m σ' L'->Q σ' H
theorem _root_.L2.PG.imp' {tg:Expr}{t t':TG} (h:PG X tg t) (i:∀v σ H Q,t' v σ H Q->t v σ H Q):PG X tg t':=fun pins s σ H v u Q I r q=>h pins s σ H v u Q I r (i v σ H Q q)
theorem gName' (i:Nat) {x:Str} (hN:X.N.Nodup) (hi:X.N[i]? = some x:=by rfl) (hx:Loc X.env.scope x:=by first | exact Or.inl rfl | exact Or.inr rfl) (hf:X.fn x=true\/X.env.scope.names.lookup x=some .local:=by first | exact .inl rfl | exact .inr rfl | assumption) :
  PG X (.Name x pos) (gT X.K (gSet i)):=(pg_name hN hi hx hf).imp' fun v σ H Q hz=>by
 obtain⟨F,m,L,d,L',l,p,q,k⟩:=hz
 cases q
 exact k _ (l.set (d:=.p d) p i)
noncomputable def ItP (K:PySem.W.Frag) (J:It) (vs:List P) (F:Addr->Prop) (m:List Addr) (H:Hp):Prop:=∀F2 m2 H2,Stp F m H F2 m2 H2 ->
 (∀(i:Nat) v,vs[i]? = some v->J.go i H2/\∀x H3,J.yld i H2 x H3->∃F3,Grow F2 H2 F3 H3/\RP K F3 H3 v x)/\J.stop vs.length H2
noncomputable def tI (K:PySem.W.Frag) (f:EVs):TI:=fun σ H R=>∃F m L S vs S',Rel K F H m S/\RL K F H m σ L/\f L S=some (vs,S')/\∀J F' m' H',Stp F m H F' m' H'->Rel K F' H' m' S'->ItP K J vs F' m' H'->R J H'
theorem zFor {tg iter:Expr}{fi:EVs}{g:TGv}{body:List Stmt}{fb:ES} (hp:PassesOwn (model X.prog X.w) X.A X.env X.xe) (hc:X.calm=true) (hi:PI X tg iter (tI X.K fi)) (hg:PG X tg (gT X.K g)) (hb:PSs X body (tSt X.K fb))
  (hs:∀x,foldedSetIterable iter X.env x=pure x:=by intro _;rfl):PS X (.For tg iter body [] pos) (tSt X.K (sFor fi g fb)):=
 (ps_for hp hc hi hg hb hs).imp' fun D σ H hz=>by
  obtain⟨F,m,L,S,fl,L',S',r,l,q,k⟩:=hz
  obtain⟨vs,S1,e1,q⟩:=bnd_eq q
  refine⟨F,m,L,S,vs,S1,r,l,e1,fun J F1 m1 H1 s1 r1 it=>?_⟩
  refine⟨fun i n σ2 H2=>n=vs.length-i/\i≤vs.length/\∃F2 m2 L2 S2,Stp F1 m1 H1 F2 m2 H2/\Rel X.K F2 H2 m2 S2/\RL X.K F2 H2 m2 σ2 L2/\forGo g fb (vs.drop i) L2 S2=some (fl,L',S'),
   ⟨vs.length,rfl,Nat.zero_le _,F1,m1,L,S1,.refl,r1,l.mono s1,by rw [List.drop_zero];exact q⟩,?_⟩
  rintro i n σ2 H2 ⟨rfl,hi,F2,m2,L2,S2,s2,r2,l2,q2⟩
  obtain⟨go,stop⟩:=it F2 m2 H2 s2
  by_cases hlt:i < vs.length
  ·right
   have hv:vs[i]? = some vs[i]:=by simp [hlt]
   rw [List.drop_eq_getElem_cons hlt] at q2
   obtain⟨hgo,hy⟩:=go i _ hv
   refine⟨hgo,fun σ3 H3=>∃n',n' < vs.length-i/\(n'=vs.length-(i+1)/\i+1≤vs.length/\∃F2 m2 L2 S2,Stp F1 m1 H1 F2 m2 H3/\Rel X.K F2 H3 m2 S2/\RL X.K F2 H3 m2 σ3 L2/\forGo g fb (vs.drop (i+1)) L2 S2=some (fl,L',S')),fun _ _ z=>z,fun x H3 y=>?_⟩
   obtain⟨F3,gr,p3⟩:=hy x H3 y
   unfold forGo at q2
   cases eg:g vs[i] L2 with
   | none=>rw [eg] at q2;cases q2
   | some L3=>
    rw [eg] at q2
    dsimp only at q2
    refine⟨F3,m2,L2,vs[i],L3,l2.mono gr.stp,p3,eg,fun σ3 l3=>?_⟩
    have s3:Stp F1 m1 H1 F3 m2 H3:=s2.trans gr.stp
    have r3:=r2.grow gr
    cases eb:fb L3 S2 with
    | none=>rw [eb] at q2;cases q2
    | some z=>
     obtain⟨flb,L4,S4⟩:=z
     rw [eb] at q2
     refine⟨F3,m2,L3,S2,flb,L4,S4,r3,l3,eb,fun σ4 F4 m4 H4 s4 r4 l4=>?_⟩
     cases flb with
     | nx=>exact⟨vs.length-(i+1),by omega,rfl,hlt,F4,m4,L4,S4,s3.trans s4,r4,l4,q2⟩
     | ct=>exact⟨vs.length-(i+1),by omega,rfl,hlt,F4,m4,L4,S4,s3.trans s4,r4,l4,q2⟩
     | bk=>cases q2;exact k σ4 F4 m4 H4 (s1.trans (s3.trans s4)) r4 l4
     | rt d=>cases q2;exact k σ4 F4 m4 H4 (s1.trans (s3.trans s4)) r4 l4
  ·left
   have e:i=vs.length:=by omega
   subst e
   rw [List.drop_length] at q2
   cases q2
   exact⟨stop,k σ2 F2 m2 H2 (s1.trans s2) r2 l2⟩
theorem zWhile {c:Expr}{n:Nat}{fb:ES}{body:List Stmt} (hp:PassesOwn (model X.prog X.w) X.A X.env X.xe) (hc:PT X c (tQ X.K qa)) (hb:PSs X body (tSt X.K fb)):PS X (.While c body [] pos) (tSt X.K (sWhile n qa fb)):=
 (ps_while hp hc hb).imp' fun D σ H hz=>by
  obtain⟨F,m,L,S,fl,L',S',r,l,q,k⟩:=hz
  refine⟨fun n σ2 H2=>∃F2 m2 L2 S2,Stp F m H F2 m2 H2/\Rel X.K F2 H2 m2 S2/\RL X.K F2 H2 m2 σ2 L2/\whileGo qa fb n L2 S2=some (fl,L',S'),⟨n,F,m,L,S,.refl,r,l,q⟩,?_⟩
  rintro n σ2 H2 ⟨F2,m2,L2,S2,s2,r2,l2,q2⟩
  cases n with
  | zero=>cases q2
  | succ n=>
   obtain⟨c,S3,e3,q3⟩:=bnd_eq (show bnd (qa L2 S2) _=_ from q2)
   refine⟨F2,m2,L2,S2,c,S3,r2,l2,e3,fun F3 m3 H3 s3 r3=>?_⟩
   cases c with
   | false=>
    rw [if_neg Bool.false_ne_true] at q3 ⊢
    cases q3
    exact k σ2 F3 m3 H3 (s2.trans s3) r3 (l2.mono s3)
   | true=>
    rw [if_pos rfl] at q3 ⊢
    cases eb:fb L2 S3 with
    | none=>rw [eb] at q3;cases q3
    | some z=>
     obtain⟨flb,L4,S4⟩:=z
     rw [eb] at q3
     refine⟨fun σ4 H4=>∃m',m' < n+1/\∃F2 m2 L2 S2,Stp F m H F2 m2 H4/\Rel X.K F2 H4 m2 S2/\RL X.K F2 H4 m2 σ4 L2/\whileGo qa fb m' L2 S2=some (fl,L',S'),fun _ _ z=>z,F3,m3,L2,S3,flb,L4,S4,r3,l2.mono s3,eb,fun σ4 F4 m4 H4 s4 r4 l4=>?_⟩
     cases flb with
     | nx=>exact⟨n,Nat.lt_succ_self _,F4,m4,L4,S4,s2.trans (s3.trans s4),r4,l4,q3⟩
     | ct=>exact⟨n,Nat.lt_succ_self _,F4,m4,L4,S4,s2.trans (s3.trans s4),r4,l4,q3⟩
     | bk=>cases q3;exact k σ4 F4 m4 H4 (s2.trans (s3.trans s4)) r4 l4
     | rt d=>cases q3;exact k σ4 F4 m4 H4 (s2.trans (s3.trans s4)) r4 l4
end
theorem Stp.toGrow {F F':Addr->Prop}{m':List Addr}{H H':Hp} (s:Stp F [] H F' m' H') (ft:∀a,F' a->H' a≠none):Grow F H F' H':=
 ⟨fun b o h=>s.oth b o h (by simp),s.frz,fun b h=>by
  rcases s.nf b h with q | q | q
  ·exact .inl q
  ·exact .inr ⟨q,ft b h⟩
  ·simp at q⟩
end Ev
namespace Ev
open PySem PySem.Spec PyProof.Rows L2
theorem noS {α:Prop}{β:Type}{d:β} (h:(none:Option β)=some d):α:=nomatch h
noncomputable def capN (n:Nat):Bool:=decide (n≤1000000)
theorem capN_le {n:Nat} (h:capN n=true):n≤sizeLine:=Nat.le_trans (of_decide_eq_true h) (by decide)
section
variable {X:Cx}
noncomputable def dAdd:P->P->Option P
 | .int i,.int j=>some (.int (i+j))
 | .str x,.str y=>if capN (x.length+y.length)=true then some (.str (x++y)) else none
 | .tup xs,.tup ys=>if (!xs.isEmpty && capN (xs.length+ys.length))=true then some (.tup (xs++ys)) else none
 | .lst xs,.lst ys=>if capN (xs.length+ys.length)=true then some (.lst (xs++ys)) else none
 | _,_=>none
theorem opAdd:OpP X (binaryOp .Add) dAdd:=by
 intro pins s σ H x y v u Q I rx ry h
 obtain⟨F,dx,dy,d,ft,px,py,q,k⟩:=h
 cases dx with
 | int i=>
  cases dy with
  | int j=>
   cases q
   cases (show x=.int i from px);cases (show y=.int j from py)
   exact op_add pins s σ H _ _ v u Q I rx ry ⟨i,j,rfl,rfl,k _ F H .refl rfl⟩
  | _=>exact noS q
 | str i=>
  cases dy with
  | str j=>
   simp only [dAdd] at q
   split at q
   ·rename_i hc
    cases q
    cases (show x=.str i from px);cases (show y=.str j from py)
    exact op_add_str pins s σ H _ _ v u Q I rx ry ⟨i,j,rfl,rfl,capN_le hc,k _ F H .refl rfl⟩
   ·cases q
  | _=>exact noS q
 | tup ds=>
  cases dy with
  | tup es=>
   simp only [dAdd] at q
   split at q
   ·rename_i hc
    rw [Bool.and_eq_true] at hc
    cases q
    obtain⟨a,xs,rfl,ta,ra⟩:=px
    obtain⟨b,ys,rfl,tb,rb⟩:=py
    have la:=ra.length
    have lb:=rb.length
    have nx:xs≠[]:=fun z=>by
     subst z
     have:ds=[]:=List.eq_nil_of_length_eq_zero la
     subst this
     simp at hc
    refine op_catT pins s σ H _ _ v u Q I rx ry ⟨a,b,xs,ys,rfl,rfl,ta.sq,tb.sq,nx,by rw [<- la,<- lb];exact capN_le hc.2,fun z=>?_,fun _ p hp=>?_⟩
    ·subst z
     have e:es=[]:=List.eq_nil_of_length_eq_zero lb
     subst e
     refine k _ F H .refl ?_
     rw [List.append_nil]
     exact⟨a,xs,rfl,ta,ra⟩
    ·exact k _ F _ (grow_new hp) (.newTup hp (ra.append rb))
   ·cases q
  | _=>exact noS q
 | lst ds=>
  cases dy with
  | lst es=>
   simp only [dAdd] at q
   split at q
   ·rename_i hc
    cases q
    obtain⟨a,xs,rfl,ta,ra⟩:=px
    obtain⟨b,ys,rfl,tb,rb⟩:=py
    exact op_cat pins s σ H _ _ v u Q I rx ry ⟨a,b,xs,ys,rfl,rfl,ta.2,tb.2,by rw [<- ra.length,<- rb.length];exact capN_le hc,fun p hp=>k _ _ _ (grow_frz hp) (.newLst hp (ra.append rb))⟩
   ·cases q
  | _=>exact noS q
 | _=>exact noS q
noncomputable def dII (c:Int->Int->Bool) (g:Int->Int->P):P->P->Option P
 | .int i,.int j=>if c i j=true then some (g i j) else none
 | _,_=>none
@[simp] theorem dII_int (c:Int->Int->Bool) (g:Int->Int->P) (i j:Int):dII c g (.int i) (.int j)=if c i j=true then some (g i j) else none:=rfl
theorem opII {f:Value->Value->Sem Value}{C:Int->Int->Prop}{gv:Int->Int->V}{c:Int->Int->Bool}{g:Int->Int->P} (ho:OpR X f (rI C gv)) (hc:∀i j,c i j=true->C i j) (hg:∀K F H i j,RP K F H (g i j) (gv i j)):OpP X f (dII c g):=by
 intro pins s σ H x y v u Q I rx ry h
 obtain⟨F,dx,dy,d,ft,px,py,q,k⟩:=h
 cases dx with
 | int i=>
  cases dy with
  | int j=>
   rw [dII_int] at q
   split at q
   ·rename_i hh
    cases q
    cases (show x=.int i from px);cases (show y=.int j from py)
    exact ho pins s σ H _ _ v u Q I rx ry ⟨i,j,rfl,rfl,hc i j hh,k _ F H .refl (hg _ _ _ _ _)⟩
   ·cases q
  | _=>exact noS q
 | _=>exact noS q
theorem rI_of0 {f:Value->Value->Sem Value}{gv:Int->Int->V} (h:OpR X f (rI0 gv)):OpR X f (rI (fun _ _=>True) gv):=fun pins s σ H x y v u Q I rx ry ⟨i,j,e1,e2,_,q⟩=>h pins s σ H x y v u Q I rx ry ⟨i,j,e1,e2,q⟩
noncomputable abbrev yes2:Int->Int->Bool:=fun _ _=>true
noncomputable abbrev dSub:=dII yes2 fun i j=>.int (i-j)
theorem opSub:OpP X (binaryOp .Sub) dSub:=opII (rI_of0 op_sub) (fun _ _ _=>trivial) fun _ _ _ _ _=>rfl
noncomputable abbrev posDiv:Int->Int->Bool:=fun _ j=>decide (0 < j) && decide (j < 1152921504606846976)
theorem op_fdivG:OpR X (binaryOp .FloorDiv) (rI (fun _ j=>0 < j/\j < 1152921504606846976) fun i j=>.int (i / j)):=opI fun i j _ _ _ _ _ hc q=>by
 have h1:(0:Int) < j:=hc.1
 have h2:j < 1152921504606846976:=hc.2
 have h3:j.natAbs.log2 < 9000:=Nat.lt_of_lt_of_le ((Nat.log2_lt (by omega)).mpr (show j.natAbs < 2 ^ 60 by omega)) (by decide)
 exact floordiv_int (by omega) (by rw [Int.fdiv_eq_ediv_of_nonneg i (by omega)];exact q) (.inl (PyProof.noPylong_of_log2 h3))
noncomputable abbrev dFloor:=dII posDiv fun i j=>.int (i / j)
theorem opFloor:OpP X (binaryOp .FloorDiv) dFloor:=opII op_fdivG (fun i j h=>by rw [Bool.and_eq_true] at h;exact⟨of_decide_eq_true h.1,of_decide_eq_true h.2⟩) fun _ _ _ _ _=>rfl
noncomputable abbrev dMod:=dII (fun _ j=>decide (0 < j)) fun i j=>.int (i % j)
theorem opMod:OpP X (binaryOp .Mod) dMod:=opII op_mod (fun i j h=>of_decide_eq_true h) fun _ _ _ _ _=>rfl
noncomputable abbrev dPow:=dII (fun i j=>decide (0≤j) && decide (j≤1000000) && decide (i.natAbs < 2 ^ 64)) fun i j=>.int (i ^ j.toNat)
theorem opPow:OpP X (binaryOp .Pow) dPow:=opII op_pow (fun i j h=>by simp only [Bool.and_eq_true] at h;exact⟨of_decide_eq_true h.1.1,of_decide_eq_true h.1.2,of_decide_eq_true h.2⟩) fun _ _ _ _ _=>rfl
noncomputable abbrev dLt:=dII yes2 fun i j=>.bl (decide (i < j))
theorem opLt:OpP X (compareOp .Lt) dLt:=opII (rI_of0 op_lt) (fun _ _ _=>trivial) fun _ _ _ _ _=>rfl
noncomputable abbrev dLe:=dII yes2 fun i j=>.bl (decide (i≤j))
theorem opLe:OpP X (compareOp .LtE) dLe:=opII (rI_of0 op_le) (fun _ _ _=>trivial) fun _ _ _ _ _=>rfl
noncomputable abbrev dGt:=dII yes2 fun i j=>.bl (decide (j < i))
theorem opGt:OpP X (compareOp .Gt) dGt:=opII (rI_of0 op_gt) (fun _ _ _=>trivial) fun _ _ _ _ _=>rfl
noncomputable abbrev dGe:=dII yes2 fun i j=>.bl (decide (j≤i))
theorem opGe:OpP X (compareOp .GtE) dGe:=opII (rI_of0 op_ge) (fun _ _ _=>trivial) fun _ _ _ _ _=>rfl
noncomputable def mulOk (i j:Int):Bool:=decide (i.natAbs.log2+j.natAbs.log2 < 100000000)
theorem mulOk_ok {i j:Int} (h:mulOk i j=true):IntMulOk i j:=by
 have h':i.natAbs.log2+j.natAbs.log2 < 100000000:=of_decide_eq_true h
 have b:∀x:Int,Builtin.Int.intBits x≤x.natAbs.log2+1:=fun x=>by
  unfold Builtin.Int.intBits
  split
  ·exact Nat.zero_le _
  ·exact Nat.le_refl _
 exact IntMulOk.of_le (b i) (b j) (by omega)
theorem op_mulG:OpR X (binaryOp .Mult) (rI (fun i j=>IntMulOk i j) fun i j=>.int (i * j)):=opI fun _ _ _ _ _ _ _ hc q=>mul_int q hc
noncomputable def strRep (x:Str) (n:Nat):Str:=⟨(List.replicate n x.cps).foldl (·++·) #[]⟩
theorem strRep_one (x:Str):strRep x 1=x:=by
 unfold strRep
 cases x
 simp
theorem foldl_nil (n:Nat):(List.replicate n (#[]:Array Nat)).foldl (·++·) #[]=#[]:=by
 induction n with
 | zero=>rfl
 | succ n ih=>rw [List.replicate_succ,List.foldl_cons];simpa using ih
theorem strRep_empty (x:Str) (n:Nat) (h:x.length=0):strRep x n=x:=by
 have e:x.cps=#[]:=Array.eq_empty_of_size_eq_zero (by simpa [Str.length] using h)
 unfold strRep
 cases x
 simp only at e
 subst e
 rw [foldl_nil]
theorem foldl_size (a:Array Nat) (n:Nat):∀b:Array Nat,((List.replicate n a).foldl (·++·) b).size=b.size+n * a.size:=by
 induction n with
 | zero=>intro b;simp
 | succ n ih=>intro b;rw [List.replicate_succ,List.foldl_cons,ih,Array.size_append,Nat.succ_mul];omega
theorem strRep_length (x:Str) (n:Nat):(strRep x n).length=n * x.length:=by
 unfold strRep Str.length
 simp only
 rw [foldl_size];simp
noncomputable def dMul:P->P->Option P
 | .int i,.int j=>if mulOk i j=true then some (.int (i * j)) else none
 | .str x,.int n=>if (capN (n.toNat * x.length) && decide (n.natAbs < 1000000))=true then some (.str (strRep x n.toNat)) else none
 | _,_=>none
theorem RPs.rep {K:PySem.W.Frag}{F:Addr->Prop}{H:Hp}{ds:List P}{xs:List V} (h:RPs K F H ds xs):∀k:Nat,RPs K F H (List.replicate k ds).flatten (List.replicate k xs).flatten
 | 0=>rfl
 | k+1=>by
  rw [List.replicate_succ,List.replicate_succ,List.flatten_cons,List.flatten_cons]
  exact h.append (RPs.rep h k)
theorem opMul:OpP X (binaryOp .Mult) dMul:=by
 intro pins s σ H x y v u Q I rx ry h
 obtain⟨F,dx,dy,d,ft,px,py,q,k⟩:=h
 cases dx with
 | int i=>
  cases dy with
  | int j=>
   simp only [dMul] at q
   split at q
   ·rename_i hc
    cases q
    cases (show x=.int i from px);cases (show y=.int j from py)
    exact op_mulG pins s σ H _ _ v u Q I rx ry ⟨i,j,rfl,rfl,mulOk_ok hc,k _ F H .refl rfl⟩
   ·cases q
  | _=>exact noS q
 | str i=>
  cases dy with
  | int n=>
   simp only [dMul] at q
   split at q
   ·rename_i hc
    rw [Bool.and_eq_true] at hc
    have h1:=of_decide_eq_true hc.2
    have h2:n.toNat * i.length≤1000000:=of_decide_eq_true hc.1
    have hn:=line63
    have hz:(1000000:Nat)≤sizeLine:=by decide
    cases q
    cases (show x=.str i from px);cases (show y=.int n from py)
    obtain⟨t,rfl⟩:=rx
    obtain⟨t',rfl⟩:=ry
    refine PySem.P.mul_str (by
      have e1:decide (n < -(2 ^ 63:Int))=false:=decide_eq_false (by omega)
      have e2:decide (n ≥ 2 ^ 63)=false:=decide_eq_false (by omega)
      rw [e1,e2];rfl) (fun a b=>?_) (fun a b=>?_) ?_
    ·intro z
     have hb:((i.length:Nat):Int)≤(2 ^ 63-1) / n:=by
      refine (Int.le_ediv_iff_mul_le (by omega)).mpr ?_
      have e:((i.length:Nat):Int) * n=((n.toNat * i.length:Nat):Int):=by
       rw [Int.natCast_mul,Int.toNat_of_nonneg (by omega),Int.mul_comm]
      rw [e];omega
     omega
    ·unfold Builtin.Str.tooLong
     first
      | exact decide_eq_false (by rw [Nat.mul_comm];omega)
      | (rw [Nat.mul_comm];exact decide_eq_false (by omega))
    ·have key:Q (.str (strRep i n.toNat)) H:=k _ F H .refl rfl
     by_cases c1:n < 1
     ·rw [if_pos c1]
      have e:n.toNat=0:=by omega
      rw [e] at key
      exact⟨by decide,⟨.str Str.empty,H,I.tok _,⟨_,rfl⟩,key⟩⟩
     ·rw [if_neg c1]
      by_cases c2:(n == 1 || i.length == 0)=true
      ·rw [if_pos c2]
       rw [Bool.or_eq_true] at c2
       have e:strRep i n.toNat=i:=by
        rcases c2 with c2 | c2
        ·have:n=1:=by simpa using c2
         subst this;exact strRep_one i
        ·exact strRep_empty i _ (by simpa using c2)
       rw [e] at key
       exact⟨.str i,H,I,⟨_,rfl⟩,key⟩
      ·rw [if_neg c2]
       refine⟨?_,⟨.str (strRep i n.toNat),H,I.tok _,⟨_,rfl⟩,key⟩⟩
       have:=strRep_length i n.toNat
       unfold strRep at this
       rw [this];omega
   ·cases q
  | _=>exact noS q
 | _=>exact noS q
noncomputable def dEq:P->P->Option P
 | .int i,.int j=>some (.bl (decide (i=j)))
 | .str x,.str y=>some (.bl (decide (x=y)))
 | .bl a,.bl b=>some (.bl (decide (a=b)))
 | _,_=>none
noncomputable def dNe:P->P->Option P
 | .int i,.int j=>some (.bl (!decide (i=j)))
 | .str x,.str y=>some (.bl (!decide (x=y)))
 | .bl a,.bl b=>some (.bl (!decide (a=b)))
 | _,_=>none
theorem dec_inj_int {i j:Int}:decide (V.int i=V.int j)=decide (i=j):=by
 by_cases h:i=j
 ·subst h;simp
 ·rw [decide_eq_false h,decide_eq_false fun z=>h (V.int.inj z)]
theorem dec_inj_str {i j:Str}:decide (V.str i=V.str j)=decide (i=j):=by
 by_cases h:i=j
 ·subst h;simp
 ·rw [decide_eq_false h,decide_eq_false fun z=>h (V.str.inj z)]
theorem dec_inj_bl {i j:Bool}:decide (V.bl i=V.bl j)=decide (i=j):=by
 by_cases h:i=j
 ·subst h;simp
 ·rw [decide_eq_false h,decide_eq_false fun z=>h (V.bl.inj z)]
theorem opEq:OpP X (compareOp .Eq) dEq:=by
 intro pins s σ H x y v u Q I rx ry h
 obtain⟨F,dx,dy,d,ft,px,py,q,k⟩:=h
 cases dx with
 | int i=>
  cases dy with
  | int j=>
   cases q
   cases (show x=.int i from px);cases (show y=.int j from py)
   exact op_eq pins s σ H _ _ v u Q I rx ry ⟨rfl,by rw [dec_inj_int];exact k _ F H .refl rfl⟩
  | _=>exact noS q
 | str i=>
  cases dy with
  | str j=>
   cases q
   cases (show x=.str i from px);cases (show y=.str j from py)
   exact op_eq pins s σ H _ _ v u Q I rx ry ⟨rfl,by rw [dec_inj_str];exact k _ F H .refl rfl⟩
  | _=>exact noS q
 | bl i=>
  cases dy with
  | bl j=>
   cases q
   cases (show x=.bl i from px);cases (show y=.bl j from py)
   exact op_eq pins s σ H _ _ v u Q I rx ry ⟨rfl,by rw [dec_inj_bl];exact k _ F H .refl rfl⟩
  | _=>exact noS q
 | _=>exact noS q
theorem opNe:OpP X (compareOp .NotEq) dNe:=by
 intro pins s σ H x y v u Q I rx ry h
 obtain⟨F,dx,dy,d,ft,px,py,q,k⟩:=h
 cases dx with
 | int i=>
  cases dy with
  | int j=>
   cases q
   cases (show x=.int i from px);cases (show y=.int j from py)
   exact op_ne pins s σ H _ _ v u Q I rx ry ⟨rfl,by rw [dec_inj_int];exact k _ F H .refl rfl⟩
  | _=>exact noS q
 | str i=>
  cases dy with
  | str j=>
   cases q
   cases (show x=.str i from px);cases (show y=.str j from py)
   exact op_ne pins s σ H _ _ v u Q I rx ry ⟨rfl,by rw [dec_inj_str];exact k _ F H .refl rfl⟩
  | _=>exact noS q
 | bl i=>
  cases dy with
  | bl j=>
   cases q
   cases (show x=.bl i from px);cases (show y=.bl j from py)
   exact op_ne pins s σ H _ _ v u Q I rx ry ⟨rfl,by rw [dec_inj_bl];exact k _ F H .refl rfl⟩
  | _=>exact noS q
 | _=>exact noS q
theorem atI_len {α β:Type}{xs:List α}{ys:List β}{i:Int}{d:α} (hl:xs.length=ys.length) (h:L2.atI xs i=some d):∃j:Nat,xs[j]? = some d/\∀y,ys[j]? = some y->L2.atI ys i=some y:=by
 unfold L2.atI at h ⊢
 rw [hl] at h
 cases e:ixN ys.length i with
 | none=>rw [e] at h;cases h
 | some j=>rw [e] at h;exact⟨j,h,fun y hy=>hy⟩
theorem RPs.atI {K:PySem.W.Frag}{F:Addr->Prop}{H:Hp}{ds:List P}{xs:List V}{i:Int}{d:P} (r:RPs K F H ds xs) (h:L2.atI ds i=some d):∃x,L2.atI xs i=some x/\RP K F H d x:=by
 obtain⟨j,h1,h2⟩:=atI_len r.length h
 obtain⟨x,e,p⟩:=r.get h1
 exact⟨x,h2 x e,p⟩
theorem RDs.atI {K:PySem.W.Frag}{F:Addr->Prop}{H:Hp}{m:List Addr}{ds:List D}{xs:List V}{i:Int}{d:D} (r:RDs K F H m ds xs) (h:L2.atI ds i=some d):∃x,L2.atI xs i=some x/\RD K F H m d x:=by
 obtain⟨j,h1,h2⟩:=atI_len r.length h
 obtain⟨x,e,p⟩:=r.get h1
 exact⟨x,h2 x e,p⟩
noncomputable def dLook {α:Type} (k:Key):List Key->List α->Option α
 | k'::ks,v::vs=>if k'=k then some v else dLook k ks vs
 | _,_=>none
noncomputable def keyOf:P->Option Key
 | .int i=>some (.inl i)
 | .str x=>some (.inr x)
 | _=>none
noncomputable def dIx:P->P->Option P
 | .tup xs,.int i=>L2.atI xs i
 | .lst xs,.int i=>L2.atI xs i
 | .ro xs,.int i=>L2.atI xs i
 | .str x,.int i=>if capN x.length=true then (L2.atI x.cps.toList i).map fun c=>.str ⟨#[c]⟩ else none
 | .dct ks vs,y=>match keyOf y with
  | some k=>dLook k ks vs
  | none=>none
 | _,_=>none
theorem valV_look {K:PySem.W.Frag}{F:Addr->Prop}{H:Hp}{k:Key}:∀{kvs:List (Key×V)}{ds:List P}{d:P},RPs K F H ds (kvs.map (·.2))->dLook k (kvs.map (·.1)) ds=some d->∃v,valV kvs k=some v/\RP K F H d v
 | [],ds,d,r,h=>by cases ds <;> exact noS h
 | (k',v)::kvs,[],d,r,h=>noS h
 | (k',v)::kvs,d0::ds,d,r,h=>by
  obtain⟨x,xr,e,p,rr⟩:=r
  rw [List.map_cons] at e
  injection e with e1 e2
  simp only [List.map_cons,dLook] at h
  by_cases hk:k'=k
  ·rw [if_pos hk] at h
   cases h
   exact⟨v,valV_pos (p:=(k',v)) hk,by rw [show v=x from e1];exact p⟩
  ·rw [if_neg hk] at h
   rw [<- e2] at rr
   obtain⟨w,h1,h2⟩:=valV_look rr h
   exact⟨w,by rw [valV_neg (p:=(k',v)) hk];exact h1,h2⟩
theorem keyOf_kV {K:PySem.W.Frag}{F:Addr->Prop}{H:Hp}{y:P}{k:Key}{v:V} (h:keyOf y=some k) (r:RP K F H y v):v=kV k:=by
 cases y with
 | int i=>cases h;exact r
 | str x=>cases h;exact r
 | _=>exact noS h
theorem ixDict (hu:X.A.units+1 < cLine):IxR X (fun x y H Q=>∃a v,x=.ref a/\DGet H a y (some v)/\(∃kvs,H a=some (.dK kvs))/\Q v H):=by
 intro value slice pins s σ H x y v u Q I rx ry h hs
 obtain⟨a,w,rfl,g,⟨kvs,hk⟩,q⟩:=h
 cases rx
 have ex:∃o,s.heap.get? a=some o/\o.ExactDict:=by
  obtain⟨_,_,_,_,o,_,_,e,ex,_⟩:=I.hok a _ hk
  exact⟨o,e,ex⟩
 obtain⟨o,e,ex⟩:=ex
 exact tail_any ⟨o,e,ex.1⟩ slot_dict_getitem.lookup (d_getItem hu I g ry fun w' s' I' r'=>⟨w,H,I',r',q⟩) hs
theorem ixP (hu:X.A.units+1 < cLine):IxR X (rP X.K dIx):=by
 intro value slice pins s σ H x y v u Q I rx ry h hs
 obtain⟨F,dx,dy,d,ft,px,py,q,k⟩:=h
 cases dx with
 | tup ds=>
  cases dy with
  | int i=>
   obtain⟨a,xs,rfl,ta,ra⟩:=px
   cases (show y=.int i from py)
   obtain⟨z,e,p⟩:=ra.atI (show L2.atI ds i=some d from q)
   exact ix_tup value slice pins s σ H _ _ v u Q I rx ry ⟨a,xs,i,z,rfl,rfl,ta.sq,e,k z F H .refl p⟩ hs
  | _=>exact noS q
 | lst ds=>
  cases dy with
  | int i=>
   obtain⟨a,xs,rfl,ta,ra⟩:=px
   cases (show y=.int i from py)
   obtain⟨z,e,p⟩:=ra.atI (show L2.atI ds i=some d from q)
   exact ix_list value slice pins s σ H _ _ v u Q I rx ry ⟨a,xs,i,z,rfl,rfl,ta.sq,e,k z F H .refl p⟩ hs
  | _=>exact noS q
 | ro ds=>
  cases dy with
  | int i=>
   obtain⟨a,xs,rfl,ta,ra⟩:=px
   cases (show y=.int i from py)
   obtain⟨z,e,p⟩:=ra.atI (show L2.atI ds i=some d from q)
   exact ix_list value slice pins s σ H _ _ v u Q I rx ry ⟨a,xs,i,z,rfl,rfl,ta.sq,e,k z F H .refl p⟩ hs
  | _=>exact noS q
 | str z=>
  cases dy with
  | int i=>
   cases (show x=.str z from px);cases (show y=.int i from py)
   simp only [dIx] at q
   split at q
   ·rename_i hc
    cases e:L2.atI z.cps.toList i with
    | none=>rw [e] at q;exact noS q
    | some c=>
     rw [e] at q
     cases q
     exact ix_str value slice pins s σ H _ _ v u Q I rx ry ⟨z,i,c,rfl,rfl,capN_le hc,e,k _ F H .refl rfl⟩ hs
   ·cases q
  | _=>exact noS q
 | dct ks ds=>
  obtain⟨a,kvs,rfl,fa,hk,ek,ra⟩:=px
  simp only [dIx] at q
  cases ey:keyOf dy with
  | none=>rw [ey] at q;exact noS q
  | some key=>
   rw [ey] at q
   dsimp only at q
   subst ek
   obtain⟨w,e1,p⟩:=valV_look ra q
   have eyv:=keyOf_kV ey py
   subst eyv
   exact ixDict hu value slice pins s σ H _ _ v u Q I rx ry ⟨a,w,rfl,by rw [<- e1];exact DGet.k hk,⟨kvs,hk⟩,k w F H .refl p⟩ hs
 | _=>exact noS q
theorem xIx {a b:Expr}{fa fb:EV}{pos:Pos} (hu:X.A.units+1 < cLine) (ha:PE X a (tV X.K fa)) (hb:PE X b (tV X.K fb)) (hs:PlainIx b):PE X (.Subscript a b pos) (tV X.K (vOp dIx fa fb)):=
 (pe_ix (ixP hu) ha hb hs).imp' fun _ _ _ h=>tOp_of h
end
end Ev
namespace Ev
open PySem PySem.Spec PyProof.Rows L2
section
variable {X:Cx}
noncomputable def eIx (r:EE) (k:EV):EE:=fun L S=>bnd (r L S) fun d S1=>bnd (k L S1) fun y S2=>match d with
 | .p v=>(dIx v y).map fun z=>(.p z,S2)
 | .ref i=>match S2[i]? with
  | some (.lst ds)=>(match y with
   | .int j=>(L2.atI ds j).map fun z=>(z,S2)
   | _=>none)
  | some (.fz v)=>(dIx v y).map fun z=>(.p z,S2)
  | _=>none
theorem xIxE {a b:Expr}{fa:EE}{fb:EV}{pos:Pos} (hu:X.A.units+1 < cLine) (ha:PE X a (tE X.K fa)) (hb:PE X b (tV X.K fb)) (hs:PlainIx b):PE X (.Subscript a b pos) (tE X.K (eIx fa fb)):=
 (pe_ix ((ixP hu).or ix_list) ha hb hs).imp' fun σ H Q hz=>by
  obtain⟨F,m,L,S,d,S',r,l,q,k⟩:=hz
  obtain⟨x,S1,e1,q⟩:=bnd_eq q
  obtain⟨y,S2,e2,q⟩:=bnd_eq q
  refine⟨F,m,L,S,x,S1,r,l,e1,fun v F1 m1 H1 s1 r1 p1=>?_⟩
  refine⟨F1,m1,L,S1,y,S2,r1,l.mono s1,e2,fun u F2 m2 H2 s2 r2 p2=>?_⟩
  have px:=RD.mono s2 p1
  have pure':∀w:P,RP X.K F2 H2 w v->(dIx w y).map (fun z=>(D.p z,S2))=some (d,S')->rP X.K dIx v u H2 Q:=fun w pw q=>by
   cases eg:dIx w y with
   | none=>rw [eg] at q;cases q
   | some z=>
    rw [eg] at q
    cases q
    exact⟨F2,w,y,z,r2.ft,pw,p2,eg,fun t F3 H3 gr p3=>k t F3 m2 H3 (s1.trans (s2.trans gr.stp)) (r2.grow gr) p3⟩
  cases x with
  | p w=>exact .inl (pure' w px q)
  | ref i=>
   obtain⟨a,rfl,hm⟩:=px
   dsimp only at q
   cases es:S2[i]? with
   | none=>rw [es] at q;cases q
   | some so=>
    rw [es] at q
    have ob:=r2.obj i a so hm es
    cases so with
    | fz w=>exact .inl (pure' w ob q)
    | dct ks vs=>cases q
    | ins _ _ _=>cases q
    | lst ds=>
     dsimp only at q
     cases y with
     | int j=>
      dsimp only at q
      obtain⟨xs,hH,rs⟩:=ob
      cases eg:L2.atI ds j with
      | none=>rw [eg] at q;cases q
      | some z=>
       rw [eg] at q
       cases q
       obtain⟨t,e3,p3⟩:=rs.atI eg
       cases (show u=.int j from p2)
       exact .inr ⟨a,xs,j,t,rfl,rfl,SqL.of hH,e3,k t F2 m2 H2 (s1.trans s2) r2 p3⟩
     | _=>cases q
noncomputable def lenP:P->Option Nat
 | .tup xs=>some xs.length
 | .lst xs=>some xs.length
 | .ro xs=>some xs.length
 | .str x=>if capN x.length=true then some x.length else none
 | _=>none
noncomputable def lenD:D->Sto->Option Nat
 | .p v,_=>lenP v
 | .ref i,S=>match S[i]? with
  | some (.lst ds)=>some ds.length
  | some (.fz v)=>lenP v
  | _=>none
noncomputable def vLen (r:EE):EV:=fun L S=>bnd (r L S) fun d S1=>(lenD d S1).map fun n=>(.int n,S1)
theorem lenP_ok {F:Addr->Prop}{H:Hp}{w:P}{v:V}{n:Nat}{Q:VK} (p:RP X.K F H w v) (h:lenP w=some n) (q:Q (.int n) H) :
  (∃p ys,[v]=[V.ref p]/\(SqL X.K H p ys\/SqT X.K H p ys)/\Q (.int ys.length) H)\/(∃z,[v]=[V.str z]/\z.length≤sizeLine/\Q (.int z.length) H):=by
 cases w with
 | tup ds=>
  obtain⟨a,xs,rfl,ta,ra⟩:=p
  cases h
  exact .inl ⟨a,xs,rfl,.inr ta.sq,by rw [<- ra.length];exact q⟩
 | lst ds=>
  obtain⟨a,xs,rfl,ta,ra⟩:=p
  cases h
  exact .inl ⟨a,xs,rfl,.inl ta.sq,by rw [<- ra.length];exact q⟩
 | ro ds=>
  obtain⟨a,xs,rfl,ta,ra⟩:=p
  cases h
  exact .inl ⟨a,xs,rfl,.inl ta.sq,by rw [<- ra.length];exact q⟩
 | str x=>
  cases (show v=.str x from p)
  simp only [lenP] at h
  split at h
  ·rename_i hc
   cases h
   exact .inr ⟨x,rfl,capN_le hc,q⟩
  ·cases h
 | _=>exact noS h
theorem xLen {e:Expr}{fe:EE}{p pos:Pos} (hg:Gl X "len") (hm:X.mg "len"=none) (he:PE X e (tE X.K fe)) (hs:starEach [e] X.env=[(false,eval e X.env)]:=by rfl):PE X (.Call (.Name "len" p) [e] [] pos) (tV X.K (vLen fe)):=
 (pe_callB (call_len_seq.or call_len_str) hg hm PySem.boot_len (pa_cons he pa_nil (by rw [hs];rfl)) (by decide) (by decide) (by rw [hs];rfl) rfl).imp' fun σ H Q hz=>by
  obtain⟨F,m,L,S,d,S',r,l,q,k⟩:=hz
  obtain⟨x,S1,e1,q⟩:=bnd_eq q
  refine⟨F,m,L,S,x,S1,r,l,e1,fun v F1 m1 H1 s1 r1 p1=>?_⟩
  cases en:lenD x S1 with
  | none=>rw [en] at q;cases q
  | some n=>
   rw [en] at q
   cases q
   have key:Q (.int n) H1:=k _ F1 m1 H1 s1 r1 rfl
   cases x with
   | p w=>exact lenP_ok p1 en key
   | ref i=>
    obtain⟨a,rfl,hm⟩:=p1
    simp only [lenD] at en
    cases es:S'[i]? with
    | none=>rw [es] at en;cases en
    | some so=>
     rw [es] at en
     have ob:=r1.obj i a so hm es
     cases so with
     | fz w=>exact lenP_ok ob en key
     | dct ks vs=>cases en
     | ins _ _ _=>cases en
     | lst ds=>
      cases en
      obtain⟨xs,hH,rs⟩:=ob
      exact .inl ⟨a,xs,rfl,.inl (SqL.of hH),by rw [<- rs.length];exact key⟩
noncomputable def ownL (d:D) (S:Sto):Option (Nat×List D):=match d with
 | .ref i=>match S[i]? with
  | some (.lst ds)=>some (i,ds)
  | _=>none
 | _=>none
theorem ownL_eq {d:D}{S:Sto}{i:Nat}{ds:List D} (h:ownL d S=some (i,ds)):d=.ref i/\S[i]? = some (.lst ds):=by
 unfold ownL at h
 split at h
 ·split at h
  ·rename_i e;cases h;exact⟨rfl,e⟩
  ·cases h
 ·cases h
noncomputable def eAppend (r:EE) (a:EE):EE:=fun L S=>bnd (r L S) fun d S1=>match ownL d S1 with
 | none=>none
 | some _=>bnd (a L S1) fun x S2=>match ownL d S2 with
  | some (i,ds)=>if few ds=true then some (.p .non,S2.set i (.lst (ds++[x]))) else none
  | none=>none
theorem xAppend {o e:Expr}{fo fe:EE}{apos cpos:Pos} (ho:PE X o (tE X.K fo)) (he:PE X e (tE X.K fe)) (hs:starEach [e] X.env=[(false,eval e X.env)]:=by rfl)
  (hbase:attributeBase o "append" X.env (eval o X.env)=eval o X.env:=by rfl) (hline:(apos.endLine == cpos.line)=true:=by rfl):PE X (.Call (.Attribute o "append" apos) [e] [] cpos) (tE X.K (eAppend fo fe)):=
 (pe_bm PySem.F.plainAttrs_list PySem.F.slot_list_append PySem.F.type_list_append mt_append ho (pa_cons he pa_nil (by rw [hs];rfl)) hbase (by rw [hs];rfl) hline (by rw [hs];rfl) rfl).imp' fun σ H Q hz=>by
  obtain⟨F,m,L,S,d,S',r,l,q,k⟩:=hz
  obtain⟨x,S1,e1,q⟩:=bnd_eq q
  refine⟨F,m,L,S,x,S1,r,l,e1,fun v F1 m1 H1 s1 r1 p1=>?_⟩
  cases eo:ownL x S1 with
  | none=>rw [eo] at q;cases q
  | some z=>
   obtain⟨i,ds⟩:=z
   rw [eo] at q
   dsimp only at q
   obtain⟨rfl,es⟩:=ownL_eq eo
   obtain⟨a,rfl,hm⟩:=id p1
   obtain⟨xs,hH,rs⟩:=r1.obj i a _ hm es
   refine⟨.inl ⟨rfl,xs,SqL.of hH⟩,?_⟩
   obtain⟨y,S2,e2,q⟩:=bnd_eq q
   refine⟨F1,m1,L,S1,y,S2,r1,l.mono s1,e2,fun u F2 m2 H2 s2 r2 p2=>?_⟩
   cases eo2:ownL (.ref i) S2 with
   | none=>rw [eo2] at q;cases q
   | some z=>
    obtain⟨i2,ds2⟩:=z
    rw [eo2] at q
    dsimp only at q
    obtain⟨e3,es2⟩:=ownL_eq eo2
    cases e3
    split at q
    ·rename_i hf
     cases q
     obtain⟨a2,e4,hm2⟩:=RD.mono s2 p1
     cases e4
     obtain⟨xs2,hH2,rs2⟩:=r2.obj i a _ hm2 es2
     have hl:=few_le hf
     have hl':xs2.length < sizeLine:=by
      have:ds2.length≤1000000:=of_decide_eq_true hf
      rw [<- rs2.length]
      exact Nat.lt_of_le_of_lt this (by decide)
     have nt:∀zs,H2 a≠some (.tup zs):=fun zs z=>by rw [hH2] at z;cases z
     have st:Stp F2 m2 H2 F2 m2 (upd H2 a (.lst (xs2++[u]))):=stp_set r2 hm2 es2 trivial nt
     refine⟨a,xs2,u,rfl,rfl,hH2,hl',?_⟩
     exact k .non F2 m2 _ (s1.trans (s2.trans st)) (r2.set hm2 es2 trivial nt ⟨_,upd_same,RDs.mono st (rs2.append ⟨u,[],rfl,p2,rfl⟩)⟩) rfl
    ·cases q
noncomputable def ePop (r:EE):EE:=fun L S=>bnd (r L S) fun d S1=>match ownL d S1 with
 | some (i,ds)=>match ds[ds.length-1]? with
  | some x=>some (x,S1.set i (.lst ds.dropLast))
  | none=>none
 | none=>none
theorem RDs.dropLast {K:PySem.W.Frag}{F:Addr->Prop}{H:Hp}{m:List Addr}{ds:List D}{xs:List V} (r:RDs K F H m ds xs):RDs K F H m ds.dropLast xs.dropLast:=by
 rw [List.dropLast_eq_take,List.dropLast_eq_take,r.length]
 exact r.take _
theorem xPop {o:Expr}{fo:EE}{apos cpos:Pos} (ho:PE X o (tE X.K fo))
  (hbase:attributeBase o "pop" X.env (eval o X.env)=eval o X.env:=by rfl) (hline:(apos.endLine == cpos.line)=true:=by rfl):PE X (.Call (.Attribute o "pop" apos) [] [] cpos) (tE X.K (ePop fo)):=
 (pe_bm0 PySem.F.plainAttrs_list PySem.F.slot_list_pop PySem.F.type_list_pop mt_pop ho hbase hline).imp' fun σ H Q hz=>by
  obtain⟨F,m,L,S,d,S',r,l,q,k⟩:=hz
  obtain⟨x,S1,e1,q⟩:=bnd_eq q
  refine⟨F,m,L,S,x,S1,r,l,e1,fun v F1 m1 H1 s1 r1 p1=>?_⟩
  cases eo:ownL x S1 with
  | none=>rw [eo] at q;cases q
  | some z=>
   obtain⟨i,ds⟩:=z
   rw [eo] at q
   dsimp only at q
   obtain⟨rfl,es⟩:=ownL_eq eo
   obtain⟨a,rfl,hm⟩:=id p1
   obtain⟨xs,hH,rs⟩:=r1.obj i a _ hm es
   refine⟨.inl ⟨rfl,xs,SqL.of hH⟩,?_⟩
   cases ex:ds[ds.length-1]? with
   | none=>rw [ex] at q;cases q
   | some y=>
    rw [ex] at q
    cases q
    obtain⟨u,e2,p2⟩:=rs.get ex
    have nt:∀zs,H1 a≠some (.tup zs):=fun zs z=>by rw [hH] at z;cases z
    have st:Stp F1 m1 H1 F1 m1 (upd H1 a (.lst xs.dropLast)):=stp_set r1 hm es trivial nt
    refine⟨a,xs,u,rfl,rfl,hH,by rw [<- rs.length];exact e2,?_⟩
    exact k u F1 m1 _ (s1.trans st) (r1.set hm es trivial nt ⟨_,upd_same,RDs.mono st rs.dropLast⟩) (RD.mono st p2)
noncomputable abbrev EO:=Lc->Sto->Option (Option Int×Sto)
noncomputable def oNone:EO:=fun _ S=>some (none,S)
noncomputable def oSome (a:EV):EO:=fun L S=>bnd (a L S) fun v S1=>match v with
 | .int i=>some (some i,S1)
 | _=>none
noncomputable def tO (K:PySem.W.Frag) (f:EO):TO:=fun σ H Q=>∃F m L S b S',Rel K F H m S/\RL K F H m σ L/\f L S=some (b,S')/\∀F' m' H',Stp F m H F' m' H'->Rel K F' H' m' S'->Q b H'
theorem _root_.L2.PO.imp' {e:Option Expr}{t t':TO} (h:PO X e t) (i:∀σ H Q,t' σ H Q->t σ H Q):PO X e t':=fun pins s σ H Q I q=>h pins s σ H Q I (i σ H Q q)
theorem oNone':PO X none (tO X.K oNone):=po_none.imp' fun σ H Q hz=>by
 obtain⟨F,m,L,S,d,S',r,l,q,k⟩:=hz
 cases q
 exact k F m H .refl r
theorem oSome' {e:Expr}{fa:EV} (h:PE X e (tV X.K fa)):PO X (some e) (tO X.K (oSome fa)):=(po_some h).imp' fun σ H Q hz=>by
 obtain⟨F,m,L,S,d,S',r,l,q,k⟩:=hz
 obtain⟨x,S1,e1,q⟩:=bnd_eq q
 cases x with
 | int i=>cases q;exact⟨F,m,L,S,_,_,r,l,e1,fun v F1 m1 H1 s1 r1 p1=>⟨i,p1,k F1 m1 H1 s1 r1⟩⟩
 | _=>cases q
noncomputable def cut {α:Type} (xs:List α) (lo hi:Option Int):List α:=(xs.drop (HT.sIx xs.length 0 lo)).take (HT.sIx xs.length xs.length hi-HT.sIx xs.length 0 lo)
theorem RPs.cut {K:PySem.W.Frag}{F:Addr->Prop}{H:Hp}{ds:List P}{xs:List V} (r:RPs K F H ds xs) (lo hi:Option Int):RPs K F H (Ev.cut ds lo hi) (cutV xs lo hi):=by
 unfold Ev.cut cutV
 rw [r.length]
 exact (r.drop _).take _
noncomputable def dSl:P->Option Int->Option Int->Option P
 | .lst xs,lo,hi=>some (.lst (cut xs lo hi))
 | .ro xs,lo,hi=>some (.lst (cut xs lo hi))
 | .tup xs,lo,hi=>if HT.sIx xs.length 0 lo=0/\HT.sIx xs.length xs.length hi=xs.length then none else some (.tup (cut xs lo hi))
 | _,_,_=>none
theorem _root_.L2.PI.imp' {tg iter:Expr}{t t':TI} (h:PI X tg iter t) (i:∀σ H R,t' σ H R->t σ H R):PI X tg iter t':=fun pins s σ H R I q=>h pins s σ H R I (i σ H R q)
theorem itl_ok {K:PySem.W.Frag}{F:Addr->Prop}{m:List Addr}{H:Hp}{a:Addr}{vs:List P}{xs:List V} (hs:∀F2 m2 H2,Stp F m H F2 m2 H2->SqL K H2 a xs) (r:RPs K F H vs xs):ItP K (Itl K a) vs F m H:=by
 intro F2 m2 H2 s
 have q:=hs F2 m2 H2 s
 have r2:=RPs.mono s r
 refine⟨fun i v e=>?_,⟨xs,q,by rw [r2.length];exact Nat.le_refl _⟩⟩
 obtain⟨x,e1,p⟩:=r2.get e
 refine⟨⟨xs,x,q,e1⟩,fun y H3 z=>?_⟩
 obtain⟨rfl,z⟩:=z
 have:=z xs q
 rw [e1] at this
 cases this
 exact⟨F2,.refl,p⟩
theorem itt_ok {K:PySem.W.Frag}{F:Addr->Prop}{m:List Addr}{H:Hp}{a:Addr}{vs:List P}{xs:List V} (hs:TupAt K H a xs) (r:RPs K F H vs xs):ItP K (Itt K a) vs F m H:=by
 intro F2 m2 H2 s
 have q:=(hs.kp s.kp).sq
 have r2:=RPs.mono s r
 refine⟨fun i v e=>?_,⟨xs,q,by rw [r2.length];exact Nat.le_refl _⟩⟩
 obtain⟨x,e1,p⟩:=r2.get e
 refine⟨⟨xs,x,q,e1⟩,fun y H3 z=>?_⟩
 obtain⟨rfl,z⟩:=z
 have:=z xs q
 rw [e1] at this
 cases this
 exact⟨F2,.refl,p⟩
noncomputable def intsFrom (lo:Int) (n:Nat):List P:=(List.range n).map fun (i:Nat)=>.int (lo+(i:Int))
noncomputable def itR1 (a:EV):EVs:=fun L S=>bnd (a L S) fun v S1=>match v with
 | .int j=>if decide (j.natAbs < 1000000)=true then some (intsFrom 0 j.toNat,S1) else none
 | _=>none
theorem itr_ok {K:PySem.W.Frag}{F:Addr->Prop}{m:List Addr}{H:Hp}{lo:Int}{n:Nat}:ItP K (Itr lo n) (intsFrom lo n) F m H:=by
 intro F2 m2 H2 s
 have hl:(intsFrom lo n).length=n:=by unfold intsFrom;simp
 refine⟨fun i v e=>?_,by show n≤(intsFrom lo n).length;rw [hl];exact Nat.le_refl _⟩
 have hi:i < n:=by rw [<- hl];exact (List.getElem?_eq_some_iff.mp e).1
 refine⟨hi,fun x H3 z=>?_⟩
 obtain⟨rfl,rfl⟩:=z
 refine⟨F2,.refl,?_⟩
 unfold intsFrom at e
 simp [hi] at e
 subst e
 exact rfl
theorem iR1 {tg a:Expr}{fa:EV}{p pos:Pos} (hg:Gl X "range") (hm:X.mg "range"=none) (ha:PE X a (tV X.K fa)) (hs:starEach [a] X.env=[(false,eval a X.env)]:=by rfl):PI X tg (.Call (.Name "range" p) [a] [] pos) (tI X.K (itR1 fa)):=
 (pi_range1 hg hm (pa_cons ha pa_nil (by rw [hs];rfl)) hs).imp' fun σ H R hz=>by
  obtain⟨F,m,L,S,vs,S',r,l,q,k⟩:=hz
  obtain⟨v,S1,e1,q⟩:=bnd_eq q
  cases v with
  | int j=>
   dsimp only at q
   split at q
   ·rename_i hc
    have hj:j.natAbs < 1000000:=of_decide_eq_true hc
    cases q
    refine⟨F,m,L,S,_,_,r,l,e1,fun x F1 m1 H1 s1 r1 p1=>?_⟩
    cases (show x=.int j from p1)
    exact⟨j,rfl,by omega,by omega,k _ F1 m1 H1 s1 r1 itr_ok⟩
   ·cases q
  | _=>cases q
end
end Ev
namespace Ev
open PySem PySem.Spec PyProof.Rows L2
noncomputable def compGo (g:TGv) (c:EB) (e:EV):List P->Lc->Sto->Option (List P×Sto)
 | [],_,S=>some ([],S)
 | v::r,L,S=>match g v L with
  | none=>none
  | some L1=>bnd (c L1 S) fun k S1=>if k=true then bnd (e L1 S1) fun y S2=>bnd (compGo g c e r L1 S2) fun ys S3=>some (y::ys,S3) else compGo g c e r L1 S1
noncomputable def upL {α:Type} (ts:List Nat) (n:Nat) (L:List (Option α)):List (Option α):=(ts.foldl (fun L i=>L.set i none) L)++List.replicate n none
noncomputable def vComp (it:EVs) (ts:List Nat) (n:Nat) (g:TGv) (c:EB) (e:EV):EV:=fun L S=>bnd (it L S) fun xs S1=>if few xs=true then bnd (compGo g c e xs (upL ts n L) S1) fun ys S2=>some (.lst ys,S2) else none
noncomputable def bYes:EB:=fun _ S=>some (true,S)
theorem foldl_set_len {α:Type} (ts:List Nat):∀L:List (Option α),(ts.foldl (fun L i=>L.set i none) L).length=L.length:=by
 induction ts with
 | nil=>intro L;rfl
 | cons t ts ih=>intro L;rw [List.foldl_cons,ih,List.length_set]
theorem foldl_set_get {α:Type} (ts:List Nat):∀(L:List (Option α)) (i:Nat) (d:α),(ts.foldl (fun L i=>L.set i none) L)[i]? = some (some d)->L[i]? = some (some d)/\i ∉ ts:=by
 induction ts with
 | nil=>intro L i d h;exact⟨h,by simp⟩
 | cons t ts ih=>
  intro L i d h
  rw [List.foldl_cons] at h
  obtain⟨h1,h2⟩:=ih _ _ _ h
  by_cases e:t=i
  ·subst e
   by_cases hl:t < L.length
   ·rw [List.getElem?_set_self hl] at h1;cases h1
   ·rw [List.getElem?_eq_none (by rw [List.length_set];omega)] at h1;cases h1
  ·rw [List.getElem?_set_ne e] at h1
   exact⟨h1,by simp [h2];exact fun z=>e z.symm⟩
theorem upL_len {α:Type} (ts:List Nat) (n:Nat) (L:List (Option α)):(upL ts n L).length=L.length+n:=by
 unfold upL
 rw [List.length_append,foldl_set_len,List.length_replicate]
theorem upL_get {α:Type}{ts:List Nat}{n:Nat}{L:List (Option α)}{i:Nat}{d:α} (h:(upL ts n L)[i]? = some (some d)):L[i]? = some (some d)/\i ∉ ts/\i < L.length:=by
 unfold upL at h
 by_cases hi:i < L.length
 ·rw [List.getElem?_append_left (by rw [foldl_set_len];exact hi)] at h
  obtain⟨h1,h2⟩:=foldl_set_get ts L i d h
  exact⟨h1,h2,hi⟩
 ·rw [List.getElem?_append_right (by rw [foldl_set_len];omega),List.getElem?_replicate] at h
  split at h <;> cases h
theorem RL.up {K:PySem.W.Frag}{F:Addr->Prop}{H:Hp}{m:List Addr}{σ:L2.St}{L:Lc} (l:RL K F H m σ L) (ts:List Nat) (n:Nat):RL K F H m (upL ts n σ) (upL ts n L):=by
 refine⟨by rw [upL_len,upL_len,l.len],fun i d h=>?_⟩
 obtain⟨h1,h2,h3⟩:=upL_get h
 obtain⟨v,e,r⟩:=l.at' i d h1
 refine⟨v,?_,r⟩
 unfold upL
 rw [List.getElem?_append_left (by rw [foldl_set_len,l.len];exact h3)]
 have keep:∀(ts:List Nat) (σ:L2.St),i ∉ ts->σ[i]? = some (some v)->(ts.foldl (fun L i=>L.set i none) σ)[i]? = some (some v):=by
  intro ts
  induction ts with
  | nil=>intro σ _ e;exact e
  | cons t ts ih=>
   intro σ hn e
   rw [List.foldl_cons]
   refine ih _ (fun z=>hn (List.mem_cons_of_mem _ z)) ?_
   rw [List.getElem?_set_ne (fun z=>hn (by rw [z];exact List.mem_cons_self))]
   exact e
 exact keep ts σ h2 e
noncomputable def clOf (scope:Scope) (env:Env):List (Str×Addr):=((scope.names.filter fun x=>x.2 == .free).map fun x=>(x.1,(env.cells.lookup x.1).getD 0)).reverse
noncomputable def inn (X:Cx) (scope:Scope) (N':List Str) (s:Shared) (H:Hp) (C:Addr) (fp:List Addr):Cx:=
 { X with N:=N',s₀:=s,H₀:=H,env:=compEnvC scope (clOf scope X.env) C X.env,outer:=X.stack,ex:=fp,fn:=fun _=>false,pn:=[],xe:=fun _ _=>False }
structure BlockOk (X:Cx) (scope:Scope) (N':List Str) (ts:List Nat) (n:Nat):Prop where
 kind:scope.kind=.function
 cell:∀x ∈ scope.names,x.2≠.cell
 loc:∀x ∈ scope.names,x.2=.local->scope.names.lookup x.1=some .local
 fr:∀x ∈ scope.names,x.2=.free->scope.names.lookup x.1=some .free/\(X.env.kindOf x.1=some .cell\/X.env.kindOf x.1=some .free)
 names:X.N=N'.take X.N.length
 more:N'.length=X.N.length+n
 ts:∀x ∈ scope.names,x.2=.local->∀i:Nat,X.N[i]? = some x.1->i ∈ ts
theorem mem_of_lookup' {α:Type}:∀{l:List (Str×α)}{x:Str}{v:α},l.lookup x=some v->(x,v) ∈ l
 | [],_,_,h=>by simp at h
 | (y,w)::r,x,v,h=>by
  rw [List.lookup_cons] at h
  cases e:x == y with
  | true=>rw [e] at h;cases h;rw [show x=y from by simpa using e];exact List.mem_cons_self
  | false=>rw [e] at h;exact List.mem_cons_of_mem _ (mem_of_lookup' h)
theorem lookup_of_mem {α:Type}:∀{l:List (Str×α)}{x:Str}{v:α},(x,v) ∈ l->∃w,l.lookup x=some w
 | [],_,_,h=>by simp at h
 | (y,w)::r,x,v,h=>by
  rw [List.lookup_cons]
  cases e:x == y with
  | true=>exact⟨w,rfl⟩
  | false=>
   rcases List.mem_cons.mp h with h | h
   ·injection h with h1 _
    subst h1
    simp at e
   ·exact lookup_of_mem h
theorem relabel_kind {scope:Scope}{env:Env}{x:Str}{k:NameKind} (h:(relabel scope env).names.lookup x=some k):∃k0,(x,k0) ∈ scope.names/\(k=k0\/(k=.cell/\k0=.free)):=by
 have h1:=mem_of_lookup' h
 unfold relabel at h1
 obtain⟨⟨n,k0⟩,hm,e⟩:=List.mem_map.mp h1
 by_cases c:(k0 == NameKind.free && env.scope.kind == .function && env.kindOf n == some .cell)=true
 ·have e':(n,NameKind.cell)=(x,k):=by simpa [c] using e
  injection e' with e1 e2
  subst e1
  rw [Bool.and_eq_true,Bool.and_eq_true] at c
  exact⟨k0,hm,.inr ⟨e2.symm,by simpa using c.1.1⟩⟩
 ·have e':(n,k0)=(x,k):=by simpa [c] using e
  injection e' with e1 e2
  subst e1
  exact⟨k0,hm,.inl e2.symm⟩
section
variable {X:Cx}{scope:Scope}{N':List Str}{ts:List Nat}{n:Nat}
theorem BlockOk.cl {pins:List (Addr×Obj)}{σ:L2.St}{H:Hp}{s:Shared} (B:BlockOk X scope N' ts n) (I:Inv X pins σ H s) {x:Str}{c:Addr} (h:(clOf scope X.env).lookup x=some c):X.env.cells.lookup x=some c/\(x,NameKind.free) ∈ scope.names:=by
 have h1:=mem_of_lookup' h
 unfold clOf at h1
 obtain⟨⟨y,k⟩,hm,e⟩:=List.mem_map.mp (List.mem_reverse.mp h1)
 obtain⟨hm,hk⟩:=List.mem_filter.mp hm
 have hk':k=.free:=by simpa using hk
 subst hk'
 injection e with e1 e2
 subst e1
 obtain⟨_,hc⟩:=B.fr _ hm rfl
 obtain⟨c',hc'⟩:=I.ok.has y hc
 dsimp only at e2
 rw [hc'] at e2
 have e2':c'=c:=e2
 subst e2'
 exact⟨hc',hm⟩
theorem BlockOk.has (B:BlockOk X scope N' ts n) {x:Str} (h:(x,NameKind.free) ∈ scope.names):∃c,(clOf scope X.env).lookup x=some c:=by
 unfold clOf
 exact lookup_of_mem (v:=(X.env.cells.lookup x).getD 0) (List.mem_reverse.mpr (List.mem_map.mpr ⟨(x,.free),List.mem_filter.mpr ⟨h,by simp⟩,rfl⟩))
theorem inn_ok {pins:List (Addr×Obj)}{σ:L2.St}{H:Hp}{s:Shared}{C:Addr}{fp:List Addr} (B:BlockOk X scope N' ts n) (I:Inv X pins σ H s) (hC:s.heap.objs.size≤C) (hf:∀b ∈ fp,FpOk X pins H b) (hb:∀b ∈ fp,b < s.heap.objs.size) :
  (inn X scope N' s H C fp).Ok where
 mod:=I.ok.mod
 kind:=B.kind
 glob:=I.ok.glob
 blt:=I.ok.blt
 above:=hC
 inj:=fun x y c h1 h2=>I.ok.inj x y c (B.cl I h1).1 (B.cl I h2).1
 has:=fun x h=>by
  have h':(relabel scope X.env).names.lookup x=some .cell\/(relabel scope X.env).names.lookup x=some .free:=h
  rcases h' with h | h
  ·obtain⟨k0,hm,e | ⟨_,e⟩⟩:=relabel_kind h
   ·subst e;exact absurd rfl (B.cell _ hm)
   ·subst e;exact B.has hm
  ·obtain⟨k0,hm,e | ⟨e,_⟩⟩:=relabel_kind h
   ·subst e;exact B.has hm
   ·cases e
 cab:=fun x c h=>nomatch h
 hd:=I.ok.hd
 frames:=I.ok.frames
 stk:=.inl rfl
 exf:=fun b hb'=>⟨Nat.ne_of_lt (Nat.lt_of_lt_of_le (hb b hb') hC),fun x c h=>(hf b hb').2.2.2.2.1 x c (B.cl I h).1⟩
 bs:=I.bs
 bsz:=Nat.le_trans I.ok.bsz I.sz
 noex:=fun b o e hb'=>by
  rcases (hf b hb').2.2.2.1 with z | z
  ·exact I.ok.noex b o e z
  ·exact absurd (Nat.lt_of_lt_of_le (Heap.lt_size (I.ok.bs b o e).1) z) (Nat.lt_irrefl _)
 exfs:=fun b hb' z=>by
  rcases List.mem_cons.mp (I.stkSub b z) with z | z
  ·exact (hf b hb').2.1 z
  ·exact (hf b hb').2.2.1 z
 funs:=I.stack
 frf:=I.stkFree
theorem _root_.L2.Un.sameBut {fs ex:List Addr}{H H':Hp}{h h1 h2:Heap}{C:Addr} (u:Un fs ex H H' h h1) (sb:Heap.SameBut C h1 h2) (hC:∀b o,h.get? b=some o->b≠C):Un fs ex H H' h h2 where
 keep:=fun b o e n hb hx=>sb.extBut b o (hC b o e) (u.keep b o e n hb hx)
 slot:=fun b o e n hb hx=>by
  obtain⟨sl,q⟩:=u.slot b o e n hb hx
  exact⟨sl,sb.extBut b _ (hC b o e) q⟩
 free:=u.free
 there:=fun b o e hx=>by
  obtain⟨o',q⟩:=u.there b o e hx
  exact⟨o',sb.extBut b _ (hC b o e) q⟩
 tups:=u.tups
 frzs:=u.frzs
 tbls:=u.tbls
theorem _root_.L2.HOk.sameBut {P:Program}{w:World}{H:Hp}{h1 h2:Heap}{C:Addr} (ok:HOk P w H h1) (sb:Heap.SameBut C h1 h2) (hC:H C=none):HOk P w H h2:=fun b u e=>
 (ok b u e).stay (fun c v hc q=>sb.extBut c v (by
  rintro rfl
  rcases hc with z | z
  ·subst z;rw [hC] at e;cases e
  ·rw [hC] at z;cases z) q) (fun _ q=>q) fun _ _ q=>q
inductive PIfs (X:Cx):List Expr->EB->Prop where
 | none:PIfs X [] bYes
 | one {c:Expr}{q:EB}:PT X c (tQ X.K q)->PIfs X [c] q
theorem Kp.bump {F:Addr->Prop}{m:List Addr}{H:Hp}{p:Addr}{o:HO} (hF:¬F p) (ht:∀xs,H p≠some (.tup xs)):Kp F m H F m (upd H p o):=
 ⟨⟨[],by simp⟩,fun _ h=>h,fun b u f h=>by rw [upd_ne (by rintro rfl;exact hF f)];exact h,fun b xs h=>by rw [upd_ne (by rintro rfl;exact ht xs h)];exact h⟩
theorem Stp.bump {F F':Addr->Prop}{m m':List Addr}{H H':Hp}{p:Addr}{o:HO} (s:Stp F m H F' m' H') (hp:H p=none):Stp F m H F' m' (upd H' p o) where
 pre:=s.pre
 oth:=fun b u h hb=>by rw [upd_ne (by rintro rfl;rw [hp] at h;cases h)];exact s.oth b u h hb
 frz:=s.frz
 frk:=fun b u f h=>by rw [upd_ne (by rintro rfl;rw [hp] at h;cases h)];exact s.frk b u f h
 tup:=fun b xs h=>by rw [upd_ne (by rintro rfl;rw [hp] at h;cases h)];exact s.tup b xs h
 trk:=fun b h=>by
  by_cases e:b=p
  ·subst e;rw [upd_same];exact fun z=>nomatch z
  ·rw [upd_ne e];exact s.trk b h
 nf:=s.nf
 nm:=s.nm
theorem Rel.bump {K:PySem.W.Frag}{F:Addr->Prop}{m:List Addr}{H:Hp}{S:Sto}{p:Addr}{o:HO} (r:Rel K F H m S) (hF:¬F p) (hm:p ∉ m) (ht:∀xs,H p≠some (.tup xs)):Rel K F (upd H p o) m S:=
 r.stayK (Kp.bump hF ht) (fun a u ha h=>by rw [upd_ne (by rintro rfl;exact hm ha)];exact h) (fun _ f=>.inl f) fun a f=>by rw [upd_ne (by rintro rfl;exact hF f)];exact r.ft a f
theorem kpF {F:Addr->Prop}{m:List Addr}{H:Hp}{p:Addr}:Kp F m H (fun b=>F b\/b=p) m H:=⟨⟨[],by simp⟩,fun _ h=>.inl h,fun _ _ _ h=>h,fun _ _ h=>h⟩
theorem Stp.addF {F F':Addr->Prop}{m m':List Addr}{H H':Hp}{p:Addr} (s:Stp F m H F' m' H') (hp:H p=none):Stp F m H (fun b=>F' b\/b=p) m' H':=
 ⟨s.pre,s.oth,fun b h=>.inl (s.frz b h),s.frk,s.tup,s.trk,fun b h=>by
  rcases h with h | h
  ·exact s.nf b h
  ·subst h;exact .inr (.inl hp),s.nm⟩
theorem Rel.addF {K:PySem.W.Frag}{F:Addr->Prop}{m:List Addr}{H:Hp}{S:Sto}{p:Addr} (r:Rel K F H m S) (hm:p ∉ m) (hp:H p≠none):Rel K (fun b=>F b\/b=p) H m S where
 len:=r.len
 nd:=r.nd
 obj:=fun i a o e1 e2=>(r.obj i a o e1 e2).kp kpF fun u h=>h
 sep:=fun i a o e1 e2 w f=>by
  rcases f with f | f
  ·exact r.sep i a o e1 e2 w f
  ·subst f;exact hm (List.mem_of_getElem? e1)
 trk:=r.trk
 ft:=fun a f=>by
  rcases f with f | f
  ·exact r.ft a f
  ·subst f;exact hp
theorem _root_.L2.Inv.letGo {pins:List (Addr×Obj)}{σ:L2.St}{H:Hp}{s:Shared}{C:Addr}{h':Heap} (I:Inv X pins σ H s) (sb:Heap.SameBut C s.heap h') (hC:H C=none) (h0:X.s₀.heap.objs.size≤C) (h1:C≠X.env.locals)
  (h2:∀x c,X.env.cells.lookup x=some c->c≠C) (h3:∀p ∈ X.pn++pins,p.1≠C):Inv X pins σ H { s with heap:=h' }:=by
 have ne:∀b:Addr,b ∉ [C]->b≠C:=fun b hb z=>hb (by simp [z])
 refine I.call' (s':={ s with heap:=h' }) (ch:=[C]) rfl ⟨fun b o e _ _ hx=>sb.extBut b o (ne b hx) e,fun b o e _ _ hx=>⟨o.slots,sb.extBut b o (ne b hx) e⟩,fun _ _ _ n _=>n,fun b o e hx=>⟨o,sb.extBut b o (ne b hx) e⟩,fun _ _ q=>q,fun _ _ _ q=>q,fun b ps q=>⟨#[],by rw [q];simp⟩⟩ (I.hok.sameBut sb hC) I.bare fun b hb=>?_
 have e:b=C:=by simpa using hb
 subst e
 exact⟨.inr h0,h1,h2,h3⟩
theorem compLoopT {Pg:Program}{w:World}{A:Around}{R:Result->Shared->Prop}{s:Shared}{elt tg iter:Expr}{ifs:List Expr}{scope:Scope}{pos:Pos}{it acc:Value}{env:Env} (I:Nat->Shared->Prop)
  (turn:∀n s,I n s->wpAny (model Pg w) A (pyNext it) (fun r s1=>match r with
   | none=>R (.ok .next) s1
   | some v=>wpAny (model Pg w) A (letOwnedTupleGo tg it v) (fun _ s2=>wpAny (model Pg w) A (assign tg env v) (fun _ s3=>
     wpAny (model Pg w) A (forIn ifs true fun c r=>if r=true then do let ok <- isTrue c env (eval c env);pure (ForInStep.yield ok) else pure (ForInStep.yield r)) (fun ok s4=>
      if ok=true then wpAny (model Pg w) A (eval elt env) (fun x s5=>
       wpAny (model Pg w) A (call (.builtin "list.append") [acc,x]) (fun _ s6=>∃m,m < n/\I m s6) (notedBy (model Pg w) A env fun e s'=>R (.error e) s') s5) (notedBy (model Pg w) A env fun e s'=>R (.error e) s') s4
      else ∃m,m < n/\I m s4) (notedBy (model Pg w) A env fun e s'=>R (.error e) s') s3) (notedBy (model Pg w) A env fun e s'=>R (.error e) s') s2) (notedBy (model Pg w) A env fun e s'=>R (.error e) s') s1) (notedBy (model Pg w) A env fun e s'=>R (.error e) s') s)
  (n:Nat) (h:I n s):codeAny (model Pg w) A (.compLoop (.ListComp elt [⟨tg,iter,ifs,0⟩] scope pos) 0 it acc env) R s:=by
 refine codeAny_loop rfl I (fun n s hI=>?_) n h
 show wpAny _ A ((compTurn (.ListComp elt [⟨tg,iter,ifs,0⟩] scope pos) 0 it acc env).onRaise (fun x=>do noteFrame x env;theTreesLotGoes x)) _ _ s
 refine wpAny_noted ?_
 rw [compTurn_list]
 refine wpAny_bind (wpAny_standAt (wpAny_bind (wpAny_mono (turn n s hI) (fun r s1 h1=>?_) fun _ _ z=>z)))
 cases r with
 | none=>exact wpAny_pure h1
 | some v=>
  refine wpAny_bind (wpAny_mono h1 (fun _ s2 h2=>wpAny_bind (wpAny_mono h2 (fun _ s3 h3=>wpAny_bind (wpAny_mono h3 (fun ok s4 h4=>?_) fun _ _ z=>z)) fun _ _ z=>z)) fun _ _ z=>z)
  cases ok with
  | false=>exact wpAny_pure ⟨rfl,h4⟩
  | true=>exact wpAny_bind (wpAny_bind (wpAny_mono h4 (fun x s5 h5=>wpAny_bind (wpAny_mono h5 (fun _ s6 h6=>wpAny_pure (wpAny_pure ⟨rfl,h6⟩)) fun _ _ z=>z)) fun _ _ z=>z))
theorem comp_core {elt iter tg:Expr}{ifs:List Expr}{pos p2:Pos}{fi:EVs}{g:TGv}{fc:EB}{fe:EV}{pins:List (Addr×Obj)}{s:Shared}{σ:L2.St}{H:Hp}{use:Option (Value->Sem Unit)}{Q:Value->Shared->Prop}
  {F:Addr->Prop}{m:List Addr}{L:Lc}{S S2:Sto}{d:P}
  (B:BlockOk X scope N' ts n) (hcalm:X.calm=true)
  (hi:PI X tg iter (tI X.K fi)) (hg:∀s H C fp,PG (inn X scope N' s H C fp) tg (gT X.K g)) (hc:∀s H C fp,PIfs (inn X scope N' s H C fp) ifs fc) (he:∀s H C fp,PE (inn X scope N' s H C fp) elt (tV X.K fe))
  (hclos:closureFor scope X.env=pure (clOf scope X.env)) (hs:∀x,foldedSetIterable iter X.env x=pure x)
  (I:Inv X pins σ H s) (r:Rel X.K F H m S) (l:RL X.K F H m σ L) (q:vComp fi ts n g fc fe L S=some (d,S2))
  (fin:∀p F' m' H' sx C,Inv X pins σ H' sx->Stp F m H F' m' H'->Rel X.K F' H' m' S2->RP X.K F' H' d (.ref p)->H' C=none->X.s₀.heap.objs.size≤C->C≠X.env.locals->(∀x c,X.env.cells.lookup x=some c->c≠C)->(∀p ∈ X.pn++pins,p.1≠C) ->
   (∃mC,sx.heap.Ns C mC)->compPost (model X.prog X.w) X.A X.xe use Q (.ref p) C (.ok .next) sx) :
  wpAny (model X.prog X.w) X.A (comprehension (.ListComp elt [⟨tg,iter,ifs,0⟩] scope pos) scope X.env p2 (newList []) false (eval iter X.env) use) Q X.xe s:=by
 obtain⟨vs,S1,e1,q⟩:=bnd_eq q
 split at q
 case isFalse=>cases q
 rename_i hfew
 obtain⟨ys,S2',e2,q⟩:=bnd_eq q
 cases q
 refine wpAny_comprehension_free (use:=use) rfl hs hclos B.kind B.loc (thn (hi pins s σ H _ I ⟨F,m,L,S,vs,S1,r,l,e1,fun J F1 m1 H1 s1 r1 it=>(show (fun J H1=>∃F1 m1,Stp F m H F1 m1 H1/\Rel X.K F1 H1 m1 S1/\ItP X.K J vs F1 m1 H1) J H1 from ⟨F1,m1,s1,r1,it⟩)⟩) fun xv sA hA=>thn hA fun itv s2 h2=>?_)
 obtain⟨it,fp,tn,J,H2,rfl,I2,T,st2,f2,F1,m1,s1,r1,itp⟩:=h2
 have hfp:∀b ∈ fp,b < s2.heap.objs.size:=fun b hb=>by
  obtain⟨o,e,_⟩:=T.obj _ _ st2 b hb
  exact Heap.lt_size e
 refine wpAny_newObj_type ?_ (by show 0≤sizeLine;exact Nat.zero_le _)
 refine wpAny_newFunctionEnv B.cell (by intro y hy;simp at hy) (fun h1 hns1 hsb1=>?_) B.kind
 dsimp only at hns1 hsb1 ⊢
 have hD:H2 s2.heap.objs.size=none:=I2.hok.fresh (Nat.le_refl _)
 generalize hH2:s2.heap.push { cls:=.type "list",dict:=none,data:=.seq ([]:List Value).toArray }=hp2 at hns1 hsb1 ⊢
 have hC:hp2.objs.size=s2.heap.objs.size+1:=by rw [<- hH2,Heap.size_push]
 have hCle:s2.heap.objs.size≤hp2.objs.size:=by rw [hC];exact Nat.le_succ _
 have old:∀b o,s2.heap.get? b=some o->h1.get? b=some o:=fun b o e=>hsb1.extBut b o (Nat.ne_of_lt (Nat.lt_of_lt_of_le (Heap.lt_size e) hCle)) (Heap.get?_push_of_some _ (hH2 ▸ Heap.get?_push_of_some _ e))
 have hDC:s2.heap.objs.size≠hp2.objs.size:=by rw [hC];exact Nat.ne_of_lt (Nat.lt_succ_self _)
 have accO:h1.get? s2.heap.objs.size=some { cls:=.type "list",dict:=none,data:=.seq ([]:List Value).toArray }:=hsb1.extBut _ _ hDC (Heap.get?_push_of_some _ (hH2 ▸ Heap.get?_push_size _ rfl))
 have hCn:H2 hp2.objs.size=none:=I2.hok.fresh hCle
 have hCcell:∀x c,X.env.cells.lookup x=some c->c≠hp2.objs.size:=fun x c e z=>by
  obtain⟨v,o,ho,_⟩:=I2.cell x c e
  exact absurd (Heap.lt_size ho) (Nat.not_lt.mpr (by rw [z];exact hCle))
 have hCloc:hp2.objs.size≠X.env.locals:=Nat.ne_of_gt (Nat.lt_of_lt_of_le I2.lt hCle)
 have hCpin:∀p ∈ X.pn++pins,p.1≠hp2.objs.size:=fun p hp z=>absurd (Heap.lt_size (I2.pin p hp).1) (Nat.not_lt.mpr (by rw [z];exact hCle))
 have I3:Inv (inn X scope N' s2 H2 hp2.objs.size fp) [] (upL ts n σ) (upd H2 s2.heap.objs.size (.lst [])) { s2 with heap:=h1,toks:=s2.toks+([]:List (Str×Value)).length }:=by
  refine⟨inn_ok B I2 hCle f2 hfp,rfl,I2.bare,Un.laid old (Nat.le_refl _) hD,?_,fun x c e=>?_,?_,fun x c e=>?_,fun p hp=>absurd (show p ∈ ([]:List (Addr×Obj)) from hp) (by simp),?_,?_⟩
  ·obtain⟨m0,hn0,hl0⟩:=I2.loc
   refine⟨_,hns1,fun i x v e1 e2 hv=>?_⟩
   obtain⟨h1',h2',h3'⟩:=upL_get e2
   have hlen:σ.length=X.N.length:=I2.len
   have hx:X.N[i]? = some x:=by
    rw [B.names,List.getElem?_take_of_lt (by rw [<- hlen];exact h3')]
    exact e1
   have hv':(relabel scope X.env).names.lookup x=some .local\/(relabel scope X.env).names.lookup x=some .cell\/(relabel scope X.env).names.lookup x=some .free:=hv
   have nl:¬(relabel scope X.env).names.lookup x=some .local:=fun z=>by
    obtain⟨k0,hm,e | ⟨e,_⟩⟩:=relabel_kind z
    ·subst e;exact absurd (B.ts _ hm rfl i hx) h2'
    ·cases e
   have fr:(x,NameKind.free) ∈ scope.names:=by
    rcases hv' with z | z | z
    ·exact absurd z nl
    ·obtain⟨k0,hm,e | ⟨_,e⟩⟩:=relabel_kind z
     ·subst e;exact absurd rfl (B.cell _ hm)
     ·subst e;exact hm
    ·obtain⟨k0,hm,e | ⟨e,_⟩⟩:=relabel_kind z
     ·subst e;exact hm
     ·cases e
   obtain⟨_,hkc⟩:=B.fr _ fr rfl
   have vis:Vis X.env.scope x:=by
    rcases hkc with z | z
    ·exact .inr (.inl z)
    ·exact .inr (.inr z)
   obtain⟨u,ru,lk⟩:=hl0 i x v hx h1' vis
   refine⟨u,ru,.inr ⟨?_,?_⟩⟩
   ·rcases hv' with z | z | z
    ·exact absurd z nl
    ·exact .inl z
    ·exact .inr z
   ·rcases lk with ⟨z,_⟩ | ⟨_,c,ec,ic⟩
    ·rcases hkc with y | y
     ·rw [z] at y;cases y
     ·rw [z] at y;cases y
    ·obtain⟨c',hc'⟩:=B.has fr
     have:=(B.cl I2 hc').1
     rw [ec] at this
     cases this
     obtain⟨o,ho,hd⟩:=ic
     exact⟨c,hc',o,old c o ho,hd⟩
  ·obtain⟨v,o,ho,hd⟩:=I2.cell x c (B.cl I2 e).1
   exact⟨v,o,old c o ho,hd⟩
  ·show upd H2 s2.heap.objs.size (.lst []) hp2.objs.size=none
   rw [upd_ne (Ne.symm hDC)];exact hCn
  ·obtain⟨v,o,ho,hd⟩:=I2.cell x c (B.cl I2 e).1
   rw [upd_ne (Nat.ne_of_lt (Heap.lt_size ho))]
   exact I2.freeC x c (B.cl I2 e).1
  ·exact I2.hok.laid old (Nat.le_refl _) ⟨Nat.zero_le _,[],0,.nil,accO⟩
  ·show (upL ts n σ).length=N'.length
   rw [upL_len,I2.len,B.more]
 have okX:=inn_ok (C:=hp2.objs.size) B I2 hCle f2 hfp
 have fpH:∀{H':Hp},(∀b ∈ fp,H' b=none)->∀b ∈ fp,FpOk (inn X scope N' s2 H2 hp2.objs.size fp) [] H' b:=fun hn b hb=>
  ⟨hn b hb,Nat.ne_of_lt (Nat.lt_of_lt_of_le (hfp b hb) hCle),okX.exfs b hb,.inl hb,(okX.exf b hb).2,fun p hp=>absurd (show p ∈ ([]:List (Addr×Obj)) from hp) (by simp)⟩
 have tn1:tn 0 h1:=T.keep _ _ _ st2 fun b hb o e=>old b o e
 have loop:∀s3:Shared,s3={ s2 with heap:=h1,toks:=s2.toks+([]:List (Str×Value)).length } ->
   codeAny (model X.prog X.w) X.A (.compLoop (.ListComp elt [⟨tg,iter,ifs,0⟩] scope pos) 0 (.ref it) (.ref s2.heap.objs.size) (compEnvC scope (clOf scope X.env) hp2.objs.size X.env))
    (compPost (model X.prog X.w) X.A X.xe use Q (.ref s2.heap.objs.size) hp2.objs.size) s3:=by
  rintro s3 rfl
  refine compLoopT (fun nn sx=>∃(i:Nat) (σ':L2.St) (F':Addr->Prop) (m':List Addr) (H':Hp) (L':Lc) (S':Sto) (acc rest:List P) (xs:List V),
   Inv (inn X scope N' s2 H2 hp2.objs.size fp) [] σ' H' sx/\tn i sx.heap/\(∀b ∈ fp,H' b=none)/\nn=vs.length-i/\i≤vs.length/\Stp F1 m1 H2 F' m' H'/\Rel X.K F' H' m' S'/\RL X.K F' H' m' σ' L' /\
   H' s2.heap.objs.size=some (.lst xs)/\RPs X.K F' H' acc xs/\acc.length≤i/\¬F' s2.heap.objs.size/\s2.heap.objs.size ∉ m'/\compGo g fc fe (vs.drop i) L' S'=some (rest,S2)/\acc++rest=ys) ?_ vs.length ?_
  ·rintro nn sx ⟨i,σ',F',m',H',L',S',acc,rest,xs,I',tn',fr',rfl,hi',st',r',l',hacc,ra,hal,nF,nm,go,rfl⟩
   obtain⟨hgo,hstop⟩:=itp F' m' H' st'
   by_cases hlt:i < vs.length
   ·have hv:vs[i]? = some vs[i]:=by simp [hlt]
    rw [List.drop_eq_getElem_cons hlt] at go
    obtain⟨hgo1,hy⟩:=hgo i _ hv
    refine wpAny_mono (T.item (inn X scope N' s2 H2 hp2.objs.size fp) rfl rfl rfl hcalm i [] sx σ' H' (fun _ _=>False) I' (fpH fr') tn' hgo1) (fun rr sy hr=>?_) (fun _ _ f=>f.elim)
    obtain⟨u,rfl,hr⟩:=hr
    refine wpAny_mono hr (fun _ sz hz=>?_) (fun _ _ f=>f.elim)
    obtain⟨x,H3,I4,rx,yl,tn4,fr4⟩:=hz
    obtain⟨F3,gr,p3⟩:=hy x H3 yl
    have st4:Stp F1 m1 H2 F3 m' H3:=st'.trans gr.stp
    have r4:=r'.grow gr
    have l4:=l'.mono (gr.stp (m:=m'))
    have acc4:=gr.keep _ _ hacc
    have nF4:¬F3 s2.heap.objs.size:=fun z=>by
     rcases gr.nf _ z with z | ⟨z,_⟩
     ·exact nF z
     ·rw [hacc] at z;cases z
    have I4':=I4.pinned (fpH fr4) (T.obj _ _ tn4)
    have back:∀{σ7:L2.St}{H7:Hp}{s7:Shared},Inv (inn X scope N' s2 H2 hp2.objs.size fp) ([]++pinsAt fp sz.heap) σ7 H7 s7->tn (i+1) s7.heap/\∀b ∈ fp,H7 b=none:=fun {σ7 H7 s7} I7=>
     ⟨T.keep _ _ _ tn4 fun b hb o e=>(I7.pin (b,o) (List.mem_append_right _ (List.mem_append_right _ (mem_pinsAt hb e)))).1,fun b hb=>by
      obtain⟨o,e,dd⟩:=T.obj _ _ tn4 b hb
      exact (I7.pin (b,o) (List.mem_append_right _ (List.mem_append_right _ (mem_pinsAt hb e)))).2.1⟩
    unfold compGo at go
    cases eg:g vs[i] L' with
    | none=>rw [eg] at go;cases go
    | some L1=>
     rw [eg] at go
     dsimp only at go
     obtain⟨kk,S5,e5,go⟩:=bnd_eq go
     refine wpAny_mono (hg s2 H2 hp2.objs.size fp _ sz σ' H3 x u (fun σ5 H5=>H5=H3/\RL X.K F3 H3 m' σ5 L1) I4' rx ⟨F3,m',L',vs[i],L1,l4,p3,eg,fun σ5 l5=>⟨rfl,l5⟩⟩) (fun _ s5 h5=>?_) (fun _ _ f=>f.elim)
     obtain⟨σ5,H5,I5,rfl,l5⟩:=h5
     have test:wpAny (model X.prog X.w) X.A (forIn ifs true fun c r=>if r=true then do let ok <- isTrue c (compEnvC scope (clOf scope X.env) hp2.objs.size X.env) (eval c (compEnvC scope (clOf scope X.env) hp2.objs.size X.env));pure (ForInStep.yield ok) else pure (ForInStep.yield r))
       (fun ok s6=>ok=kk/\∃F6 m6 H6,Inv (inn X scope N' s2 H2 hp2.objs.size fp) ([]++pinsAt fp sz.heap) σ5 H6 s6/\Stp F3 m' H5 F6 m6 H6/\Rel X.K F6 H6 m6 S5) (fun _ _=>False) s5:=by
      have hcc:=hc s2 H2 hp2.objs.size fp
      cases hcc with
      | none=>
       cases e5
       exact wpAny_tests_nil ⟨rfl,F3,m',H5,I5,.refl,r4⟩
      | one hq=>
       refine wpAny_tests_one (wpAny_mono (hq _ s5 σ5 H5 (fun b H6=>b=kk/\∃F6 m6,Stp F3 m' H5 F6 m6 H6/\Rel X.K F6 H6 m6 S5) I5 ⟨F3,m',L1,S',kk,S5,r4,l5,e5,fun F6 m6 H6 s6 r6=>⟨rfl,F6,m6,s6,r6⟩⟩) (fun b s6 h6=>?_) fun _ _ f=>f)
       obtain⟨H6,I6,rfl,F6,m6,st6,r6⟩:=h6
       exact⟨rfl,F6,m6,H6,I6,st6,r6⟩
     refine wpAny_mono test (fun ok s6 h6=>?_) (fun _ _ f=>f.elim)
     obtain⟨rfl,F6,m6,H6,I6,st6,r6⟩:=h6
     have acc6:=st6.oth _ _ acc4 nm
     have nm6:s2.heap.objs.size ∉ m6:=fun z=>by
      rcases st6.nm _ z with z | z
      ·exact nm z
      ·rw [acc4] at z;cases z
     have nF6:¬F6 s2.heap.objs.size:=fun z=>by
      rcases st6.nf _ z with z | z | z
      ·exact nF4 z
      ·rw [acc4] at z;cases z
      ·exact nm z
     have ra6:=RPs.mono st6 (ra.grow gr)
     have l6:=l5.mono st6
     cases ok with
     | false=>
      rw [if_neg Bool.false_ne_true] at go ⊢
      obtain⟨t7,f7⟩:=back I6
      exact⟨vs.length-(i+1),by omega,i+1,σ5,F6,m6,H6,L1,S5,acc,rest,xs,I6.pins_of fun p hp=>absurd hp (by simp),t7,f7,rfl,hlt,st4.trans st6,r6,l6,acc6,ra6,Nat.le_succ_of_le hal,nF6,nm6,go,rfl⟩
     | true=>
      rw [if_pos rfl] at go ⊢
      obtain⟨y,S8,e8,go⟩:=bnd_eq go
      obtain⟨zs,S9,e9,go⟩:=bnd_eq go
      cases go
      refine wpAny_mono (he s2 H2 hp2.objs.size fp _ s6 σ5 H6 (fun v8 H8=>∃F8 m8,Stp F6 m6 H6 F8 m8 H8/\Rel X.K F8 H8 m8 S8/\RP X.K F8 H8 y v8) I6 ⟨F6,m6,L1,S5,y,S8,r6,l6,e8,fun v8 F8 m8 H8 s8 r8 p8=>⟨F8,m8,s8,r8,p8⟩⟩) (fun u8 s8 h8=>?_) (fun _ _ f=>f.elim)
      obtain⟨v8,H8,I8,rv8,F8,m8,st8,r8,p8⟩:=h8
      have acc8:=st8.oth _ _ acc6 nm6
      have nm8:s2.heap.objs.size ∉ m8:=fun z=>by
       rcases st8.nm _ z with z | z
       ·exact nm6 z
       ·rw [acc6] at z;cases z
      have nF8:¬F8 s2.heap.objs.size:=fun z=>by
       rcases st8.nf _ z with z | z | z
       ·exact nF6 z
       ·rw [acc6] at z;cases z
       ·exact nm6 z
      have ra8:=RPs.mono st8 ra6
      have nt8:∀zs,H8 s2.heap.objs.size≠some (.tup zs):=fun zs z=>by rw [acc8] at z;cases z
      have hl8:xs.length < sizeLine:=by
       have h9:vs.length≤1000000:=of_decide_eq_true hfew
       rw [<- ra8.length]
       exact Nat.lt_of_lt_of_le (Nat.lt_of_le_of_lt hal hlt) (Nat.le_trans h9 (by decide))
      refine wpAny_mono (mt_append (X:=inn X scope N' s2 H2 hp2.objs.size fp) _ s8 σ5 H8 (.ref s2.heap.objs.size) [v8] (.ref s2.heap.objs.size) [u8] (fun _ H9=>H9=upd H8 s2.heap.objs.size (.lst (xs++[v8]))) I8 rfl (.cons rv8 .nil) ⟨_,xs,v8,rfl,rfl,acc8,hl8,rfl⟩) (fun _ s9 h9=>?_) (fun _ _ f=>f.elim)
      obtain⟨_,H9,I9,_,rfl⟩:=h9
      obtain⟨t9,f9⟩:=back I9
      have kb:Kp F8 m8 H8 F8 m8 (upd H8 s2.heap.objs.size (.lst (xs++[v8]))):=Kp.bump nF8 nt8
      have st9:Stp F1 m1 H2 F8 m8 (upd H8 s2.heap.objs.size (.lst (xs++[v8]))):=(st4.trans (st6.trans st8)).bump hD
      have l9:RL X.K F8 (upd H8 s2.heap.objs.size (.lst (xs++[v8]))) m8 σ5 L1:=⟨l6.len,fun j dd e=>by
       obtain⟨v,e1,rr⟩:=(l6.mono st8).at' j dd e
       exact⟨v,e1,RD.kp kb rr⟩⟩
      exact⟨vs.length-(i+1),by omega,i+1,σ5,F8,m8,_,L1,S8,acc++[y],zs,xs++[v8],I9.pins_of fun p hp=>absurd hp (by simp),t9,f9,rfl,hlt,st9,r8.bump nF8 nm8 nt8,l9,upd_same,
       RPs.kp kb (ra8.append ⟨v8,[],rfl,p8,rfl⟩),by rw [List.length_append];exact Nat.succ_le_succ hal,nF8,nm8,e9,by simp⟩
   ·have e:i=vs.length:=by omega
    subst e
    rw [List.drop_length] at go
    cases go
    refine wpAny_mono (T.done (inn X scope N' s2 H2 hp2.objs.size fp) rfl rfl rfl hcalm vs.length [] sx σ' H' (fun _ _=>False) I' (fpH fr') tn' hstop) (fun rr sy hr=>?_) (fun _ _ f=>f.elim)
    obtain⟨rfl,I5⟩:=hr
    rw [List.append_nil] at *
    have Iout:Inv X pins σ H' sy:=I2.call' (ch:=fp) I5.os I5.base I5.hok I5.bare fun b hb=>⟨(f2 b hb).2.2.2.1,(f2 b hb).2.1,(f2 b hb).2.2.2.2.1,(f2 b hb).2.2.2.2.2⟩
    have hD0:H s2.heap.objs.size=none:=by
     cases q:H s2.heap.objs.size with
     | none=>rfl
     | some o=>exact absurd hD (s1.trk _ (by rw [q];exact fun z=>nomatch z))
    have hCH:H' hp2.objs.size=none:=I5.free
    obtain⟨mC,hmC,_⟩:=I5.loc
    exact fin s2.heap.objs.size (fun b=>F' b\/b=s2.heap.objs.size) m' H' sy hp2.objs.size Iout ((s1.trans st').addF hD0) (r'.addF nm (by rw [hacc];exact fun z=>nomatch z))
     ⟨_,xs,rfl,⟨.inr rfl,hacc⟩,RPs.kp (m:=m') kpF ra⟩ hCH (Nat.le_trans I2.sz hCle) hCloc hCcell hCpin ⟨mC,hmC⟩
  ·exact⟨0,_,F1,m1,_,upL ts n L,S1,[],ys,[],I3,tn1,fun b hb=>by rw [upd_ne (Nat.ne_of_lt (hfp b hb))];exact (f2 b hb).1,rfl,Nat.zero_le _,(grow_new hD).stp,r1.grow (grow_new hD),((l.mono s1).mono (grow_new hD).stp).up ts n,upd_same,rfl,Nat.zero_le _,r1.fresh_F hD,r1.fresh_m hD,by rw [List.drop_zero];exact e2,rfl⟩
 exact codeAny_compStart_list (loop _ rfl) (T.self X.A 0 _ _ _ tn1 (loop _ rfl))
theorem xComp {elt iter tg:Expr}{ifs:List Expr}{pos:Pos}{fi:EVs}{g:TGv}{fc:EB}{fe:EV} (B:BlockOk X scope N' ts n) (hcalm:X.calm=true)
  (hi:PI X tg iter (tI X.K fi)) (hg:∀s H C fp,PG (inn X scope N' s H C fp) tg (gT X.K g)) (hc:∀s H C fp,PIfs (inn X scope N' s H C fp) ifs fc) (he:∀s H C fp,PE (inn X scope N' s H C fp) elt (tV X.K fe))
  (hclos:closureFor scope X.env=pure (clOf scope X.env)) (hs:∀x,foldedSetIterable iter X.env x=pure x:=by intro _;rfl) :
  PE X (.ListComp elt [⟨tg,iter,ifs,0⟩] scope pos) (tV X.K (vComp fi ts n g fc fe)):=by
 intro pins s σ H Q I ⟨F,m,L,S,d,S',r,l,q,k⟩
 rw [eval_ListComp]
 refine comp_core B hcalm hi hg hc he hclos hs I r l q fun p F' m' H' sx C I' st r' rp hC h0 h1 h2 h3 hz=>?_
 obtain⟨mC,hmC⟩:=hz
 exact⟨mC,hmC,fun h' sb=>⟨.ref p,H',I'.letGo sb hC h0 h1 h2 h3,rfl,k _ F' m' H' st r' rp⟩⟩
theorem zComp (i:Nat) {x:Str}{px spos:Pos}{elt iter tg:Expr}{ifs:List Expr}{pos:Pos}{fi:EVs}{g:TGv}{fc:EB}{fe:EV} (hN:X.N.Nodup) (B:BlockOk X scope N' ts n) (hcalm:X.calm=true)
  (hi:PI X tg iter (tI X.K fi)) (hg:∀s H C fp,PG (inn X scope N' s H C fp) tg (gT X.K g)) (hc:∀s H C fp,PIfs (inn X scope N' s H C fp) ifs fc) (he:∀s H C fp,PE (inn X scope N' s H C fp) elt (tV X.K fe))
  (hclos:closureFor scope X.env=pure (clOf scope X.env)) (hsw:swapsWith (.ListComp elt [⟨tg,iter,ifs,0⟩] scope pos) (some (.Name x px)) spos.line X.env=pure true:=by rfl)
  (hs:∀x,foldedSetIterable iter X.env x=pure x:=by intro _;rfl) (hix:X.N[i]? = some x:=by rfl) (hx:Loc X.env.scope x:=by first | exact Or.inl rfl | exact Or.inr rfl)
  (hf:X.fn x=true\/X.env.scope.names.lookup x=some .local:=by first | exact .inl rfl | exact .inr rfl | assumption) :
  PS X (.Assign [.Name x px] (.ListComp elt [⟨tg,iter,ifs,0⟩] scope pos) spos) (tSt X.K (sSet i (eV (vComp fi ts n g fc fe)))):=by
 intro pins s σ H D I ⟨F,m,L,S,fl,L',S',r,l,q,k⟩
 obtain⟨d,S1,e1,q⟩:=bnd_eq q
 cases q
 obtain⟨v,S2,e2,e3⟩:=bnd_eq e1
 cases e3
 rw [exec_Assign_Name_used _ _ _ _ hsw]
 refine wpAny_bind (wpAny_standAt (wpAny_bind ?_))
 show wpAny _ _ (do let _ <- comprehension (.ListComp elt [⟨tg,iter,ifs,0⟩] scope pos) scope X.env _ (newList []) false (eval iter X.env) (some (assign (.Name x px) X.env))) _ _ s
 refine wpAny_bind (wpAny_mono (comp_core (use:=some (assign (.Name x px) X.env)) (Q:=fun _ s'=>SP X pins D .next s') B hcalm hi hg hc he hclos hs I r l e2 fun p F' m' H' sx C I' st r' rp hC h0 h1 h2 h3 hz=>?_) (fun _ s' hq=>wpAny_pure (wpAny_pure hq)) fun _ _ e=>e)
 obtain⟨mC,hmC⟩:=hz
 refine wpAny_assign_Name (store_ok2 I' hN hix hx (v:=.ref p) rfl (fun s' I'' keep=>?_) hf)
 refine⟨mC,?_,fun h' sb=>⟨_,H',I''.letGo sb hC h0 h1 h2 h3,k _ F' m' H' st r' ((l.mono st).set (d:=.p v) rp i)⟩⟩
 obtain⟨a,sbA,ha⟩:=keep
 refine hmC.sameBut sbA ?_
 rcases ha with ha | ha
 ·rw [ha];exact h1
 ·exact Ne.symm (h2 x a ha)
end
end Ev
namespace Ev
open PySem PySem.Spec PyProof.Rows L2
section
variable {X:Cx}{a b e:Expr}{es:List Expr}{fa fb:EV}{fs:EVs}{pos p:Pos}
noncomputable def dNeg:P->Option P
 | .int i=>some (.int (-i))
 | _=>none
theorem xNeg (ha:PE X a (tV X.K fa)):PE X (.UnaryOp .USub a pos) (tV X.K (vUn dNeg fa)):=(pe_un un_neg ha).imp' fun σ H Q hz=>by
 obtain⟨F,m,L,S,d,S',r,l,q,k⟩:=hz
 obtain⟨x,S1,e1,q⟩:=bnd_eq q
 cases x with
 | int i=>cases q;exact⟨F,m,L,S,_,_,r,l,e1,fun v F' m' H' s r' p=>⟨i,p,k _ F' m' H' s r' rfl⟩⟩
 | _=>cases q
noncomputable def tyN:P->String
 | .non=>"NoneType"
 | .bl _=>"bool"
 | .int _=>"int"
 | .str _=>"str"
 | .tup _=>"tuple"
 | .lst _=>"list"
 | .ro _=>"list"
 | .dct _ _=>"dict"
noncomputable def isiP (T:String) (v:P):Bool:=tyN v == T || (T == "int" && tyN v == "bool")
theorem call_isi {T:String} (hT:∀K:PySem.W.Frag,∀v:P,PySem.W.kitOne K (.type (tyN v)) (.type T)=some (isiP T v)) :
  CallR X (.builtin "isinstance") (fun xs H Q=>∃F d x,xs=[x,.ty T]/\RP X.K F H d x/\Q (.bl (isiP T d)) H):=by
 intro pins s σ H xs us Q I r h
 obtain⟨F,d,x,rfl,pd,q⟩:=h
 obtain⟨u,w',rfl,ru,rw'⟩:=vals2 r
 cases (show w'=Value.type T from rw')
 have e:=hT X.K d
 have fin:∀tk,EP X pins σ Q (.bool (isiP T d)) { s with toks:=tk }:=fun tk=>⟨.bl (isiP T d),H,I.tok _,rfl,q⟩
 cases d with
 | non=>cases (show x=.non from pd);exact isinst_ok I ru (.non) e fin
 | bl y=>cases (show x=.bl y from pd);exact isinst_ok I ru (.bl y) e fin
 | int y=>cases (show x=.int y from pd);exact isinst_ok I ru (.int y) e fin
 | str y=>cases (show x=.str y from pd);exact isinst_ok I ru (.str y) e fin
 | tup ds=>
  obtain⟨a,xs,rfl,ta,ra⟩:=pd
  cases ru
  obtain⟨its,_,⟨o,h1,h2,_⟩,_⟩:=I.tuple ta.sq
  exact PySem.W.kia_one PySem.W.kitx_tuple I.kIn ⟨o,h1,h2⟩ e (fun z=>nomatch z) fin
 | lst ds=>
  obtain⟨a,xs,rfl,ta,ra⟩:=pd
  cases ru
  obtain⟨its,_,pl,_⟩:=I.list ta.sq
  obtain⟨o,n,h1,h2,_⟩:=pl
  exact PySem.W.kia_one PySem.W.kitx_list I.kIn ⟨o,h1,h2⟩ e (fun z=>nomatch z) fin
 | ro ds=>
  obtain⟨a,xs,rfl,ta,ra⟩:=pd
  cases ru
  obtain⟨its,_,pl,_⟩:=I.list ta.sq
  obtain⟨o,n,h1,h2,_⟩:=pl
  exact PySem.W.kia_one PySem.W.kitx_list I.kIn ⟨o,h1,h2⟩ e (fun z=>nomatch z) fin
 | dct ks vs=>
  obtain⟨a,kvs,rfl,_,hk,_⟩:=pd
  exact isinst_ok I ru (.dK hk) e fin
theorem kit_tuple (K:PySem.W.Frag) (v:P):PySem.W.kitOne K (.type (tyN v)) (.type "tuple")=some (isiP "tuple" v):=by cases v <;> rfl
noncomputable def c_max:List P->Option P
 | [.int i,.int j]=>some (.int (if j > i then j else i))
 | _=>none
noncomputable def c_min:List P->Option P
 | [.int i,.int j]=>some (.int (if j < i then j else i))
 | _=>none
theorem rps2 {K:PySem.W.Frag}{F:Addr->Prop}{H:Hp}{d d':P}{xs:List V} (r:RPs K F H [d,d'] xs):∃x y,xs=[x,y]/\RP K F H d x/\RP K F H d' y:=by
 obtain⟨x,r1,rfl,p1,r2⟩:=r
 obtain⟨y,r3,rfl,p2,r4⟩:=r2
 cases (show r3=[] from r4)
 exact⟨x,y,rfl,p1,p2⟩
theorem rps1 {K:PySem.W.Frag}{F:Addr->Prop}{H:Hp}{d:P}{xs:List V} (r:RPs K F H [d] xs):∃x,xs=[x]/\RP K F H d x:=by
 obtain⟨x,r1,rfl,p1,r2⟩:=r
 cases (show r1=[] from r2)
 exact⟨x,rfl,p1⟩
theorem callMax (hc:X.calm=true):CallR X (.builtin "max") (rC X.K c_max):=by
 intro pins s σ H xs us Q I r h
 obtain⟨F,ds,d,ft,rs,q,k⟩:=h
 unfold c_max at q
 split at q
 ·cases q
  obtain⟨x,y,rfl,p1,p2⟩:=rps2 rs
  exact call_max2 hc pins s σ H _ us Q I r ⟨_,_,by rw [show x=_ from p1,show y=_ from p2],k _ F H .refl rfl⟩
 ·cases q
theorem callMin (hc:X.calm=true):CallR X (.builtin "min") (rC X.K c_min):=by
 intro pins s σ H xs us Q I r h
 obtain⟨F,ds,d,ft,rs,q,k⟩:=h
 unfold c_min at q
 split at q
 ·cases q
  obtain⟨x,y,rfl,p1,p2⟩:=rps2 rs
  exact call_min2 hc pins s σ H _ us Q I r ⟨_,_,by rw [show x=_ from p1,show y=_ from p2],k _ F H .refl rfl⟩
 ·cases q
theorem x_max (hg:Gl X "max") (hm:X.mg "max"=none) (ha:PA X (e::es) (tVs X.K fs)) (hc:X.calm=true:=by rfl)
  (he:starEach (e::es) X.env=(false,eval e X.env)::starEach es X.env:=by rfl) (hpl:(backTo pos (starEach es X.env)).any (·.1)=false:=by rfl):PE X (.Call (.Name "max" p) (e::es) [] pos) (tV X.K (vCall c_max fs)):=xCallB (callMax hc) hg hm PyProof.Rows.boot_max ha (by decide) (by decide) he hpl
theorem x_min (hg:Gl X "min") (hm:X.mg "min"=none) (ha:PA X (e::es) (tVs X.K fs)) (hc:X.calm=true:=by rfl)
  (he:starEach (e::es) X.env=(false,eval e X.env)::starEach es X.env:=by rfl) (hpl:(backTo pos (starEach es X.env)).any (·.1)=false:=by rfl):PE X (.Call (.Name "min" p) (e::es) [] pos) (tV X.K (vCall c_min fs)):=xCallB (callMin hc) hg hm PyProof.Rows.boot_min ha (by decide) (by decide) he hpl
noncomputable def dPut (k:Key) (v:D):List Key->List D->List Key×List D
 | k'::ks,w::ws=>if k'=k then (k'::ks,v::ws) else (k'::(dPut k v ks ws).1,w::(dPut k v ks ws).2)
 | _,_=>([k],[v])
noncomputable def ownD (d:D) (S:Sto):Option (Nat×List Key×List D):=match d with
 | .ref i=>match S[i]? with
  | some (.dct ks vs)=>some (i,ks,vs)
  | _=>none
 | _=>none
noncomputable def sPut (o:EE) (k v:EV):ES:=fun L S=>bnd (v L S) fun y S1=>bnd (o L S1) fun d S2=>bnd (k L S2) fun z S3=>match ownD d S3,keyOf z with
 | some (i,ks,vs),some key=>if (ks.Nodup/\few ks=true) then some (.nx,L,S3.set i (.dct (dPut key (.p y) ks vs).1 (dPut key (.p y) ks vs).2)) else none
 | _,_=>none
end
end Ev
namespace Ev
open PySem PySem.Spec PyProof.Rows L2
section
variable {X:Cx}{a b c e:Expr}{es:List Expr}{fa fb fc:EV}{fs:EVs}{pos p:Pos}
noncomputable def intsOf:List P->Option (List Int)
 | []=>some []
 | .int i::r=>(intsOf r).map (i::·)
 | _::_=>none
noncomputable def dEqD:P->P->Option P
 | .dct ks vs,.dct ks' vs'=>if ks=ks'/\ks.Nodup/\(intsOf vs).isSome=true/\intsOf vs=intsOf vs' then some (.bl true) else none
 | x,y=>dEq x y
theorem valueAt_cons_ne {k k':Key}{v:Value}{r:List (Key×Value)} (h:¬k'=k):valueAt ((k',v)::r) k=valueAt r k:=by simp [valueAt,List.find?_cons,h]
theorem valueAt_cons_eq {k:Key}{v:Value}{r:List (Key×Value)}:valueAt ((k,v)::r) k=some v:=by simp [valueAt,List.find?_cons]
theorem keq_hits {K:PySem.W.Frag}{F:Addr->Prop}{H:Hp}{A:Around}{s:Shared}:∀{kvs kvs':List (Key×V)}{ws ws':List (Key×Value)}{ds ds':List P}{is:List Int},(kvs.map (·.1)).Nodup->kvs.map (·.1)=kvs'.map (·.1)->KV kvs ws->KV kvs' ws' ->
  RPs K F H ds (kvs.map (·.2))->RPs K F H ds' (kvs'.map (·.2))->intsOf ds=some is->intsOf ds'=some is->∀{kb:List (Key×Value)},(∀k v,valueAt ws' k=some v->k ∈ kvs'.map (·.1)->valueAt kb k=some v)->PySem.W.KeqHits A s kb ws true
 | [],[],ws,ws',ds,ds',is,nd,e,k1,k2,r1,r2,i1,i2,kb,hk=>by cases k1;exact .nil
 | [],_::_,_,_,_,_,_,_,e,_,_,_,_,_,_,_,_=>by simp at e
 | _::_,[],_,_,_,_,_,_,e,_,_,_,_,_,_,_,_=>by simp at e
 | (k,v)::kvs,(k',v')::kvs',ws,ws',ds,ds',is,nd,e,k1,k2,r1,r2,i1,i2,kb,hk=>by
  cases k1 with
  | @cons _ q _ qs h1 t1=>
   cases k2 with
   | @cons _ q' _ qs' h2 t2=>
    obtain⟨kq,u⟩:=q
    obtain⟨kq',u'⟩:=q'
    obtain⟨e1,rv⟩:=h1
    obtain⟨e2,rv'⟩:=h2
    dsimp only at e1 e2 rv rv'
    subst e1;subst e2
    rw [List.map_cons,List.map_cons] at e
    injection e with ek er
    dsimp only at ek
    subst ek
    rw [List.map_cons] at nd
    obtain⟨nd1,nd2⟩:=List.nodup_cons.mp nd
    cases ds with
    | nil=>have:=RPs.length r1;simp at this
    | cons d dr=>
     cases ds' with
     | nil=>have:=RPs.length r2;simp at this
     | cons d' dr'=>
      obtain⟨x,xr,ex,p1,q1⟩:=r1
      obtain⟨x',xr',ex',p1',q1'⟩:=r2
      rw [List.map_cons] at ex ex'
      injection ex with exa exb
      injection ex' with exa' exb'
      subst exa exb exa' exb'
      cases d with
      | int i=>
       cases d' with
       | int i'=>
        simp only [intsOf] at i1 i2
        cases ei:intsOf dr with
        | none=>rw [ei] at i1;cases i1
        | some js=>
         cases ei':intsOf dr' with
         | none=>rw [ei'] at i2;cases i2
         | some js'=>
          rw [ei] at i1;rw [ei'] at i2
          cases i1
          have i2':i'::js'=i::js:=Option.some.inj i2
          injection i2' with z1 z2
          subst z1;subst z2
          cases (show v=.int i' from p1)
          cases (show v'=.int i' from p1')
          obtain⟨t,rfl⟩:=rv
          obtain⟨t',rfl⟩:=rv'
          have hy:valueAt kb k=some (.int i' t'):=hk k _ valueAt_cons_eq (by simp)
          have eqa:SeqAt.EqAt A s (.int i' t) (.int i' t') true:=by
           have:=SeqAt.EqAt.int_int (A:=A) (s:=s) i' t i' t'
           simpa using this
          have rest:=keq_hits (A:=A) (s:=s) nd2 er t1 t2 q1 q1' ei ei' (kb:=kb) fun k2 v2 hv hm=>by
           refine hk k2 v2 ?_ (List.mem_cons_of_mem _ hm)
           have:¬k=k2:=fun z=>by subst z;rw [<- er] at hm;exact nd1 hm
           rw [valueAt_cons_ne this];exact hv
          have:=PySem.W.KeqHits.hit (e:=true) (b:=true) hy eqa rest
          exact this
       | _=>simp [intsOf] at i2
      | _=>simp [intsOf] at i1
theorem opEqD (hu:X.A.units+1 < cLine):OpP X (compareOp .Eq) dEqD:=by
 intro pins s σ H x y v u Q I rx ry h
 obtain⟨F,dx,dy,d,ft,px,py,q,k⟩:=h
 have other:dEq dx dy=some d->wpAny (model X.prog X.w) X.A (compareOp .Eq v u) (EP X pins σ Q) X.xe s:=fun q=>opEq pins s σ H x y v u Q I rx ry ⟨F,dx,dy,d,ft,px,py,q,k⟩
 cases dx with
 | dct ks vs=>
  cases dy with
  | dct ks' vs'=>
   simp only [dEqD] at q
   split at q
   ·rename_i hc
    cases q
    obtain⟨ek,nd,hs,hi⟩:=hc
    obtain⟨a,kvs,rfl,fa,hka,e1,ra⟩:=px
    obtain⟨b,kvs',rfl,fb,hkb,e2,rb⟩:=py
    cases rx;cases ry
    obtain⟨za,ha,ws,relA,da⟩:=dk_of I.hok hka
    obtain⟨zb,hb,ws',relB,db⟩:=dk_of I.hok hkb
    obtain⟨is,his⟩:=Option.isSome_iff_exists.mp hs
    subst e1
    have hits:=keq_hits (A:=X.A.in1) (s:=s) nd (by rw [e2];exact ek) relA relB ra rb his (by rw [<- hi];exact his) (kb:=ws') fun _ _ h _=>h
    refine PySem.W.keq_eq ha hb da db (by omega) (fun _=>hits) ?_
    have hl:ws.length=ws'.length:=by
     have l1:=relA.length
     have l2:=relB.length
     have l3:=congrArg List.length ek
     rw [<- e2,List.length_map,List.length_map] at l3
     omega
    rw [hl]
    simp only [beq_self_eq_true,Bool.and_self]
    exact⟨.bl true,H,I,rfl,k _ F H .refl rfl⟩
   ·cases q
  | _=>exact other q
 | _=>exact other q
noncomputable def signs (x:Str):List P:=x.cps.toList.map fun c=>.str ⟨#[c]⟩
noncomputable def Itx (x:Str):It:=⟨fun i _=>i < x.cps.size,fun i H v H'=>H'=H/\∃c,x.cps[i]? = some c/\v=.str ⟨#[c]⟩,fun i _=>x.cps.size≤i⟩
theorem turn_text {P:Program}{w:World}{K:PySem.W.Frag}{tg:Expr} (it:Addr) (x:Str) (t:Tok):Turn P w K tg (Itx x) [it] it (fun i h=>h.IsStrIter it "str_ascii_iterator" x t i) where
 mem:=by simp
 obj:=fun i h st b hb=>by
  have e:b=it:=by simpa using hb
  subst e
  obtain⟨o,e,c,d⟩:=st
  exact⟨o,e,fun v z=>by rw [d] at z;cases z⟩
 keep:=fun i h h' st k=>let ⟨o,e,r⟩:=st;⟨o,k it (by simp) o e,r⟩
 item:=by
  intro X hP hw hK hc i pins s σ H E I hf st hg
  subst hP hw hK
  obtain⟨f0,f1,f2,f3,f4,f5⟩:=hf it (by simp)
  have hi:x.cps[i]? = some (x.cps[i]'hg):=Array.getElem?_eq_getElem hg
  refine wpAny_pyNext_ascii_item st hi fun h' st' sb=>?_
  have I1:L2.Inv X pins σ H { s with heap:=h',toks:=s.toks+1 }:=I.turned (fun b o hb e=>(sb.2 b hb).trans e) f0 f1 f3 f4 f5
  obtain⟨o,e,c,d⟩:=id st'
  exact⟨_,rfl,go_of (s:={ s with heap:=h',toks:=s.toks+1 }) e c d (by decide) ⟨.str ⟨#[x.cps[i]'hg]⟩,H,I1,⟨_,rfl⟩,⟨rfl,_,hi,rfl⟩,st',fun b hb=>(hf b hb).1⟩⟩
 done:=by
  intro X hP hw hK hc i pins s σ H E I hf st hg
  subst hP hw hK
  obtain⟨f0,f1,f2,f3,f4,f5⟩:=hf it (by simp)
  exact wpAny_pyNext_ascii_end (I.ok.hd hc) st (by rw [Array.getElem?_eq_none_iff];exact hg) fun h' eb=>⟨rfl,I.turned (t':=s.toks) (fun b o hb e=>eb b o hb e) f0 f1 f3 f4 f5⟩
 self:=fun _ _ _ _ _ st h=>wpAny_pyIter_striter_ascii st h
theorem itx_ok {K:PySem.W.Frag}{F:Addr->Prop}{m:List Addr}{H:Hp}{x:Str}:ItP K (Itx x) (signs x) F m H:=by
 intro F2 m2 H2 s
 have hl:(signs x).length=x.cps.size:=by unfold signs;simp
 refine⟨fun i v e=>?_,by show x.cps.size≤(signs x).length;rw [hl];exact Nat.le_refl _⟩
 have hi:i < x.cps.size:=by rw [<- hl];exact (List.getElem?_eq_some_iff.mp e).1
 refine⟨hi,fun y H3 z=>?_⟩
 obtain⟨rfl,c,hc,rfl⟩:=z
 refine⟨F2,.refl,?_⟩
 unfold signs at e
 rw [List.getElem?_map,Array.getElem?_toList,hc] at e
 cases e
 exact rfl
noncomputable def itS (a:EV):EVs:=fun L S=>bnd (a L S) fun v S1=>match v with
 | .lst xs=>some (xs,S1)
 | .ro xs=>some (xs,S1)
 | .tup xs=>some (xs,S1)
 | .str x=>if (x.cps.all (· < 128))=true then some (signs x,S1) else none
 | _=>none
theorem iS {tg iter:Expr} (h:PE X iter (tV X.K fa)):PI X tg iter (tI X.K (itS fa)):=by
 intro pins s σ H R I ⟨F,m,L,S,vs,S',r,l,q,k⟩
 obtain⟨v,S1,e1,q⟩:=bnd_eq q
 refine thn (h pins s σ H (fun x H1=>∃F1 m1,Stp F m H F1 m1 H1/\Rel X.K F1 H1 m1 S1/\RP X.K F1 H1 v x) I ⟨F,m,L,S,v,S1,r,l,e1,fun x F1 m1 H1 s1 r1 p1=>⟨F1,m1,s1,r1,p1⟩⟩) fun u s1 hz=>?_
 obtain⟨x,H1,I1,rx,F1,m1,st,r1,p1⟩:=hz
 have mk:∀{J:It},ItP X.K J vs F1 m1 H1->S1=S'->R J H1:=fun it e=>by subst e;exact k _ F1 m1 H1 st r1 it
 have listCase:∀{a:Addr}{xs:List V},x=.ref a->SqL X.K H1 a xs->R (Itl X.K a) H1->wpAny (model X.prog X.w) X.A (pyIter u) (PIE X pins σ tg R) X.xe s1:=fun {a xs} e hq q=>by
  subst e
  cases rx
  obtain⟨its,rv,p,hz⟩:=I1.list hq
  refine wpAny_pyIter_list p.isList ?_
  refine⟨s1.heap.objs.size,[s1.heap.objs.size],_,_,H1,rfl,I1.kept (t':=s1.toks) fun b o e=>Heap.get?_push_of_some _ e,turn_list a _,⟨_,Heap.get?_push_size _ rfl,rfl,rfl⟩,fun b hb=>?_,q⟩
  have e:b=s1.heap.objs.size:=by simpa using hb
  subst e
  exact I1.fpOk (Nat.le_refl _) (I1.hok.fresh (Nat.le_refl _))
 cases v with
 | lst ds=>
  cases q
  obtain⟨a,xs,rfl,ta,ra⟩:=p1
  exact listCase rfl ta.sq (mk (itl_ok (fun F2 m2 H2 s=>(ta.kp s.kp).sq) ra) rfl)
 | ro ds=>
  cases q
  obtain⟨a,xs,rfl,ta,ra⟩:=p1
  exact listCase rfl ta.sq (mk (itl_ok (fun F2 m2 H2 s=>(ta.kp s.kp).sq) ra) rfl)
 | tup ds=>
  cases q
  obtain⟨a,xs,rfl,ta,ra⟩:=p1
  cases rx
  obtain⟨its,rv,pp,hz⟩:=I1.tuple ta.sq
  refine wpAny_pyIter_tuple (show s1.heap.IsTuple a its.toArray from pp) ?_
  refine⟨s1.heap.objs.size,[s1.heap.objs.size],_,_,H1,rfl,I1.kept (t':=s1.toks) fun b o e=>Heap.get?_push_of_some _ e,turn_tuple a _,⟨_,Heap.get?_push_size _ rfl,rfl,rfl⟩,fun b hb=>?_,mk (itt_ok ta ra) rfl⟩
  have e:b=s1.heap.objs.size:=by simpa using hb
  subst e
  exact I1.fpOk (Nat.le_refl _) (I1.hok.fresh (Nat.le_refl _))
 | str z=>
  dsimp only at q
  split at q
  ·rename_i ha
   cases q
   cases (show x=.str z from p1)
   obtain⟨t,rfl⟩:=(show ∃t,u=Value.str z t from rx)
   refine wpAny_pyIter_ascii ha ?_
   refine⟨s1.heap.objs.size,[s1.heap.objs.size],_,_,H1,rfl,I1.kept (t':=s1.toks) fun b o e=>Heap.get?_push_of_some _ e,turn_text _ z t,⟨_,Heap.get?_push_size _ rfl,rfl,rfl⟩,fun b hb=>?_,mk itx_ok rfl⟩
   have e:b=s1.heap.objs.size:=by simpa using hb
   subst e
   exact I1.fpOk (Nat.le_refl _) (I1.hok.fresh (Nat.le_refl _))
  ·cases q
 | _=>cases q
end
end Ev
namespace Ev
open PySem PySem.Spec PyProof.Rows L2
section
variable {X:Cx}{pos p:Pos}
noncomputable abbrev DE:=List (Str×EV)
end
end Ev
namespace Ev
open PySem PySem.Spec PyProof.Rows L2
mutual
noncomputable def pd:P->PyData
 | .non=>.none
 | .bl b=>.bool b
 | .int i=>.int i
 | .str x=>.str x
 | .tup xs=>.tuple (pds xs)
 | .lst xs=>.list (pds xs)
 | .ro xs=>.list (pds xs)
 | .dct _ _=>.none
noncomputable def pds:List P->List PyData
 | []=>[]
 | x::r=>pd x::pds r
end
noncomputable def okP:Nat->P->Bool
 | _,.non=>true
 | _,.bl _=>true
 | _,.int _=>true
 | _,.str x=>PyData.strOk x
 | n+1,.tup xs=>xs.all (okP n)
 | n+1,.lst xs=>xs.all (okP n)
 | n+1,.ro xs=>xs.all (okP n)
 | _,_=>false
theorem lay_all {n:Nat}:∀{ds:List P},(∀d ∈ ds,(pd d).canLay0=true/\(pd d).depth≤n)->PyData.canLayAll0 (pds ds)=true/\PyData.depthAll (pds ds)≤n
 | [],_=>⟨rfl,Nat.zero_le _⟩
 | d::r,h=>by
  obtain⟨⟨p1,p2⟩,q⟩:=List.forall_mem_cons.mp h
  obtain⟨p3,p4⟩:=lay_all q
  exact⟨by simp only [pds,PyData.canLayAll0,p1,p3,Bool.and_self],by simp only [pds,PyData.depthAll];omega⟩
theorem okP_lay:∀(n:Nat) (p:P),okP n p=true->(pd p).canLay0=true/\(pd p).depth≤n
 | _,.non,_=>⟨rfl,Nat.zero_le _⟩
 | _,.bl _,_=>⟨rfl,Nat.zero_le _⟩
 | _,.int _,_=>⟨rfl,Nat.zero_le _⟩
 | n,.str x,h=>⟨by cases n <;> exact h,Nat.zero_le _⟩
 | n,.dct _ _,h=>by cases n <;> cases h
 | 0,.tup _,h=>by cases h
 | 0,.lst _,h=>by cases h
 | 0,.ro _,h=>by cases h
 | n+1,.tup ds,h=>by
  obtain⟨a,b⟩:=lay_all fun d hd=>okP_lay n d (List.all_eq_true.mp h d hd)
  exact⟨a,by simp only [pd,PyData.depth];omega⟩
 | n+1,.lst ds,h=>by
  obtain⟨a,b⟩:=lay_all fun d hd=>okP_lay n d (List.all_eq_true.mp h d hd)
  exact⟨a,by simp only [pd,PyData.depth];omega⟩
 | n+1,.ro ds,h=>by
  obtain⟨a,b⟩:=lay_all fun d hd=>okP_lay n d (List.all_eq_true.mp h d hd)
  exact⟨a,by simp only [pd,PyData.depth];omega⟩
theorem okP_shaped {p:P} (h:okP 20 p=true):SeqAt.shaped (pd p)=true:=by
 obtain⟨h1,h2⟩:=okP_lay 20 p h
 unfold SeqAt.shaped
 rw [h1,Bool.true_and]
 exact decide_eq_true (by omega)
section
variable {X:Cx}{pins:List (Addr×Obj)}{σ:L2.St}{H:Hp}{s:Shared}{F:Addr->Prop}
theorem readsAll_of {n:Nat} (one:∀{p:P}{v:V}{u:Value},RP X.K F H p v->RelV v u->okP n p=true->∃as,Reads s.heap u (pd p) as) :
  ∀{ds:List P}{xs:List V}{us:List Value},RPs X.K F H ds xs->Vals xs us->(∀d ∈ ds,okP n d=true)->∃as,ReadsAll s.heap us (pds ds) as
 | [],xs,us,r,v,_=>by
  cases (show xs=[] from r)
  cases v
  exact⟨_,.nil⟩
 | d::ds,xs,us,r,v,h=>by
  obtain⟨x,xr,rfl,p,r⟩:=r
  cases v with
  | cons ru rr=>
   obtain⟨as,q⟩:=one p ru (h d (.head _))
   obtain⟨bs,q2⟩:=readsAll_of one r rr fun e he=>h e (.tail _ he)
   exact⟨_,.cons q q2⟩
theorem reads_of (I:Inv X pins σ H s):∀(n:Nat) {p:P}{v:V}{u:Value},RP X.K F H p v->RelV v u->okP n p=true->∃as,Reads s.heap u (pd p) as:=by
 intro n
 induction n with
 | zero=>
  intro p v u r rv h
  cases p with
  | non=>cases (show v=.non from r);cases rv;exact⟨_,.none⟩
  | bl b=>cases (show v=.bl b from r);cases rv;exact⟨_,.bool b⟩
  | int i=>cases (show v=.int i from r);obtain⟨t,rfl⟩:=rv;exact⟨_,.int i t⟩
  | str x=>cases (show v=.str x from r);obtain⟨t,rfl⟩:=rv;exact⟨_,.str x t⟩
  | _=>simp [okP] at h
 | succ n ih=>
  intro p v u r rv h
  cases p with
  | non=>cases (show v=.non from r);cases rv;exact⟨_,.none⟩
  | bl b=>cases (show v=.bl b from r);cases rv;exact⟨_,.bool b⟩
  | int i=>cases (show v=.int i from r);obtain⟨t,rfl⟩:=rv;exact⟨_,.int i t⟩
  | str x=>cases (show v=.str x from r);obtain⟨t,rfl⟩:=rv;exact⟨_,.str x t⟩
  | dct ks vs=>simp [okP] at h
  | tup ds=>
   obtain⟨a,xs,rfl,ta,ra⟩:=r
   cases rv
   obtain⟨its,rvs,⟨o,e,c,m,d⟩,hz⟩:=I.tuple ta.sq
   obtain⟨as,q⟩:=readsAll_of ih ra rvs (by simpa [okP] using h)
   rw [pd]
   exact⟨as,reads_tuple_at e c d (by simpa using q)⟩
  | lst ds=>
   obtain⟨a,xs,rfl,ta,ra⟩:=r
   cases rv
   obtain⟨its,rvs,⟨o,m,e,c,_,d⟩,hz⟩:=I.list ta.sq
   obtain⟨as,q⟩:=readsAll_of ih ra rvs (by simpa [okP] using h)
   rw [pd]
   exact⟨_,reads_list_at e c d (by simpa using q)⟩
  | ro ds=>
   obtain⟨a,xs,rfl,ta,ra⟩:=r
   cases rv
   obtain⟨its,rvs,⟨o,m,e,c,_,d⟩,hz⟩:=I.list ta.sq
   obtain⟨as,q⟩:=readsAll_of ih ra rvs (by simpa [okP] using h)
   rw [pd]
   exact⟨_,reads_list_at e c d (by simpa using q)⟩
end
noncomputable def mapO (f:D->Option P):List D->Option (List P)
 | []=>some []
 | d::r=>(f d).bind fun v=>(mapO f r).map fun vs=>v::vs
noncomputable def snap (S:Sto):Nat->D->Option P
 | _,.p v=>some v
 | 0,.ref _=>none
 | n+1,.ref i=>match S[i]? with
  | some (.lst ds)=>(mapO (snap S n) ds).map .lst
  | some (.fz v)=>some v
  | _=>none
@[simp] theorem snap_p (S:Sto) (n:Nat) (v:P):snap S n (.p v)=some v:=by cases n <;> rfl
theorem mapO_ps (S:Sto) (n:Nat):∀vs:List P,mapO (snap S n) (vs.map .p)=some vs
 | []=>rfl
 | v::r=>by simp [mapO,mapO_ps S n r]
section
variable {X:Cx}{pins:List (Addr×Obj)}{σ:L2.St}{H:Hp}{s:Shared}{F:Addr->Prop}{m:List Addr}{S:Sto}
theorem mapO_reads {k n:Nat} (one:∀{d:D}{v:V}{u:Value}{p:P},RD X.K F H m d v->RelV v u->snap S n d=some p->okP k p=true->∃as,Reads s.heap u (pd p) as) :
  ∀{ds:List D}{xs:List V}{us:List Value}{ps:List P},RDs X.K F H m ds xs->Vals xs us->mapO (snap S n) ds=some ps->(∀d ∈ ps,okP k d=true)->∃as,ReadsAll s.heap us (pds ps) as
 | [],xs,us,ps,r,v,q,_=>by
  cases (show xs=[] from r)
  cases v
  cases q
  exact⟨_,.nil⟩
 | d::ds,xs,us,ps,r,v,q,h=>by
  obtain⟨x,xr,rfl,p,r⟩:=r
  obtain⟨y,q1,q⟩:∃a,snap S n d=some a/\(mapO (snap S n) ds).map (fun vs=>a::vs)=some ps:=by
   cases e:snap S n d with
   | none=>simp [mapO,e] at q
   | some a=>exact⟨a,rfl,by simpa [mapO,e] using q⟩
  obtain⟨ys,q2,rfl⟩:∃a,mapO (snap S n) ds=some a/\ps=y::a:=by
   cases e:mapO (snap S n) ds with
   | none=>rw [e] at q;cases q
   | some a=>rw [e] at q;cases q;exact⟨a,rfl,rfl⟩
  cases v with
  | cons ru rr=>
   obtain⟨as,g1⟩:=one p ru q1 (h y (.head _))
   obtain⟨bs,g2⟩:=mapO_reads one r rr q2 fun e he=>h e (.tail _ he)
   exact⟨_,.cons g1 g2⟩
theorem snap_reads (I:Inv X pins σ H s) (rl:Rel X.K F H m S):∀(n k:Nat) {d:D}{v:V}{u:Value}{p:P},RD X.K F H m d v->RelV v u->snap S n d=some p->okP k p=true->∃as,Reads s.heap u (pd p) as:=by
 intro n
 induction n with
 | zero=>
  intro k d v u p r rv q h
  cases d with
  | p w=>rw [snap_p] at q;cases q;exact reads_of I k r rv h
  | ref i=>cases q
 | succ n ih=>
  intro k d v u p r rv q h
  cases d with
  | p w=>rw [snap_p] at q;cases q;exact reads_of I k r rv h
  | ref i=>
   obtain⟨a,rfl,hm⟩:=r
   have hi:i < S.length:=by rw [<- rl.len];exact (List.getElem?_eq_some_iff.mp hm).1
   obtain⟨o,ho⟩:∃o,S[i]? = some o:=⟨S[i],by simp [hi]⟩
   have ob:=rl.obj i a o hm ho
   simp only [snap,ho] at q
   cases o with
   | fz w=>cases q;exact reads_of I k ob rv h
   | dct ks ds=>cases q
   | ins _ _ _=>cases q
   | lst ds=>
    dsimp only at q
    cases e:mapO (snap S n) ds with
    | none=>rw [e] at q;cases q
    | some ps=>
     rw [e] at q
     cases q
     cases k with
     | zero=>simp [okP] at h
     | succ k=>
      obtain⟨xs,hH,rs⟩:=ob
      cases rv
      obtain⟨its,rvs,⟨o,m',e',c,_,d⟩,hz⟩:=I.list (SqL.of hH)
      obtain⟨as,q⟩:=mapO_reads (k:=k) (fun r rv q h=>ih k r rv q h) rs rvs e (by simpa [okP] using h)
      rw [pd]
      exact⟨_,reads_list_at e' c d (by simpa using q)⟩
theorem snap_rp (rl:Rel X.K F H m S) {n:Nat}{d:D}{v:V}{p:P} (r:RD X.K F H m d v) (q:snap S n d=some p) (hp:∀xs,p≠.lst xs):RP X.K F H p v:=by
 cases d with
 | p w=>rw [snap_p] at q;cases q;exact r
 | ref i=>
  cases n with
  | zero=>cases q
  | succ n=>
   obtain⟨a,rfl,hm⟩:=r
   have hi:i < S.length:=by rw [<- rl.len];exact (List.getElem?_eq_some_iff.mp hm).1
   obtain⟨o,ho⟩:∃o,S[i]? = some o:=⟨S[i],by simp [hi]⟩
   have ob:=rl.obj i a o hm ho
   simp only [snap,ho] at q
   cases o with
   | fz w=>cases q;exact ob
   | dct ks ds=>cases q
   | ins _ _ _=>cases q
   | lst ds=>
    dsimp only at q
    cases e:mapO (snap S n) ds with
    | none=>rw [e] at q;cases q
    | some ps=>rw [e] at q;cases q;exact absurd rfl (hp ps)
end
noncomputable def rE (K:PySem.W.Frag) (g:D->D->Sto->Option P):R2:=fun x y H Q=>∃F m S d e v,Rel K F H m S/\RD K F H m d x/\RD K F H m e y/\g d e S=some v/\∀u F' H',Grow F H F' H'->RP K F' H' v u->Q u H'
noncomputable def vOpE (g:D->D->Sto->Option P) (a b:EE):EV:=fun L S=>bnd (a L S) fun x S1=>bnd (b L S1) fun y S2=>(g x y S2).map fun v=>(v,S2)
section
variable {X:Cx}{a b:Expr}{fa fb:EE}{pos:Pos}
theorem tOpE_of {g:D->D->Sto->Option P}{σ:L2.St}{H:Hp}{Q:VK} (h:tV X.K (vOpE g fa fb) σ H Q):tOp (rE X.K g) (tE X.K fa) (tE X.K fb) σ H Q:=by
 obtain⟨F,m,L,S,d,S',r,l,q,k⟩:=h
 obtain⟨x,S1,e1,q⟩:=bnd_eq q
 obtain⟨y,S2,e2,q⟩:=bnd_eq q
 refine⟨F,m,L,S,x,S1,r,l,e1,fun v F1 m1 H1 s1 r1 p1=>?_⟩
 refine⟨F1,m1,L,S1,y,S2,r1,l.mono s1,e2,fun u F2 m2 H2 s2 r2 p2=>?_⟩
 cases eg:g x y S2 with
 | none=>rw [eg] at q;cases q
 | some z=>
  rw [eg] at q
  cases q
  exact⟨F2,m2,S',x,y,_,r2,RD.mono s2 p1,p2,eg,fun w F3 H3 gr p3=>k w F3 m2 H3 (s1.trans (s2.trans gr.stp)) (r2.grow gr) p3⟩
theorem xCmpE {op:CmpOp}{g:D->D->Sto->Option P} (ho:OpR X (compareOp op) (rE X.K g)) (ha:PE X a (tE X.K fa)) (hb:PE X b (tE X.K fb)) (hm:behindInMarks op b=false):PE X (.Compare a [op] [b] pos) (tV X.K (vOpE g fa fb)):=
 (pe_cmpR ho ha hb hm).imp' fun _ _ _ h=>tOpE_of h
theorem yCmpE {op:CmpOp}{g:D->D->Sto->Option P} (ho:OpR X (compareOp op) (rE X.K g)) (ha:PE X a (tE X.K fa)) (hb:PE X b (tE X.K fb)) (hm:behindInMarks op b=false):PT X (.Compare a [op] [b] pos) (tQ X.K (bV (vOpE g fa fb))):=
 (pt_cmpR ho ha hb hm).imp' fun σ H Q h=>by
  refine tOpE_of ?_
  obtain⟨F,m,L,S,d,S',r,l,q,k⟩:=h
  obtain⟨x,S1,e1,q⟩:=bnd_eq q
  cases x with
  | bl b=>cases q;exact⟨F,m,L,S,_,_,r,l,e1,fun v F' m' H' s r' p=>⟨_,p,k F' m' H' s r'⟩⟩
  | _=>cases q
end
noncomputable def eqD (x y:P):Option Bool:=match dEqD x y with
 | some (.bl b)=>some b
 | _=>if (okP 20 x && okP 20 y)=true then some (PyData.eqv (pd x) (pd y)) else none
noncomputable def gEq (d e:D) (S:Sto):Option P:=(snap S 9 d).bind fun x=>(snap S 9 e).bind fun y=>(eqD x y).map .bl
noncomputable def neD (x y:P):Option Bool:=match dNe x y with
 | some (.bl b)=>some b
 | _=>if (okP 20 x && okP 20 y)=true then some (!PyData.eqv (pd x) (pd y)) else none
noncomputable def gNe (d e:D) (S:Sto):Option P:=(snap S 9 d).bind fun x=>(snap S 9 e).bind fun y=>(neD x y).map .bl
noncomputable def dKeys (c:D) (S:Sto):Option (List Key):=match c with
 | .p (.dct ks _)=>some ks
 | .ref i=>match S[i]? with
  | some (.dct ks _)=>some ks
  | some (.fz (.dct ks _))=>some ks
  | _=>none
 | _=>none
noncomputable def inP (x c:P):Option Bool:=match x,c with
 | .str i,.str j=>some (!(Builtin.Str.occurrences j i 0 j.length 1).isEmpty)
 | x,.lst xs=>if (xs.all (okP 19) && okP 19 x)=true then some (xs.any fun y=>PyData.eqv (pd y) (pd x)) else none
 | x,.ro xs=>if (xs.all (okP 19) && okP 19 x)=true then some (xs.any fun y=>PyData.eqv (pd y) (pd x)) else none
 | x,.tup xs=>if (xs.all (okP 19) && okP 19 x)=true then some (xs.any fun y=>PyData.eqv (pd y) (pd x)) else none
 | _,_=>none
noncomputable def hasK (k:Key) (ks:List Key):Bool:=ks.any fun k'=>decide (k'=k)
noncomputable def inG (d c:D) (S:Sto):Option Bool:=match dKeys c S with
 | some ks=>(snap S 9 d).bind fun x=>(keyOf x).map fun k=>hasK k ks
 | none=>(snap S 9 d).bind fun x=>(snap S 9 c).bind fun y=>inP x y
noncomputable def gIn (d c:D) (S:Sto):Option P:=(inG d c S).map .bl
noncomputable def gNotIn (d c:D) (S:Sto):Option P:=(inG d c S).map fun b=>.bl (!b)
noncomputable def isNon:D->Bool
 | .p .non=>true
 | _=>false
noncomputable def gIs (d e:D) (_:Sto):Option P:=match e with
 | .p .non=>some (.bl (isNon d))
 | _=>none
noncomputable def gIsNot (d e:D) (_:Sto):Option P:=match e with
 | .p .non=>some (.bl (!isNon d))
 | _=>none
theorem dEqD_nolst {x y:P}{b:P} (h:dEqD x y=some b):(∀xs,x≠.lst xs)/\∀xs,y≠.lst xs:=by
 refine⟨fun xs e=>?_,fun xs e=>?_⟩
 ·subst e;cases y <;> cases h
 ·subst e;cases x <;> cases h
section
variable {X:Cx}
theorem opEqE (hu:X.A.units+64 < cLine):OpR X (compareOp .Eq) (rE X.K gEq):=by
 intro pins s σ H x y v u Q I rx ry h
 obtain⟨F,m,S,d,e,r,rl,px,py,q,k⟩:=h
 unfold gEq at q
 cases e1:snap S 9 d with
 | none=>rw [e1] at q;cases q
 | some a=>
  rw [e1] at q
  cases e2:snap S 9 e with
  | none=>rw [e2] at q;cases q
  | some b=>
   rw [e2] at q
   simp only [Option.bind_some] at q
   cases e3:eqD a b with
   | none=>rw [e3] at q;cases q
   | some c=>
    rw [e3] at q
    cases q
    unfold eqD at e3
    split at e3
    ·rename_i c' ec
     cases e3
     obtain⟨n1,n2⟩:=dEqD_nolst ec
     exact opEqD (by omega) pins s σ H x y v u Q I rx ry ⟨F,a,b,.bl c,rl.ft,snap_rp rl px e1 n1,snap_rp rl py e2 n2,ec,k⟩
    ·split at e3
     ·rename_i hc
      rw [Bool.and_eq_true] at hc
      cases e3
      obtain⟨as,ra⟩:=snap_reads I rl 9 20 px rx e1 hc.1
      obtain⟨bs,rb⟩:=snap_reads I rl 9 20 py ry e2 hc.2
      exact eq_dataH ra rb (okP_shaped hc.1) (okP_shaped hc.2) hu ⟨.bl _,H,I,rfl,k _ F H .refl rfl⟩
     ·cases e3
theorem dNe_nolst {x y:P}{b:P} (h:dNe x y=some b):(∀xs,x≠.lst xs)/\∀xs,y≠.lst xs:=by
 refine⟨fun xs e=>?_,fun xs e=>?_⟩
 ·subst e;cases y <;> cases h
 ·subst e;cases x <;> cases h
theorem opNeE (hu:X.A.units+64 < cLine):OpR X (compareOp .NotEq) (rE X.K gNe):=by
 intro pins s σ H x y v u Q I rx ry h
 obtain⟨F,m,S,d,e,r,rl,px,py,q,k⟩:=h
 unfold gNe at q
 cases e1:snap S 9 d with
 | none=>rw [e1] at q;cases q
 | some a=>
  rw [e1] at q
  cases e2:snap S 9 e with
  | none=>rw [e2] at q;cases q
  | some b=>
   rw [e2] at q
   simp only [Option.bind_some] at q
   cases e3:neD a b with
   | none=>rw [e3] at q;cases q
   | some c=>
    rw [e3] at q
    cases q
    unfold neD at e3
    split at e3
    ·rename_i c' ec
     cases e3
     obtain⟨n1,n2⟩:=dNe_nolst ec
     exact opNe pins s σ H x y v u Q I rx ry ⟨F,a,b,.bl c,rl.ft,snap_rp rl px e1 n1,snap_rp rl py e2 n2,ec,k⟩
    ·split at e3
     ·rename_i hc
      rw [Bool.and_eq_true] at hc
      cases e3
      obtain⟨as,ra⟩:=snap_reads I rl 9 20 px rx e1 hc.1
      obtain⟨bs,rb⟩:=snap_reads I rl 9 20 py ry e2 hc.2
      exact ne_dataH ra rb (okP_shaped hc.1) (okP_shaped hc.2) hu ⟨.bl _,H,I,rfl,k _ F H .refl rfl⟩
     ·cases e3
theorem pds_any (x:P):∀xs:List P,(pds xs).any (fun y=>PyData.eqv y (pd x))=xs.any fun y=>PyData.eqv (pd y) (pd x)
 | []=>rfl
 | y::r=>by rw [pds,List.any_cons,List.any_cons,pds_any x r]
theorem okAll {xs:List P} (h:xs.all (okP 19)=true):PyData.canLayAll0 (pds xs)=true/\PyData.depthAll (pds xs)≤20:=by
 have l:=okP_lay 20 (.lst xs) h
 simp only [pd,PyData.canLay0,PyData.depth] at l
 have l2:=l.2
 exact⟨l.1,by omega⟩
theorem valV_some {kvs:List (Key×V)}{k:Key}:(valV kvs k).isSome=hasK k (kvs.map (·.1)):=by
 induction kvs with
 | nil=>rfl
 | cons p r ih=>
  unfold hasK at ih ⊢
  by_cases h:p.1=k
  ·rw [valV_pos h,List.map_cons,List.any_cons,decide_eq_true h];rfl
  ·rw [valV_neg h,ih,List.map_cons,List.any_cons,decide_eq_false h];rfl
theorem dKeys_ok {K:PySem.W.Frag}{F:Addr->Prop}{H:Hp}{m:List Addr}{S:Sto}{c:D}{y:V}{ks:List Key} (rl:Rel K F H m S) (py:RD K F H m c y) (q:dKeys c S=some ks):∃a kvs,y=.ref a/\H a=some (.dK kvs)/\kvs.map (·.1)=ks:=by
 unfold dKeys at q
 split at q
 ·cases q
  obtain⟨a,kvs,e,_,hk,e2,_⟩:=py
  exact⟨a,kvs,e,hk,e2⟩
 ·rename_i i
  obtain⟨a,rfl,hm⟩:=py
  split at q
  ·rename_i o
   cases q
   obtain⟨kvs,hk,e2,_⟩:=rl.obj i a _ hm o
   exact⟨a,kvs,rfl,hk,e2⟩
  ·rename_i o
   cases q
   obtain⟨b,kvs,e,_,hk,e2,_⟩:=rl.obj i a _ hm o
   cases e
   exact⟨a,kvs,rfl,hk,e2⟩
  ·cases q
 ·cases q
theorem opInE (hu:X.A.units+64 < cLine):OpR X (compareOp .In) (rE X.K gIn):=by
  intro pins s σ H x y v u Q I rx ry h
  obtain⟨F,m,S,d,e,r,rl,px,py,q,k⟩:=h
  unfold gIn inG at q
  cases ek:dKeys e S with
  | some ks=>
    rw [ek] at q
    dsimp only at q
    cases e1:snap S 9 d with
    | none=>rw [e1] at q;cases q
    | some a=>
      rw [e1] at q
      simp only [Option.bind_some] at q
      cases e2:keyOf a with
      | none=>rw [e2] at q;cases q
      | some key=>
        rw [e2] at q
        cases q
        obtain⟨b,kvs,rfl,hk,e3⟩:=dKeys_ok rl py ek
        have pa:RP X.K F H a x:=snap_rp rl px e1 fun xs z=>by subst z;cases e2
        cases ry
        cases keyOf_kV e2 pa
        exact d_in (by omega) I (DGet.k hk) rx fun s3 I3=>⟨.bl _,H,I3,rfl,by rw [valV_some,e3];exact k _ F H .refl rfl⟩
  | none=>
    rw [ek] at q
    dsimp only at q
    cases e1:snap S 9 d with
    | none=>rw [e1] at q;cases q
    | some a=>
      rw [e1] at q
      cases e2:snap S 9 e with
      | none=>rw [e2] at q;cases q
      | some b=>
        rw [e2] at q
        simp only [Option.bind_some] at q
        cases e3:inP a b with
        | none=>rw [e3] at q;cases q
        | some c=>
          rw [e3] at q
          cases q
          unfold inP at e3
          split at e3
          · cases e3
            cases (show x=.str _ from snap_rp rl px e1 fun xs z=>by cases z)
            cases (show y=.str _ from snap_rp rl py e2 fun xs z=>by cases z)
            exact op_in_str pins s σ H _ _ v u Q I rx ry ⟨_,_,rfl,rfl,k _ F H .refl rfl⟩
          all_goals first
            | (cases e3;done)
            | (split at e3
               · rename_i hc
                 rw [Bool.and_eq_true] at hc
                 cases e3
                 obtain⟨as,ra⟩:=snap_reads I rl 9 20 py ry e2 (by simpa [okP] using hc.1)
                 obtain⟨bs,rb⟩:=snap_reads I rl 9 19 px rx e1 hc.2
                 have la:=okAll hc.1
                 have lb:=okP_lay 19 _ hc.2
                 rw [pd] at ra
                 first
                   | exact SeqAt.in_list_reads ra rb la.1 lb.1 (by omega) ⟨.bl _,H,I,rfl,by rw [pds_any];exact k _ F H .refl rfl⟩
                   | exact SeqAt.in_tuple_reads ra rb la.1 lb.1 (by omega) ⟨.bl _,H,I,rfl,by rw [pds_any];exact k _ F H .refl rfl⟩
               · cases e3)
theorem opNotInE (hu:X.A.units+64 < cLine):OpR X (compareOp .NotIn) (rE X.K gNotIn):=by
  intro pins s σ H x y v u Q I rx ry h
  obtain⟨F,m,S,d,e,r,rl,px,py,q,k⟩:=h
  unfold gNotIn inG at q
  cases ek:dKeys e S with
  | some ks=>
    rw [ek] at q
    dsimp only at q
    cases e1:snap S 9 d with
    | none=>rw [e1] at q;cases q
    | some a=>
      rw [e1] at q
      simp only [Option.bind_some] at q
      cases e2:keyOf a with
      | none=>rw [e2] at q;cases q
      | some key=>
        rw [e2] at q
        cases q
        obtain⟨b,kvs,rfl,hk,e3⟩:=dKeys_ok rl py ek
        have pa:RP X.K F H a x:=snap_rp rl px e1 fun xs z=>by subst z;cases e2
        cases ry
        cases keyOf_kV e2 pa
        exact d_notIn (by omega) I (DGet.k hk) rx fun s3 I3=>⟨.bl _,H,I3,rfl,by rw [valV_some,e3];exact k _ F H .refl rfl⟩
  | none=>
    rw [ek] at q
    dsimp only at q
    cases e1:snap S 9 d with
    | none=>rw [e1] at q;cases q
    | some a=>
      rw [e1] at q
      cases e2:snap S 9 e with
      | none=>rw [e2] at q;cases q
      | some b=>
        rw [e2] at q
        simp only [Option.bind_some] at q
        cases e3:inP a b with
        | none=>rw [e3] at q;cases q
        | some c=>
          rw [e3] at q
          cases q
          unfold inP at e3
          split at e3
          · cases e3
            cases (show x=.str _ from snap_rp rl px e1 fun xs z=>by cases z)
            cases (show y=.str _ from snap_rp rl py e2 fun xs z=>by cases z)
            exact op_notin_str pins s σ H _ _ v u Q I rx ry ⟨_,_,rfl,rfl,k _ F H .refl rfl⟩
          all_goals first
            | (cases e3;done)
            | (split at e3
               · rename_i hc
                 rw [Bool.and_eq_true] at hc
                 cases e3
                 obtain⟨as,ra⟩:=snap_reads I rl 9 20 py ry e2 (by simpa [okP] using hc.1)
                 obtain⟨bs,rb⟩:=snap_reads I rl 9 19 px rx e1 hc.2
                 have la:=okAll hc.1
                 have lb:=okP_lay 19 _ hc.2
                 rw [pd] at ra
                 first
                   | exact SeqAt.notIn_list_reads ra rb la.1 lb.1 (by omega) ⟨.bl _,H,I,rfl,by rw [pds_any];exact k _ F H .refl rfl⟩
                   | exact SeqAt.notIn_tuple_reads ra rb la.1 lb.1 (by omega) ⟨.bl _,H,I,rfl,by rw [pds_any];exact k _ F H .refl rfl⟩
               · cases e3)
theorem opIsE:OpR X (compareOp .Is) (rE X.K gIs):=by
 intro pins s σ H x y v u Q I rx ry h
 obtain⟨F,m,S,d,e,r,rl,px,py,q,k⟩:=h
 unfold gIs at q
 split at q
 ·cases q
  cases (show y=.non from py)
  refine op_isN pins s σ H x _ v u Q I rx ry ⟨rfl,?_⟩
  have:decide (x=.non)=isNon d:=by
   cases d with
   | ref i=>obtain⟨a,rfl,_⟩:=px;rfl
   | p w=>
    cases w with
    | non=>cases (show x=.non from px);rfl
    | bl b=>cases (show x=.bl b from px);rfl
    | int b=>cases (show x=.int b from px);rfl
    | str b=>cases (show x=.str b from px);rfl
    | _=>(obtain⟨a,xs,rfl,_⟩:=px;rfl)
  rw [this]
  exact k _ F H .refl rfl
 ·cases q
theorem opIsNotE:OpR X (compareOp .IsNot) (rE X.K gIsNot):=by
 intro pins s σ H x y v u Q I rx ry h
 obtain⟨F,m,S,d,e,r,rl,px,py,q,k⟩:=h
 unfold gIsNot at q
 split at q
 ·cases q
  cases (show y=.non from py)
  refine op_notN pins s σ H x _ v u Q I rx ry ⟨rfl,?_⟩
  have:decide (x=.non)=isNon d:=by
   cases d with
   | ref i=>obtain⟨a,rfl,_⟩:=px;rfl
   | p w=>
    cases w with
    | non=>cases (show x=.non from px);rfl
    | bl b=>cases (show x=.bl b from px);rfl
    | int b=>cases (show x=.int b from px);rfl
    | str b=>cases (show x=.str b from px);rfl
    | _=>(obtain⟨a,xs,rfl,_⟩:=px;rfl)
  rw [this]
  exact k _ F H .refl rfl
 ·cases q
end
end Ev
namespace Ev
open PySem PySem.Spec PyProof.Rows L2
noncomputable def gsGo:List TGv->List P->Lc->Option Lc
 | [],[],L=>some L
 | g::gs,v::vs,L=>match g v L with
  | some L1=>gsGo gs vs L1
  | none=>none
 | _,_,_=>none
noncomputable def gTupP (gs:List TGv):TGv:=fun v L=>match v with
 | .tup vs=>gsGo gs vs L
 | _=>none
theorem gsGo_len:∀{gs:List TGv}{vs:List P}{L L':Lc},gsGo gs vs L=some L'->vs.length=gs.length
 | [],[],_,_,_=>rfl
 | [],_::_,_,_,h=>by cases h
 | _::_,[],_,_,h=>by cases h
 | g::gs,v::vs,L,L',h=>by
  unfold gsGo at h
  split at h
  ·rw [List.length_cons,List.length_cons,gsGo_len h]
  ·cases h
noncomputable def gTs (K:PySem.W.Frag) (gs:List TGv):TGs:=fun xs σ H Q=>∃F m L vs L',RL K F H m σ L/\RPs K F H vs xs/\gsGo gs vs L=some L'/\∀σ',RL K F H m σ' L'->Q σ' H
noncomputable def isNm:Expr->Bool
 | .Name _ _=>true
 | _=>false
inductive GsOk (X:Cx):List Expr->List TGv->Prop where
 | nil:GsOk X [] []
 | cons {e:Expr}{es:List Expr}{g:TGv}{gs:List TGv}:isNm e=true->PG X e (gT X.K g)->GsOk X es gs->GsOk X (e::es) (g::gs)
section
variable {X:Cx}{pos:Pos}
theorem assignEach_nm {e:Expr}{es:List Expr}{env:Env} (h:isNm e=true):assignEach (e::es) env=(false,assign e env)::assignEach es env:=by
 cases e <;> first | rfl | cases h
theorem GsOk.len {es:List Expr}{gs:List TGv} (h:GsOk X es gs) (env:Env):(assignEach es env).length=gs.length/\(assignEach es env).findIdx? (·.1)=none:=by
 induction h with
 | nil=>exact⟨rfl,rfl⟩
 | cons hn _ _ ih=>
  rw [assignEach_nm hn]
  refine⟨by rw [List.length_cons,List.length_cons,ih.1],?_⟩
  simp only [List.findIdx?_cons,ih.2]
  rfl
theorem GsOk.pgs {es:List Expr}{gs:List TGv} (h:GsOk X es gs):PGs X es (gTs X.K gs):=by
 induction h with
 | nil=>
  intro pins s σ H xs us Q I rv ⟨F,m,L,vs,L',l,r,q,k⟩
  cases vs with
  | nil=>
   cases q
   cases (show xs=[] from r)
   exact pgs_nil pins s σ H [] us Q I rv ⟨rfl,k σ l⟩
  | cons _ _=>cases q
 | cons hn hg _ ih=>
  intro pins s σ H xs us Q I rv ⟨F,m,L,vs,L',l,r,q,k⟩
  cases vs with
  | nil=>cases q
  | cons v vs=>
   unfold gsGo at q
   split at q
   ·rename_i L1 e1
    obtain⟨x,xr,rfl,p,r⟩:=r
    refine pgs_cons hg ih (by rw [assignEach_nm hn];rfl) pins s σ H _ us Q I rv ⟨x,xr,rfl,F,m,L,v,L1,l,p,e1,fun σ1 l1=>?_⟩
    exact⟨F,m,L1,vs,L',l1,r,q,k⟩
   ·cases q
theorem gTupOk {es:List Expr}{n:Nat}{gs:List TGv} (hc:X.calm=true) (h:GsOk X es gs):PG X (.Tuple es n pos) (gT X.K (gTupP gs)):=
 PG.imp' (pg_tup hc h.pgs (h.len _).1 (h.len _).2) fun v σ H Q hz=>by
  obtain⟨F,m,L,d,L',l,p,q,k⟩:=hz
  cases d with
  | tup vs=>
   obtain⟨a,xs,rfl,ta,ra⟩:=p
   have hl:=gsGo_len (show gsGo gs vs L=some L' from q)
   exact⟨a,xs,rfl,ta.sq,by rw [<- ra.length];exact hl,F,m,L,vs,L',l,ra,q,k⟩
  | _=>cases q
noncomputable def IteL (K:PySem.W.Frag) (a:Addr):It:=
 ⟨fun i H=>∃xs x,SqL K H a xs/\xs[i]? = some x,fun i H x H'=>∃p y,x=.ref p/\H p=none/\H'=upd H p (.tup [.int i,y])/\∀xs,SqL K H a xs->xs[i]? = some y,fun i H=>∃xs,SqL K H a xs/\xs.length≤i⟩
end
end Ev
namespace Ev
open PySem PySem.Spec PyProof.Rows L2
open PySem.AutoSeq1 (wpAny_loadPart')
section
variable {X:Cx}
noncomputable def dMul2:P->P->Option P:=dMul
theorem opMul2:OpP X (binaryOp .Mult) dMul2:=opMul
noncomputable def c_list:List P->Option P
 | [.lst xs]=>some (.lst xs)
 | [.ro xs]=>some (.lst xs)
 | [.tup xs]=>some (.lst xs)
 | _=>none
noncomputable def c_tuple:List P->Option P
 | [.lst xs]=>some (.tup xs)
 | [.ro xs]=>some (.tup xs)
 | [.tup xs]=>some (.tup xs)
 | _=>none
theorem callList:CallR X (.type "list") (rC X.K c_list):=by
  intro pins s σ H xs us Q I r h
  obtain⟨F,ds,d,ft,rs,q,k⟩:=h
  unfold c_list at q
  split at q
  all_goals first
    | (cases q;done)
    | (cases q
       obtain⟨x,rfl,p1⟩:=rps1 rs
       obtain⟨a,ys,rfl,ta,ra⟩:=p1
       first
         | exact call_list_of pins s σ H _ us Q I r ⟨a,ys,rfl,.inl ta.sq,fun l hl=>k _ _ _ (grow_frz hl) (.newLst hl ra)⟩
         | exact call_list_of pins s σ H _ us Q I r ⟨a,ys,rfl,.inr ta.sq,fun l hl=>k _ _ _ (grow_frz hl) (.newLst hl ra)⟩)
theorem callTuple:CallR X (.type "tuple") (rC X.K c_tuple):=by
  intro pins s σ H xs us Q I r h
  obtain⟨F,ds,d,ft,rs,q,k⟩:=h
  unfold c_tuple at q
  split at q
  all_goals first
    | (cases q;done)
    | (cases q
       obtain⟨x,rfl,p1⟩:=rps1 rs
       obtain⟨a,ys,rfl,ta,ra⟩:=p1
       first
         | exact call_tuple_of pins s σ H _ us Q I r ⟨a,ys,rfl,.inl ⟨ta.sq,fun l hl=>k _ F _ (grow_new hl) (.newTup hl ra)⟩⟩
         | exact call_tuple_of pins s σ H _ us Q I r ⟨a,ys,rfl,.inr ⟨ta.sq,k _ F H .refl ⟨a,ys,rfl,ta,ra⟩⟩⟩)
variable {e:Expr}{es:List Expr}{fs:EVs}{p pos:Pos}
theorem x_list (hg:Gl X "list") (hm:X.mg "list"=none) (ha:PA X (e::es) (tVs X.K fs)) (he:starEach (e::es) X.env=(false,eval e X.env)::starEach es X.env) (hpl:(backTo pos (starEach es X.env)).any (·.1)=false) :
  PE X (.Call (.Name "list" p) (e::es) [] pos) (tV X.K (vCall c_list fs)):=xCallT callList hg hm PyProof.Rows.boot_list ha (by decide) (by decide) he hpl
theorem x_tuple (hg:Gl X "tuple") (hm:X.mg "tuple"=none) (ha:PA X (e::es) (tVs X.K fs)) (he:starEach (e::es) X.env=(false,eval e X.env)::starEach es X.env) (hpl:(backTo pos (starEach es X.env)).any (·.1)=false) :
  PE X (.Call (.Name "tuple" p) (e::es) [] pos) (tV X.K (vCall c_tuple fs)):=xCallT callTuple hg hm PyProof.Rows.boot_tuple ha (by decide) (by decide) he hpl
noncomputable def eExtend (r:EE) (a:EV):EE:=fun L S=>bnd (r L S) fun d S1=>match ownL d S1 with
 | none=>none
 | some _=>bnd (a L S1) fun x S2=>match ownL d S2,x with
  | some (i,ds),.lst ys=>if capN (ds.length+ys.length)=true then some (.p .non,S2.set i (.lst (ds++ys.map .p))) else none
  | _,_=>none
end
end Ev
namespace Ev
open PySem PySem.Spec PyProof.Rows L2
section
variable {X:Cx}{o e:Expr}{fo fe:EE}{fa:EV}{apos cpos pos:Pos}
theorem xExtend (ho:PE X o (tE X.K fo)) (he:PE X e (tV X.K fa)) (hs:starEach [e] X.env=[(false,eval e X.env)])
  (hbase:attributeBase o "extend" X.env (eval o X.env)=eval o X.env) (hline:(apos.endLine == cpos.line)=true):PE X (.Call (.Attribute o "extend" apos) [e] [] cpos) (tE X.K (eExtend fo fa)):=
 (pe_bm PySem.F.plainAttrs_list PySem.F.slot_list_extend PySem.F.type_list_extend mt_extend ho (pa_cons he pa_nil (by rw [hs];rfl)) hbase (by rw [hs];rfl) hline (by rw [hs];rfl) rfl).imp' fun σ H Q hz=>by
  obtain⟨F,m,L,S,d,S',r,l,q,k⟩:=hz
  obtain⟨x,S1,e1,q⟩:=bnd_eq q
  refine⟨F,m,L,S,x,S1,r,l,e1,fun v F1 m1 H1 s1 r1 p1=>?_⟩
  cases eo:ownL x S1 with
  | none=>rw [eo] at q;cases q
  | some z=>
   obtain⟨i,ds⟩:=z
   rw [eo] at q
   dsimp only at q
   obtain⟨rfl,es⟩:=ownL_eq eo
   obtain⟨a,rfl,hm⟩:=id p1
   obtain⟨xs,hH,rs⟩:=r1.obj i a _ hm es
   refine⟨.inl ⟨rfl,xs,SqL.of hH⟩,?_⟩
   obtain⟨y,S2,e2,q⟩:=bnd_eq q
   refine⟨F1,m1,L,S1,y,S2,r1,l.mono s1,e2,fun u F2 m2 H2 s2 r2 p2=>?_⟩
   cases eo2:ownL (.ref i) S2 with
   | none=>rw [eo2] at q;cases q
   | some z=>
    obtain⟨i2,ds2⟩:=z
    rw [eo2] at q
    obtain⟨e3,es2⟩:=ownL_eq eo2
    cases e3
    cases y with
    | lst ys=>
     dsimp only at q
     split at q
     ·rename_i hf
      cases q
      obtain⟨a2,e4,hm2⟩:=RD.mono s2 p1
      cases e4
      obtain⟨xs2,hH2,rs2⟩:=r2.obj i a _ hm2 es2
      obtain⟨b,zs,rfl,tb,rb⟩:=p2
      have nt:∀zs,H2 a≠some (.tup zs):=fun zs z=>by rw [hH2] at z;cases z
      have st:Stp F2 m2 H2 F2 m2 (upd H2 a (.lst (xs2++zs))):=stp_set r2 hm2 es2 trivial nt
      refine⟨a,b,xs2,zs,rfl,rfl,hH2,tb.2,by rw [<- rs2.length,<- rb.length];exact capN_le hf,?_⟩
      exact k .non F2 m2 _ (s1.trans (s2.trans st)) (r2.set hm2 es2 trivial nt ⟨_,upd_same,RDs.mono st (rs2.append (RDs.ofP rb))⟩) rfl
     ·cases q
    | _=>cases q
noncomputable abbrev EDs:=Lc->Sto->Option (List D×Sto)
noncomputable def tDs (K:PySem.W.Frag) (f:EDs):TA:=fun σ H Q=>∃F m L S ds S',Rel K F H m S/\RL K F H m σ L/\f L S=some (ds,S')/\∀xs F' m' H',Stp F m H F' m' H'->Rel K F' H' m' S'->RDs K F' H' m' ds xs->Q xs H'
noncomputable def dsNil:EDs:=fun _ S=>some ([],S)
noncomputable def dsCons (a:EE) (r:EDs):EDs:=fun L S=>bnd (a L S) fun x S1=>bnd (r L S1) fun xs S2=>some (x::xs,S2)
variable {es:List Expr}{fs:EDs}
theorem daNil:PA X [] (tDs X.K dsNil):=pa_nil.imp' fun σ H Q hz=>by
 obtain⟨F,m,L,S,d,S',r,l,q,k⟩:=hz
 cases q
 exact k [] F m H .refl r rfl
theorem daCons (ha:PE X e (tE X.K fe)) (hr:PA X es (tDs X.K fs)) (hs:starEach (e::es) X.env=(false,eval e X.env)::starEach es X.env):PA X (e::es) (tDs X.K (dsCons fe fs)):=
 (pa_cons ha hr hs).imp' fun σ H Q hz=>by
  obtain⟨F,m,L,S,d,S',r,l,q,k⟩:=hz
  obtain⟨x,S1,e1,q⟩:=bnd_eq q
  obtain⟨xs,S2,e2,q⟩:=bnd_eq q
  cases q
  refine⟨F,m,L,S,x,S1,r,l,e1,fun v F1 m1 H1 s1 r1 p1=>?_⟩
  refine⟨F1,m1,L,S1,xs,S',r1,l.mono s1,e2,fun vs F2 m2 H2 s2 r2 p2=>?_⟩
  exact k (v::vs) F2 m2 H2 (s1.trans s2) r2 ⟨v,vs,rfl,RD.mono s2 p1,p2⟩
noncomputable def eLstD (a:EDs):EE:=fun L S=>bnd (a L S) fun xs S1=>if few xs=true then some (.ref S1.length,S1++[.lst xs]) else none
theorem xLstD (h:PA X es (tDs X.K fs)):PE X (.List es pos) (tE X.K (eLstD fs)):=(pe_lst h).imp' fun σ H Q hz=>by
 obtain⟨F,m,L,S,d,S',r,l,q,k⟩:=hz
 obtain⟨xs,S1,e1,q⟩:=bnd_eq q
 split at q
 ·rename_i hf
  cases q
  refine⟨F,m,L,S,xs,S1,r,l,e1,fun vs F1 m1 H1 s1 r1 p1=>⟨by rw [<- p1.length];exact few_le hf,fun p hp=>?_⟩⟩
  have s2:Stp F1 m1 H1 F1 (m1++[p]) (upd H1 p (.lst vs)):=stp_own hp
  refine k (.ref p) F1 (m1++[p]) _ (s1.trans s2) (r1.own hp ⟨vs,upd_same,RDs.mono s2 p1⟩) ⟨p,rfl,?_⟩
  rw [<- r1.len,List.getElem?_append_right (Nat.le_refl _)];simp
 ·cases q
noncomputable abbrev GF:=List D->Sto->Option (D×Sto)
noncomputable def spR (K:PySem.W.Frag) (g:GF):Sp:=fun vs H Q _=>∃F m ds S d S',Rel K F H m S/\RDs K F H m ds vs/\g ds S=some (d,S')/\∀v F' m' H',Stp F m H F' m' H'->Rel K F' H' m' S'->RD K F' H' m' d v->Q v H'
noncomputable def eCallR (g:GF) (a:EDs):EE:=fun L S=>bnd (a L S) fun ds S1=>g ds S1
theorem xCallR {f:Addr}{fd:FuncData}{ps:List Str}{k:Nat}{x:Str}{p:Pos}{g:GF} (G:FnOk X.prog X.w X.K X.mg X.base CX0 k f fd ps (spR X.K g)) (hr:Room k X.A) (hg:Gl X x) (hm:X.mg x=some (.ref f)) (hk:PySem.W.keepIn X.K (.ref f)=true) (hb:Binds X.K fd ps [])
  (ha:PA X (e::es) (tDs X.K fs)) (hdb:(x == ("__debug__":Str))=false) (he:starEach (e::es) X.env=(false,eval e X.env)::starEach es X.env) (hpl:(backTo pos (starEach es X.env)).any (·.1)=false) :
  PE X (.Call (.Name x p) (e::es) [] pos) (tE X.K (eCallR g fs)):=
 (pe_call G hr hg hm hk hb .nil pass0 ha hdb he hpl).imp' fun σ H Q hz=>by
  obtain⟨F,m,L,S,d,S',r,l,q,k⟩:=hz
  obtain⟨ds,S1,e1,q⟩:=bnd_eq q
  refine⟨F,m,L,S,ds,S1,r,l,e1,fun xs F' m' H' s r' p=>?_⟩
  show spR X.K g (xs++[]) H' Q E0
  rw [List.append_nil]
  exact⟨F',m',ds,S1,d,S',r',p,q,fun v F2 m2 H2 s2 r2 p2=>k v F2 m2 H2 (s.trans s2) r2 p2⟩
noncomputable def lowD (n:Nat):D->Bool
 | .p _=>true
 | .ref i=>decide (i < n)
noncomputable def lowO (n:Nat):SO->Bool
 | .lst ds=>ds.all (lowD n)
 | .dct _ ds=>ds.all (lowD n)
 | .fz _=>true
 | .ins _ _ ds=>ds.all (lowD n)
noncomputable def trunc (n:Nat) (S:Sto):Sto:=if (S.take n).all (lowO n)=true then S.take n else S
noncomputable def vCallR (g:GF) (a:EDs):EV:=fun L S=>bnd (a L S) fun ds S1=>bnd (g ds S1) fun d S2=>bnd (toP 9 d S2) fun v S3=>some (v,trunc S1.length S3)
end
section
variable {K:PySem.W.Frag}{F:Addr->Prop}{H:Hp}{m:List Addr}{S:Sto}
theorem RD.low {n:Nat}{d:D}{v:V} (h:RD K F H m d v) (hl:lowD n d=true):RD K F H (m.take n) d v:=by
 cases d with
 | p w=>exact h
 | ref i=>
  obtain⟨a,e,hm⟩:=h
  exact⟨a,e,by rw [List.getElem?_take_of_lt (of_decide_eq_true hl)];exact hm⟩
theorem RDs.low {n:Nat}:∀{ds:List D}{xs:List V},RDs K F H m ds xs->ds.all (lowD n)=true->RDs K F H (m.take n) ds xs
 | [],_,h,_=>h
 | d::ds,_,h,hl=>by
  obtain⟨x,r,e,h1,h2⟩:=h
  rw [List.all_cons,Bool.and_eq_true] at hl
  exact⟨x,r,e,h1.low hl.1,RDs.low h2 hl.2⟩
theorem Rel.trunc {n:Nat} (r:Rel K F H m S) (hn:n≤m.length) (h:(S.take n).all (lowO n)=true):Rel K F H (m.take n) (S.take n) where
 len:=by rw [List.length_take,List.length_take,r.len]
 nd:=r.nd.sublist (List.take_sublist _ _)
 obj:=fun i a o e1 e2=>by
  have hi:i < n:=by
   have:=(List.getElem?_eq_some_iff.mp e1).1
   rw [List.length_take] at this;omega
  rw [List.getElem?_take_of_lt hi] at e1
  have lo:=List.all_eq_true.mp h o (List.mem_of_getElem? e2)
  rw [List.getElem?_take_of_lt hi] at e2
  have ob:=r.obj i a o e1 e2
  cases o with
  | lst ds=>obtain⟨xs,hH,rs⟩:=ob;exact⟨xs,hH,rs.low lo⟩
  | dct ks ds=>obtain⟨kvs,hH,e,rs⟩:=ob;exact⟨kvs,hH,e,rs.low lo⟩
  | fz v=>exact ob
  | ins c ks ds=>obtain⟨C,dx,kvs,e0,hH,e,rs⟩:=ob;exact⟨C,dx,kvs,e0,hH,e,rs.low lo⟩
 sep:=fun i a o e1 e2 w f=>by
  have hi:i < n:=by
   have:=(List.getElem?_eq_some_iff.mp e1).1
   rw [List.length_take] at this;omega
  rw [List.getElem?_take_of_lt hi] at e1 e2
  exact r.sep i a o e1 e2 w f
 trk:=fun a h=>r.trk a (List.mem_of_mem_take h)
 ft:=r.ft
theorem Stp.trunc {F':Addr->Prop}{m':List Addr}{H':Hp} (s:Stp F m H F' m' H'):Stp F m H F' (m'.take m.length) H':=by
 obtain⟨n,e⟩:=s.pre
 have e2:m'.take m.length=m:=by rw [e];simp
 rw [e2]
 exact⟨⟨[],by simp⟩,s.oth,s.frz,s.frk,s.tup,s.trk,s.nf,fun _ h=>.inl h⟩
end
section
variable {X:Cx}{e:Expr}{es:List Expr}{fs:EDs}{pos:Pos}
theorem xVCallR {f:Addr}{fd:FuncData}{ps:List Str}{k:Nat}{x:Str}{p:Pos}{g:GF} (G:FnOk X.prog X.w X.K X.mg X.base CX0 k f fd ps (spR X.K g)) (hr:Room k X.A) (hg:Gl X x) (hm:X.mg x=some (.ref f)) (hk:PySem.W.keepIn X.K (.ref f)=true) (hb:Binds X.K fd ps [])
  (ha:PA X (e::es) (tDs X.K fs)) (hdb:(x == ("__debug__":Str))=false) (he:starEach (e::es) X.env=(false,eval e X.env)::starEach es X.env) (hpl:(backTo pos (starEach es X.env)).any (·.1)=false) :
  PE X (.Call (.Name x p) (e::es) [] pos) (tV X.K (vCallR g fs)):=
 (pe_call G hr hg hm hk hb .nil pass0 ha hdb he hpl).imp' fun σ H Q hz=>by
  obtain⟨F,m,L,S,d,S',r,l,q,k⟩:=hz
  obtain⟨ds,S1,e1,q⟩:=bnd_eq q
  obtain⟨d1,S2,e2,q⟩:=bnd_eq q
  obtain⟨v1,S3,e3,q⟩:=bnd_eq q
  cases q
  refine⟨F,m,L,S,ds,S1,r,l,e1,fun xs F1 m1 H1 s1 r1 p1=>?_⟩
  show spR X.K g (xs++[]) H1 Q E0
  rw [List.append_nil]
  refine⟨F1,m1,ds,S1,d1,S2,r1,p1,e2,fun v F2 m2 H2 s2 r2 p2=>?_⟩
  obtain⟨F3,s3,r3,l3,p3⟩:=toP_ok 9 e3 r2 p2
  have st:=s2.trans s3
  have hl1:=r1.len
  by_cases hc:(S3.take S1.length).all (lowO S1.length)=true
  ·have et:Ev.trunc S1.length S3=S3.take S1.length:=if_pos hc
   rw [et] at k
   have hle:m1.length≤m2.length:=by
    obtain⟨nn,e⟩:=st.pre
    rw [e,List.length_append];omega
   have rt:=r3.trunc (n:=S1.length) (by rw [<- hl1];exact hle) hc
   refine k v F3 (m2.take m1.length) H2 (s1.trans st.trunc) ?_ p3
   rw [hl1];exact rt
  ·have et:Ev.trunc S1.length S3=S3:=if_neg hc
   rw [et] at k
   exact k v F3 m2 H2 (s1.trans st) r3 p3
end
end Ev
namespace Ev
open PySem PySem.Spec PyProof.Rows L2
section
variable {X:Cx}{a b c e o i value:Expr}{fa fb fc fk fv:EV}{fo fe:EE}{pos pos':Pos}
noncomputable def PlainSet (i:Expr):Prop:=∀(o:Expr) (pos:Pos) (env:Env) (v:Value),assign (.Subscript o i pos) env v=(do
 let ov <- holding [v] (eval o env)
 let iv <- holding [v,ov] (eval i env)
 standAt pos
 holding [v,ov,iv] (setItem ov iv v)
 release [v,ov,iv] [])
noncomputable def sPutL (o:EE) (k v:EV):ES:=fun L S=>bnd (v L S) fun y S1=>bnd (o L S1) fun d S2=>bnd (k L S2) fun z S3=>match ownL d S3,z with
 | some (i,ds),.int n=>match ixN ds.length n with
  | some j=>some (.nx,L,S3.set i (.lst (ds.set j (.p y))))
  | none=>none
 | _,_=>none
theorem RDs.setAt {K:PySem.W.Frag}{F:Addr->Prop}{H:Hp}{m:List Addr}{d:D}{v:V} (h:RD K F H m d v):∀{ds:List D}{xs:List V} (j:Nat),RDs K F H m ds xs->RDs K F H m (ds.set j d) (xs.set j v)
 | [],_,_,r=>by cases (show _=([]:List V) from r);exact rfl
 | _::_,_,0,r=>by obtain⟨x,xr,rfl,p,r⟩:=r;exact⟨v,xr,rfl,h,r⟩
 | _::_,_,j+1,r=>by obtain⟨x,xr,rfl,p,r⟩:=r;exact⟨x,_,rfl,p,RDs.setAt h j r⟩
theorem zPutL (ho:PE X o (tE X.K fo)) (hi:PE X i (tV X.K fk)) (hv:PE X value (tV X.K fv)) (hs:swapsWith value (some (.Subscript o i pos')) pos.line X.env=pure false) (hw:swappedStores [.Subscript o i pos'] value X.env=pure none) (hix:PlainSet i) :
  PS X (.Assign [.Subscript o i pos'] value pos) (tSt X.K (sPutL fo fk fv)):=(ps_asg hv (pg_sub ho hi set_list (hix o pos' X.env)) hs hw).imp' fun D σ H hz=>by
 obtain⟨F,m,L,S,fl,L',S',r,l,q,k⟩:=hz
 obtain⟨y,S1,e1,q⟩:=bnd_eq q
 obtain⟨d,S2,e2,q⟩:=bnd_eq q
 obtain⟨z,S3,e3,q⟩:=bnd_eq q
 refine⟨F,m,L,S,y,S1,r,l,e1,fun v F1 m1 H1 s1 r1 p1=>?_⟩
 refine⟨F1,m1,L,S1,d,S2,r1,l.mono s1,e2,fun x F2 m2 H2 s2 r2 p2=>?_⟩
 refine⟨F2,m2,L,S2,z,S3,r2,(l.mono s1).mono s2,e3,fun w F3 m3 H3 s3 r3 p3=>?_⟩
 cases eo:ownL d S3 with
 | none=>rw [eo] at q;cases q
 | some t=>
  obtain⟨j,ds⟩:=t
  rw [eo] at q
  cases z with
  | int n=>
   dsimp only at q
   cases ej:ixN ds.length n with
   | none=>rw [ej] at q;cases q
   | some jj=>
    rw [ej] at q
    cases q
    obtain⟨rfl,es⟩:=ownL_eq eo
    obtain⟨a,rfl,hm⟩:=RD.mono s3 p2
    obtain⟨xs,hH,rs⟩:=r3.obj j a _ hm es
    have pv:RD X.K F3 H3 m3 (.p y) v:=RD.mono s3 (RD.mono s2 (show RD X.K F1 H1 m1 (.p y) v from p1))
    cases (show w=.int n from p3)
    have nt:∀zs,H3 a≠some (.tup zs):=fun zs z=>by rw [hH] at z;cases z
    have st:Stp F3 m3 H3 F3 m3 (upd H3 a (.lst (xs.set jj v))):=stp_set r3 hm es trivial nt
    refine⟨a,xs,n,jj,rfl,rfl,hH,by rw [<- rs.length];exact ej,?_⟩
    exact k σ F3 m3 _ (s1.trans (s2.trans (s3.trans st))) (r3.set hm es trivial nt ⟨_,upd_same,RDs.mono st (RDs.setAt pv jj rs)⟩) (((l.mono s1).mono s2).mono (s3.trans st))
  | _=>cases q
noncomputable def vChain (g g':P->P->Option P) (a b c:EV):EV:=fun L S=>bnd (a L S) fun x S1=>bnd (b L S1) fun y S2=>match g x y with
 | some (.bl true)=>bnd (c L S2) fun z S3=>(g' y z).map fun v=>(v,S3)
 | some (.bl false)=>some (.bl false,S2)
 | _=>none
theorem chain_of {g g':P->P->Option P}{σ:L2.St}{H:Hp}{Q:VK} (h:tV X.K (vChain g g' fa fb fc) σ H Q):tChain (rP X.K g) (rP X.K g') (tV X.K fa) (tV X.K fb) (tV X.K fc) σ H Q:=by
 obtain⟨F,m,L,S,d,S',r,l,q,k⟩:=h
 obtain⟨x,S1,e1,q⟩:=bnd_eq q
 obtain⟨y,S2,e2,q⟩:=bnd_eq q
 refine⟨F,m,L,S,x,S1,r,l,e1,fun v F1 m1 H1 s1 r1 p1=>?_⟩
 refine⟨F1,m1,L,S1,y,S2,r1,l.mono s1,e2,fun u F2 m2 H2 s2 r2 p2=>?_⟩
 cases eg:g x y with
 | none=>rw [eg] at q;cases q
 | some z=>
  rw [eg] at q
  cases z with
  | bl t=>
   refine⟨F2,x,y,_,r2.ft,RP.mono s2 p1,p2,eg,fun w F3 H3 gr p3=>⟨t,p3,?_⟩⟩
   have st3:Stp F m H F3 m2 H3:=s1.trans (s2.trans gr.stp)
   have r3:=r2.grow gr
   cases t with
   | false=>
    rw [if_neg Bool.false_ne_true]
    cases q
    exact k _ F3 m2 H3 st3 r3 rfl
   | true=>
    rw [if_pos rfl]
    dsimp only at q
    obtain⟨z,S3,e3,q⟩:=bnd_eq q
    refine⟨F3,m2,L,S2,z,S3,r3,l.mono st3,e3,fun w' F4 m4 H4 s4 r4 p4=>?_⟩
    cases eg2:g' y z with
    | none=>rw [eg2] at q;cases q
    | some z2=>
     rw [eg2] at q
     cases q
     exact⟨F4,y,z,_,r4.ft,RP.mono s4 (RP.grow gr p2),p4,eg2,fun w2 F5 H5 gr5 p5=>k w2 F5 m4 H5 (st3.trans (s4.trans gr5.stp)) (r4.grow gr5) p5⟩
  | _=>cases q
theorem xChain {op op':CmpOp}{g g':P->P->Option P} (ho:OpP X (compareOp op) g) (ho':OpP X (compareOp op') g') (ha:PE X a (tV X.K fa)) (hb:PE X b (tV X.K fb)) (hc:PE X c (tV X.K fc)) (hm:lastMarks [op,op'] [b,c]=false) :
  PE X (.Compare a [op,op'] [b,c] pos) (tV X.K (vChain g g' fa fb fc)):=(pe_chain ho ho' ha hb hc hm).imp' fun _ _ _ h=>chain_of h
theorem yChain {op op':CmpOp}{g g':P->P->Option P} (ho:OpP X (compareOp op) g) (ho':OpP X (compareOp op') g') (ha:PE X a (tV X.K fa)) (hb:PE X b (tV X.K fb)) (hc:PE X c (tV X.K fc)) (hm:lastMarks [op,op'] [b,c]=false) :
  PT X (.Compare a [op,op'] [b,c] pos) (tQ X.K (bV (vChain g g' fa fb fc))):=(pt_chain ho ho' ha hb hc hm).imp' fun σ H Q h=>by
 refine chain_of ?_
 obtain⟨F,m,L,S,d,S',r,l,q,k⟩:=h
 obtain⟨x,S1,e1,q⟩:=bnd_eq q
 cases x with
 | bl b=>cases q;exact⟨F,m,L,S,_,_,r,l,e1,fun v F' m' H' s r' p=>⟨_,p,k F' m' H' s r'⟩⟩
 | _=>cases q
noncomputable def truP:P->Option Bool
 | .non=>some false
 | .bl b=>some b
 | .int i=>some (i != 0)
 | .str x=>if capN x.length=true then some ((x.length:Int) != 0) else none
 | .tup xs=>some (!xs.isEmpty)
 | .lst xs=>some (!xs.isEmpty)
 | .ro xs=>some (!xs.isEmpty)
 | .dct ks _=>some (!ks.isEmpty)
noncomputable def truD:D->Sto->Option Bool
 | .p v,_=>truP v
 | .ref i,S=>match S[i]? with
  | some (.lst ds)=>some (!ds.isEmpty)
  | some (.dct ks _)=>some (!ks.isEmpty)
  | some (.fz v)=>truP v
  | _=>none
noncomputable def bT (f:EE):EB:=fun L S=>bnd (f L S) fun d S1=>(truD d S1).map fun b=>(b,S1)
theorem isEmpty_len {α β:Type}{xs:List α}{ys:List β} (h:xs.length=ys.length):xs.isEmpty=ys.isEmpty:=by
 cases xs <;> cases ys <;> first | rfl | simp at h
theorem truP_ok {F:Addr->Prop}{H:Hp}{w:P}{v:V}{t:Bool} (p:RP X.K F H w v) (h:truP w=some t):TruV X.K v H t:=by
 cases w with
 | non=>cases (show v=.non from p);cases h;rfl
 | bl b=>cases (show v=.bl b from p);cases h;rfl
 | int b=>cases (show v=.int b from p);cases h;rfl
 | str x=>
  cases (show v=.str x from p)
  simp only [truP] at h
  split at h
  ·rename_i hc;cases h;exact⟨capN_le hc,rfl⟩
  ·cases h
 | tup ds=>obtain⟨a,xs,rfl,ta,ra⟩:=p;cases h;exact .inr (.inl ⟨xs,ta.sq,by rw [isEmpty_len ra.length]⟩)
 | lst ds=>obtain⟨a,xs,rfl,ta,ra⟩:=p;cases h;exact .inl ⟨xs,ta.sq,by rw [isEmpty_len ra.length]⟩
 | ro ds=>obtain⟨a,xs,rfl,ta,ra⟩:=p;cases h;exact .inl ⟨xs,ta.sq,by rw [isEmpty_len ra.length]⟩
 | dct ks ds=>
  obtain⟨a,kvs,rfl,_,hk,ek,ra⟩:=p
  cases h
  exact .inr (.inr ⟨kvs,hk,by rw [<- ek];cases kvs <;> rfl⟩)
theorem yT (h:PE X e (tE X.K fe)) (he:∀whole,isTrue e X.env whole=(do let v <- whole;standAt e.pos;holding [v] (truthy v))):PT X e (tQ X.K (bT fe)):=
 (pt_truth h he).imp' fun σ H Q hz=>by
  obtain⟨F,m,L,S,d,S',r,l,q,k⟩:=hz
  obtain⟨x,S1,e1,q⟩:=bnd_eq q
  cases et:truD x S1 with
  | none=>rw [et] at q;cases q
  | some t=>
   rw [et] at q
   cases q
   refine⟨F,m,L,S,x,_,r,l,e1,fun v F1 m1 H1 s1 r1 p1=>⟨_,?_,k F1 m1 H1 s1 r1⟩⟩
   cases x with
   | p w=>exact truP_ok p1 et
   | ref j=>
    obtain⟨a,rfl,hm⟩:=p1
    simp only [truD] at et
    split at et
    ·rename_i ds ho
     cases et
     obtain⟨xs,hH,rs⟩:=r1.obj j a _ hm ho
     exact .inl ⟨xs,SqL.of hH,by rw [isEmpty_len rs.length]⟩
    ·rename_i ks ds ho
     cases et
     obtain⟨kvs,hH,ek,rs⟩:=r1.obj j a _ hm ho
     exact .inr (.inr ⟨kvs,hH,by rw [<- ek];cases kvs <;> rfl⟩)
    ·rename_i w ho
     exact truP_ok (r1.obj j a _ hm ho) et
    ·cases et
noncomputable def sUnp (g:TGv) (f:EV):ES:=fun L S=>bnd (f L S) fun v S1=>match g v L with
 | some L'=>some (.nx,L',S1)
 | none=>none
theorem zUnp {tg:Expr}{g:TGv} (he:PE X e (tV X.K fa)) (hg:PG X tg (gT X.K g)) (hs:swapsWithSole [tg] e pos.line X.env=pure false) (hw:swappedStores [tg] e X.env=pure none) (h1:(assignEach [tg] X.env).map (·.2)=[assign tg X.env]) :
  PS X (.Assign [tg] e pos) (tSt X.K (sUnp g fa)):=(ps_asg he hg hs hw h1).imp' fun D σ H hz=>by
 obtain⟨F,m,L,S,fl,L',S',r,l,q,k⟩:=hz
 obtain⟨v,S1,e1,q⟩:=bnd_eq q
 refine⟨F,m,L,S,v,S1,r,l,e1,fun x F1 m1 H1 s1 r1 p1=>?_⟩
 cases eg:g v L with
 | none=>rw [eg] at q;cases q
 | some L2=>
  rw [eg] at q
  cases q
  exact⟨F1,m1,L,v,_,l.mono s1,p1,eg,fun σ' l'=>k σ' F1 m1 H1 s1 r1 l'⟩
noncomputable def dAdd2:P->P->Option P
 | .tup [],.tup ys=>some (.tup ys)
 | x,y=>dAdd x y
theorem catNil {M:Program}{w:World}{A:Around}{E:Value->Shared->Prop}{s:Shared}{t b:Addr}{ws:List Value}{Q:Value->Shared->Prop} (ht:IsTup s.heap t #[]) (hb:IsTup s.heap b ws.toArray) (h:Q (.ref b) s):wpAny (model M w) A (binaryOp .Add (.ref t) (.ref b)) Q E s:=by
 obtain⟨ob,g1,k1,m1,l1⟩:=id ht
 obtain⟨oc,g2,k2,m2,l2⟩:=id hb
 cases ob;cases oc;cases k1;cases l1;cases k2;cases l2
 exact concat_meets ⟨_,g1,rfl⟩ ⟨_,g2,rfl⟩ noFill_tuple_add seq_tuple_add PySem.F.slot_tuple_add PySem.F.entry_tuple_add (PySem.F.args_tuple_add_2 _ _) (tuple_addW0 t b #[] ws.toArray m1 m2 _ _ _ _ rfl) ⟨g1,g2,h⟩
theorem opAdd2:OpP X (binaryOp .Add) dAdd2:=by
 intro pins s σ H x y v u Q I rx ry h
 obtain⟨F,dx,dy,d,ft,px,py,q,k⟩:=h
 have other:dAdd dx dy=some d->wpAny (model X.prog X.w) X.A (binaryOp .Add v u) (EP X pins σ Q) X.xe s:=fun q=>opAdd pins s σ H x y v u Q I rx ry ⟨F,dx,dy,d,ft,px,py,q,k⟩
 cases dx with
 | tup ds=>
  cases dy with
  | tup es=>
   cases ds with
   | nil=>
    cases q
    obtain⟨a,xs,rfl,ta,ra⟩:=px
    obtain⟨b,ys,rfl,tb,rb⟩:=id py
    cases (show xs=[] from ra)
    cases rx;cases ry
    obtain⟨its,r1,p1,_⟩:=I.tuple ta.sq
    obtain⟨its2,r2,p2,_⟩:=I.tuple tb.sq
    cases r1
    exact catNil p1 p2 ⟨.ref b,H,I,rfl,k _ F H .refl py⟩
   | cons _ _=>exact other q
  | _=>cases ds <;> exact other q
 | _=>exact other q
noncomputable def GlobOk (K:PySem.W.Frag) (mg:Str->Option Value) (x:Str) (v:P):Prop:=∃u w,mg x=some u/\RelV w u/\∀F H,RP K F H v w
theorem xGlob {x:Str}{v:P} (hg:Gl X x) (h:GlobOk X.K X.mg x v) (hd:(x == ("__debug__":Str))=false):PE X (.Name x pos) (tV X.K (vC v)):=by
 obtain⟨u,w,hm,r,p⟩:=h
 exact xC (pe_glob hg hm r hd) p
end
end Ev
namespace Ev
open PySem PySem.Spec PyProof.Rows L2
section
variable {X:Cx}{a:Expr}{fa:EE}{p pos:Pos}
noncomputable def isiD (T:String):D->Sto->Option Bool
 | .p v,_=>some (isiP T v)
 | .ref i,S=>match S[i]? with
  | some (.lst _)=>some (isiP T (.lst []))
  | some (.dct _ _)=>some (isiP T (.dct [] []))
  | some (.fz v)=>some (isiP T v)
  | _=>none
noncomputable def vIsi (T:String) (f:EE):EV:=fun L S=>bnd (f L S) fun d S1=>(isiD T d S1).map fun b=>(.bl b,S1)
theorem call_isiE {T:String} (hT:∀K:PySem.W.Frag,∀v:P,PySem.W.kitOne K (.type (tyN v)) (.type T)=some (isiP T v)) :
  CallR X (.builtin "isinstance") (fun xs H Q=>∃F m S d b x,xs=[x,.ty T]/\Rel X.K F H m S/\RD X.K F H m d x/\isiD T d S=some b/\Q (.bl b) H):=by
 intro pins s σ H xs us Q I r h
 obtain⟨F,m,S,d,b,x,rfl,rl,pd,ei,q⟩:=h
 have plain:∀w:P,RP X.K F H w x->isiP T w=b->wpAny (model X.prog X.w) X.A _ _ _ _:=fun w hw e=>call_isi hT pins s σ H [x,.ty T] us Q I r ⟨F,w,x,rfl,hw,by rw [e];exact q⟩
 cases d with
 | p w=>cases ei;exact plain w pd rfl
 | ref j=>
  obtain⟨a,rfl,hm⟩:=pd
  simp only [isiD] at ei
  obtain⟨u,w',rfl,ru,rw'⟩:=vals2 r
  cases (show w'=Value.type T from rw')
  have fin:∀tk,EP X pins σ Q (.bool b) { s with toks:=tk }:=fun tk=>⟨.bl b,H,I.tok _,rfl,q⟩
  split at ei
  ·rename_i ds ho
   obtain⟨xs,hH,rs⟩:=rl.obj j a _ hm ho
   have e:=hT X.K (.lst [])
   rw [show isiP T (.lst [])=b by cases ei;rfl] at e
   cases ru
   obtain⟨its,_,pl,_⟩:=I.list (SqL.of hH)
   obtain⟨o,n,h1,h2,_⟩:=pl
   exact PySem.W.kia_one PySem.W.kitx_list I.kIn ⟨o,h1,h2⟩ e (fun z=>nomatch z) fin
  ·rename_i ks ds ho
   obtain⟨kvs,hH,ek,rs⟩:=rl.obj j a _ hm ho
   have e:=hT X.K (.dct [] [])
   rw [show isiP T (.dct [] [])=b by cases ei;rfl] at e
   exact isinst_ok I ru (.dK hH) e fin
  ·rename_i w ho
   exact plain w (rl.obj j a _ hm ho) (by cases ei;rfl)
  ·cases ei
theorem yIsi {T:String}{tn:Str}{p2:Pos} (hT:∀K:PySem.W.Frag,∀v:P,PySem.W.kitOne K (.type (tyN v)) (.type T)=some (isiP T v)) (hg:Gl X "isinstance") (hm:X.mg "isinstance"=none) (hg2:Gl X tn) (hm2:X.mg tn=none) (hb:bootBuiltins tn=some (.type T)) (ha:PE X a (tE X.K fa))
  (hn:tn≠"__name__") (hd:(tn == ("__debug__":Str))=false) (hs:starEach [a,.Name tn p2] X.env=[(false,eval a X.env),(false,eval (.Name tn p2) X.env)]):PE X (.Call (.Name "isinstance" p) [a,.Name tn p2] [] pos) (tV X.K (vIsi T fa)):=
 (pe_callB (call_isiE hT) hg hm PyProof.Rows.boot_isinstance (pa_cons ha (pa_cons (pe_bltn (v:=.ty T) hg2 hm2 hb rfl hn hd) pa_nil rfl) (by rw [hs];rfl)) (by decide) (by decide) (by rw [hs];rfl) rfl).imp' fun σ H Q hz=>by
  obtain⟨F,m,L,S,d,S',r,l,q,k⟩:=hz
  obtain⟨x,S1,e1,q⟩:=bnd_eq q
  cases ei:isiD T x S1 with
  | none=>rw [ei] at q;cases q
  | some b=>
   rw [ei] at q
   cases q
   exact⟨F,m,L,S,_,_,r,l,e1,fun v F' m' H' s r' pp=>⟨F',m',_,x,b,v,rfl,r',pp,ei,k _ F' m' H' s r' rfl⟩⟩
end
end Ev
namespace Ev
open PySem PySem.Spec PyProof.Rows L2
noncomputable def putK (f:Str):List Str->List Str
 | []=>[f]
 | k::ks=>if k=f then k::ks else k::putK f ks
noncomputable def ClsOf (K:PySem.W.Frag) (c:Str) (C:Addr):Prop:=PySem.W.nsIn K mainGlobals c=some (some (.ref C))
theorem ClsOf.inj {K:PySem.W.Frag}{c:Str}{C C':Addr} (h:ClsOf K c C) (h':ClsOf K c C'):C=C':=by
 have:=h.symm.trans h'
 cases this;rfl
noncomputable def AOk (K:PySem.W.Frag) (A:Str->Str->Bool):Prop:=∀c f,A c f=true->∃C,ClsOf K c C/\Cls K C/\NoAttr K C f
section
variable {K:PySem.W.Frag}{F:Addr->Prop}{H:Hp}{m:List Addr}
end
section
variable {X:Cx}{o e value:Expr}{f:Str}{pos pos' apos:Pos}{fo fv:EE}{A:Str->Str->Bool}{es:List Expr}{fs:EDs}
noncomputable def MOk (X:Cx) (M:Str->Str->Option GF):Prop:=∀c mn g,M c mn=some g->∃C k f fd ps,ClsOf X.K c C/\Cls X.K C/\Meth X.K C mn f/\FnOk X.prog X.w X.K X.mg X.base CX0 k f fd ps (spR X.K g)/\Room k X.A/\Binds X.K fd ps []
variable {M:Str->Str->Option GF}{mn:Str}
end
section
variable {X:Cx}{o e value:Expr}{f:Str}{pos pos' tpos:Pos}{fo:EE}{fv:EV}{A:Str->Str->Bool}
end
section
variable {X:Cx}{e:Expr}{es:List Expr}{fs:EVs}{p pos:Pos}
end
theorem strs_rps {K:PySem.W.Frag}{F:Addr->Prop}{H:Hp}:∀ss:List Str,RPs K F H (ss.map .str) (ss.map V.str)
 | []=>rfl
 | s::r=>⟨_,_,rfl,rfl,strs_rps r⟩
theorem glob_strs {K:PySem.W.Frag}{mg:Str->Option Value}{x:Str}{a:Addr}{od:Option Addr}{sl:Array (Option Value)}{n:Nat}{its:Array Value} (ss:List Str) (hm:mg x=some (.ref a)) (hk:K.lookup a=some ⟨.type "tuple",od,.seq its n,sl⟩) (hz:its.size≤sizeLine) (hv:Vals (ss.map V.str) its.toList):GlobOk K mg x (.tup (ss.map .str)):=
 ⟨.ref a,.ref a,hm,rfl,fun F H=>⟨a,ss.map V.str,rfl,.inr (.inr ⟨_,its,n,hk,rfl,rfl,hz,hv⟩),strs_rps ss⟩⟩
end Ev
namespace Ev
open PySem PySem.Spec PyProof.Rows L2
noncomputable def itO (K:PySem.W.Frag) (en:Bool) (a:Addr):It:=if en=true then IteL K a else Itl K a
noncomputable def tIO (K:PySem.W.Frag) (en:Bool) (fe:EE):TI:=fun σ H R=>∃F m L S j S' ds,Rel K F H m S/\RL K F H m σ L/\fe L S=some (.ref j,S')/\S'[j]? = some (.lst ds)/\∀a F' m' H',Stp F m H F' m' H'->Rel K F' H' m' S'->m'[j]? = some a->R (itO K en a) H'
theorem itO_stop {K:PySem.W.Frag}{H:Hp}{en:Bool}{a:Addr}{xs:List V}{i:Nat} (hq:SqL K H a xs) (hl:xs.length≤i):(itO K en a).stop i H:=by
 cases en with
 | true=>exact⟨xs,hq,hl⟩
 | false=>exact⟨xs,hq,hl⟩
section
variable {X:Cx}{pos:Pos}
theorem iO {tg iter:Expr}{fe:EE} (h:PE X iter (tE X.K fe)):PI X tg iter (tIO X.K false fe):=(pi_list h).imp' fun σ H R hz=>by
 obtain⟨F,m,L,S,j,S',ds,r,l,e1,es,k⟩:=hz
 refine⟨F,m,L,S,_,_,r,l,e1,fun x F1 m1 H1 s1 r1 p1=>?_⟩
 obtain⟨a,rfl,hm⟩:=p1
 obtain⟨xs,hH,rs⟩:=r1.obj j a _ hm es
 exact⟨a,rfl,⟨xs,SqL.of hH⟩,k a F1 m1 H1 s1 r1 hm⟩
end
end Ev
namespace Ev
open PySem PySem.Spec PyProof.Rows L2
section
variable {X:Cx}{pos:Pos}
theorem sl_str:SlR X (fun x lo hi H Q=>∃z,x=.str z/\z.length≤sizeLine/\Q (.str (Txt.slice z lo hi)) H):=by
 intro pins s σ H x v vl vu lo hi sl Q I rx hs pl pu h
 obtain⟨z,rfl,hz,q⟩:=h
 obtain⟨t,rfl⟩:=rx
 refine⟨"str",_,PySem.F.slot_str_getitem.lookup,typeIs_str _ _ _,?_⟩
 have fin:∀lo hi:Option Int,Q (.str (Txt.slice z lo hi)) H->∀t' k,EP X pins σ Q (.str (Txt.slice z lo hi) t') { s with toks:=k }:=fun lo hi q t' k=>⟨.str _,H,I.tok _,⟨t',rfl⟩,q⟩
 obtain⟨o,e1,e2,e3⟩:=hs
 cases pl with
 | none=>
  cases pu with
  | none=>exact wpAny_getItem_str_slice (l:=none) (u:=none) (st:=none) ⟨o,e1,e2,e3⟩ rfl (post_val_or_str ⟨Nat.le_trans (Txt.slice_le z _ _) hz,fun t' k=>fin _ _ q t' k⟩)
  | int j uj=>exact wpAny_getItem_str_slice (l:=none) (u:=some (j,uj)) (st:=none) ⟨o,e1,e2,e3⟩ rfl (post_val_or_str ⟨Nat.le_trans (Txt.slice_le z _ _) hz,fun t' k=>fin _ _ q t' k⟩)
 | int i ui=>
  cases pu with
  | none=>exact wpAny_getItem_str_slice (l:=some (i,ui)) (u:=none) (st:=none) ⟨o,e1,e2,e3⟩ rfl (post_val_or_str ⟨Nat.le_trans (Txt.slice_le z _ _) hz,fun t' k=>fin _ _ q t' k⟩)
  | int j uj=>exact wpAny_getItem_str_slice (l:=some (i,ui)) (u:=some (j,uj)) (st:=none) ⟨o,e1,e2,e3⟩ rfl (post_val_or_str ⟨Nat.le_trans (Txt.slice_le z _ _) hz,fun t' k=>fin _ _ q t' k⟩)
noncomputable def dSl2:P->Option Int->Option Int->Option P
 | .str x,lo,hi=>if capN x.length=true then some (.str (Txt.slice x lo hi)) else none
 | x,lo,hi=>dSl x lo hi
noncomputable def vSl2 (a:EV) (lo hi:EO):EV:=fun L S=>bnd (a L S) fun x S1=>bnd (lo L S1) fun i S2=>bnd (hi L S2) fun j S3=>(dSl2 x i j).map fun v=>(v,S3)
theorem xSl2 {e:Expr}{lo hi:Option Expr}{fa:EV}{fl fh:EO}{pos p2:Pos} (he:PE X e (tV X.K fa)) (hl:PO X lo (tO X.K fl)) (hh:PO X hi (tO X.K fh)):PE X (.Subscript e (.Slice lo hi none p2) pos) (tV X.K (vSl2 fa fl fh)):=
 (pe_slice ((sl_list.or sl_tup).or sl_str) he hl hh).imp' fun σ H Q hz=>by
  obtain⟨F,m,L,S,d,S',r,l,q,k⟩:=hz
  obtain⟨x,S1,e1,q⟩:=bnd_eq q
  obtain⟨i,S2,e2,q⟩:=bnd_eq q
  obtain⟨j,S3,e3,q⟩:=bnd_eq q
  refine⟨F,m,L,S,x,S1,r,l,e1,fun v F1 m1 H1 s1 r1 p1=>?_⟩
  refine⟨F1,m1,L,S1,i,S2,r1,l.mono s1,e2,fun F2 m2 H2 s2 r2=>?_⟩
  refine⟨F2,m2,L,S2,j,S3,r2,(l.mono s1).mono s2,e3,fun F3 m3 H3 s3 r3=>?_⟩
  have px:=RP.mono s3 (RP.mono s2 p1)
  have ss:=s1.trans (s2.trans s3)
  cases x with
  | lst ds=>
   cases q
   obtain⟨a,xs,rfl,ta,ra⟩:=px
   exact .inl (.inl ⟨a,xs,rfl,ta.sq,fun p hp=>k _ _ m3 _ (ss.trans (grow_frz hp).stp) (r3.grow (grow_frz hp)) (.newLst hp (ra.cut i j))⟩)
  | ro ds=>
   cases q
   obtain⟨a,xs,rfl,ta,ra⟩:=px
   exact .inl (.inl ⟨a,xs,rfl,ta.sq,fun p hp=>k _ _ m3 _ (ss.trans (grow_frz hp).stp) (r3.grow (grow_frz hp)) (.newLst hp (ra.cut i j))⟩)
  | tup ds=>
   obtain⟨a,xs,rfl,ta,ra⟩:=px
   simp only [dSl2,dSl] at q
   split at q
   ·cases q
   ·rename_i hw
    cases q
    rw [ra.length] at hw
    exact .inl (.inr ⟨a,xs,rfl,ta.sq,hw,fun p hp=>k _ _ m3 _ (ss.trans (grow_new hp).stp) (r3.grow (grow_new hp)) (.newTup hp (ra.cut i j))⟩)
  | str z=>
   cases (show v=.str z from px)
   simp only [dSl2] at q
   split at q
   ·rename_i hc
    cases q
    exact .inr ⟨z,rfl,capN_le hc,k _ F3 m3 H3 ss r3 rfl⟩
   ·cases q
  | _=>cases q
variable {e:Expr}{es:List Expr}{fs:EVs}{p:Pos}
inductive PEs (X:Cx):List Expr->List EV->Prop
 | nil:PEs X [] []
 | cons {e es f fs}:PE X e (tV X.K f)->PEs X es fs->PEs X (e::es) (f::fs)
noncomputable def GEnt (w:World):List DictEntry->List (Str×P)->Prop
 | [],[]=>True
 | e::es,(k,p)::r=>(∃t,e.key=.str k t)/\e.hash=hashStr w k/\(∃v,RelV v e.val/\∀K F H,RP K F H p v)/\GEnt w es r
 | _,_=>False
noncomputable def GTab (w:World) (K:PySem.W.Frag) (mg:Str->Option Value) (x:Str) (kvs:List (Str×P)):Prop:=
 ∃a o es ep,mg x=some (.ref a)/\K.lookup a=some o/\o.ExactDict/\o.data=.dict es ep/\GEnt w es.toList kvs/\(kvs.map (·.1)).Nodup
end
noncomputable def tabP:List Key->List P->Option (List (Str×P))
 | [],[]=>some []
 | .inr k::ks,v::vs=>(tabP ks vs).map fun r=>(k,v)::r
 | _,_=>none
noncomputable def isDct:P->Bool
 | .dct _ _=>true
 | _=>false
noncomputable def GlobOk2 (w:World) (K:PySem.W.Frag) (mg:Str->Option Value) (x:Str) (v:P):Prop:=(isDct v=false->GlobOk K mg x v)/\∀ks vs,v=.dct ks vs->∃kvs,tabP ks vs=some kvs/\GTab w K mg x kvs
theorem GlobOk2.plain {w:World}{K:PySem.W.Frag}{mg:Str->Option Value}{x:Str}{v:P} (h:GlobOk K mg x v) (hv:isDct v=false):GlobOk2 w K mg x v:=⟨fun _=>h,fun ks vs e=>by subst e;cases hv⟩
end Ev
namespace Ev
open PySem PySem.Spec PyProof.Rows L2
section
variable {X:Cx}
theorem inv_frame {pins:List (Addr×Obj)}{σ:L2.St}{H:Hp}{s:Shared}{h':Heap}{t':Nat}{m:Str->Option Value} (I:Inv X pins σ H s) (hn:s.heap.Ns X.env.locals m) (hn':h'.Ns X.env.locals m) (k:∀b o,b≠X.env.locals->s.heap.get? b=some o->h'.get? b=some o):Inv X pins σ H { s with heap:=h',toks:=t' }:=by
 have nL:∀b u,H b=some u->b≠X.env.locals:=fun b u e z=>by rw [z,I.free] at e;cases e
 refine I.step (g':=s.gens) (d':=s.drawn) (ch:=[]) (fun _ z=>nomatch z) (fun b o hL _ _ e _=>k b o hL e) (fun b o hL _ _ e _=>⟨o.slots,k b o hL e⟩) (fun _ _ _ _ n=>n) (fun b o _ e=>?_) (fun _ _ e=>e) (fun _ _ _ e=>e) (fun b ps e=>⟨#[],by rw [e];simp⟩) (fun m' hm=>?_) (fun b u e=>?_) I.bare
 ·by_cases hL:b=X.env.locals
  ·subst hL
   obtain⟨o',_,_,ho',_⟩:=hn'
   exact⟨o',ho'⟩
  ·exact⟨o,k b o hL e⟩
 ·obtain⟨o,es,ep,ho,hd,hs,hm1⟩:=hn
  obtain⟨o2,es2,ep2,ho2,hd2,hs2,hm2⟩:=hm
  rw [ho] at ho2;cases ho2
  rw [hd] at hd2;cases hd2
  have:m=m':=funext fun x=>(hm1 x).symm.trans (hm2 x)
  rw [<- this];exact hn'
 ·refine (I.hok b u e).stay (fun c v hc q=>k c v ?_ q) (fun _ q=>q) fun _ _ q=>q
  rcases hc with z | z
  ·rw [z];exact nL b u e
  ·exact nL c _ z
theorem kept_all {g h h':Heap}{L:Addr}{m:Str->Option Value} (k:∀b o,g.get? b=some o->h.get? b=some o) (F:Fr g L h' m) (N:News g L h' (allNews g h L)):∀b o,b≠L->h.get? b=some o->h'.get? b=some o:=fun b o h1 e=>by
 cases q:g.get? b with
 | some u=>
  have:=k b u q
  rw [e] at this;cases this
  exact F.keep b _ q
 | none=>exact (N (b,o) (mem_allNews h1 q e)).1
theorem bools_are:∀{bs:List Bool}{us:List Value},Vals (bs.map V.bl) us->LSm.BoolsAre us bs
 | [],us,r=>by
  obtain rfl:us=[]:=List.eq_nil_of_length_eq_zero (by simpa using r.length.symm)
  exact .nil
 | b::bs,us,r=>by
  cases r with
  | cons q t=>
   cases (show _=Value.bool b from q)
   exact .cons b (bools_are t)
theorem intsAreQ:∀{ns:List Int}{us:List Value},Vals (ns.map V.int) us->IntsAre us ns
 | [],us,r=>by
  obtain rfl:us=[]:=List.eq_nil_of_length_eq_zero (by simpa using r.length.symm)
  exact .nil
 | b::bs,us,r=>by
  cases r with
  | cons q t=>
   obtain⟨tk,rfl⟩:=(show ∃tk,_=Value.int b tk from q)
   exact .cons _ _ (intsAreQ t)
theorem call_all (hc:X.calm=true):CallR X (.builtin "all") (fun xs H Q=>∃(p:Addr) (bs:List Bool),xs=[.ref p]/\SqL X.K H p (bs.map V.bl)/\Q (.bl (bs.all id)) H):=by
 intro pins s σ H xs us Q I r h
 obtain⟨p,bs,rfl,hq,q⟩:=h
 obtain⟨u,rfl,rx⟩:=vals1 r
 cases rx
 obtain⟨its,r',pl,hz⟩:=I.list hq
 obtain⟨m,F⟩:=I.fr
 exact LSm.all_bools F (news_all (g:=X.base)) (I.ok.hd hc) pl.isList (bools_are r') fun h' tk F' N'=>⟨.bl (bs.all id),H,inv_frame I F.ns F'.ns (kept_all I.bk F' N'),rfl,q⟩
theorem call_any (hc:X.calm=true):CallR X (.builtin "any") (fun xs H Q=>∃(p:Addr) (bs:List Bool),xs=[.ref p]/\SqL X.K H p (bs.map V.bl)/\Q (.bl (bs.any id)) H):=by
 intro pins s σ H xs us Q I r h
 obtain⟨p,bs,rfl,hq,q⟩:=h
 obtain⟨u,rfl,rx⟩:=vals1 r
 cases rx
 obtain⟨its,r',pl,hz⟩:=I.list hq
 obtain⟨m,F⟩:=I.fr
 exact LSm.any_bools F (news_all (g:=X.base)) (I.ok.hd hc) pl.isList (bools_are r') fun h' tk F' N'=>⟨.bl (bs.any id),H,inv_frame I F.ns F'.ns (kept_all I.bk F' N'),rfl,q⟩
theorem call_sum (hc:X.calm=true):CallR X (.builtin "sum") (fun xs H Q=>∃(p:Addr) (ns:List Int),xs=[.ref p]/\SqL X.K H p (ns.map V.int)/\Q (.int ns.sum) H):=by
 intro pins s σ H xs us Q I r h
 obtain⟨p,ns,rfl,hq,q⟩:=h
 obtain⟨u,rfl,rx⟩:=vals1 r
 cases rx
 obtain⟨its,r',pl,hz⟩:=I.list hq
 obtain⟨m,F⟩:=I.fr
 exact LSm.sum_ints F (news_all (g:=X.base)) (I.ok.hd hc) pl.isList (intsAreQ r') fun h' tk t' F' N'=>⟨.int ns.sum,H,inv_frame I F.ns F'.ns (kept_all I.bk F' N'),⟨_,rfl⟩,q⟩
noncomputable def blsOf:List P->Option (List Bool)
 | []=>some []
 | .bl b::r=>(blsOf r).map (b::·)
 | _=>none
noncomputable def numsOf:List P->Option (List Int)
 | []=>some []
 | .int b::r=>(numsOf r).map (b::·)
 | _=>none
noncomputable def c_all:List P->Option P
 | [.lst xs]=>(blsOf xs).map fun bs=>.bl (bs.all id)
 | _=>none
noncomputable def c_any:List P->Option P
 | [.lst xs]=>(blsOf xs).map fun bs=>.bl (bs.any id)
 | _=>none
noncomputable def c_sum:List P->Option P
 | [.lst xs]=>(numsOf xs).map fun ns=>.int ns.sum
 | _=>none
theorem bls_rps {K:PySem.W.Frag}{F:Addr->Prop}{H:Hp}:∀{xs:List P}{bs:List Bool}{ys:List V},blsOf xs=some bs->RPs K F H xs ys->ys=bs.map V.bl
 | [],bs,ys,h,r=>by cases h;exact List.eq_nil_of_length_eq_zero r.length.symm
 | .bl b::xs,bs,ys,h,r=>by
  simp only [blsOf] at h
  obtain⟨bs',e,rfl⟩:=Option.map_eq_some_iff.mp h
  obtain⟨y,yr,rfl,p,r'⟩:=r
  cases (show y=.bl b from p)
  rw [bls_rps e r'];rfl
theorem nums_rps {K:PySem.W.Frag}{F:Addr->Prop}{H:Hp}:∀{xs:List P}{bs:List Int}{ys:List V},numsOf xs=some bs->RPs K F H xs ys->ys=bs.map V.int
 | [],bs,ys,h,r=>by cases h;exact List.eq_nil_of_length_eq_zero r.length.symm
 | .int b::xs,bs,ys,h,r=>by
  simp only [numsOf] at h
  obtain⟨bs',e,rfl⟩:=Option.map_eq_some_iff.mp h
  obtain⟨y,yr,rfl,p,r'⟩:=r
  cases (show y=.int b from p)
  rw [nums_rps e r'];rfl
theorem callAll (hc:X.calm=true):CallR X (.builtin "all") (rC X.K c_all):=by
 intro pins s σ H xs us Q I r h
 obtain⟨F,ds,d,ft,rs,q,k⟩:=h
 unfold c_all at q
 split at q
 ·obtain⟨bs,e,rfl⟩:=Option.map_eq_some_iff.mp q
  obtain⟨x,rfl,p1⟩:=rps1 rs
  obtain⟨a,ys,rfl,ta,ra⟩:=p1
  exact call_all hc pins s σ H _ us Q I r ⟨a,bs,rfl,by rw [<- bls_rps e ra];exact ta.sq,k _ F H .refl rfl⟩
 ·cases q
theorem callAny (hc:X.calm=true):CallR X (.builtin "any") (rC X.K c_any):=by
 intro pins s σ H xs us Q I r h
 obtain⟨F,ds,d,ft,rs,q,k⟩:=h
 unfold c_any at q
 split at q
 ·obtain⟨bs,e,rfl⟩:=Option.map_eq_some_iff.mp q
  obtain⟨x,rfl,p1⟩:=rps1 rs
  obtain⟨a,ys,rfl,ta,ra⟩:=p1
  exact call_any hc pins s σ H _ us Q I r ⟨a,bs,rfl,by rw [<- bls_rps e ra];exact ta.sq,k _ F H .refl rfl⟩
 ·cases q
theorem callSum (hc:X.calm=true):CallR X (.builtin "sum") (rC X.K c_sum):=by
 intro pins s σ H xs us Q I r h
 obtain⟨F,ds,d,ft,rs,q,k⟩:=h
 unfold c_sum at q
 split at q
 ·obtain⟨bs,e,rfl⟩:=Option.map_eq_some_iff.mp q
  obtain⟨x,rfl,p1⟩:=rps1 rs
  obtain⟨a,ys,rfl,ta,ra⟩:=p1
  exact call_sum hc pins s σ H _ us Q I r ⟨a,bs,rfl,by rw [<- nums_rps e ra];exact ta.sq,k _ F H .refl rfl⟩
 ·cases q
variable {e:Expr}{es:List Expr}{fs:EVs}{p pos:Pos}
theorem x_all (hg:Gl X "all") (hm:X.mg "all"=none) (ha:PA X (e::es) (tVs X.K fs)) (hc:X.calm=true) (he:starEach (e::es) X.env=(false,eval e X.env)::starEach es X.env) (hpl:(backTo pos (starEach es X.env)).any (·.1)=false) :
  PE X (.Call (.Name "all" p) (e::es) [] pos) (tV X.K (vCall c_all fs)):=xCallB (callAll hc) hg hm PyProof.Rows.boot_all ha (by decide) (by decide) he hpl
theorem x_any (hg:Gl X "any") (hm:X.mg "any"=none) (ha:PA X (e::es) (tVs X.K fs)) (hc:X.calm=true) (he:starEach (e::es) X.env=(false,eval e X.env)::starEach es X.env) (hpl:(backTo pos (starEach es X.env)).any (·.1)=false) :
  PE X (.Call (.Name "any" p) (e::es) [] pos) (tV X.K (vCall c_any fs)):=xCallB (callAny hc) hg hm PyProof.Rows.boot_any ha (by decide) (by decide) he hpl
theorem x_sum (hg:Gl X "sum") (hm:X.mg "sum"=none) (ha:PA X (e::es) (tVs X.K fs)) (hc:X.calm=true) (he:starEach (e::es) X.env=(false,eval e X.env)::starEach es X.env) (hpl:(backTo pos (starEach es X.env)).any (·.1)=false) :
  PE X (.Call (.Name "sum" p) (e::es) [] pos) (tV X.K (vCall c_sum fs)):=xCallB (callSum hc) hg hm PyProof.Rows.boot_sum ha (by decide) (by decide) he hpl
end
end Ev
namespace PySem
namespace SetTable
noncomputable def stepN (t:SetTable):Nat->Probe->Probe
 | 0,p=>p
 | n+1,p=>stepN t n (t.advance p)
theorem stepN_add (t:SetTable):∀(n m:Nat) (p:Probe),stepN t (n+m) p=stepN t m (stepN t n p)
 | 0,m,p=>by rw [Nat.zero_add];rfl
 | n+1,m,p=>by rw [Nat.add_right_comm];exact stepN_add t n m (t.advance p)
noncomputable def leapN (mask:Nat):Nat->Nat×Nat->Nat×Nat
 | 0,x=>x
 | k+1,x=>leapN mask k (leap mask x.1 x.2)
theorem leapN_add (mask:Nat):∀(n m:Nat) (x:Nat×Nat),leapN mask (n+m) x=leapN mask m (leapN mask n x)
 | 0,m,x=>by rw [Nat.zero_add];rfl
 | n+1,m,x=>by rw [Nat.add_right_comm];exact leapN_add mask n m _
noncomputable def begins (mask:Nat) (x:Nat×Nat) (d:Option Nat):Probe:={ j:=x.1,more:=runEnd mask x.1-x.1,i:=x.1,perturb:=x.2,dummy:=d }
theorem run_over (t:SetTable):∀(m:Nat) (p:Probe),p.more=m->stepN t (m+1) p=begins t.mask (leap t.mask p.i p.perturb) p.dummy
 | 0,p,h=>by
  show t.advance p=_
  unfold advance
  rw [if_neg (by omega)]
  rfl
 | m+1,p,h=>by
  show stepN t (m+1) (t.advance p)=_
  have e:t.advance p={ p with j:=p.j+1,more:=p.more-1 }:=by unfold advance;rw [if_pos (by omega)]
  rw [e,run_over t m _ (by show p.more-1=m;omega)]
theorem leaps_met (t:SetTable):∀(k:Nat) (x:Nat×Nat) (d:Option Nat),∃n,n≤10 * k/\stepN t n (begins t.mask x d)=begins t.mask (leapN t.mask k x) d
 | 0,x,d=>⟨0,by omega,rfl⟩
 | k+1,x,d=>by
  have h:=run_over t _ (begins t.mask x d) rfl
  have hm:(begins t.mask x d).more≤9:=by
   show runEnd t.mask x.1-x.1≤9
   unfold runEnd
   split <;> omega
  obtain⟨n,hn,e⟩:=leaps_met t k (leap t.mask x.1 x.2) d
  refine⟨(begins t.mask x d).more+1+n,by omega,?_⟩
  rw [stepN_add,h]
  exact e
theorem perturb_gone (mask:Nat):∀(k:Nat) (x:Nat×Nat),(leapN mask k x).2=x.2 / 32 ^ k
 | 0,x=>by simp [leapN]
 | k+1,x=>by
  show (leapN mask k (leap mask x.1 x.2)).2=_
  rw [perturb_gone mask k]
  show x.2 / 32 / 32 ^ k=_
  rw [Nat.div_div_eq_div_mul,Nat.pow_succ,Nat.mul_comm]
theorem leapN_le (mask:Nat):∀(k:Nat) (x:Nat×Nat),x.1≤mask->(leapN mask k x).1≤mask
 | 0,x,h=>h
 | k+1,x,h=>leapN_le mask k _ (by
   show (x.1 * 5+1+x.2 / 32) % (mask+1)≤mask
   exact Nat.le_of_lt_succ (Nat.mod_lt _ (Nat.succ_pos mask)))
noncomputable def lcg (mask:Nat):Nat->Nat->Nat
 | 0,i=>i
 | k+1,i=>lcg mask k ((i * 5+1) % (mask+1))
theorem leap_lcg (mask:Nat):∀(k i:Nat),(leapN mask k (i,0)).1=lcg mask k i
 | 0,i=>rfl
 | k+1,i=>by
  show (leapN mask k (leap mask i 0)).1=lcg mask k ((i * 5+1) % (mask+1))
  rw [<- leap_lcg mask k]
  rfl
theorem cover7:∀i,i < 8->∀j,j < 8->∃k,k < 8/\lcg 7 k i=j:=by decide +kernel
theorem cover31:∀i,i < 32->∀j,j < 32->∃k,k < 32/\lcg 31 k i=j:=by decide +kernel
theorem all_met {mask:Nat} (hm:mask=7\/mask=31) (x:Nat×Nat) (hx:x.1≤mask) (hp:x.2 < 2 ^ 64) (j:Nat) (hj:j≤mask):∃k,k≤mask+13/\(leapN mask k x).1=j:=by
 have h0:(leapN mask 13 x).2=0:=by
  rw [perturb_gone]
  exact Nat.div_eq_of_lt (Nat.lt_of_lt_of_le hp (by decide))
 have h1:=leapN_le mask 13 x hx
 have cov:∃k,k≤mask/\lcg mask k (leapN mask 13 x).1=j:=by
  rcases hm with rfl | rfl
  ·obtain⟨k,h,e⟩:=cover7 _ (Nat.lt_succ_of_le h1) j (Nat.lt_succ_of_le hj)
   exact⟨k,by omega,e⟩
  ·obtain⟨k,h,e⟩:=cover31 _ (Nat.lt_succ_of_le h1) j (Nat.lt_succ_of_le hj)
   exact⟨k,by omega,e⟩
 obtain⟨k,hk,e⟩:=cov
 refine⟨13+k,by omega,?_⟩
 rw [leapN_add,show leapN mask 13 x=((leapN mask 13 x).1,0) from by rw [<- h0],leap_lcg]
 exact e
theorem short_of {α:Type} [DecidableEq α]:∀{l m:List α},l.Nodup->(∀x ∈ l,x ∈ m)->l.length≤m.length
 | [],m,_,_=>Nat.zero_le _
 | x::l,m,nd,h=>by
  obtain⟨n1,n2⟩:=List.nodup_cons.mp nd
  have hx:x ∈ m:=h x List.mem_cons_self
  have ih:=short_of (l:=l) (m:=m.erase x) n2 fun y hy=>(List.mem_erase_of_ne (show y≠x from fun z=>by subst z;exact n1 hy)).mpr (h y (List.mem_cons_of_mem _ hy))
  rw [List.length_erase_of_mem hx] at ih
  have:=List.length_pos_of_mem hx
  simp only [List.length_cons]
  omega
theorem slot_plain {t:SetTable} (hd:t.dummies=#[]) (j:Nat):t.slot j=.empty\/∃i,t.slot j=.live i/\t.place[i]? = some j:=by
 unfold slot
 dsimp only
 split
 ·rename_i h
  exact .inr ⟨_,rfl,by simpa using h⟩
 ·left
  rw [hd]
  have:has #[] j=false:=by simp [has]
  rw [this]
  rfl
theorem free_there {t:SetTable} (hd:t.dummies=#[]) (hs:t.place.size≤t.mask):∃j,j≤t.mask/\t.slot j=.empty:=by
 apply Classical.byContradiction
 intro hn
 have all:∀j ∈ List.range (t.mask+1),j ∈ t.place.toList:=fun j hj=>by
  have hj':=List.mem_range.mp hj
  rcases slot_plain hd j with h | ⟨i,_,h⟩
  ·exact absurd ⟨j,by omega,h⟩ hn
  ·rw [<- Array.getElem?_toList] at h
   exact List.mem_of_getElem? h
 have:=short_of List.nodup_range all
 rw [List.length_range,Array.length_toList] at this
 omega
theorem empty_met {t:SetTable} (hm:t.mask=7\/t.mask=31) (hd:t.dummies=#[]) (hs:t.place.size≤t.mask) (h:Int):∃n,n < 10 * turns t.mask/\t.slot (stepN t n (t.probeStart h)).j=.empty:=by
 obtain⟨j,hj,hfree⟩:=free_there hd hs
 have hb:bits h < 2 ^ 64:=by
  unfold bits
  have h1:=Int.emod_nonneg h (show (2 ^ 64:Int)≠0 by decide)
  have h2:=Int.emod_lt_of_pos h (show (0:Int) < 2 ^ 64 by decide)
  omega
 have hi:bits h % (t.mask+1)≤t.mask:=Nat.le_of_lt_succ (Nat.mod_lt _ (Nat.succ_pos t.mask))
 obtain⟨k,hk,e⟩:=all_met hm (bits h % (t.mask+1),bits h) hi hb j hj
 obtain⟨n,hn,e2⟩:=leaps_met t k (bits h % (t.mask+1),bits h) none
 refine⟨n,by unfold turns;omega,?_⟩
 have e3:t.probeStart h=begins t.mask (bits h % (t.mask+1),bits h) none:=rfl
 rw [e3,e2]
 show t.slot (leapN t.mask k (bits h % (t.mask+1),bits h)).1=.empty
 rw [e]
 exact hfree
theorem stepN_dummy (t:SetTable):∀(n:Nat) (p:Probe),(stepN t n p).dummy=p.dummy
 | 0,p=>rfl
 | n+1,p=>by
  show (stepN t n (t.advance p)).dummy=_
  rw [stepN_dummy t n]
  unfold advance
  split <;> rfl
theorem go_met {t:SetTable} (hd:t.dummies=#[]) (hashAt:Nat->Int) (h:Int):∀(n fuel:Nat) (p:Probe),n < fuel->p.dummy=none->t.slot (stepN t n p).j=.empty ->
  (∃j,probe.go t hashAt h fuel p=some (.empty j none))\/∃m j i,m < n/\t.slot j=.live i/\t.place[i]? = some j/\probe.go t hashAt h fuel p=some (.candidate j i (stepN t (m+1) p))
 | n,0,p,hn,_,_=>absurd hn (Nat.not_lt_zero _)
 | n,fuel+1,p,hn,hp,he=>by
  rcases slot_plain hd p.j with hs | ⟨i,hs,hpl⟩
  ·left
   refine⟨p.j,?_⟩
   unfold probe.go
   rw [hs]
   dsimp only
   rw [hp]
  ·cases n with
   | zero=>
    have:t.slot p.j=.empty:=he
    rw [hs] at this
    cases this
   | succ n=>
    by_cases hh:(hashAt i == h)=true
    ·right
     refine⟨0,p.j,i,by omega,hs,hpl,?_⟩
     unfold probe.go
     rw [hs]
     dsimp only
     rw [if_pos hh]
     rfl
    ·have hp':(t.advance p).dummy=none:=by rw [<- hp];exact stepN_dummy t 1 p
     have e:probe.go t hashAt h (fuel+1) p=probe.go t hashAt h fuel (t.advance p):=by
      conv=>lhs;unfold probe.go
      rw [hs]
      dsimp only
      rw [if_neg hh]
     rcases go_met hd hashAt h n fuel (t.advance p) (by omega) hp' he with ⟨j,q⟩ | ⟨m,j,i',q1,q2,q3,q4⟩
     ·exact .inl ⟨j,by rw [e];exact q⟩
     ·exact .inr ⟨m+1,j,i',by omega,q2,q3,by rw [e];exact q4⟩
end SetTable
end PySem
namespace PySem
namespace SetTable
theorem none_there {α:Type}:∀{l:List (Option α)},(l.filterMap id).length < l.length->∃j:Nat,l[j]? = some none
 | [],h=>absurd h (Nat.not_lt_zero _)
 | none::l,_=>⟨0,rfl⟩
 | some a::l,h=>by
  obtain⟨j,e⟩:=none_there (l:=l) (by simpa using h)
  exact⟨j+1,by simpa using e⟩
theorem set_perm {α:Type} (v:α):∀{l:List (Option α)}{j:Nat},l[j]? = some none->List.Perm ((l.set j (some v)).filterMap id) (v::l.filterMap id)
 | [],j,h=>by simp at h
 | x::l,0,h=>by
  cases (show x=none by simpa using h)
  simp
 | x::l,j+1,h=>by
  have ih:=set_perm v (l:=l) (j:=j) (by simpa using h)
  cases x with
  | none=>simpa using ih
  | some a=>
   simp only [List.set_cons_succ,List.filterMap_cons,id_eq]
   exact (ih.cons a).trans (.swap v a _)
theorem free_ok {mask:Nat} (hm:mask=7\/mask=31) {owner:Array (Option Nat)} (hs:owner.size=mask+1) (hl:(owner.toList.filterMap id).length≤mask) (i q:Nat) (hi:i≤mask) (hq:q < 2 ^ 64) :
  ∃j:Nat,layClean.free mask owner (turns mask) i q=some j/\owner.toList[j]? = some none:=by
 have el:owner.toList.length=mask+1:=by rw [<- hs];simp
 obtain⟨j0,e0⟩:=none_there (l:=owner.toList) (by omega)
 have hj0:j0≤mask:=by
  have:=(List.getElem?_eq_some_iff.mp e0).1
  rw [Array.length_toList,hs] at this
  omega
 obtain⟨k,hk,e⟩:=all_met hm (i,q) hi hq j0 hj0
 have key:∀(k fuel i q:Nat),k < fuel->owner.toList[(leapN mask k (i,q)).1]? = some none->∃j:Nat,layClean.free mask owner fuel i q=some j/\owner.toList[j]? = some none:=by
  intro k
  induction k with
  | zero=>
   intro fuel i q hf e
   cases fuel with
   | zero=>exact absurd hf (Nat.not_lt_zero _)
   | succ fuel=>
    unfold layClean.free
    cases hfd:(List.range (runEnd mask i+1-i)).find? fun k=>(owner.getD (i+k) (some 0)).isNone with
    | some k=>
     have:=List.find?_some hfd
     refine⟨i+k,rfl,?_⟩
     rw [Array.getElem?_toList]
     rw [Array.getD_eq_getD_getElem?] at this
     cases ho:owner[i+k]? with
     | none=>rw [ho] at this;simp at this
     | some v=>rw [ho] at this;cases v with | none=>rfl | some _=>simp at this
    | none=>
     have h0:=List.find?_eq_none.mp hfd 0 (by rw [List.mem_range];unfold runEnd;split <;> omega)
     have e':owner[i]? = some none:=by rw [<- Array.getElem?_toList];exact e
     rw [Nat.add_zero,Array.getD_eq_getD_getElem?,e'] at h0
     simp at h0
  | succ k ih=>
   intro fuel i q hf e
   cases fuel with
   | zero=>exact absurd hf (Nat.not_lt_zero _)
   | succ fuel=>
    unfold layClean.free
    cases hfd:(List.range (runEnd mask i+1-i)).find? fun k=>(owner.getD (i+k) (some 0)).isNone with
    | some k=>
     have:=List.find?_some hfd
     refine⟨i+k,rfl,?_⟩
     rw [Array.getElem?_toList]
     rw [Array.getD_eq_getD_getElem?] at this
     cases ho:owner[i+k]? with
     | none=>rw [ho] at this;simp at this
     | some v=>rw [ho] at this;cases v with | none=>rfl | some _=>simp at this
    | none=>exact ih fuel _ _ (by omega) e
 exact key k (turns mask) i q (by unfold turns;omega) (by rw [e];exact e0)
theorem bits_lt (h:Int):bits h < 2 ^ 64:=by
 unfold bits
 have h1:=Int.emod_nonneg h (show (2 ^ 64:Int)≠0 by decide)
 have h2:=Int.emod_lt_of_pos h (show (0:Int) < 2 ^ 64 by decide)
 omega
theorem lay_ok {mask:Nat} (hm:mask=7\/mask=31):∀(hs:List Int) (owner:Array (Option Nat)) (k:Nat),owner.size=mask+1->List.Perm (owner.toList.filterMap id) (List.range k)->k+hs.length≤mask ->
  ∃owner':Array (Option Nat),hs.foldl (fun acc h=>do
   let (owner,k) <- acc
   let j <- layClean.free mask owner (turns mask) (bits h % (mask+1)) (bits h)
   pure (owner.setIfInBounds j (some k),k+1)) (some (owner,k))=some (owner',k+hs.length)/\owner'.size=mask+1/\List.Perm (owner'.toList.filterMap id) (List.range (k+hs.length))
 | [],owner,k,h1,h2,_=>⟨owner,rfl,h1,h2⟩
 | h::hs,owner,k,h1,h2,h3=>by
  simp only [List.length_cons] at h3
  obtain⟨j,e1,e2⟩:=free_ok hm h1 (by rw [h2.length_eq,List.length_range];omega) (bits h % (mask+1)) (bits h) (Nat.le_of_lt_succ (Nat.mod_lt _ (Nat.succ_pos mask))) (bits_lt h)
  have p:List.Perm ((owner.setIfInBounds j (some k)).toList.filterMap id) (List.range (k+1)):=by
   rw [Array.toList_setIfInBounds]
   refine (set_perm k e2).trans ?_
   rw [List.range_succ]
   exact (h2.cons k).trans (List.perm_append_singleton k _).symm
  obtain⟨o',q1,q2,q3⟩:=lay_ok hm hs (owner.setIfInBounds j (some k)) (k+1) (by rw [Array.size_setIfInBounds];exact h1) p (by omega)
  refine⟨o',?_,q2,?_⟩
  ·rw [List.foldl_cons]
   have:(do
    let (owner,k) <- some (owner,k)
    let j <- layClean.free mask owner (turns mask) (bits h % (mask+1)) (bits h)
    pure (owner.setIfInBounds j (some k),k+1))=some (owner.setIfInBounds j (some k),k+1):=by
    show (layClean.free mask owner (turns mask) (bits h % (mask+1)) (bits h) >>= fun j=>pure (owner.setIfInBounds j (some k),k+1))=_
    rw [e1];rfl
   rw [this,q1,List.length_cons]
   congr 2
   omega
  ·rw [List.length_cons,show k+(hs.length+1)=k+1+hs.length by omega];exact q3
theorem live_list (owner:Array (Option Nat)):∀(n:Nat),n=owner.size->((List.range n).filterMap fun j=>(owner.getD j none).map (j,·)).map (·.2)=owner.toList.filterMap id:=by
 intro n hn
 subst hn
 rw [List.map_filterMap]
 have:(fun j=>Option.map (fun x:Nat×Nat=>x.2) ((owner.getD j none).map (j,·)))=fun j=>owner.getD j none:=by
  funext j
  cases owner.getD j none <;> rfl
 rw [this]
 have e:owner.toList=(List.range owner.size).map fun j=>owner.getD j none:=by
  apply List.ext_getElem?
  intro i
  rw [List.getElem?_map,Array.getElem?_toList]
  by_cases h:i < owner.size
  ·simp [h]
  ·simp [h]
 rw [e,List.filterMap_map]
 rfl
theorem relaid_ok (t:SetTable) (hashes:Array Int) (wanted:Nat) (hw:sizeAbove wanted=32) (hn:hashes.size≤31) :
  ∃t' order,t.relaid hashes wanted=some (t',order)/\t'.mask=31/\t'.dummies=#[]/\t'.place.size=hashes.size/\List.Perm order.toList (List.range hashes.size):=by
 obtain⟨o,e,s1,s2⟩:=lay_ok (mask:=31) (.inr rfl) hashes.toList (Array.replicate 32 none) 0 (by simp) (by decide) (by simpa using hn)
 have hl:layClean 31 hashes=some o:=by
  unfold layClean
  rw [<- Array.foldl_toList]
  show Option.map _ (hashes.toList.foldl _ (some (Array.replicate 32 none,0)))=_
  rw [e];rfl
 simp only [Nat.zero_add,Array.length_toList] at s2
 have ll:=live_list o 32 s1.symm
 refine⟨{ mask:=31,place:=(((List.range 32).filterMap fun j=>(o.getD j none).map (j,·)).map (·.1)).toArray,dummies:=#[],finger:=t.finger,led:=t.led,moves:=t.movedTo 31,plain:=t.plain },(((List.range 32).filterMap fun j=>(o.getD j none).map (j,·)).map (·.2)).toArray,?_,rfl,rfl,?_,?_⟩
 ·unfold relaid laid
  rw [hw,hl]
  rfl
 ·have:=congrArg List.length ll
  rw [List.length_map,s2.length_eq,List.length_range] at this
  simpa using this
 ·rw [List.toList_toArray,ll]
  exact s2
end SetTable
end PySem
namespace PySem
section
variable {prog:Program}{w:World}{K:Type} [DecidableEq K] {knd:KeyKind prog w K}{A:Around}{E:Value->Shared->Prop}{s:Shared}
theorem arr_walk {β:Type}{p:Value->Prop}{vs:List Value}{b0:β}{f:Value->β->Sem (ForInStep β)}{J:β->Prop}{Q:β->Shared->Prop} (hv:∀v ∈ vs,p v) (hb:J b0)
  (turn:∀v r,p v->J r->wpAny (model prog w) A (f v r) (fun x z=>z=s/\match x with | .yield r'=>J r' | .done r'=>Q r' s) E s) (fin:∀r,J r->Q r s):wpAny (model prog w) A (forIn vs b0 f) Q E s:=by
 refine wpAny_forIn_list f (fun l r z=>J r/\z=s/\∀v ∈ l,p v) Q (fun v l r z q=>?_) (fun r z q=>q.2.1 ▸ fin r q.1) vs b0 ⟨hb,rfl,hv⟩
 obtain⟨j,e,q⟩:=q
 subst e
 refine wpAny_mono (turn v r (q v (by simp)) j) (fun x z' hx=>?_) fun _ _ hx=>hx
 obtain⟨e,hx⟩:=hx
 subst e
 cases x with
 | yield r'=>exact⟨hx,rfl,fun u hu=>q u (by simp [hu])⟩
 | done r'=>exact hx
theorem arr_walkA {β:Type}{p:Value->Prop}{vs:Array Value}{b0:β}{f:Value->β->Sem (ForInStep β)}{J:β->Prop}{Q:β->Shared->Prop} (hv:∀v ∈ vs.toList,p v) (hb:J b0)
  (turn:∀v r,p v->J r->wpAny (model prog w) A (f v r) (fun x z=>z=s/\match x with | .yield r'=>J r' | .done r'=>Q r' s) E s) (fin:∀r,J r->Q r s):wpAny (model prog w) A (forIn vs b0 f) Q E s:=by
 rw [<- Array.forIn_toList]
 exact arr_walk hv hb turn fin
theorem statement_no {ks:List K}{a:Addr}{Q:Bool->Shared->Prop} (hk:IsTupleKey knd s.heap ks a) (h:Q false s):wpAny (model prog w) A (ofAClassStatement 8 (.ref a)) Q E s:=by
 unfold ofAClassStatement
 refine wpAny_bind (wpAny_typeOf hk.typeIs ?_)
 obtain⟨ob,vs,m,p1,-,p2,p3⟩:=hk
 show wpAny _ _ (do
  let underTuple <- if (("tuple":String) == "tuple")=true then pure true else isSubtype (.type "tuple") (.type "tuple")
  _) _ _ s
 rw [if_pos (by decide)]
 apply wpAny_bind
 apply wpAny_pure
 dsimp only
 rw [if_neg (by decide)]
 apply wpAny_bind
 refine wpAny_seqItems p1 p2 (wpAny_bind ?_)
 refine arr_walkA (vs:=vs) (p:=fun v=>carriedByValue v=true) (J:=fun r=>r.1=none) p3.byValue rfl (fun v r hv hr=>?_) fun r hr=>?_
 ·have e:ofAClassStatement 7 v=pure false:=by cases v <;> first | rfl | cases hv
  rw [e]
  apply wpAny_bind
  apply wpAny_pure
  rw [if_neg (by decide)]
  exact wpAny_pure ⟨rfl,rfl⟩
 ·rw [hr]
  exact wpAny_pure h
theorem seen_no {kx:List K}{ax:Addr}{stored:List Value}{Q:Bool->Shared->Prop} (hx:IsTupleKey knd s.heap kx ax) (hs:∀y ∈ stored,∃k a,y=.ref a/\IsTupleKey knd s.heap k a) (h:Q false s):wpAny (model prog w) A (searchCouldBeSeen (.ref ax) stored) Q E s:=by
 unfold searchCouldBeSeen
 apply wpAny_bind
 refine arr_walk (p:=fun y=>∃k a,y=.ref a/\IsTupleKey knd s.heap k a) (J:=fun r=>r.1=none) hs rfl (fun v r hv hr=>?_) fun r hr=>?_
 ·obtain⟨k,a,rfl,hk⟩:=hv
  dsimp only
  split
  ·exact wpAny_pure ⟨rfl,rfl⟩
  ·refine wpAny_bind (wpAny_eqIsQuiet_tuple hx ?_)
   rw [if_neg (by decide)]
   refine wpAny_bind (wpAny_eqIsQuiet_tuple hk ?_)
   rw [if_neg (by decide)]
   refine wpAny_bind (statement_no hx ?_)
   rw [if_neg (by decide)]
   refine wpAny_bind (statement_no hk ?_)
   rw [if_neg (by decide)]
   exact wpAny_pure ⟨rfl,rfl⟩
 ·dsimp only
  rw [hr]
  exact wpAny_pure h
noncomputable def TupSet (knd:KeyKind prog w K) (h:Heap) (S:Addr) (ks:List (List K)):Prop:=
 ∃o es ep t,h.get? S=some o/\o.ExactSet/\o.data=.set es ep t/\(∀e ∈ es.toList,∃k a,k ∈ ks/\e=(tupleKeyHash knd k,Value.ref a)/\IsTupleKey knd h k a)/\es.size=ks.length/\t.place.size=es.size/\t.dummies=#[] /\
  ((t.mask=7/\es.size≤4)\/(t.mask=31/\es.size≤18))
theorem TupSet.fits {es:Array (Int×Value)}{t:SetTable} (h1:t.place.size=es.size) (h2:t.dummies=#[]) (h3:(t.mask=7/\es.size≤4)\/(t.mask=31/\es.size≤18)):t.fits es.size=true:=by
 have e:t.fill=es.size:=by
  show t.place.size+t.dummies.size=_
  rw [h1,h2];rfl
 unfold SetTable.fits
 rw [h1,e]
 rcases h3 with ⟨a,b⟩ | ⟨a,b⟩ <;> rw [a] <;> simp <;> omega
theorem search_free {S ax:Addr}{o:Obj}{es:Array (Int×Value)}{ep:Nat}{t:SetTable}{kx:List K}{ks:List (List K)} (hu:A.units < cLine) (ho:s.heap.get? S=some o) (hd:o.data=.set es ep t)
  (hel:∀e ∈ es.toList,∃k a,k ∈ ks/\e=(tupleKeyHash knd k,Value.ref a)/\IsTupleKey knd s.heap k a) (h1:t.place.size=es.size) (h2:t.dummies=#[]) (h3:(t.mask=7/\es.size≤4)\/(t.mask=31/\es.size≤18))
  (hx:IsTupleKey knd s.heap kx ax) (hn:kx ∉ ks) {Q:SetFound->Shared->Prop} (h:∀j,Q (.free j false) s) :
  ∀(n fuel:Nat) (p:SetTable.Probe) (stand:Option SetTable.Probe),n < fuel->n < 10 * SetTable.turns t.mask->p.dummy=none->t.slot (SetTable.stepN t n p).j=.empty->stand.getD (t.probeStart (tupleKeyHash knd kx))=p ->
   wpAny (model prog w) A (setSearchFrom S (.ref ax) (tupleKeyHash knd kx) true fuel stand) Q E s:=by
 have hf:=TupSet.fits h1 h2 h3
 intro n
 induction n using Nat.strongRecOn with
 | _ n ih=>
  intro fuel p stand hfu hnt hp he hst
  cases fuel with
  | zero=>exact absurd hfu (Nat.not_lt_zero _)
  | succ fuel=>
   unfold setSearchFrom
   refine wpAny_bind (wpAny_setState_of ho hd hf ?_)
   dsimp only
   rw [if_neg (by
    unfold SetTable.gaveWay
    rcases h3 with ⟨a,_⟩ | ⟨a,_⟩ <;> rw [a] <;> decide),hst]
   unfold SetTable.probe
   rcases SetTable.go_met h2 _ (tupleKeyHash knd kx) n (10 * SetTable.turns t.mask) p hnt hp he with ⟨j,q⟩ | ⟨m,j,i,q1,q2,q3,q4⟩
   ·rw [q]
    exact wpAny_pure (h j)
   ·rw [q4]
    have hlt:i < es.size:=by
     rw [<- h1]
     exact (Array.getElem?_eq_some_iff.mp q3).1
    obtain⟨k,a,hk1,hk2,hk3⟩:=hel es[i] (by simp)
    have hei:es[i]? = some (tupleKeyHash knd k,Value.ref a):=by rw [Array.getElem?_eq_getElem hlt,hk2]
    have hne:¬k=kx:=fun z=>hn (z ▸ hk1)
    have sm:t.sameMemory t.moves t.mask=some true:=by simp [SetTable.sameMemory]
    have stored:∀y ∈ (es.filter fun x=>x.1 == tupleKeyHash knd kx).toList.map (·.2),∃k a,y=.ref a/\IsTupleKey knd s.heap k a:=fun y hy=>by
     obtain⟨e,he1,rfl⟩:=List.mem_map.mp hy
     have he2:e ∈ es.toList:=by
      have:=Array.mem_filter.mp (Array.mem_toList_iff.mp he1)
      exact Array.mem_toList_iff.mpr this.1
     obtain⟨k',a',_,e1,e2⟩:=hel e he2
     exact⟨k',a',by rw [e1],e2⟩
    have again':wpAny (model prog w) A (setSearchFrom S (.ref ax) (tupleKeyHash knd kx) true fuel (some (t.stepN (m+1) p))) Q E s:=by
     refine ih (n-(m+1)) (by omega) fuel (t.stepN (m+1) p) _ (by omega) (by omega) (by rw [SetTable.stepN_dummy];exact hp) ?_ rfl
     rw [<- SetTable.stepN_add,show m+1+(n-(m+1))=n by omega]
     exact he
    dsimp only
    rw [hei]
    split
    ·refine wpAny_bind (seen_no hx stored ?_)
     rw [if_neg (by decide)]
     dsimp only
     refine wpAny_bind (wpAny_holding (wpAny_eqBool_tuple hu hk3 hx ?_))
     rw [decide_eq_false hne]
     refine wpAny_bind (wpAny_setState_of ho hd hf ?_)
     dsimp only
     rw [if_neg (by decide),sm]
     dsimp only
     rw [if_pos rfl,q2]
     dsimp only
     rw [hei]
     dsimp only
     refine wpAny_bind (wpAny_isSame_ref_self ?_)
     refine wpAny_bind (wpAny_pure ?_)
     rw [if_pos rfl]
     dsimp only
     rw [if_neg (by decide)]
     exact again'
    ·dsimp only
     refine wpAny_bind (wpAny_holding (wpAny_eqBool_tuple hu hk3 hx ?_))
     rw [decide_eq_false hne]
     refine wpAny_bind (wpAny_setState_of ho hd hf ?_)
     dsimp only
     rw [if_neg (by decide),sm]
     dsimp only
     rw [if_pos rfl,q2]
     dsimp only
     rw [hei]
     dsimp only
     refine wpAny_bind (wpAny_isSame_ref_self ?_)
     refine wpAny_bind (wpAny_pure ?_)
     rw [if_pos rfl]
     dsimp only
     rw [if_neg (by decide)]
     exact again'
theorem hash_known {ks:List K}{a:Addr}{Q:Bool->Shared->Prop} (hk:IsTupleKey knd s.heap ks a) (h:∀b,Q b s):wpAny (model prog w) A (hashByValue 8 (.ref a)) Q E s:=by
 unfold hashByValue
 apply wpAny_bind
 refine wpAny_specialOf hk.typeIs F.slot_tuple_hash.lookup ?_
 obtain⟨ob,vs,m,p1,-,p2,p3⟩:=hk
 apply wpAny_bind
 refine wpAny_seqItems p1 p2 (wpAny_bind ?_)
 refine arr_walkA (vs:=vs) (p:=fun v=>carriedByValue v=true) (J:=fun _=>True) p3.byValue trivial (fun v r hv _=>?_) fun r _=>?_
 ·obtain⟨b,e⟩:∃b,hashByValue 7 v=pure b:=by cases v <;> first | exact⟨_,rfl⟩ | cases hv
  rw [e]
  apply wpAny_bind
  apply wpAny_pure
  cases b
  ·exact wpAny_pure ⟨rfl,wpAny_pure (h _)⟩
  ·exact wpAny_pure ⟨rfl,trivial⟩
 ·obtain⟨r1,r2⟩:=r
  cases r1 <;> exact wpAny_pure (h _)
theorem size_with {α:Type} (xs:Array α) (p:Nat) (x:α):(SetTable.insertAt xs p x).size=xs.size+1:=by
 have:=(SetTable.insertAt_perm xs p x).length_eq
 simpa using this
theorem key_kept {k:List K}{a S:Addr}{h h':Heap} (hk:IsTupleKey knd h k a) (hs:Heap.SameBut S h h') (hne:a≠S):IsTupleKey knd h' k a:=by
 obtain⟨o,it,n,ho,r⟩:=hk
 exact⟨o,it,n,(hs.2 a hne).trans ho,r⟩
theorem key_apart {k:List K}{a S:Addr}{h:Heap}{o:Obj} (hk:IsTupleKey knd h k a) (ho:h.get? S=some o) (hc:o.cls=.type "set"):a≠S:=by
 rintro rfl
 obtain⟨o',it,n,ho',hc',_⟩:=hk
 rw [ho] at ho'
 cases ho'
 rw [hc] at hc'
 exact absurd hc' (by decide)
theorem put_get {h:Heap}{S:Addr}{o:Obj}{es:Array (Int×Value)}{ep:Nat}{t:SetTable} (es':Array (Int×Value)) (t':SetTable) (ho:h.get? S=some o) (hd:o.data=.set es ep t):(h.update S (Obj.putSet es' t')).get? S=some { o with data:=.set es' (ep+1) t' }:=by
 have e:=putSet_of es' t' hd
 exact e ▸ Heap.get?_update_self (Obj.putSet es' t') ho (by rw [e];rfl)
theorem TupSet.stored {S:Addr}{o:Obj}{es es':Array (Int×Value)}{ep:Nat}{t t':SetTable}{ks:List (List K)}{h:Heap} (ho:h.get? S=some o) (hex:o.ExactSet) (hd:o.data=.set es ep t)
  (hel:∀e ∈ es'.toList,∃k a,k ∈ ks/\e=(tupleKeyHash knd k,Value.ref a)/\IsTupleKey knd h k a) (h0:es'.size=ks.length) (h1:t'.place.size=es'.size) (h2:t'.dummies=#[]) (h3:(t'.mask=7/\es'.size≤4)\/(t'.mask=31/\es'.size≤18)) :
  TupSet knd (h.update S (Obj.putSet es' t')) S ks:=by
 have hg:=put_get es' t' ho hd
 refine⟨_,es',ep+1,t',hg,hex,rfl,fun e he=>?_,h0,h1,h2,h3⟩
 obtain⟨k,a,q1,q2,q3⟩:=hel e he
 exact⟨k,a,q1,q2,key_kept q3 (Heap.SameBut.update h S _) (key_apart q3 ho hex.1)⟩
theorem order_perm {α:Type}{es:Array α}{order:Array Nat} (p:List.Perm order.toList (List.range es.size)):List.Perm (order.filterMap (es[·]?)).toList es.toList:=by
 rw [Array.toList_filterMap]
 refine (p.filterMap _).trans ?_
 rw [filterMap_getElem?_range]
theorem add_tail {S ax:Addr}{kx:List K}{ks:List (List K)}{o:Obj}{es:Array (Int×Value)}{ep p:Nat}{t t2:SetTable} (ho:s.heap.get? S=some o) (hex:o.ExactSet) (hd:o.data=.set es ep t)
  (hel:∀e ∈ es.toList,∃k a,k ∈ ks/\e=(tupleKeyHash knd k,Value.ref a)/\IsTupleKey knd s.heap k a) (h0:es.size=ks.length) (h3:(t.mask=7/\es.size≤4)\/(t.mask=31/\es.size≤18)) (hl:ks.length≤17)
  (hx:IsTupleKey knd s.heap kx ax) (m2:t2.mask=t.mask) (p2:t2.place.size=es.size+1) (d2:t2.dummies=#[]) {Q:Bool->Shared->Prop}
  (h:∀h',Heap.SameBut S s.heap h'->TupSet knd h' S (ks++[kx])->Q true { s with heap:=h' }) :
  wpAny (model prog w) A (do
   storeSet S (SetTable.insertAt es p (tupleKeyHash knd kx,Value.ref ax)) t2
   if (!false && t2.tooFull)=true then do
    setRelay S (SetTable.grown (es.size+1))
    pure true
   else pure true) Q E s:=by
 have hsz:=size_with es p (tupleKeyHash knd kx,Value.ref ax)
 have hel1:∀e ∈ (SetTable.insertAt es p (tupleKeyHash knd kx,Value.ref ax)).toList,∃k a,k ∈ ks++[kx]/\e=(tupleKeyHash knd k,Value.ref a)/\IsTupleKey knd s.heap k a:=fun e he=>by
  have he':=(SetTable.insertAt_perm es p (tupleKeyHash knd kx,Value.ref ax)).mem_iff.mp he
  rw [Array.toList_push] at he'
  rcases List.mem_append.mp he' with hz | hz
  ·obtain⟨k,a,q1,q2,q3⟩:=hel e hz
   exact⟨k,a,List.mem_append_left _ q1,q2,q3⟩
  ·cases List.mem_singleton.mp hz
   exact⟨kx,ax,by simp,rfl,hx⟩
 generalize SetTable.insertAt es p (tupleKeyHash knd kx,Value.ref ax)=es1 at *
 have hk1:es1.size=(ks++[kx]).length:=by rw [hsz,h0];simp
 have fill2:t2.fill=es1.size:=by
  show t2.place.size+t2.dummies.size=_
  rw [p2,d2,hsz];rfl
 have line:32≤sizeLine:=by rw [sizeLine_eq];decide
 refine wpAny_bind (wpAny_storeSet_of ho hd ?_ (by rw [hsz];omega))
 have sb1:=Heap.SameBut.update s.heap S (Obj.putSet es1 t2)
 by_cases hfull:t2.tooFull=true
 ·rw [if_pos (by rw [hfull];rfl)]
  have h5:t.mask=7/\es1.size=5:=by
   unfold SetTable.tooFull at hfull
   rw [fill2,m2] at hfull
   have hf:=of_decide_eq_true hfull
   rcases h3 with ⟨a,b⟩ | ⟨a,b⟩ <;> rw [a] at hf
   ·exact⟨a,by omega⟩
   ·omega
  have hg1:=put_get es1 t2 ho hd
  have hf1:t2.fits es1.size=true:=by
   unfold SetTable.fits
   rw [p2,<- hsz,fill2,m2,h5.1,h5.2];decide
  have hgr:SetTable.grown (es.size+1)=20:=by rw [<- hsz,h5.2];decide
  obtain⟨t3,order,e1,e2,e3,e4,e5⟩:=SetTable.relaid_ok t2 (es1.map (·.1)) 20 (by decide) (by rw [Array.size_map,h5.2];decide)
  rw [Array.size_map] at e4 e5
  have hp:=order_perm e5
  have hs2:(order.filterMap (es1[·]?)).size=es1.size:=by
   rw [<- Array.length_toList,hp.length_eq,Array.length_toList]
  rw [hgr]
  apply wpAny_bind
  unfold setRelay
  refine wpAny_bind (wpAny_setState_of (s:={ s with heap:=s.heap.update S (Obj.putSet es1 t2) }) hg1 rfl hf1 ?_)
  dsimp only
  rw [if_neg (by rw [show SetTable.sizeAbove 20=32 by decide];omega),e1]
  apply wpAny_bind
  show wpAny _ _ (do
   if ((order.filterMap (es1[·]?)).size != es1.size)=true then unsupported "internal:set-table-lost-an-element"
   pure (order.filterMap (es1[·]?),t3)) _ _ _
  rw [if_neg (by rw [hs2];simp)]
  refine wpAny_pure ?_
  refine wpAny_storeSet_of (s:={ s with heap:=s.heap.update S (Obj.putSet es1 t2) }) hg1 rfl ?_ (by rw [hs2,h5.2];omega)
  refine wpAny_pure (h _ (sb1.trans (Heap.SameBut.update _ S _)) (TupSet.stored (o:={ o with data:=.set es1 (ep+1) t2 }) hg1 hex rfl (fun e he=>?_) (by rw [hs2];exact hk1) (by rw [e4,hs2]) e3 (.inr ⟨e2,by rw [hs2,h5.2];decide⟩)))
  obtain⟨k,a,q1,q2,q3⟩:=hel1 e (hp.mem_iff.mp he)
  exact⟨k,a,q1,q2,key_kept q3 sb1 (key_apart q3 ho hex.1)⟩
 ·rw [if_neg (by simpa using hfull)]
  refine wpAny_pure (h _ sb1 (TupSet.stored ho hex hd hel1 hk1 (by rw [p2,hsz]) d2 ?_))
  unfold SetTable.tooFull at hfull
  rw [fill2,m2] at hfull
  have hf:¬es1.size * 5 ≥ t.mask * 3:=fun z=>hfull (decide_eq_true z)
  rw [m2]
  rcases h3 with ⟨a,b⟩ | ⟨a,b⟩ <;> rw [a] at hf ⊢
  ·exact .inl ⟨rfl,by omega⟩
  ·exact .inr ⟨rfl,by omega⟩
theorem add_tuple {S ax:Addr}{kx:List K}{ks:List (List K)} (hu:A.units < cLine) (hS:TupSet knd s.heap S ks) (hx:IsTupleKey knd s.heap kx ax) (hn:kx ∉ ks) (hl:ks.length≤17) {Q:Bool->Shared->Prop}
  (h:∀h' tk,Heap.SameBut S s.heap h'->TupSet knd h' S (ks++[kx])->Q true { s with heap:=h',toks:=tk }):wpAny (model prog w) A (setAdd S (.ref ax)) Q E s:=by
 unfold setAdd
 refine wpAny_holding (wpAny_bind (wpAny_pyHash_tuple hu hx ?_))
 generalize s.toks+(kx.length+1)=tk0
 obtain⟨o,es,ep,t,ho,hex,hd,hel,h0,h1,h2,h3⟩:=hS
 have hf:=TupSet.fits h1 h2 h3
 unfold setAddHashed
 refine wpAny_holding ?_
 unfold setAddHashedIn
 refine wpAny_bind (wpAny_setState_of (s:={ s with toks:=tk0 }) ho hd hf ?_)
 dsimp only
 rw [if_neg (show ¬byScan (.ref ax) es=true from fun z=>by simp [byScan,Value.scannable] at z)]
 obtain⟨n,hn1,hn2⟩:=SetTable.empty_met (t:=t) (by rcases h3 with ⟨a,_⟩ | ⟨a,_⟩ <;> simp [a]) h2 (by rcases h3 with ⟨a,b⟩ | ⟨a,b⟩ <;> omega) (tupleKeyHash knd kx)
 have hbig:n < 100000:=by
  unfold SetTable.turns at hn1
  rcases h3 with ⟨a,_⟩ | ⟨a,_⟩ <;> rw [a] at hn1 <;> omega
 unfold setSearch
 refine wpAny_bind (search_free (s:={ s with toks:=tk0 }) hu ho hd hel h1 h2 h3 hx hn (fun j=>?_) n 100000 _ none hbig hn1 rfl hn2 rfl)
 dsimp only
 refine wpAny_bind (wpAny_setState_of (s:={ s with toks:=tk0 }) ho hd hf ?_)
 dsimp only
 have pm:(t.put j).1.mask=t.mask:=rfl
 have pp:(t.put j).1.place.size=es.size+1:=by
  show (SetTable.insertAt t.place _ j).size=_
  rw [size_with,h1]
 have pd:(t.put j).1.dummies=#[]:=by
  show (if SetTable.has t.dummies j=true then _ else t.dummies)=#[]
  rw [h2,if_neg (by simp [SetTable.has])]
 have fin:∀(b:Bool) (h':Heap),Heap.SameBut S s.heap h'->TupSet knd h' S (ks++[kx])->Q true { s with heap:=h',toks:=tk0 }:=fun _ h' q1 q2=>h h' tk0 q1 q2
 have both:∀b:Bool,wpAny (model prog w) A (do
   storeSet S (SetTable.insertAt es (t.put j).2 (tupleKeyHash knd kx,Value.ref ax)) (if b=true then (t.put j).1 else { (t.put j).1 with plain:=false })
   if (!false && (if b=true then (t.put j).1 else { (t.put j).1 with plain:=false }).tooFull)=true then do
    setRelay S (SetTable.grown (es.size+1))
    pure true
   else pure true) Q E { s with toks:=tk0 }:=fun b=>by
  cases b
  ·exact add_tail (s:={ s with toks:=tk0 }) (t2:={ (t.put j).1 with plain:=false }) ho hex hd hel h0 h3 hl hx pm pp pd (fin false)
  ·exact add_tail (s:={ s with toks:=tk0 }) (t2:=(t.put j).1) ho hex hd hel h0 h3 hl hx pm pp pd (fin true)
 split
 ·exact wpAny_bind (hash_known (s:={ s with toks:=tk0 }) hx fun b=>both b)
 ·exact wpAny_bind (wpAny_pure (both true))
end
end PySem
namespace PySem
open PyProof.Rows
section
variable {prog:Program}{w:World}{A:Around}{E:Value->Shared->Prop}{s:Shared}
noncomputable abbrev setMade0 (led:Bool):Obj:={ cls:=.type "set",dict:=none,data:=.set #[] 0 (.fresh 0 0 led) }
theorem set_called {x:Value}{Q:Value->Shared->Prop} (hq:∀led:Bool,wpAny (model prog w) A.in1.in1 (Builtin.«set.__init__» ⟨[.ref s.heap.objs.size,x],[]⟩)
   (fun fin s'=>match fin with
    | .done f=>wants (fun r s₂=>r=.none/\Q (.ref s.heap.objs.size) s₂) E (.ok f) s'
    | .again c'=>c'.quiet=true/\codeAny (model prog w) A.in1 c' (wants (fun r s₂=>r=.none/\Q (.ref s.heap.objs.size) s₂) E) s')
   (fun e s'=>wants (fun r s₂=>r=.none/\Q (.ref s.heap.objs.size) s₂) E (.error e) s')
   { s with heap:=s.heap.push (setMade0 led) }) :
  wpAny (model prog w) A (call (.type "set") [x]) Q E s:=by
 have m0:=F.called_set.mro
 obtain⟨c,tl,m1⟩:=m0
 have m2:=F.called_set.made
 have m3:=F.called_set.sub
 have m4:=F.called_set.notType
 have m5:=F.called_set.canCreate
 have m6:=F.typeCall_set_1 x
 have m7:=F.called_set.init.lookup
 apply wpAny_call
 apply codeAny_of_tree
 show wpAny _ _ (callAny (.type "set") _) _ _ _
 apply wpAny_pure
 refine⟨Code.quiet_builtin _ (by decide +kernel),codeAny_builtin F.entry_type_call ?_⟩
 rw [Around.under_plain (weight_type_call_type "set" [x] []) rfl]
 repeat any_goals first | assumption | wp_step
 have new:=code_set_new_1 (prog:=prog) (w:=w) (A:=A.in1) (s:=s) x (E:=E) (Q₁:=fun obj z=>∃led:Bool,obj=.ref s.heap.objs.size/\z={ s with heap:=s.heap.push (setMade0 led) }) fun led=>⟨led,rfl,rfl⟩
 refine codeAny_mono new fun r z hr=>?_
 rcases r with e | fl
 ·exact hr
 ·cases fl with
  | ret obj=>
   obtain⟨led,e1,e2⟩:=hr
   subst e1 e2
   have hT:Shared.TypeIs { s with heap:=s.heap.push (setMade0 led) } (.ref s.heap.objs.size) "set":=⟨setMade0 led,Heap.get?_push_size _ rfl,rfl⟩
   have m8:=F.called_set.init.bind (.ref s.heap.objs.size)
   repeat any_goals first | assumption | wp_step
   refine codeAny_mono (codeAny_call_builtin F.called_set.init.plain F.entry_set_init (check_set_init_1 hT (hq led))) fun r2 z2 hr2=>?_
   rcases r2 with e | fl2
   ·exact hr2
   ·cases fl2 with
    | ret r=>
     obtain⟨e,hq2⟩:=hr2
     subst e
     repeat any_goals first | assumption | wp_step
    | _=>exact hr2.elim
  | _=>exact hr.elim
end
section
variable {prog:Program}{w:World}{A:Around}{E:Value->Shared->Prop}{R:Result->Shared->Prop}{α:Type}
theorem upd_code {c:Args}{s:Shared} (h:wpAny (model prog w) A.in1 (Builtin.«set.update.loop» c) (fun fin s'=>match fin with
   | .done f=>R (.ok f) s'
   | .again c'=>c'.quiet=true/\codeAny (model prog w) A c' R s') (fun e s'=>R (.error e) s') s):codeAny (model prog w) A (.builtin "set.update.loop" c) R s:=
 codeAny_builtin F.entry_set_update_loop (by rw [Around.under_plainId F.plain_set_update_loop c];exact h)
theorem set_loop (hh:A.handled=none) {h₀:Heap}{S it l:Addr}{items:Array Value} (hS₀:h₀.get? S=none) (hi₀:h₀.get? it=none) (hSi:S≠it) (hl:h₀.IsList l items) {Is:α->Value->Prop}{Has:Heap->List α->Prop}{N:Nat}
  (hex:∀{h h':Heap}{ks:List α},(∀o,h.get? it=some o->o.cls=.type "list_iterator")->Has h ks->Heap.ExtBut it h h'->Has h' ks)
  (add:∀(s:Shared) (ks:List α) (x:α) (v:Value) (Q:Bool->Shared->Prop) (E:Value->Shared->Prop),(∀b o,h₀.get? b=some o->s.heap.get? b=some o)->Has s.heap ks->Is x v->x ∉ ks->ks.length < N ->
   (∀h' tk,Heap.SameBut S s.heap h'->Has h' (ks++[x])->Q true { s with heap:=h',toks:=tk })->wpAny (model prog w) A.in1 (setAdd S v) Q E s) :
  ∀(rest:List α) (i:Nat) (acc:List α) (s:Shared),(∀b o,h₀.get? b=some o->s.heap.get? b=some o)->s.heap.IsListIter it l i->Has s.heap acc->Paired Is rest (items.toList.drop i)->(acc++rest).Nodup->(acc++rest).length≤N->i+rest.length=items.size ->
   (∀h' t',(∀b o,h₀.get? b=some o->h'.get? b=some o)->Has h' (acc++rest)->R (.ok (.ret .none)) { s with heap:=h',toks:=t' }) ->
   codeAny (model prog w) A (.builtin "set.update.loop" ⟨[.ref S,.ref it],[]⟩) R s:=by
 have cl:∀{h:Heap}{i:Nat},h.IsListIter it l i->∀o,h.get? it=some o->o.cls=.type "list_iterator":=fun q o e=>by
  obtain⟨o',e',c,_⟩:=q
  rw [e] at e';cases e';exact c
 intro rest
 induction rest with
 | nil=>
  intro i acc s kp it1 hs hp hn hz hi h
  have hend:items[i]? = none:=by simp at hi ⊢;omega
  have hl':s.heap.IsList l items:=by obtain⟨o,ho,r⟩:=hl;exact⟨o,kp _ _ ho,r⟩
  refine upd_code (wpAny_bind (wpAny_pyNext_list_end hh it1 hl' hend fun h' eb=>?_))
  rw [List.append_nil] at h
  apply wpAny_pure
  exact h h' s.toks (fun b o e=>eb b o (fun z=>by rw [z,hi₀] at e;cases e) (kp b o e)) (hex (cl it1) hs eb)
 | cons x rest ih=>
  intro i acc s kp it1 hs hp hn hz hi h
  have hl':s.heap.IsList l items:=by obtain⟨o,ho,r⟩:=hl;exact⟨o,kp _ _ ho,r⟩
  generalize er:items.toList.drop i=us at hp
  cases hp with
  | cons hx hps=>
   rename_i v us'
   have hv:items[i]? = some v:=by
    have:=congrArg (·[0]?) er
    simpa using this
   have er':items.toList.drop (i+1)=us':=by rw [<- List.drop_drop,er];rfl
   refine upd_code (wpAny_bind (wpAny_pyNext_list_item it1 hl' hv fun h1 it2 sb1=>?_))
   have kp1:∀b o,h₀.get? b=some o->h1.get? b=some o:=fun b o e=>(sb1.2 b (fun z=>by rw [z,hi₀] at e;cases e)).trans (kp b o e)
   show wpAny _ A.in1 (holding [v] (setAdd S v) >>= _) _ _ _
   apply wpAny_bind
   apply wpAny_holding
   have hnx:x ∉ acc:=fun z=>by
    rw [List.nodup_append] at hn
    exact hn.2.2 _ z _ (by simp) rfl
   refine add { s with heap:=h1 } acc x v _ _ kp1 (hex (cl it1) hs fun b o hb e=>(sb1.2 b hb).trans e) hx hnx (by simp at hz;omega) fun h2 tk sb2 hs2=>?_
   refine wpAny_pure ⟨plainId_quiet F.plain_set_update_loop _,?_⟩
   have kp2:∀b o,h₀.get? b=some o->h2.get? b=some o:=fun b o e=>(sb2.2 b (fun z=>by rw [z,hS₀] at e;cases e)).trans (kp1 b o e)
   have it3:h2.IsListIter it l (i+1):=by obtain⟨o,ho,r⟩:=it2;exact⟨o,(sb2.2 it (Ne.symm hSi)).trans ho,r⟩
   have e1:acc++x::rest=(acc++[x])++rest:=by simp
   rw [e1] at hn hz h
   exact ih (i+1) (acc++[x]) { s with heap:=h2,toks:=tk } kp2 it3 hs2 (er' ▸ hps) hn hz (by simp at hi;omega) fun h' t' k1 k2=>h h' t' k1 k2
end
end PySem
namespace PySem
open PyProof.Rows
section
variable {prog:Program}{w:World}{A:Around}{E:Value->Shared->Prop}{s:Shared}{α:Type}
theorem set_of {l:Addr}{items:Array Value}{n:Nat}{xs:List α}{Q:Value->Shared->Prop} (hh:A.handled=none) (hl:s.heap.get? l=some { cls:=.type "list",data:=.seq items n }) {Is:α->Value->Prop}{Has:Heap->List α->Prop}{N:Nat}
  (h0:∀(h:Heap) (led:Bool),h.get? s.heap.objs.size=some (setMade0 led)->Has h [])
  (hit:∀{it:Addr}{h h':Heap}{ks:List α},it≠s.heap.objs.size->(∀o,h.get? it=some o->o.cls=.type "list_iterator")->Has h ks->Heap.ExtBut it h h'->Has h' ks)
  (add:∀(z:Shared) (ks:List α) (x:α) (v:Value) (Q:Bool->Shared->Prop) (E:Value->Shared->Prop),(∀b o,s.heap.get? b=some o->z.heap.get? b=some o)->Has z.heap ks->Is x v->x ∉ ks->ks.length < N ->
   (∀h' tk,Heap.SameBut s.heap.objs.size z.heap h'->Has h' (ks++[x])->Q true { z with heap:=h',toks:=tk })->wpAny (model prog w) A.in1.in1.in1 (setAdd s.heap.objs.size v) Q E z)
  (hp:Paired Is xs items.toList) (hn:xs.Nodup) (hz:xs.length≤N)
  (h:∀h' t',(∀b o,s.heap.get? b=some o->h'.get? b=some o)->Has h' xs->Q (.ref s.heap.objs.size) { s with heap:=h',toks:=t' }):wpAny (model prog w) A (call (.type "set") [.ref l]) Q E s:=by
 refine set_called fun led=>?_
 have hS:(s.heap.push (setMade0 led)).get? s.heap.objs.size=some (setMade0 led):=Heap.get?_push_size _ rfl
 have hsz:=Heap.size_push s.heap (setMade0 led)
 have old:∀b o,s.heap.get? b=some o->(s.heap.push (setMade0 led)).get? b=some o:=fun b o e=>Heap.get?_push_of_some _ e
 have hT:Shared.TypeIs { s with heap:=s.heap.push (setMade0 led) } (.ref s.heap.objs.size) "set":=⟨_,hS,rfl⟩
 have hl1:=old _ _ hl
 obtain⟨no1,no2,no3⟩:isSubtype (.type "list") (.type "set")=pure false/\isSubtype (.type "list") (.type "frozenset")=pure false/\(Value.type "list" == Value.type "dict")=false:=⟨F.sub_list_set,F.sub_list_frozenset,by decide⟩
 obtain⟨walked,ew⟩:∃f,f=pyIter:=⟨_,rfl⟩
 unfold Builtin.«set.__init__» Builtin.Frozenset.updateFrom noKeywords
 rw [<- ew]
 wp_walk
 rw [ew]
 refine wpAny_pyIter_list (l:=l) (items:=items) ⟨_,hl1,rfl,n,rfl⟩ ?_
 refine wpAny_bind (wpAny_runValue ?_)
 have none_at:∀a,s.heap.objs.size≤a->s.heap.get? a=none:=fun a ha=>Option.eq_none_iff_forall_ne_some.mpr fun o q=>absurd (Heap.lt_size q) (Nat.not_lt.mpr ha)
 have e1:=none_at _ (Nat.le_refl _)
 have e2:=none_at (s.heap.push (setMade0 led)).objs.size (by rw [hsz];omega)
 have apart:s.heap.objs.size≠(s.heap.push (setMade0 led)).objs.size:=by rw [hsz];exact Nat.ne_of_lt (Nat.lt_succ_self _)
 have hlen:xs.length=items.size:=by have:=Paired.length hp;simpa using this
 refine set_loop (A:=A.in1.in1) (h₀:=s.heap) (items:=items) (l:=l) (Is:=Is) (Has:=Has) (N:=N) (by simpa using hh) e1 e2 apart ⟨_,hl,rfl,n,rfl⟩ (fun k1 k2 sb=>hit (Ne.symm apart) k1 k2 sb) add xs 0 [] { s with heap:=(s.heap.push (setMade0 led)).push { cls:=.type "list_iterator",data:=.fields #[.ref l,.int 0 0] } }
  (fun b o e=>Heap.get?_push_of_some _ (old b o e)) ⟨_,Heap.get?_push_size _ rfl,rfl,rfl⟩ (h0 _ led (Heap.get?_push_of_some _ hS)) (by simpa using hp) (by simpa using hn) (by simpa using hz) (by omega) fun h' t' q1 q2=>?_
 repeat any_goals first | assumption | wp_step
 exact⟨rfl,h h' t' q1 q2⟩
end
end PySem
namespace PySem
open PyProof.Rows
section
variable {prog:Program}{w:World}{A:Around}{E:Value->Shared->Prop}{s:Shared}{K:Type} [DecidableEq K] {knd:KeyKind prog w K}
noncomputable def isSetN (a:Addr) (n:Nat):Heap->Prop:=fun h=>∃o es ep t,h.get? a=some o/\o.ExactSet/\o.data=.set es ep t/\t.fits es.size=true/\es.size=n
theorem set_plain {l:Addr}{items:Array Value}{n:Nat}{xs:List K}{Q:Value->Shared->Prop} (hh:A.handled=none) (hl:s.heap.get? l=some { cls:=.type "list",data:=.seq items n })
  (hp:Paired (fun (x:K) (v:Value)=>knd.is x v=true/\v.scannable=true) xs items.toList) (hn:xs.Nodup) (hz:xs.length≤4000)
  (h:∀h' t',(∀b o,s.heap.get? b=some o->h'.get? b=some o)->isSetN s.heap.objs.size xs.length h'->Q (.ref s.heap.objs.size) { s with heap:=h',toks:=t' }):wpAny (model prog w) A (call (.type "set") [.ref l]) Q E s:=by
 refine set_of (Has:=fun h ks=>h.SetOf knd s.heap.objs.size (fun k=>decide (k ∈ ks)) ks.length) (N:=4000) hh hl (fun h led e=>?_) (fun hne hc hs he=>?_) (fun z ks x v Q E kp hs hx hnx hk q=>?_) hp hn hz fun h' t' q1 q2=>?_
 ·exact SetOf_congr ((setObjOf_fresh (knd:=knd) led).setOf e (by unfold scanBound;omega)) (fun _=>by simp) rfl
 ·obtain⟨o,es,ep,t,ho,r⟩:=hs
  exact⟨o,es,ep,t,he _ o (Ne.symm hne) ho,r⟩
 ·unfold setAdd
  apply wpAny_holding
  refine wpAny_bind (knd.pyHash hx.1 ?_)
  refine wpAny_setAddHashed_of (s:={ z with toks:=z.toks+1 }) hx.1 hx.2 hs (by unfold scanBound;omega) fun h' sb hs'=>?_
  have e:decide (x ∈ ks)=false:=decide_eq_false hnx
  rw [e] at hs' ⊢
  refine q h' (z.toks+1) sb (SetOf_congr hs' (fun k'=>?_) (by simp))
  simp [List.mem_append,Bool.decide_or]
 ·obtain⟨o,es,ep,t,ho,hex,hd,_,_,hb,hf,hsz⟩:=q2
  exact h h' t' q1 ⟨o,es,ep,t,ho,hex,hd,hf,hsz⟩
theorem set_tuples {l:Addr}{items:Array Value}{n:Nat}{xs:List (List K)}{Q:Value->Shared->Prop} (hh:A.handled=none) (hu:A.in1.in1.in1.units < cLine) (hl:s.heap.get? l=some { cls:=.type "list",data:=.seq items n })
  (hp:Paired (fun (x:List K) (v:Value)=>∃a,v=.ref a/\IsTupleKey knd s.heap x a) xs items.toList) (hn:xs.Nodup) (hz:xs.length≤18)
  (h:∀h' t',(∀b o,s.heap.get? b=some o->h'.get? b=some o)->isSetN s.heap.objs.size xs.length h'->Q (.ref s.heap.objs.size) { s with heap:=h',toks:=t' }):wpAny (model prog w) A (call (.type "set") [.ref l]) Q E s:=by
 refine set_of (Has:=fun h ks=>TupSet knd h s.heap.objs.size ks) (N:=18) hh hl (fun h led e=>?_) (fun hne hc hs he=>?_) (fun z ks x v Q E kp hs hx hnx hk q=>?_) hp hn hz fun h' t' q1 q2=>?_
 ·exact⟨_,_,_,_,e,⟨rfl,rfl,rfl⟩,rfl,fun e he=>by simp at he,rfl,rfl,rfl,.inl ⟨rfl,by simp⟩⟩
 ·obtain⟨o,es,ep,t,ho,hex,hd,hel,r⟩:=hs
  refine⟨o,es,ep,t,he _ o (Ne.symm hne) ho,hex,hd,fun e hx=>?_,r⟩
  obtain⟨k,a,q1,q2,o',it,m,q3,q4,q5⟩:=hel e hx
  refine⟨k,a,q1,q2,o',it,m,he a o' (fun z=>?_) q3,q4,q5⟩
  rw [z] at q3
  have:=hc o' q3
  rw [q4] at this
  exact absurd this (by decide)
 ·obtain⟨a,rfl,o',it,m,e1,r⟩:=hx
  exact add_tuple hu hs ⟨o',it,m,kp _ _ e1,r⟩ hnx (by omega) q
 ·obtain⟨o,es,ep,t,ho,hex,hd,_,hsz,h1,h2,h3⟩:=q2
  exact h h' t' q1 ⟨o,es,ep,t,ho,hex,hd,TupSet.fits h1 h2 h3,hsz⟩
end
end PySem
namespace Ev
open PySem PySem.Spec PyProof.Rows L2
noncomputable def keysL:List P->Option (List Key)
 | []=>some []
 | x::r=>(keyOf x).bind fun k=>(keysL r).map (k::·)
noncomputable def tupK:P->Option (List Key)
 | .tup ys=>keysL ys
 | _=>none
noncomputable def tupsL:List P->Option (List (List Key))
 | []=>some []
 | x::r=>(tupK x).bind fun k=>(tupsL r).map (k::·)
noncomputable def setN (xs:List P):Option Nat:=match keysL xs with
 | some ks=>if (ks.Nodup/\ks.length≤4000) then some ks.length else none
 | none=>match tupsL xs with
  | some ks=>if (ks.Nodup/\ks.length≤18) then some ks.length else none
  | none=>none
noncomputable def vLenSet (a:EV):EV:=fun L S=>bnd (a L S) fun v S1=>match v with
 | .lst xs=>(setN xs).map fun n=>(.int n,S1)
 | _=>none
section
variable {X:Cx}
theorem kV_scan {k:Key}{u:Value} (r:RelV (kV k) u):u.scannable=true:=by
 cases k with
 | inl i=>obtain⟨t,rfl⟩:=(show ∃t,u=Value.int i t from r);rfl
 | inr x=>obtain⟨t,rfl⟩:=(show ∃t,u=Value.str x t from r);rfl
theorem keysL_at {pins:List (Addr×Obj)}{s:Shared}{σ:L2.St}{H:Hp}{F:Addr->Prop} (_:Inv X pins σ H s):∀{ps:List P}{ks:List Key}{xs:List V}{us:List Value},RPs X.K F H ps xs->Vals xs us->keysL ps=some ks ->
  Paired (fun (x:Key) (v:Value)=>(mixKind X.prog X.w).is x v=true/\v.scannable=true) ks us
 | [],ks,xs,us,r,v,e=>by
  cases e
  cases (show xs=[] from r)
  cases v
  exact .nil
 | p::ps,ks,xs,us,r,v,e=>by
  obtain⟨x,xr,rfl,p1,p2⟩:=r
  cases v with
  | cons v1 v2=>
   cases ek:keyOf p with
   | none=>simp [keysL,ek] at e
   | some k=>
    cases er:keysL ps with
    | none=>simp [keysL,ek,er] at e
    | some kr=>
     simp only [keysL,ek,er,Option.bind_some,Option.map_some,Option.some.injEq] at e
     subst e
     cases keyOf_kV ek p1
     exact .cons ⟨kV_is v1,kV_scan v1⟩ (keysL_at ‹_› p2 v2 er)
theorem items_of {P:Program}{w:World}:∀{ks:List Key}{us:List Value},Paired (fun (x:Key) (v:Value)=>(mixKind P w).is x v=true/\v.scannable=true) ks us->ItemsAre (mixKind P w) ks us
 | _,_,.nil=>.nil
 | _,_,.cons h t=>.cons h.1 (items_of t)
theorem tupsL_at {pins:List (Addr×Obj)}{s:Shared}{σ:L2.St}{H:Hp}{F:Addr->Prop} (I:Inv X pins σ H s):∀{ps:List P}{ks:List (List Key)}{xs:List V}{us:List Value},RPs X.K F H ps xs->Vals xs us->tupsL ps=some ks ->
  Paired (fun (x:List Key) (v:Value)=>∃a,v=.ref a/\IsTupleKey (mixKind X.prog X.w) s.heap x a) ks us
 | [],ks,xs,us,r,v,e=>by
  cases e
  cases (show xs=[] from r)
  cases v
  exact .nil
 | p::ps,ks,xs,us,r,v,e=>by
  obtain⟨x,xr,rfl,p1,p2⟩:=r
  cases v with
  | cons v1 v2=>
   cases ek:tupK p with
   | none=>simp [tupsL,ek] at e
   | some k=>
    cases er:tupsL ps with
    | none=>simp [tupsL,ek,er] at e
    | some kr=>
     simp only [tupsL,ek,er,Option.bind_some,Option.map_some,Option.some.injEq] at e
     subst e
     refine .cons ?_ (tupsL_at I p2 v2 er)
     cases p with
     | tup ys=>
      obtain⟨a,zs,rfl,ta,ra⟩:=p1
      obtain⟨its,rv,⟨o,ho,hc,n,hd⟩,_⟩:=I.tuple ta.sq
      refine⟨a,v1,o,its.toArray,n,ho,hc,hd,?_⟩
      simpa using items_of (keysL_at I ra rv ek)
     | _=>cases ek
theorem setN_ext {h1 h2:Heap}{a:Addr}{n:Nat} (h:isSetN a n h1) (k:∀o,h1.get? a=some o->h2.get? a=some o):isSetN a n h2:=by
 obtain⟨o,es,ep,t,ho,r⟩:=h
 exact⟨o,es,ep,t,k o ho,r⟩
theorem callSet (hc:X.calm=true) (hu:X.A.units+64 < cLine):CallR X (.type "set") (fun xs H Q=>∃(F:Addr->Prop) (ps:List P) (k:Nat),RPs X.K F H [.lst ps] xs/\setN ps=some k/\∀p,H p=none->Q (.ref p) (upd H p (.ext (isSetN p k)))):=by
 intro pins s σ H xs us Q I r h
 obtain⟨F,ps,k,rs,q,kk⟩:=h
 obtain⟨x,rfl,p1⟩:=rps1 rs
 obtain⟨a,ys,rfl,la,ra⟩:=p1
 obtain⟨u,rfl,ru⟩:=vals1 r
 cases (show u=Value.ref a from ru)
 obtain⟨zl,its,n,vs,ho⟩:ys.length≤sizeLine/\∃(its:List Value) (n:Nat),Vals ys its/\s.heap.get? a=some { cls:=.type "list",data:=.seq its.toArray n }:=I.hok a _ la.2
 have fin:∀h' t',(∀b o,s.heap.get? b=some o->h'.get? b=some o)->isSetN s.heap.objs.size k h'->EP X pins σ Q (.ref s.heap.objs.size) { s with heap:=h',toks:=t' }:=fun h' t' k1 k2=>
  ⟨.ref s.heap.objs.size,_,I.laid (a:=s.heap.objs.size) (o:=.ext (isSetN s.heap.objs.size k)) (t':=t') k1 (Nat.le_refl _) ⟨k2,let ⟨o,_,_,_,e,_⟩:=k2;⟨o,e⟩,fun h1 h2=>setN_ext⟩,rfl,kk _ (I.hok.fresh (Nat.le_refl _))⟩
 unfold setN at q
 split at q
 ·rename_i ks ek
  split at q
  ·rename_i hn
   cases q
   exact set_plain (knd:=mixKind X.prog X.w) (I.ok.hd hc) ho (by simpa using keysL_at I ra vs ek) hn.1 hn.2 fin
  ·cases q
 ·split at q
  ·rename_i ks ek
   split at q
   ·rename_i hn
    cases q
    exact set_tuples (knd:=mixKind X.prog X.w) (I.ok.hd hc) (by simp only [Around.in1];omega) ho (by simpa using tupsL_at I ra vs ek) hn.1 hn.2 fin
   ·cases q
  ·cases q
theorem callLenSet:CallR X (.builtin "len") (fun xs H Q=>∃p k,xs=[.ref p]/\H p=some (.ext (isSetN p k))/\k≤4000/\Q (.int k) H):=by
 intro pins s σ H xs us Q I r h
 obtain⟨p,k,rfl,hp,hk,q⟩:=h
 obtain⟨u,rfl,ru⟩:=vals1 r
 cases (show u=Value.ref p from ru)
 obtain⟨⟨o,es,ep,t,ho,hex,hd,hf,hsz⟩,_⟩:=I.hok p _ hp
 refine call_len_set ho hex hd hf (by omega) ?_
 rw [hsz]
 exact⟨.int k,H,I.tok _,⟨_,rfl⟩,q⟩
theorem setN_le {xs:List P}{k:Nat} (h:setN xs=some k):k≤4000:=by
 unfold setN at h
 split at h
 ·split at h
  ·rename_i hn;cases h;exact hn.2
  ·cases h
 ·split at h
  ·split at h
   ·rename_i hn;cases h;have:=hn.2;omega
   ·cases h
  ·cases h
theorem x_lenset {a:Expr}{fa:EV}{p1 p2 c1 c2:Pos} (hcalm:X.calm=true) (hu:X.A.units+64 < cLine) (hg:Gl X "len") (hm:X.mg "len"=none) (hg2:Gl X "set") (hm2:X.mg "set"=none) (ha:PE X a (tV X.K fa)) (hs:starEach [a] X.env=[(false,eval a X.env)]) :
  PE X (.Call (.Name "len" p1) [.Call (.Name "set" p2) [a] [] c2] [] c1) (tV X.K (vLenSet fa)):=
 (pe_callB callLenSet hg hm PySem.boot_len (pa_cons (pe_callTy (callSet hcalm hu) hg2 hm2 PyProof.Rows.boot_set (pa_cons ha pa_nil (by rw [hs];rfl)) (by decide) (by decide) (by rw [hs];rfl) rfl) pa_nil rfl) (by decide) (by decide) rfl rfl).imp' fun σ H Q hz=>by
  obtain⟨F,m,L,S,d,S',r,l,q,k⟩:=hz
  obtain⟨x,S1,e1,q⟩:=bnd_eq q
  refine⟨F,m,L,S,x,S1,r,l,e1,fun v F1 m1 H1 s1 r1 p1=>?_⟩
  cases x with
  | lst xs=>
   dsimp only at q
   cases en:setN xs with
   | none=>rw [en] at q;cases q
   | some n=>
    rw [en] at q
    cases q
    refine⟨F1,xs,n,⟨v,[],rfl,p1,rfl⟩,en,fun r0 hr0=>⟨r0,n,rfl,upd_same,setN_le en,?_⟩⟩
    have g1:Grow F1 H1 F1 (upd H1 r0 (.ext (isSetN r0 n))):=grow_new hr0
    exact k _ _ m1 _ (s1.trans g1.stp) (r1.grow g1) rfl
  | _=>cases q
end
end Ev
namespace Ev
open PySem PySem.Spec PyProof.Rows L2
noncomputable def pickL {α:Type} (xs:List α) (lo hi st:Option Int):List α:=
 (sliceRange (sliceBounds lo hi st xs.length).1 (sliceBounds lo hi st xs.length).2.1 (sliceBounds lo hi st xs.length).2.2).filterMap (xs[·]?)
theorem vals_pick {xs:List V}{us:List Value} (r:Vals xs us):∀is:List Nat,Vals (is.filterMap (xs[·]?)) (is.filterMap (us[·]?))
 | []=>.nil
 | i::is=>by
  have t:=vals_pick r is
  cases hx:xs[i]? with
  | none=>simp only [List.filterMap_cons,hx,Vals.none_of r hx];exact t
  | some x=>
   obtain⟨u,hu,ru⟩:=r.get hx
   simp only [List.filterMap_cons,hx,hu]
   exact .cons ru t
theorem RPs.get' {K:PySem.W.Frag}{F:Addr->Prop}{H:Hp}:∀{ds:List P}{xs:List V} (_:RPs K F H ds xs) (i:Nat),(ds[i]? = none/\xs[i]? = none)\/∃d x,ds[i]? = some d/\xs[i]? = some x/\RP K F H d x
 | [],xs,r,i=>by cases (show xs=[] from r);simp
 | d::ds,xs,r,i=>by
  obtain⟨x,xr,rfl,p1,p2⟩:=r
  cases i with
  | zero=>exact .inr ⟨d,x,rfl,rfl,p1⟩
  | succ i=>simpa using RPs.get' p2 i
theorem rps_pick {K:PySem.W.Frag}{F:Addr->Prop}{H:Hp}{ds:List P}{xs:List V} (r:RPs K F H ds xs):∀is:List Nat,RPs K F H (is.filterMap (ds[·]?)) (is.filterMap (xs[·]?))
 | []=>rfl
 | i::is=>by
  have t:=rps_pick r is
  rcases r.get' i with ⟨h1,h2⟩ | ⟨d,x,h1,h2,p⟩
  ·simp only [List.filterMap_cons,h1,h2];exact t
  ·simp only [List.filterMap_cons,h1,h2];exact⟨x,_,rfl,p,t⟩
section
variable {X:Cx}
noncomputable def vSl3 (a:EV) (lo hi st:EO):EV:=fun L S=>bnd (a L S) fun x S1=>bnd (lo L S1) fun i S2=>bnd (hi L S2) fun j S3=>bnd (st L S3) fun c S4=>match x,c with
 | .lst xs,some c=>if c=0 then none else some (.lst (pickL xs i j (some c)),S4)
 | _,_=>none
theorem xSl3 {e:Expr}{lo hi:Option Expr}{st:Expr}{fa:EV}{fl fh fs:EO}{pos p2:Pos} (he:PE X e (tV X.K fa)) (hl:PO X lo (tO X.K fl)) (hh:PO X hi (tO X.K fh)) (hs:PO X (some st) (tO X.K fs)):PE X (.Subscript e (.Slice lo hi (some st) p2) pos) (tV X.K (vSl3 fa fl fh fs)):=by
 intro pins s σ H Q I h
 obtain⟨F,m,L,S,d,S',r,l,q,k⟩:=h
 obtain⟨x,S1,e1,q⟩:=bnd_eq q
 obtain⟨i,S2,e2,q⟩:=bnd_eq q
 obtain⟨j,S3,e3,q⟩:=bnd_eq q
 obtain⟨c,S4,e4,q⟩:=bnd_eq q
 refine Subscript_ (thn (he pins s σ H (fun v H1=>∃F1 m1,Stp F m H F1 m1 H1/\Rel X.K F1 H1 m1 S1/\RP X.K F1 H1 x v) I ⟨F,m,L,S,x,S1,r,l,e1,fun v F1 m1 H1 s1 r1 p1=>⟨F1,m1,s1,r1,p1⟩⟩) fun v z1 hz=>?_)
 obtain⟨y,H1,I1,ry,F1,m1,st1,r1,p1⟩:=hz
 refine wpAny_Slice (thn (hl pins z1 σ H1 (fun o H2=>o=i/\∃F2 m2,Stp F1 m1 H1 F2 m2 H2/\Rel X.K F2 H2 m2 S2) I1 ⟨F1,m1,L,S1,i,S2,r1,l.mono st1,e2,fun F2 m2 H2 s2 r2=>⟨rfl,F2,m2,s2,r2⟩⟩) fun vl z2 hz=>?_)
 obtain⟨o2,H2,I2,pl,eo2,F2,m2,st2,r2⟩:=hz
 subst eo2
 refine thn (hh pins z2 σ H2 (fun o H3=>o=j/\∃F3 m3,Stp F2 m2 H2 F3 m3 H3/\Rel X.K F3 H3 m3 S3) I2 ⟨F2,m2,L,S2,j,S3,r2,(l.mono st1).mono st2,e3,fun F3 m3 H3 s3 r3=>⟨rfl,F3,m3,s3,r3⟩⟩) fun vu z3 hz=>?_
 obtain⟨o3,H3,I3,pu,eo3,F3,m3,st3,r3⟩:=hz
 subst eo3
 refine thn (hs pins z3 σ H3 (fun o H4=>o=c/\∃F4 m4,Stp F3 m3 H3 F4 m4 H4/\Rel X.K F4 H4 m4 S4) I3 ⟨F3,m3,L,S3,c,S4,r3,((l.mono st1).mono st2).mono st3,e4,fun F4 m4 H4 s4 r4=>⟨rfl,F4,m4,s4,r4⟩⟩) fun vs z4 hz=>?_
 obtain⟨o4,H4,I4,ps,eo4,F4,m4,st4,r4⟩:=hz
 subst eo4
 have I5:L2.Inv X pins σ H4 { z4 with heap:=z4.heap.push { cls:=.type "slice",data:=.fields #[vl,vu,vs] } }:=I4.kept (t':=z4.toks) fun b ob q=>Heap.get?_push_of_some _ q
 have px:=RP.mono st4 (RP.mono st3 (RP.mono st2 p1))
 have ss:=st1.trans (st2.trans (st3.trans st4))
 cases x with
 | lst ds=>
  cases o4 with
  | none=>cases q
  | some c=>
   dsimp only at q
   split at q
   ·cases q
   ·rename_i hc0
    cases q
    obtain⟨a,xs,rfl,ta,ra⟩:=px
    cases (show v=Value.ref a from ry)
    obtain⟨its,rv,ht,hz⟩:=I5.list ta.sq
    show wpAny (model X.prog X.w) X.A (subscriptTail e (.Slice lo hi (some st) p2) (.ref a) (.ref z4.heap.objs.size)) (EP X pins σ Q) X.xe { z4 with heap:=z4.heap.push { cls:=.type "slice",data:=.fields #[vl,vu,vs] } }
    refine tail_any (ops:=[.ref a,.ref z4.heap.objs.size]) ht.isList.typeIs slot_list_getitem.lookup ?_ (by with_unfolding_all rfl)
    have hlen:=rv.length
    refine wpAny_getItem_list_slice ht.isList (Heap.IsSliceOf.new ..) pl pu ps (fun z=>hc0 (Option.some.inj z)) ?_ (by rw [List.size_toArray];omega)
    have hp:H4 (z4.heap.push { cls:=.type "slice",data:=.fields #[vl,vu,vs] }).objs.size=none:=I5.hok.fresh (Nat.le_refl _)
    have hv:Vals (pickL xs o2 o3 (some c)) (slicePick its.toArray o2 o3 (some c)).toList:=by
     unfold pickL slicePick
     rw [hlen]
     simpa using vals_pick rv _
    have hsz:(pickL xs o2 o3 (some c)).length≤sizeLine:=by
     rw [hv.length]
     have:=slicePick_size_le its.toArray o2 o3 (some c)
     have e0:its.toArray.size=its.length:=List.size_toArray ..
     have e:(slicePick its.toArray o2 o3 (some c)).toList.length=(slicePick its.toArray o2 o3 (some c)).size:=Array.length_toList
     omega
    refine⟨.ref (z4.heap.push { cls:=.type "slice",data:=.fields #[vl,vu,vs] }).objs.size,_,I5.laid (t':=z4.toks) (o:=.lst (pickL xs o2 o3 (some c))) (fun b ob q=>Heap.get?_push_of_some _ q) (Nat.le_refl _) ⟨hsz,_,0,hv,?_⟩,rfl,k _ _ m4 _ (ss.trans (grow_frz hp).stp) (r4.grow (grow_frz hp)) (.newLst hp ?_)⟩
    ·have:=Heap.get?_push_size (o:={ cls:=.type "list",data:=.seq (slicePick its.toArray o2 o3 (some c)) }) (z4.heap.push { cls:=.type "slice",data:=.fields #[vl,vu,vs] }) rfl
     simpa using this
    ·unfold pickL
     rw [ra.length]
     exact rps_pick ra _
 | _=>cases q
end
end Ev
namespace Ev
open PySem PySem.Spec PyProof.Rows L2
noncomputable def forD (j k:Nat) (b:ES):Nat->Nat->Lc->Sto->Option (Fl×Lc×Sto)
 | 0,_,_,_=>none
 | f+1,i,L,S=>match S[j]? with
  | some (.lst ds)=>match ds[i]? with
   | none=>some (.nx,L,S)
   | some d=>match b (L.set k (some d)) S with
    | none=>none
    | some (.nx,L2,S2)=>forD j k b f (i+1) L2 S2
    | some (.ct,L2,S2)=>forD j k b f (i+1) L2 S2
    | some (.bk,L2,S2)=>some (.nx,L2,S2)
    | some (.rt d,L2,S2)=>some (.rt d,L2,S2)
  | _=>none
noncomputable def sForD (e:EE) (k:Nat) (b:ES):ES:=fun L S=>bnd (e L S) fun d S1=>match d with
 | .ref j=>match S1[j]? with
  | some (.lst _)=>forD j k b 1000 0 L S1
  | _=>none
 | _=>none
noncomputable def gTD (K:PySem.W.Frag) (k:Nat):TG:=fun x σ H Q=>∃F m L d,RL K F H m σ L/\RD K F H m d x/\∀σ',RL K F H m σ' (L.set k (some d))->Q σ' H
section
variable {X:Cx}{pos:Pos}
theorem gNameD (i:Nat) {x:Str} (hN:X.N.Nodup) (hi:X.N[i]? = some x) (hx:L2.Loc X.env.scope x) (hf:X.fn x=true\/X.env.scope.names.lookup x=some .local):PG X (.Name x pos) (gTD X.K i):=
 (pg_name hN hi hx hf).imp' fun v σ H Q ⟨F,m,L,d,l,p,k⟩=>k _ (l.set (d:=d) p i)
theorem zForD {tg iter:Expr}{fe:EE}{kx:Nat}{body:List Stmt}{fb:ES} (hp:PassesOwn (model X.prog X.w) X.A X.env X.xe) (hc:X.calm=true) (hi:PI X tg iter (tIO X.K false fe)) (hg:PG X tg (gTD X.K kx)) (hb:PSs X body (tSt X.K fb))
  (hs:∀x,foldedSetIterable iter X.env x=pure x:=by intro _;rfl):PS X (.For tg iter body [] pos) (tSt X.K (sForD fe kx fb)):=
 (ps_for hp hc hi hg hb hs).imp' fun D σ H hz=>by
  obtain⟨F,m,L,S,fl,L',S',r,l,q,k⟩:=hz
  obtain⟨d,S1,e1,q⟩:=bnd_eq q
  cases d with
  | p _=>cases q
  | ref j=>
   dsimp only at q
   split at q
   ·rename_i ds0 es0
    refine⟨F,m,L,S,j,S1,ds0,r,l,e1,es0,fun a F1 m1 H1 s1 r1 ha=>?_⟩
    refine⟨fun i n σ2 H2=>∃F2 m2 L2 S2,Stp F1 m1 H1 F2 m2 H2/\Rel X.K F2 H2 m2 S2/\RL X.K F2 H2 m2 σ2 L2/\forD j kx fb n i L2 S2=some (fl,L',S'),
     ⟨1000,F1,m1,L,S1,.refl,r1,l.mono s1,q⟩,?_⟩
    rintro i n σ2 H2 ⟨F2,m2,L2,S2,s2,r2,l2,q2⟩
    cases n with
    | zero=>cases q2
    | succ n=>
     have ha2:m2[j]? = some a:=by
      obtain⟨t,e⟩:=s2.pre
      rw [e,List.getElem?_append_left (List.getElem?_eq_some_iff.mp ha).1];exact ha
     unfold forD at q2
     split at q2
     ·rename_i ds es
      obtain⟨xs,hH,rs⟩:=r2.obj j a _ ha2 es
      have hsq:SqL X.K H2 a xs:=SqL.of hH
      split at q2
      ·rename_i ei
       left
       cases q2
       refine⟨itO_stop (en:=false) hsq ?_,k σ2 F2 m2 H2 (s1.trans s2) r2 l2⟩
       rw [<- rs.length]
       exact List.getElem?_eq_none_iff.mp ei
      ·rename_i d0 ei
       right
       obtain⟨x,hx,px⟩:=rs.get ei
       refine⟨⟨xs,x,hsq,hx⟩,fun σ3 H3=>∃n',n' < n+1/\∃F2 m2 L2 S2,Stp F1 m1 H1 F2 m2 H3/\Rel X.K F2 H3 m2 S2/\RL X.K F2 H3 m2 σ3 L2/\forD j kx fb n' (i+1) L2 S2=some (fl,L',S'),fun _ _ z=>z,fun y H3 z=>?_⟩
       obtain⟨e3,hz⟩:=z
       subst e3
       have hy:=hz xs hsq
       rw [hx] at hy
       cases hy
       refine⟨F2,m2,L2,d0,l2,px,fun σ3 l3=>?_⟩
       cases eb:fb (L2.set kx (some d0)) S2 with
       | none=>rw [eb] at q2;cases q2
       | some z=>
        obtain⟨flb,L4,S4⟩:=z
        rw [eb] at q2
        refine⟨F2,m2,_,S2,flb,L4,S4,r2,l3,eb,fun σ4 F4 m4 H4 s4 r4 l4=>?_⟩
        cases flb with
        | nx=>exact⟨n,by omega,F4,m4,L4,S4,s2.trans s4,r4,l4,q2⟩
        | ct=>exact⟨n,by omega,F4,m4,L4,S4,s2.trans s4,r4,l4,q2⟩
        | bk=>cases q2;exact k σ4 F4 m4 H4 (s1.trans (s2.trans s4)) r4 l4
        | rt d=>cases q2;exact k σ4 F4 m4 H4 (s1.trans (s2.trans s4)) r4 l4
     ·cases q2
   ·cases q
end
end Ev
namespace Ev
open PySem PySem.Spec PyProof.Rows L2
noncomputable def compD (j kx:Nat) (c:EB) (e:EV):Nat->Nat->Lc->Sto->Option (List P×Sto)
 | 0,_,_,_=>none
 | f+1,i,L,S=>match S[j]? with
  | some (.lst ds)=>match ds[i]? with
   | none=>some ([],S)
   | some d=>bnd (c (L.set kx (some d)) S) fun k S1=>if k=true then bnd (e (L.set kx (some d)) S1) fun y S2=>bnd (compD j kx c e f (i+1) (L.set kx (some d)) S2) fun ys S3=>some (y::ys,S3) else compD j kx c e f (i+1) (L.set kx (some d)) S1
  | _=>none
noncomputable def vCompD (fo:EE) (ts:List Nat) (n kx:Nat) (c:EB) (e:EV):EV:=fun L S=>bnd (fo L S) fun d S1=>match d with
 | .ref j=>match S1[j]? with
  | some (.lst _)=>bnd (compD j kx c e 1000 0 (upL ts n L) S1) fun ys S2=>some (.lst ys,S2)
  | _=>none
 | _=>none
section
variable {X:Cx}{scope:Scope}{N':List Str}{ts:List Nat}{n:Nat}
theorem comp_coreD {elt iter tg:Expr}{ifs:List Expr}{pos p2:Pos}{fo:EE}{kx:Nat}{fc:EB}{fe:EV}{pins:List (Addr×Obj)}{s:Shared}{σ:L2.St}{H:Hp}{use:Option (Value->Sem Unit)}{Q:Value->Shared->Prop}
  {F:Addr->Prop}{m:List Addr}{L:Lc}{S S2:Sto}{d:P}
  (B:BlockOk X scope N' ts n) (hcalm:X.calm=true)
  (hi:PI X tg iter (tIO X.K false fo)) (hg:∀s H C fp,PG (inn X scope N' s H C fp) tg (gTD X.K kx)) (hc:∀s H C fp,PIfs (inn X scope N' s H C fp) ifs fc) (he:∀s H C fp,PE (inn X scope N' s H C fp) elt (tV X.K fe))
  (hclos:closureFor scope X.env=pure (clOf scope X.env)) (hs:∀x,foldedSetIterable iter X.env x=pure x)
  (I:Inv X pins σ H s) (r:Rel X.K F H m S) (l:RL X.K F H m σ L) (q:vCompD fo ts n kx fc fe L S=some (d,S2))
  (fin:∀p F' m' H' sx C,Inv X pins σ H' sx->Stp F m H F' m' H'->Rel X.K F' H' m' S2->RP X.K F' H' d (.ref p)->H' C=none->X.s₀.heap.objs.size≤C->C≠X.env.locals->(∀x c,X.env.cells.lookup x=some c->c≠C)->(∀p ∈ X.pn++pins,p.1≠C) ->
   (∃mC,sx.heap.Ns C mC)->compPost (model X.prog X.w) X.A X.xe use Q (.ref p) C (.ok .next) sx) :
  wpAny (model X.prog X.w) X.A (comprehension (.ListComp elt [⟨tg,iter,ifs,0⟩] scope pos) scope X.env p2 (newList []) false (eval iter X.env) use) Q X.xe s:=by
 obtain⟨dd,S1,e1,q⟩:=bnd_eq q
 cases dd with
 | p _=>cases q
 | ref j=>
 dsimp only at q
 split at q
 case h_2=>cases q
 rename_i ds0 es0
 obtain⟨ys,S2',e2,q⟩:=bnd_eq q
 cases q
 refine wpAny_comprehension_free (use:=use) rfl hs hclos B.kind B.loc (thn (hi pins s σ H (fun J H1=>∃a F1 m1,J=itO X.K false a/\Stp F m H F1 m1 H1/\Rel X.K F1 H1 m1 S1/\m1[j]? = some a) I ⟨F,m,L,S,j,S1,ds0,r,l,e1,es0,fun a F1 m1 H1 s1 r1 ha=>⟨a,F1,m1,rfl,s1,r1,ha⟩⟩) fun xv sA hA=>thn hA fun itv s2 h2=>?_)
 obtain⟨it,fp,tn,J,H2,rfl,I2,T,st2,f2,a,F1,m1,rfl,s1,r1,ha⟩:=h2
 have hfp:∀b ∈ fp,b < s2.heap.objs.size:=fun b hb=>by
  obtain⟨o,e,_⟩:=T.obj _ _ st2 b hb
  exact Heap.lt_size e
 refine wpAny_newObj_type ?_ (by show 0≤sizeLine;exact Nat.zero_le _)
 refine wpAny_newFunctionEnv B.cell (by intro y hy;simp at hy) (fun h1 hns1 hsb1=>?_) B.kind
 dsimp only at hns1 hsb1 ⊢
 have hD:H2 s2.heap.objs.size=none:=I2.hok.fresh (Nat.le_refl _)
 generalize hH2:s2.heap.push { cls:=.type "list",dict:=none,data:=.seq ([]:List Value).toArray }=hp2 at hns1 hsb1 ⊢
 have hC:hp2.objs.size=s2.heap.objs.size+1:=by rw [<- hH2,Heap.size_push]
 have hCle:s2.heap.objs.size≤hp2.objs.size:=by rw [hC];exact Nat.le_succ _
 have old:∀b o,s2.heap.get? b=some o->h1.get? b=some o:=fun b o e=>hsb1.extBut b o (Nat.ne_of_lt (Nat.lt_of_lt_of_le (Heap.lt_size e) hCle)) (Heap.get?_push_of_some _ (hH2 ▸ Heap.get?_push_of_some _ e))
 have hDC:s2.heap.objs.size≠hp2.objs.size:=by rw [hC];exact Nat.ne_of_lt (Nat.lt_succ_self _)
 have accO:h1.get? s2.heap.objs.size=some { cls:=.type "list",dict:=none,data:=.seq ([]:List Value).toArray }:=hsb1.extBut _ _ hDC (Heap.get?_push_of_some _ (hH2 ▸ Heap.get?_push_size _ rfl))
 have hCn:H2 hp2.objs.size=none:=I2.hok.fresh hCle
 have hCcell:∀x c,X.env.cells.lookup x=some c->c≠hp2.objs.size:=fun x c e z=>by
  obtain⟨v,o,ho,_⟩:=I2.cell x c e
  exact absurd (Heap.lt_size ho) (Nat.not_lt.mpr (by rw [z];exact hCle))
 have hCloc:hp2.objs.size≠X.env.locals:=Nat.ne_of_gt (Nat.lt_of_lt_of_le I2.lt hCle)
 have hCpin:∀p ∈ X.pn++pins,p.1≠hp2.objs.size:=fun p hp z=>absurd (Heap.lt_size (I2.pin p hp).1) (Nat.not_lt.mpr (by rw [z];exact hCle))
 have I3:Inv (inn X scope N' s2 H2 hp2.objs.size fp) [] (upL ts n σ) (upd H2 s2.heap.objs.size (.lst [])) { s2 with heap:=h1,toks:=s2.toks+([]:List (Str×Value)).length }:=by
  refine⟨inn_ok B I2 hCle f2 hfp,rfl,I2.bare,Un.laid old (Nat.le_refl _) hD,?_,fun x c e=>?_,?_,fun x c e=>?_,fun p hp=>absurd (show p ∈ ([]:List (Addr×Obj)) from hp) (by simp),?_,?_⟩
  ·obtain⟨m0,hn0,hl0⟩:=I2.loc
   refine⟨_,hns1,fun i x v e1 e2 hv=>?_⟩
   obtain⟨h1',h2',h3'⟩:=upL_get e2
   have hlen:σ.length=X.N.length:=I2.len
   have hx:X.N[i]? = some x:=by
    rw [B.names,List.getElem?_take_of_lt (by rw [<- hlen];exact h3')]
    exact e1
   have hv':(relabel scope X.env).names.lookup x=some .local\/(relabel scope X.env).names.lookup x=some .cell\/(relabel scope X.env).names.lookup x=some .free:=hv
   have nl:¬(relabel scope X.env).names.lookup x=some .local:=fun z=>by
    obtain⟨k0,hm,e | ⟨e,_⟩⟩:=relabel_kind z
    ·subst e;exact absurd (B.ts _ hm rfl i hx) h2'
    ·cases e
   have fr:(x,NameKind.free) ∈ scope.names:=by
    rcases hv' with z | z | z
    ·exact absurd z nl
    ·obtain⟨k0,hm,e | ⟨_,e⟩⟩:=relabel_kind z
     ·subst e;exact absurd rfl (B.cell _ hm)
     ·subst e;exact hm
    ·obtain⟨k0,hm,e | ⟨e,_⟩⟩:=relabel_kind z
     ·subst e;exact hm
     ·cases e
   obtain⟨_,hkc⟩:=B.fr _ fr rfl
   have vis:Vis X.env.scope x:=by
    rcases hkc with z | z
    ·exact .inr (.inl z)
    ·exact .inr (.inr z)
   obtain⟨u,ru,lk⟩:=hl0 i x v hx h1' vis
   refine⟨u,ru,.inr ⟨?_,?_⟩⟩
   ·rcases hv' with z | z | z
    ·exact absurd z nl
    ·exact .inl z
    ·exact .inr z
   ·rcases lk with ⟨z,_⟩ | ⟨_,c,ec,ic⟩
    ·rcases hkc with y | y
     ·rw [z] at y;cases y
     ·rw [z] at y;cases y
    ·obtain⟨c',hc'⟩:=B.has fr
     have:=(B.cl I2 hc').1
     rw [ec] at this
     cases this
     obtain⟨o,ho,hd⟩:=ic
     exact⟨c,hc',o,old c o ho,hd⟩
  ·obtain⟨v,o,ho,hd⟩:=I2.cell x c (B.cl I2 e).1
   exact⟨v,o,old c o ho,hd⟩
  ·show upd H2 s2.heap.objs.size (.lst []) hp2.objs.size=none
   rw [upd_ne (Ne.symm hDC)];exact hCn
  ·obtain⟨v,o,ho,hd⟩:=I2.cell x c (B.cl I2 e).1
   rw [upd_ne (Nat.ne_of_lt (Heap.lt_size ho))]
   exact I2.freeC x c (B.cl I2 e).1
  ·exact I2.hok.laid old (Nat.le_refl _) ⟨Nat.zero_le _,[],0,.nil,accO⟩
  ·show (upL ts n σ).length=N'.length
   rw [upL_len,I2.len,B.more]
 have okX:=inn_ok (C:=hp2.objs.size) B I2 hCle f2 hfp
 have fpH:∀{H':Hp},(∀b ∈ fp,H' b=none)->∀b ∈ fp,FpOk (inn X scope N' s2 H2 hp2.objs.size fp) [] H' b:=fun hn b hb=>
  ⟨hn b hb,Nat.ne_of_lt (Nat.lt_of_lt_of_le (hfp b hb) hCle),okX.exfs b hb,.inl hb,(okX.exf b hb).2,fun p hp=>absurd (show p ∈ ([]:List (Addr×Obj)) from hp) (by simp)⟩
 have tn1:tn 0 h1:=T.keep _ _ _ st2 fun b hb o e=>old b o e
 have loop:∀s3:Shared,s3={ s2 with heap:=h1,toks:=s2.toks+([]:List (Str×Value)).length } ->
   codeAny (model X.prog X.w) X.A (.compLoop (.ListComp elt [⟨tg,iter,ifs,0⟩] scope pos) 0 (.ref it) (.ref s2.heap.objs.size) (compEnvC scope (clOf scope X.env) hp2.objs.size X.env))
    (compPost (model X.prog X.w) X.A X.xe use Q (.ref s2.heap.objs.size) hp2.objs.size) s3:=by
  rintro s3 rfl
  refine compLoopT (fun nn sx=>∃(i:Nat) (σ':L2.St) (F':Addr->Prop) (m':List Addr) (H':Hp) (L':Lc) (S':Sto) (acc rest:List P) (xs:List V),
   Inv (inn X scope N' s2 H2 hp2.objs.size fp) [] σ' H' sx/\tn i sx.heap/\(∀b ∈ fp,H' b=none)/\i+nn=1000/\Stp F1 m1 H2 F' m' H'/\Rel X.K F' H' m' S'/\RL X.K F' H' m' σ' L' /\
   H' s2.heap.objs.size=some (.lst xs)/\RPs X.K F' H' acc xs/\acc.length≤i/\¬F' s2.heap.objs.size/\s2.heap.objs.size ∉ m'/\compD j kx fc fe nn i L' S'=some (rest,S2)/\acc++rest=ys) ?_ 1000 ?_
  ·rintro nn sx ⟨i,σ',F',m',H',L',S',acc,rest,xs,I',tn',fr',hin,st',r',l',hacc,ra,hal,nF,nm,go,rfl⟩
   have ha':m'[j]? = some a:=by
    obtain⟨t,e⟩:=st'.pre
    rw [e,List.getElem?_append_left (List.getElem?_eq_some_iff.mp ha).1];exact ha
   cases nn with
   | zero=>cases go
   | succ nn=>
   unfold compD at go
   split at go
   case h_2=>cases go
   rename_i ds es
   obtain⟨xs0,hH,rs⟩:=r'.obj j a _ ha' es
   have hsq:SqL X.K H' a xs0:=SqL.of hH
   split at go
   rotate_left
   ·rename_i d0 ei
    obtain⟨x0,hx0,px0⟩:=rs.get ei
    have hgo1:(itO X.K false a).go i H':=⟨xs0,x0,hsq,hx0⟩
    refine wpAny_mono (T.item (inn X scope N' s2 H2 hp2.objs.size fp) rfl rfl rfl hcalm i [] sx σ' H' (fun _ _=>False) I' (fpH fr') tn' hgo1) (fun rr sy hr=>?_) (fun _ _ f=>f.elim)
    obtain⟨u,rfl,hr⟩:=hr
    refine wpAny_mono hr (fun _ sz hz=>?_) (fun _ _ f=>f.elim)
    obtain⟨x,H3,I4,rx,yl,tn4,fr4⟩:=hz
    have yl':H3=H'/\∀ys,SqL X.K H' a ys->ys[i]? = some x:=yl
    obtain⟨e3,hyl⟩:=yl'
    subst e3
    have hxx:=hyl xs0 hsq
    rw [hx0] at hxx
    cases hxx
    have st4:=st'
    have r4:=r'
    have l4:=l'
    have acc4:=hacc
    have nF4:=nF
    have I4':=I4.pinned (fpH fr4) (T.obj _ _ tn4)
    have back:∀{σ7:L2.St}{H7:Hp}{s7:Shared},Inv (inn X scope N' s2 H2 hp2.objs.size fp) ([]++pinsAt fp sz.heap) σ7 H7 s7->tn (i+1) s7.heap/\∀b ∈ fp,H7 b=none:=fun {σ7 H7 s7} I7=>
     ⟨T.keep _ _ _ tn4 fun b hb o e=>(I7.pin (b,o) (List.mem_append_right _ (List.mem_append_right _ (mem_pinsAt hb e)))).1,fun b hb=>by
      obtain⟨o,e,dd⟩:=T.obj _ _ tn4 b hb
      exact (I7.pin (b,o) (List.mem_append_right _ (List.mem_append_right _ (mem_pinsAt hb e)))).2.1⟩
    obtain⟨kk,S5,e5,go⟩:=bnd_eq go
    refine wpAny_mono (hg s2 H2 hp2.objs.size fp _ sz σ' H3 x0 u (fun σ5 H5=>H5=H3/\RL X.K F' H3 m' σ5 (L'.set kx (some d0))) I4' rx ⟨F',m',L',d0,l4,px0,fun σ5 l5=>⟨rfl,l5⟩⟩) (fun _ s5 h5=>?_) (fun _ _ f=>f.elim)
    obtain⟨σ5,H5,I5,e5',l5⟩:=h5
    subst e5'
    have test:wpAny (model X.prog X.w) X.A (forIn ifs true fun c r=>if r=true then do let ok <- isTrue c (compEnvC scope (clOf scope X.env) hp2.objs.size X.env) (eval c (compEnvC scope (clOf scope X.env) hp2.objs.size X.env));pure (ForInStep.yield ok) else pure (ForInStep.yield r))
      (fun ok s6=>ok=kk/\∃F6 m6 H6,Inv (inn X scope N' s2 H2 hp2.objs.size fp) ([]++pinsAt fp sz.heap) σ5 H6 s6/\Stp F' m' H5 F6 m6 H6/\Rel X.K F6 H6 m6 S5) (fun _ _=>False) s5:=by
     have hcc:=hc s2 H2 hp2.objs.size fp
     cases hcc with
     | none=>
      cases e5
      exact wpAny_tests_nil ⟨rfl,F',m',H5,I5,.refl,r4⟩
     | one hq=>
      refine wpAny_tests_one (wpAny_mono (hq _ s5 σ5 H5 (fun b H6=>b=kk/\∃F6 m6,Stp F' m' H5 F6 m6 H6/\Rel X.K F6 H6 m6 S5) I5 ⟨F',m',_,S',kk,S5,r4,l5,e5,fun F6 m6 H6 s6 r6=>⟨rfl,F6,m6,s6,r6⟩⟩) (fun b s6 h6=>?_) fun _ _ f=>f)
      obtain⟨H6,I6,rfl,F6,m6,st6,r6⟩:=h6
      exact⟨rfl,F6,m6,H6,I6,st6,r6⟩
    refine wpAny_mono test (fun ok s6 h6=>?_) (fun _ _ f=>f.elim)
    obtain⟨rfl,F6,m6,H6,I6,st6,r6⟩:=h6
    have acc6:=st6.oth _ _ acc4 nm
    have nm6:s2.heap.objs.size ∉ m6:=fun z=>by
     rcases st6.nm _ z with z | z
     ·exact nm z
     ·rw [acc4] at z;cases z
    have nF6:¬F6 s2.heap.objs.size:=fun z=>by
     rcases st6.nf _ z with z | z | z
     ·exact nF4 z
     ·rw [acc4] at z;cases z
     ·exact nm z
    have ra6:=RPs.mono st6 ra
    have l6:=l5.mono st6
    cases ok with
    | false=>
     rw [if_neg Bool.false_ne_true] at go ⊢
     obtain⟨t7,f7⟩:=back I6
     exact⟨nn,by omega,i+1,σ5,F6,m6,H6,_,S5,acc,rest,xs,I6.pins_of fun p hp=>absurd hp (by simp),t7,f7,by omega,st4.trans st6,r6,l6,acc6,ra6,Nat.le_succ_of_le hal,nF6,nm6,go,rfl⟩
    | true=>
     rw [if_pos rfl] at go ⊢
     obtain⟨y,S8,e8,go⟩:=bnd_eq go
     obtain⟨zs,S9,e9,go⟩:=bnd_eq go
     cases go
     refine wpAny_mono (he s2 H2 hp2.objs.size fp _ s6 σ5 H6 (fun v8 H8=>∃F8 m8,Stp F6 m6 H6 F8 m8 H8/\Rel X.K F8 H8 m8 S8/\RP X.K F8 H8 y v8) I6 ⟨F6,m6,_,S5,y,S8,r6,l6,e8,fun v8 F8 m8 H8 s8 r8 p8=>⟨F8,m8,s8,r8,p8⟩⟩) (fun u8 s8 h8=>?_) (fun _ _ f=>f.elim)
     obtain⟨v8,H8,I8,rv8,F8,m8,st8,r8,p8⟩:=h8
     have acc8:=st8.oth _ _ acc6 nm6
     have nm8:s2.heap.objs.size ∉ m8:=fun z=>by
      rcases st8.nm _ z with z | z
      ·exact nm6 z
      ·rw [acc6] at z;cases z
     have nF8:¬F8 s2.heap.objs.size:=fun z=>by
      rcases st8.nf _ z with z | z | z
      ·exact nF6 z
      ·rw [acc6] at z;cases z
      ·exact nm6 z
     have ra8:=RPs.mono st8 ra6
     have nt8:∀zs,H8 s2.heap.objs.size≠some (.tup zs):=fun zs z=>by rw [acc8] at z;cases z
     have hl8:xs.length < sizeLine:=by
      rw [<- ra8.length]
      exact Nat.lt_of_lt_of_le (show acc.length < 1000 by omega) (by decide)
     refine wpAny_mono (mt_append (X:=inn X scope N' s2 H2 hp2.objs.size fp) _ s8 σ5 H8 (.ref s2.heap.objs.size) [v8] (.ref s2.heap.objs.size) [u8] (fun _ H9=>H9=upd H8 s2.heap.objs.size (.lst (xs++[v8]))) I8 rfl (.cons rv8 .nil) ⟨_,xs,v8,rfl,rfl,acc8,hl8,rfl⟩) (fun _ s9 h9=>?_) (fun _ _ f=>f.elim)
     obtain⟨_,H9,I9,_,rfl⟩:=h9
     obtain⟨t9,f9⟩:=back I9
     have kb:Kp F8 m8 H8 F8 m8 (upd H8 s2.heap.objs.size (.lst (xs++[v8]))):=Kp.bump nF8 nt8
     have st9:Stp F1 m1 H2 F8 m8 (upd H8 s2.heap.objs.size (.lst (xs++[v8]))):=(st4.trans (st6.trans st8)).bump hD
     have l9:RL X.K F8 (upd H8 s2.heap.objs.size (.lst (xs++[v8]))) m8 σ5 (L'.set kx (some d0)):=⟨l6.len,fun j dd e=>by
      obtain⟨v,e1,rr⟩:=(l6.mono st8).at' j dd e
      exact⟨v,e1,RD.kp kb rr⟩⟩
     exact⟨nn,by omega,i+1,σ5,F8,m8,_,_,S8,acc++[y],zs,xs++[v8],I9.pins_of fun p hp=>absurd hp (by simp),t9,f9,by omega,st9,r8.bump nF8 nm8 nt8,l9,upd_same,
      RPs.kp kb (ra8.append ⟨v8,[],rfl,p8,rfl⟩),by rw [List.length_append];exact Nat.succ_le_succ hal,nF8,nm8,e9,by simp⟩
   ·rename_i ei
    cases go
    have hstop:(itO X.K false a).stop i H':=itO_stop (en:=false) hsq (by rw [<- rs.length];exact List.getElem?_eq_none_iff.mp ei)
    refine wpAny_mono (T.done (inn X scope N' s2 H2 hp2.objs.size fp) rfl rfl rfl hcalm i [] sx σ' H' (fun _ _=>False) I' (fpH fr') tn' hstop) (fun rr sy hr=>?_) (fun _ _ f=>f.elim)
    obtain⟨rfl,I5⟩:=hr
    rw [List.append_nil] at *
    have Iout:Inv X pins σ H' sy:=I2.call' (ch:=fp) I5.os I5.base I5.hok I5.bare fun b hb=>⟨(f2 b hb).2.2.2.1,(f2 b hb).2.1,(f2 b hb).2.2.2.2.1,(f2 b hb).2.2.2.2.2⟩
    have hD0:H s2.heap.objs.size=none:=by
     cases q:H s2.heap.objs.size with
     | none=>rfl
     | some o=>exact absurd hD (s1.trk _ (by rw [q];exact fun z=>nomatch z))
    have hCH:H' hp2.objs.size=none:=I5.free
    obtain⟨mC,hmC,_⟩:=I5.loc
    exact fin s2.heap.objs.size (fun b=>F' b\/b=s2.heap.objs.size) m' H' sy hp2.objs.size Iout ((s1.trans st').addF hD0) (r'.addF nm (by rw [hacc];exact fun z=>nomatch z))
     ⟨_,xs,rfl,⟨.inr rfl,hacc⟩,RPs.kp (m:=m') kpF ra⟩ hCH (Nat.le_trans I2.sz hCle) hCloc hCcell hCpin ⟨mC,hmC⟩
  ·exact⟨0,_,F1,m1,_,upL ts n L,S1,[],ys,[],I3,tn1,fun b hb=>by rw [upd_ne (Nat.ne_of_lt (hfp b hb))];exact (f2 b hb).1,rfl,(grow_new hD).stp,r1.grow (grow_new hD),((l.mono s1).mono (grow_new hD).stp).up ts n,upd_same,rfl,Nat.zero_le _,r1.fresh_F hD,r1.fresh_m hD,e2,rfl⟩
 exact codeAny_compStart_list (loop _ rfl) (T.self X.A 0 _ _ _ tn1 (loop _ rfl))
theorem xCompD {elt iter tg:Expr}{ifs:List Expr}{pos:Pos}{fo:EE}{kx:Nat}{fc:EB}{fe:EV} (B:BlockOk X scope N' ts n) (hcalm:X.calm=true)
  (hi:PI X tg iter (tIO X.K false fo)) (hg:∀s H C fp,PG (inn X scope N' s H C fp) tg (gTD X.K kx)) (hc:∀s H C fp,PIfs (inn X scope N' s H C fp) ifs fc) (he:∀s H C fp,PE (inn X scope N' s H C fp) elt (tV X.K fe))
  (hclos:closureFor scope X.env=pure (clOf scope X.env)) (hs:∀x,foldedSetIterable iter X.env x=pure x:=by intro _;rfl) :
  PE X (.ListComp elt [⟨tg,iter,ifs,0⟩] scope pos) (tV X.K (vCompD fo ts n kx fc fe)):=by
 intro pins s σ H Q I ⟨F,m,L,S,d,S',r,l,q,k⟩
 rw [eval_ListComp]
 refine comp_coreD B hcalm hi hg hc he hclos hs I r l q fun p F' m' H' sx C I' st r' rp hC h0 h1 h2 h3 hz=>?_
 obtain⟨mC,hmC⟩:=hz
 exact⟨mC,hmC,fun h' sb=>⟨.ref p,H',I'.letGo sb hC h0 h1 h2 h3,rfl,k _ F' m' H' st r' rp⟩⟩
theorem zCompD (i:Nat) {x:Str}{px spos:Pos}{elt iter tg:Expr}{ifs:List Expr}{pos:Pos}{fo:EE}{kx:Nat}{fc:EB}{fe:EV} (hN:X.N.Nodup) (B:BlockOk X scope N' ts n) (hcalm:X.calm=true)
  (hi:PI X tg iter (tIO X.K false fo)) (hg:∀s H C fp,PG (inn X scope N' s H C fp) tg (gTD X.K kx)) (hc:∀s H C fp,PIfs (inn X scope N' s H C fp) ifs fc) (he:∀s H C fp,PE (inn X scope N' s H C fp) elt (tV X.K fe))
  (hclos:closureFor scope X.env=pure (clOf scope X.env)) (hsw:swapsWith (.ListComp elt [⟨tg,iter,ifs,0⟩] scope pos) (some (.Name x px)) spos.line X.env=pure true:=by rfl)
  (hs:∀x,foldedSetIterable iter X.env x=pure x:=by intro _;rfl) (hix:X.N[i]? = some x:=by rfl) (hx:Loc X.env.scope x:=by first | exact Or.inl rfl | exact Or.inr rfl)
  (hf:X.fn x=true\/X.env.scope.names.lookup x=some .local:=by first | exact .inl rfl | exact .inr rfl | assumption) :
  PS X (.Assign [.Name x px] (.ListComp elt [⟨tg,iter,ifs,0⟩] scope pos) spos) (tSt X.K (sSet i (eV (vCompD fo ts n kx fc fe)))):=by
 intro pins s σ H D I ⟨F,m,L,S,fl,L',S',r,l,q,k⟩
 obtain⟨d,S1,e1,q⟩:=bnd_eq q
 cases q
 obtain⟨v,S2,e2,e3⟩:=bnd_eq e1
 cases e3
 rw [exec_Assign_Name_used _ _ _ _ hsw]
 refine wpAny_bind (wpAny_standAt (wpAny_bind ?_))
 show wpAny _ _ (do let _ <- comprehension (.ListComp elt [⟨tg,iter,ifs,0⟩] scope pos) scope X.env _ (newList []) false (eval iter X.env) (some (assign (.Name x px) X.env))) _ _ s
 refine wpAny_bind (wpAny_mono (comp_coreD (use:=some (assign (.Name x px) X.env)) (Q:=fun _ s'=>SP X pins D .next s') B hcalm hi hg hc he hclos hs I r l e2 fun p F' m' H' sx C I' st r' rp hC h0 h1 h2 h3 hz=>?_) (fun _ s' hq=>wpAny_pure (wpAny_pure hq)) fun _ _ e=>e)
 obtain⟨mC,hmC⟩:=hz
 refine wpAny_assign_Name (store_ok2 I' hN hix hx (v:=.ref p) rfl (fun s' I'' keep=>?_) hf)
 refine⟨mC,?_,fun h' sb=>⟨_,H',I''.letGo sb hC h0 h1 h2 h3,k _ F' m' H' st r' ((l.mono st).set (d:=.p v) rp i)⟩⟩
 obtain⟨a,sbA,ha⟩:=keep
 refine hmC.sameBut sbA ?_
 rcases ha with ha | ha
 ·rw [ha];exact h1
 ·exact Ne.symm (h2 x a ha)
end
end Ev
namespace Ev
open PySem PySem.Spec PyProof.Rows L2
noncomputable def pureOf (g:GF) (ps:List P):Option P:=match g (ps.map .p) [] with
 | some (d,S)=>(toP 9 d S).map (·.1)
 | none=>none
noncomputable def fnR (np nn:Nat) (b:ES):GF:=fun ds S=>if ds.length=np then match b (ds.map some++List.replicate (nn-ds.length) none) S with
 | some (.rt d,_,S')=>some (d,S')
 | some (.nx,_,S')=>some (.p .non,S')
 | _=>none else none
theorem Rel.nil {K:PySem.W.Frag}{F:Addr->Prop}{H:Hp} (ft:∀a,F a->H a≠none):Rel K F H [] []:=⟨rfl,by simp,by simp,by simp,by simp,ft⟩
theorem spR_of_spV {K:PySem.W.Frag}{g:GF}{vs:List V}{H:Hp}{Q:VK}{E:XK} (h:spV K (pureOf g) vs H Q E):spR K g vs H Q E:=by
 obtain⟨F,ds,d,ft,r,q,k⟩:=h
 unfold pureOf at q
 cases e:g (ds.map .p) [] with
 | none=>rw [e] at q;cases q
 | some z=>
  obtain⟨d1,S1⟩:=z
  rw [e] at q
  dsimp only at q
  cases e2:toP 9 d1 S1 with
  | none=>rw [e2] at q;cases q
  | some z2=>
   obtain⟨p,S2⟩:=z2
   rw [e2] at q
   cases q
   refine⟨F,[],ds.map .p,[],d1,S1,.nil ft,RDs.ofP r,e,fun v F' m' H' s' r' rd=>?_⟩
   obtain⟨F2,s2,r2,_,p2⟩:=toP_ok 9 e2 r' rd
   exact k v F2 H' ((s'.trans s2).toGrow r2.ft) p2
theorem FnOk.pure {Pg:Program}{w:World}{K:PySem.W.Frag}{mg:Str->Option Value}{base:Heap}{f:Addr}{fd:FuncData}{ps:List Str}{k:Nat}{g:GF} (G:FnOk Pg w K mg base CX0 k f fd ps (spR K g)):FnOk Pg w K mg base CX0 k f fd ps (spV K (pureOf g)):=
 FnOk.imp G fun _ _ _ _ h=>spR_of_spV h
theorem RDs.toSt {K:PySem.W.Frag}{F:Addr->Prop}{H:Hp}{m:List Addr}{ds:List D}{vs:List V}{N:List Str} (r:RDs K F H m ds vs):RL K F H m (L2.start N vs) (ds.map some++List.replicate (N.length-ds.length) none):=by
 have hl:=r.length
 refine⟨by unfold L2.start;simp [hl],fun i d e=>?_⟩
 by_cases hi:i < ds.length
 ·rw [List.getElem?_append_left (by simpa using hi),List.getElem?_map] at e
  cases q:ds[i]? with
  | none=>rw [q] at e;cases e
  | some v=>
   rw [q] at e
   cases e
   obtain⟨x,e1,p⟩:=r.get q
   refine⟨x,?_,p⟩
   unfold L2.start
   rw [List.getElem?_append_left (by simpa [<- hl] using hi),List.getElem?_map,e1];rfl
 ·rw [List.getElem?_append_right (by simpa using hi),List.getElem?_replicate] at e
  split at e <;> cases e
theorem fn_okR {Pg:Program}{w:World}{K:PySem.W.Frag}{mg:Str->Option Value}{base:Heap}{x qual:Str}{st:Stmt}{f:Addr}{fd:FuncData}{N ps:List Str}{k:Nat}{b:ES} (F:Fun K x qual st f fd) (S:FnScope N ps (defScope st))
  (hb:∀(cdv:Value) (A:Around) (outer:List Env) (s:Shared) (H:Hp) (E:XK),Room k (A.deeper (envOfC qual (defScope st) s.heap.objs.size f cdv)) ->
   PSs (cxOf CX0 Pg w K mg base N qual (defScope st) f cdv A outer s H E).nox (defBody st) (tSt K b)):FnOk Pg w K mg base CX0 (k+1) f fd ps (spR K (fnR ps.length N.length b)):=by
 refine F.ok S (fun vs H Q E h=>?_) (fun cdv A outer s H vs Q E hr h=>⟨_,hb cdv A outer s H E hr,?_⟩)
 ·obtain⟨F,m,ds,S,d,S',rl,r,q,k⟩:=h
  rw [<- r.length]
  unfold fnR at q
  split at q
  ·assumption
  ·cases q
 ·obtain⟨F,m,ds,S,d,S',rl,r,q,k⟩:=h
  unfold fnR at q
  split at q
  ·refine⟨F,m,ds.map some++List.replicate (N.length-ds.length) none,S,?_⟩
   cases eb:b (ds.map some++List.replicate (N.length-ds.length) none) S with
   | none=>rw [eb] at q;cases q
   | some z=>
    obtain⟨fl,L',S1⟩:=z
    rw [eb] at q
    refine⟨fl,L',S1,rl,r.toSt,rfl,fun σ' F' m' H' s' r' l'=>?_⟩
    cases fl with
    | nx=>cases q;exact k .non F' m' H' s' r' rfl
    | bk=>cases q
    | ct=>cases q
    | rt dd=>
     intro v rd
     cases q
     exact k v F' m' H' s' r' rd
  ·cases q
theorem fn_noneR {Pg:Program}{w:World}{K:PySem.W.Frag}{mg:Str->Option Value}{base:Heap}{f:Addr}{fd:FuncData}{ps:List Str}{k:Nat}:FnOk Pg w K mg base CX0 k f fd ps (spR K fun _ _=>none):=by
 have no:∀vs H Q E,¬spR K (fun _ _=>none) vs H Q E:=fun vs H Q E h=>by
  obtain⟨F,m,ds,S,d,S',_,_,q,_⟩:=h
  cases q
 exact⟨fun vs H Q E h=>absurd h (no vs H Q E),fun A outer s H args us vs Q E _ _ _ _ h=>absurd h (no vs H Q E)⟩
structure Tr where
 v:Option EV:=none
 e:Option EE:=none
 b:Option EB:=none
 w:Option EB:=none
noncomputable def Tr.ofV (f:Option EV):Tr:=⟨f,f.map eV,f.map fun g=>bT (eV g),f.map bV⟩
noncomputable def Tr.ofC (f:Option EV):Tr:=⟨f,f.map eV,f.map bV,f.map bV⟩
noncomputable def Tr.ofE (f:Option EE):Tr:=⟨f.map vE,f,f.map bT,f.map fun g=>bV (vE g)⟩
noncomputable def Tr.ofB (b w:Option EB):Tr:=⟨w.map vB,w.map fun g=>eV (vB g),b,w⟩
structure Cn where
 N:List Str
 own:List Str
 deep:List Str
 refs:List Str
 ks:List (Str×NameKind)
 F:Str->Option GF
 G:Str->Option P
 A:Str->Str->Bool
 M:Str->Str->Option GF
 I:Str->Option GF
noncomputable def ixOf:List Str->Str->Option Nat
 | [],_=>none
 | y::r,x=>if y=x then some 0 else (ixOf r x).map (·+1)
theorem ixOf_get:∀{N:List Str}{x:Str}{i:Nat},ixOf N x=some i->N[i]? = some x
 | [],_,_,h=>by cases h
 | y::r,x,i,h=>by
  unfold ixOf at h
  split at h
  ·rename_i e;cases h;simp [e]
  ·cases q:ixOf r x with
   | none=>rw [q] at h;cases h
   | some j=>rw [q] at h;cases h;simpa using ixOf_get q
theorem ixOf_of_get:∀{N:List Str}{x:Str}{i:Nat},N.Nodup->N[i]? = some x->ixOf N x=some i
 | [],_,_,_,h=>by simp at h
 | y::r,x,0,_,h=>by
  have:y=x:=by simpa using h
  unfold ixOf;rw [if_pos this]
 | y::r,x,i+1,nd,h=>by
  have h':r[i]? = some x:=by simpa using h
  have hne:¬y=x:=fun e=>by
   subst e
   exact (List.nodup_cons.mp nd).1 (List.mem_of_getElem? h')
  unfold ixOf;rw [if_neg hne,ixOf_of_get (List.nodup_cons.mp nd).2 h'];rfl
noncomputable def kindB (ks:List (Str×NameKind)) (x:Str) (l:List NameKind):Bool:=match ks.lookup x with
 | some k=>l.contains k
 | none=>false
noncomputable def okName (x:Str):Bool:=!(x == ("__debug__":Str)) && !(x == ("__classdict__":Str))
noncomputable def bop:Operator->Option (P->P->Option P)
 | .Add=>some dAdd2
 | .Sub=>some dSub
 | .Mult=>some dMul2
 | .FloorDiv=>some dFloor
 | .Mod=>some dMod
 | .Pow=>some dPow
 | _=>none
noncomputable def cop:CmpOp->Option (P->P->Option P)
 | .Lt=>some dLt
 | .LtE=>some dLe
 | .Gt=>some dGt
 | .GtE=>some dGe
 | _=>none
noncomputable def cop2:CmpOp->Option (D->D->Sto->Option P)
 | .Eq=>some gEq
 | .NotEq=>some gNe
 | .In=>some gIn
 | .NotIn=>some gNotIn
 | .Is=>some gIs
 | .IsNot=>some gIsNot
 | _=>none
noncomputable def trAs:List (Option EV)->Option EVs
 | []=>some vsNil
 | a::r=>a.bind fun f=>(trAs r).map fun g=>vsCons f g
noncomputable def trDs:List (Option EE)->Option EDs
 | []=>some dsNil
 | a::r=>a.bind fun f=>(trDs r).map fun g=>dsCons f g
noncomputable def wFold (op:BoolOp):List (Option EB)->Option EB
 | []=>none
 | [a]=>a
 | a::r=>a.bind fun f=>(wFold op r).map fun g=>match op with | .And=>bAnd f g | .Or=>bOr f g
noncomputable def trO (o:Option (Option EV)):Option EO:=match o with
 | none=>some oNone
 | some a=>a.map oSome
noncomputable def isiOf (t:Str):Option String:=if t=("tuple":Str) then some "tuple" else none
noncomputable def bltOf (f:Str):Option (List P->Option P):=
 if f=("max":Str) then some c_max else if f=("min":Str) then some c_min
 else if f=("list":Str) then some c_list else if f=("tuple":Str) then some c_tuple else if f=("all":Str) then some c_all else if f=("any":Str) then some c_any else if f=("sum":Str) then some c_sum else none
noncomputable def bltN:List Str:=["len","isinstance","int","bool","tuple","list","str","max","min","dict","range","abs","enumerate","sorted","all","any","sum","set"]
noncomputable def relab (names ks:List (Str×NameKind)):List (Str×NameKind):=names.map fun (n,k)=>if (k == .free && ks.lookup n == some .cell) then (n,.cell) else (n,k)
noncomputable def blockB (Γ:Cn) (scope:Scope) (N':List Str) (ts:List Nat) (n:Nat):Bool:=
 decide (scope.kind=.function) && scope.names.all (fun x=>x.2 != .cell) && scope.names.all (fun x=>x.2 != .local || scope.names.lookup x.1 == some .local)
  && scope.names.all (fun x=>x.2 != .free || (scope.names.lookup x.1 == some .free && (Γ.ks.lookup x.1 == some .cell || Γ.ks.lookup x.1 == some .free)))
  && decide (Γ.N=N'.take Γ.N.length) && decide (N'.length=Γ.N.length+n)
  && scope.names.all (fun x=>x.2 != .local || match ixOf Γ.N x.1 with | some i=>ts.contains i | none=>true)
noncomputable def isGl (Γ:Cn) (f g:Str):Bool:=decide (f=g) && kindB Γ.ks f [.globalImplicit]
noncomputable def isTup:Expr->Bool
 | .Tuple ..=>true
 | _=>false
noncomputable def setArg (Γ:Cn) (a:Expr):Option Expr:=match a with
 | .Call (.Name r _) [b] [] _=>if isGl Γ r "set"=true then some b else none
 | _=>none
noncomputable def trIt (Γ:Cn) (T:Expr->Tr) (tg e:Expr):Option EVs:=match e with
 | .Call (.Name f _) args [] _=>if isGl Γ f "range"=true then match args with
   | [a]=>(T a).v.map itR1
   | _=>none
  else (T e).v.map itS
 | .Set ..=>none
 | _=>(T e).v.map itS
noncomputable def trNm (N:List Str) (ks:List (Str×NameKind)) (kinds:List NameKind):Expr->Option TGv
 | .Name x _=>if kindB ks x kinds=true then (ixOf N x).map gSet else none
 | _=>none
noncomputable def trNms (N:List Str) (ks:List (Str×NameKind)) (kinds:List NameKind):List Expr->Option (List TGv)
 | []=>some []
 | e::r=>(trNm N ks kinds e).bind fun g=>(trNms N ks kinds r).map fun gs=>g::gs
noncomputable def trTg (N:List Str) (ks:List (Str×NameKind)) (kinds:List NameKind):Expr->Option TGv
 | .Tuple es _ _=>(trNms N ks kinds es).map gTupP
 | e=>trNm N ks kinds e
noncomputable def nmOf:Expr->List Str
 | .Name x _=>[x]
 | _=>[]
noncomputable def nmsOf:Expr->List Str
 | .Tuple es _ _=>es.flatMap nmOf
 | e=>nmOf e
noncomputable def cNew (N:List Str):List Str->List Str
 | []=>[]
 | t::r=>if (N.contains t || (cNew N r).contains t)=true then cNew N r else t::cNew N r
noncomputable def cTs (N:List Str) (ts:List Str):List Nat:=ts.filterMap fun t=>ixOf N t
noncomputable def trTk (N:List Str) (ks:List (Str×NameKind)) (kinds:List NameKind):Expr->Option Nat
 | .Name x _=>if kindB ks x kinds=true then ixOf N x else none
 | _=>none
noncomputable def ownIt (Γ:Cn) (T:Expr->Tr):Expr->Option EE
 | .Name x p=>if Γ.own.contains x=true then (T (.Name x p)).e else none
 | _=>none
noncomputable def trCompD (Γ:Cn) (T:Cn->Expr->Tr) (elt tg iter:Expr) (ifs:List Expr) (scope:Scope):Option EV:=
 if (blockB Γ scope (Γ.N++cNew Γ.N (nmsOf tg)) (cTs Γ.N (nmsOf tg)) (cNew Γ.N (nmsOf tg)).length && decide (Γ.N++cNew Γ.N (nmsOf tg)).Nodup)=true then
  (ownIt Γ (T Γ) iter).bind fun fo=>(trTk (Γ.N++cNew Γ.N (nmsOf tg)) (relab scope.names Γ.ks) [.local] tg).bind fun k=>
   (match ifs with | []=>some bYes | [c]=>(T ⟨Γ.N++cNew Γ.N (nmsOf tg),nmsOf tg,[],Γ.refs,relab scope.names Γ.ks,Γ.F,Γ.G,Γ.A,Γ.M,Γ.I⟩ c).b | _=>none).bind fun c=>
   (T ⟨Γ.N++cNew Γ.N (nmsOf tg),nmsOf tg,[],Γ.refs,relab scope.names Γ.ks,Γ.F,Γ.G,Γ.A,Γ.M,Γ.I⟩ elt).v.map fun e=>vCompD fo (cTs Γ.N (nmsOf tg)) (cNew Γ.N (nmsOf tg)).length k c e
 else none
noncomputable def trCompP (Γ:Cn) (T:Cn->Expr->Tr) (elt tg iter:Expr) (ifs:List Expr) (scope:Scope):Option EV:=
 if (blockB Γ scope (Γ.N++cNew Γ.N (nmsOf tg)) (cTs Γ.N (nmsOf tg)) (cNew Γ.N (nmsOf tg)).length && decide (Γ.N++cNew Γ.N (nmsOf tg)).Nodup)=true then
  (trIt Γ (T Γ) tg iter).bind fun it=>(trTg (Γ.N++cNew Γ.N (nmsOf tg)) (relab scope.names Γ.ks) [.local] tg).bind fun g=>
   (match ifs with | []=>some bYes | [c]=>(T ⟨Γ.N++cNew Γ.N (nmsOf tg),Γ.own.filter (fun x=>!(nmsOf tg).contains x),[],Γ.refs,relab scope.names Γ.ks,Γ.F,Γ.G,Γ.A,Γ.M,Γ.I⟩ c).b | _=>none).bind fun c=>
   (T ⟨Γ.N++cNew Γ.N (nmsOf tg),Γ.own.filter (fun x=>!(nmsOf tg).contains x),[],Γ.refs,relab scope.names Γ.ks,Γ.F,Γ.G,Γ.A,Γ.M,Γ.I⟩ elt).v.map fun e=>vComp it (cTs Γ.N (nmsOf tg)) (cNew Γ.N (nmsOf tg)).length g c e
 else none
noncomputable def trComp (Γ:Cn) (T:Cn->Expr->Tr) (elt tg iter:Expr) (ifs:List Expr) (scope:Scope):Option EV:=match trCompD Γ T elt tg iter ifs scope with
 | some f=>some f
 | none=>trCompP Γ T elt tg iter ifs scope
noncomputable def isOwn (Γ:Cn):Nat->Expr->Bool
 | 0,_=>false
 | _,.Name x _=>Γ.own.contains x
 | n+1,.Subscript a _ _=>isOwn Γ n a
 | n+1,.Attribute a _ _=>isOwn Γ n a
 | _,_=>false
noncomputable def mth (Γ:Cn) (o:Expr) (m:Str) (name:Str) (ap cp:Pos):Bool:=decide (m=name) && isOwn Γ 4 o && (ap.endLine == cp.line)
noncomputable def tr (Γ:Cn):Nat->Expr->Tr
 | 0,_=>{}
 | n+1,e=>match e with
  | .Constant (.int i) _ _=>.ofV (some (vC (.int i)))
  | .Constant (.bool i) _ _=>.ofV (some (vC (.bl i)))
  | .Constant .none _ _=>.ofV (some (vC .non))
  | .Constant (.str i) _ _=>.ofV (some (vC (.str i)))
  | .Name x _=>if (kindB Γ.ks x [.local,.cell,.free] && okName x)=true then .ofE ((ixOf Γ.N x).map eVar) else
    if (kindB Γ.ks x [.globalImplicit] && okName x)=true then .ofV ((Γ.G x).bind fun v=>if isDct v=true then none else some (vC v)) else {}
  | .BinOp a op b _=>.ofV ((bop op).bind fun g=>(tr Γ n a).v.bind fun x=>(tr Γ n b).v.map fun y=>vOp g x y)
  | .UnaryOp .USub a _=>.ofV ((tr Γ n a).v.map (vUn dNeg))
  | .UnaryOp .Not a _=>.ofB ((tr Γ n a).b.map bNot) ((tr Γ n a).w.map bNot)
  | .BoolOp op es _=>.ofB (wFold op (es.map fun x=>(tr Γ n x).b)) (wFold op (es.map fun x=>(tr Γ n x).w))
  | .Compare a [op] [b] _=>.ofC (match cop op with
    | some g=>(tr Γ n a).v.bind fun x=>(tr Γ n b).v.map fun y=>vOp g x y
    | none=>(cop2 op).bind fun g=>(tr Γ n a).e.bind fun x=>(tr Γ n b).e.map fun y=>vOpE g x y)
  | .Compare a [op,op'] [b,c] _=>.ofC ((cop op).bind fun g=>(cop op').bind fun g'=>(tr Γ n a).v.bind fun x=>(tr Γ n b).v.bind fun y=>(tr Γ n c).v.map fun z=>vChain g g' x y z)
  | .IfExp c a b _=>{ Tr.ofV ((tr Γ n c).b.bind fun q=>(tr Γ n a).v.bind fun x=>(tr Γ n b).v.map fun y=>vIf q x y) with b:=none }
  | .Tuple es _ _=>.ofV ((trAs (es.map fun x=>(tr Γ n x).v)).map vTup')
  | .List es _=>.ofV ((trAs (es.map fun x=>(tr Γ n x).v)).map vLst')
  | .Subscript a (.Slice lo hi none _) _=>.ofV ((tr Γ n a).v.bind fun x=>(trO (lo.map fun y=>(tr Γ n y).v)).bind fun y=>(trO (hi.map fun z=>(tr Γ n z).v)).map fun z=>vSl2 x y z)
  | .Subscript a (.Slice lo hi (some st) _) _=>.ofV ((tr Γ n a).v.bind fun x=>(trO (lo.map fun y=>(tr Γ n y).v)).bind fun y=>(trO (hi.map fun z=>(tr Γ n z).v)).bind fun z=>(tr Γ n st).v.map fun c=>vSl3 x y z (oSome c))
  | .Subscript a i _=>if isOwn Γ 4 a=true then .ofE ((tr Γ n a).e.bind fun x=>(tr Γ n i).v.map fun y=>eIx x y) else .ofV ((tr Γ n a).v.bind fun x=>(tr Γ n i).v.map fun y=>vOp dIx x y)
  | .Call (.Name f _) args [] _=>if (kindB Γ.ks f [.globalImplicit] && okName f)=true then
    match Γ.F f with
    | some g=>match args with
     | []=>{}
     | _=>if Γ.refs.contains f=true then .ofV ((trDs (args.map fun x=>(tr Γ n x).e)).map fun a=>vCallR g a) else .ofV ((trAs (args.map fun x=>(tr Γ n x).v)).map fun a=>vCall (pureOf g) a)
    | none=>match args with
     | []=>{}
     | [a]=>if f=("len":Str) then (match setArg Γ a with | some b=>.ofV ((tr Γ n b).v.map vLenSet) | none=>.ofV ((tr Γ n a).e.map vLen)) else .ofV ((bltOf f).bind fun g=>(trAs [(tr Γ n a).v]).map fun x=>vCall g x)
     | [a,.Name t tp]=>if f=("isinstance":Str) then (if kindB Γ.ks t [.globalImplicit]=true then .ofV ((isiOf t).bind fun T=>(tr Γ n a).e.map fun x=>vIsi T x) else {}) else .ofV ((bltOf f).bind fun g=>(trAs [(tr Γ n a).v,(tr Γ n (.Name t tp)).v]).map fun x=>vCall g x)
     | _=>.ofV ((bltOf f).bind fun g=>(trAs (args.map fun x=>(tr Γ n x).v)).map fun x=>vCall g x)
   else {}
  | .Call (.Attribute o m ap) [a] [] cp=>if mth Γ o m "append" ap cp=true then .ofE ((tr Γ n o).e.bind fun x=>(tr Γ n a).e.map fun y=>eAppend x y) else
    if mth Γ o m "extend" ap cp=true then .ofE ((tr Γ n o).e.bind fun x=>(tr Γ n a).v.map fun y=>eExtend x y) else {}
  | .Call (.Attribute o m ap) [] [] cp=>if mth Γ o m "pop" ap cp=true then .ofE ((tr Γ n o).e.map ePop) else {}
  | .ListComp elt [⟨tg,iter,ifs,0⟩] scope _=>.ofV (trComp Γ (fun Γ' x=>tr Γ' n x) elt tg iter ifs scope)
  | _=>{}
noncomputable def trD (Γ:Cn) (n:Nat):Nat->Expr->Option EE
 | 0,_=>none
 | k+1,e=>match e with
  | .List es _=>(trDs (es.map fun x=>trD Γ n k x)).map eLstD
  | .Call (.Name f _) args [] _=>if (kindB Γ.ks f [.globalImplicit] && okName f && !args.isEmpty)=true then
    match Γ.F f with
    | some g=>(trDs (args.map fun x=>(tr Γ n x).e)).map fun a=>eCallR g a
    | none=>(tr Γ n e).e
   else (tr Γ n e).e
  | _=>(tr Γ n e).e
end Ev
namespace Ev
open PySem PySem.Spec PyProof.Rows L2
structure XOk (Γ:Cn) (X:Cx):Prop where
 hN:X.N=Γ.N
 nd:X.N.Nodup
 ks:X.env.scope.names=Γ.ks
 kd:X.env.scope.kind=.function
 calm:X.calm=true
 hu:X.A.units+64 < cLine
 fns:∀x g,Γ.F x=some g->∃k f fd ps,FnOk X.prog X.w X.K X.mg X.base CX0 k f fd ps (spR X.K g)/\Room k X.A/\X.mg x=some (.ref f)/\PySem.W.keepIn X.K (.ref f)=true/\Binds X.K fd ps []
 blt:∀x ∈ bltN,X.mg x=none
 glb:∀x v,Γ.G x=some v->GlobOk2 X.w X.K X.mg x v
 attrs:AOk X.K Γ.A
 meths:MOk X Γ.M
 mks:∀c g,Γ.I c=some g->∃C k f fd ps,ClsOf X.K c C/\X.mg c=some (.ref C)/\Mk X.K C f/\FnOk X.prog X.w X.K X.mg X.base CX0 k f fd ps (spR X.K g)/\Room (k+1) X.A/\Binds X.K fd ps []
structure Good (X:Cx) (ex:Expr) (t:Tr):Prop where
 v:∀f,t.v=some f->PE X ex (tV X.K f)
 e:∀f,t.e=some f->PE X ex (tE X.K f)
 b:∀f,t.b=some f->PT X ex (tQ X.K f)
 w:∀f,t.w=some f->PE X ex (tV X.K (vB f))
section
variable {X:Cx}{e:Expr}
theorem Good.no:Good X e {}:=⟨fun _ h=>(by cases h),fun _ h=>(by cases h),fun _ h=>(by cases h),fun _ h=>(by cases h)⟩
noncomputable def PlainT (e:Expr):Prop:=∀env whole,isTrue e env whole=(do let v <- whole;standAt e.pos;holding [v] (truthy v))
theorem Good.ofV {t:Option EV} (h:∀f,t=some f->PE X e (tV X.K f)) (hp:PlainT e):Good X e (.ofV t) where
 v:=h
 e:=fun f q=>by
  cases t with
  | none=>cases q
  | some g=>cases q;exact xEV (h _ rfl)
 b:=fun f q=>by
  cases t with
  | none=>cases q
  | some g=>cases q;exact yT (xEV (h _ rfl)) (hp _)
 w:=fun f q=>by
  cases t with
  | none=>cases q
  | some g=>cases q;exact xBool (h _ rfl)
theorem Good.ofC {t:Option EV} (h:∀f,t=some f->PE X e (tV X.K f)) (hb:∀f,t=some f->PT X e (tQ X.K (bV f))):Good X e (.ofC t) where
 v:=h
 e:=fun f q=>by
  cases t with
  | none=>cases q
  | some g=>cases q;exact xEV (h _ rfl)
 b:=fun f q=>by
  cases t with
  | none=>cases q
  | some g=>cases q;exact hb _ rfl
 w:=fun f q=>by
  cases t with
  | none=>cases q
  | some g=>cases q;exact xBool (h _ rfl)
theorem Good.ofE {t:Option EE} (h:∀f,t=some f->PE X e (tE X.K f)) (hp:PlainT e):Good X e (.ofE t) where
 v:=fun f q=>by
  cases t with
  | none=>cases q
  | some g=>cases q;exact xVE (h _ rfl)
 e:=h
 b:=fun f q=>by
  cases t with
  | none=>cases q
  | some g=>cases q;exact yT (h _ rfl) (hp _)
 w:=fun f q=>by
  cases t with
  | none=>cases q
  | some g=>cases q;exact xBool (xVE (h _ rfl))
theorem Good.ofB {b w:Option EB} (hb:∀f,b=some f->PT X e (tQ X.K f)) (hw:∀f,w=some f->PE X e (tV X.K (vB f))):Good X e (.ofB b w) where
 v:=fun f q=>by
  cases w with
  | none=>cases q
  | some g=>cases q;exact hw _ rfl
 e:=fun f q=>by
  cases w with
  | none=>cases q
  | some g=>cases q;exact xEV (hw _ rfl)
 b:=hb
 w:=hw
end
theorem bind_eq {α β:Type}{x:Option α}{f:α->Option β}{r:β} (h:x.bind f=some r):∃a,x=some a/\f a=some r:=by
 cases x with
 | none=>cases h
 | some a=>exact⟨a,rfl,h⟩
theorem map_eq {α β:Type}{x:Option α}{f:α->β}{r:β} (h:x.map f=some r):∃a,x=some a/\r=f a:=by
 cases x with
 | none=>cases h
 | some a=>cases h;exact⟨a,rfl,rfl⟩
noncomputable def NoStar (e:Expr):Prop:=∀es env,starEach (e::es) env=(false,eval e env)::starEach es env
theorem noStar_of {Γ:Cn}{n:Nat}{e:Expr} (h:(tr Γ n e).v.isSome=true\/(tr Γ n e).e.isSome=true):NoStar e:=by
 intro es env
 cases n with
 | zero=>rcases h with h | h <;> cases h
 | succ n=>
  cases e <;> first | rfl | (rcases h with h | h <;> cases h)
theorem plainIx_of {Γ:Cn}{n:Nat}{e:Expr} (h:(tr Γ n e).v.isSome=true):PlainIx e:=by
 intro o i
 cases n with
 | zero=>cases h
 | succ n=>
  cases e <;> first | rfl | cases h
theorem anyBack {es:List Expr}{env:Env}{pos:Pos} (h:∀e ∈ es,NoStar e):(backTo pos (starEach es env)).any (·.1)=false:=by
 induction es with
 | nil=>rfl
 | cons e es ih=>
  rw [h e List.mem_cons_self es env]
  have:=ih fun x hx=>h x (List.mem_cons_of_mem _ hx)
  unfold backTo at this ⊢
  rw [List.map_cons,List.any_cons,this];rfl
section
variable {Γ:Cn}{X:Cx} (h:XOk Γ X)
include h
theorem XOk.gl {x:Str} (q:kindB Γ.ks x [.globalImplicit]=true):Gl X x:=by
 unfold Gl Env.kindOf
 rw [h.ks]
 unfold kindB at q
 cases e:Γ.ks.lookup x with
 | none=>rw [e] at q;cases q
 | some k=>rw [e] at q;cases k <;> first | rfl | cases q
theorem XOk.vis {x:Str} (q:kindB Γ.ks x [.local,.cell,.free]=true):Vis X.env.scope x:=by
 unfold Vis
 rw [h.ks]
 unfold kindB at q
 cases e:Γ.ks.lookup x with
 | none=>rw [e] at q;cases q
 | some k=>rw [e] at q;cases k <;> first | exact .inl rfl | exact .inr (.inl rfl) | exact .inr (.inr rfl) | cases q
theorem XOk.loc {x:Str} (q:kindB Γ.ks x [.local,.cell]=true):L2.Loc X.env.scope x:=by
 unfold L2.Loc
 rw [h.ks]
 unfold kindB at q
 cases e:Γ.ks.lookup x with
 | none=>rw [e] at q;cases q
 | some k=>rw [e] at q;cases k <;> first | exact .inl rfl | exact .inr rfl | cases q
theorem XOk.local {x:Str} (q:kindB Γ.ks x [.local]=true):X.env.scope.names.lookup x=some .local:=by
 rw [h.ks]
 unfold kindB at q
 cases e:Γ.ks.lookup x with
 | none=>rw [e] at q;cases q
 | some k=>rw [e] at q;cases k <;> first | rfl | cases q
theorem XOk.bk:X.env.blockKind=.function:=by
 unfold Env.blockKind
 rw [h.kd];rfl
omit h in
theorem okName_of {x:Str} (q:okName x=true):(x == ("__debug__":Str))=false/\(x == ("__classdict__":Str))=false:=by
 unfold okName at q
 rw [Bool.and_eq_true] at q
 exact⟨by simpa using q.1,by simpa using q.2⟩
theorem XOk.get {x:Str}{i:Nat} (q:ixOf Γ.N x=some i):X.N[i]? = some x:=by rw [h.hN];exact ixOf_get q
omit h in
theorem trAs_ok {Γ:Cn}{n:Nat}:∀{es:List Expr}{fs:EVs},(∀e ∈ es,Good X e (tr Γ n e))->trAs (es.map fun x=>(tr Γ n x).v)=some fs->PA X es (tVs X.K fs)/\∀e ∈ es,NoStar e
 | [],fs,_,q=>by cases q;exact⟨aNil,fun _ z=>by cases z⟩
 | e::es,fs,g,q=>by
  obtain⟨f,q1,q2⟩:=bind_eq q
  obtain⟨r,q3,rfl⟩:=map_eq q2
  obtain⟨a1,a2⟩:=trAs_ok (fun x hx=>g x (List.mem_cons_of_mem _ hx)) q3
  have q1:(tr Γ n e).v=some f:=q1
  have ns:NoStar e:=noStar_of (.inl (by rw [q1];rfl))
  refine⟨aCons ((g e List.mem_cons_self).v f q1) a1 (ns _ _),fun x hx=>?_⟩
  rcases List.mem_cons.mp hx with hx | hx
  ·subst hx;exact ns
  ·exact a2 x hx
omit h in
theorem trDs_ok {Γ:Cn}{n:Nat}:∀{es:List Expr}{fs:EDs},(∀e ∈ es,Good X e (tr Γ n e))->trDs (es.map fun x=>(tr Γ n x).e)=some fs->PA X es (tDs X.K fs)/\∀e ∈ es,NoStar e
 | [],fs,_,q=>by cases q;exact⟨daNil,fun _ z=>by cases z⟩
 | e::es,fs,g,q=>by
  obtain⟨f,q1,q2⟩:=bind_eq q
  obtain⟨r,q3,rfl⟩:=map_eq q2
  obtain⟨a1,a2⟩:=trDs_ok (fun x hx=>g x (List.mem_cons_of_mem _ hx)) q3
  have q1:(tr Γ n e).e=some f:=q1
  have ns:NoStar e:=noStar_of (.inr (by rw [q1];rfl))
  refine⟨daCons ((g e List.mem_cons_self).e f q1) a1 (ns _ _),fun x hx=>?_⟩
  rcases List.mem_cons.mp hx with hx | hx
  ·subst hx;exact ns
  ·exact a2 x hx
omit h in
theorem wFold_pw {op:BoolOp}{pos:Pos}{Γ:Cn}{n:Nat}:∀{es:List Expr}{f:EB},(∀e ∈ es,Good X e (tr Γ n e))->wFold op (es.map fun x=>(tr Γ n x).b)=some f->PW X (.BoolOp op es pos) (tQ X.K f)
 | [],f,_,q=>by cases q
 | [a],f,g,q=>by
  cases op with
  | And=>exact yAnd1 ((g a List.mem_cons_self).b f q)
  | Or=>exact yOr1 ((g a List.mem_cons_self).b f q)
 | a::b::es,f,g,q=>by
  obtain⟨x,q1,q2⟩:=bind_eq q
  obtain⟨r,q3,rfl⟩:=map_eq q2
  have i:=wFold_pw (es:=b::es) (pos:=pos) (fun x hx=>g x (List.mem_cons_of_mem _ hx)) q3
  cases op with
  | And=>exact yAnd ((g a List.mem_cons_self).b x q1) i
  | Or=>exact yOr ((g a List.mem_cons_self).b x q1) i
omit h in
theorem wFold_pe {op:BoolOp}{pos:Pos}{Γ:Cn}{n:Nat}:∀{es:List Expr}{f:EB},(∀e ∈ es,Good X e (tr Γ n e))->wFold op (es.map fun x=>(tr Γ n x).w)=some f->PE X (.BoolOp op es pos) (tV X.K (vB f))
 | [],f,_,q=>by cases q
 | [a],f,g,q=>xAnd1 ((g a List.mem_cons_self).w f q)
 | a::b::es,f,g,q=>by
  obtain⟨x,q1,q2⟩:=bind_eq q
  obtain⟨r,q3,rfl⟩:=map_eq q2
  have i:=wFold_pe (es:=b::es) (pos:=pos) (fun x hx=>g x (List.mem_cons_of_mem _ hx)) q3
  cases op with
  | And=>exact xAnd ((g a List.mem_cons_self).w x q1) i
  | Or=>exact xOr ((g a List.mem_cons_self).w x q1) i
omit h in
theorem trO_ok {Γ:Cn}{n:Nat}{o:Option Expr}{f:EO} (g:∀e,Good X e (tr Γ n e)) (q:trO (o.map fun y=>(tr Γ n y).v)=some f):PO X o (tO X.K f):=by
 cases o with
 | none=>cases q;exact oNone'
 | some e=>
  obtain⟨x,q1,rfl⟩:=map_eq (show ((tr Γ n e).v).map oSome=some f from q)
  exact oSome' ((g e).v x q1)
theorem bop_ok {op:Operator}{g:P->P->Option P} (q:bop op=some g):OpP X (binaryOp op) g:=by
 cases op <;> first | (cases q;exact opAdd2) | (cases q;exact opSub) | (cases q;exact opMul2) | (cases q;exact opFloor) | (cases q;exact opMod) | (cases q;exact opPow) | cases q
omit h in
theorem cop_ok {op:CmpOp}{g:P->P->Option P} (q:cop op=some g):OpP X (compareOp op) g:=by
 cases op <;> first | (cases q;exact opLt) | (cases q;exact opLe) | (cases q;exact opGt) | (cases q;exact opGe) | cases q
theorem cop2_ok {op:CmpOp}{g:D->D->Sto->Option P} (q:cop2 op=some g):OpR X (compareOp op) (rE X.K g):=by
 cases op <;> first | (cases q;exact opEqE h.hu) | (cases q;exact opNeE h.hu) | (cases q;exact opInE h.hu) | (cases q;exact opNotInE h.hu) | (cases q;exact opIsE) | (cases q;exact opIsNotE) | cases q
omit h in
theorem cop_mark {op:CmpOp}{g:P->P->Option P} (b:Expr) (q:cop op=some g):behindInMarks op b=false:=by
 cases op <;> first | exact nomark b | cases q
omit h in
theorem mark_of {Γ:Cn}{n:Nat}{op:CmpOp}{b:Expr} (q:(tr Γ n b).e.isSome=true):behindInMarks op b=false:=by
 cases n with
 | zero=>cases q
 | succ n=>cases b <;> first | rfl | cases q
omit h in
theorem marks_of {Γ:Cn}{n:Nat}{op op':CmpOp}{b c:Expr} (q:(tr Γ n c).v.isSome=true):lastMarks [op,op'] [b,c]=false:=by
 cases n with
 | zero=>cases q
 | succ n=>cases c <;> first | rfl | cases q
theorem call_ok {f:Str}{g:GF}{a:Expr}{as:List Expr}{fs:EVs}{fp pos:Pos} (hg:Γ.F f=some g) (hk:kindB Γ.ks f [.globalImplicit]=true) (hn:okName f=true) (ha:PA X (a::as) (tVs X.K fs)) (ns:∀e ∈ a::as,NoStar e) :
  PE X (.Call (.Name f fp) (a::as) [] pos) (tV X.K (vCall (pureOf g) fs)):=by
 obtain⟨k,fa,fd,ps,G,hr,hm,hkp,hb⟩:=h.fns f g hg
 exact xCall (FnOk.pure G) hr (h.gl hk) hm hkp hb ha (okName_of hn).1 (ns a List.mem_cons_self _ _) (anyBack fun e he=>ns e (List.mem_cons_of_mem _ he))
theorem callR_ok {f:Str}{g:GF}{a:Expr}{as:List Expr}{fs:EDs}{fp pos:Pos} (hg:Γ.F f=some g) (hk:kindB Γ.ks f [.globalImplicit]=true) (hn:okName f=true) (ha:PA X (a::as) (tDs X.K fs)) (ns:∀e ∈ a::as,NoStar e) :
  PE X (.Call (.Name f fp) (a::as) [] pos) (tV X.K (vCallR g fs))/\PE X (.Call (.Name f fp) (a::as) [] pos) (tE X.K (eCallR g fs)):=by
 obtain⟨k,fa,fd,ps,G,hr,hm,hkp,hb⟩:=h.fns f g hg
 exact⟨xVCallR G hr (h.gl hk) hm hkp hb ha (okName_of hn).1 (ns a List.mem_cons_self _ _) (anyBack fun e he=>ns e (List.mem_cons_of_mem _ he)),
  xCallR G hr (h.gl hk) hm hkp hb ha (okName_of hn).1 (ns a List.mem_cons_self _ _) (anyBack fun e he=>ns e (List.mem_cons_of_mem _ he))⟩
theorem blt_ok {f:Str}{g:List P->Option P}{a:Expr}{as:List Expr}{fs:EVs}{fp pos:Pos} (hg:bltOf f=some g) (hk:kindB Γ.ks f [.globalImplicit]=true) (ha:PA X (a::as) (tVs X.K fs)) (ns:∀e ∈ a::as,NoStar e) :
  PE X (.Call (.Name f fp) (a::as) [] pos) (tV X.K (vCall g fs)):=by
 have he:=ns a List.mem_cons_self as X.env
 have hp:=anyBack (env:=X.env) (pos:=pos) fun e he=>ns e (List.mem_cons_of_mem _ he)
 unfold bltOf at hg
 split at hg
 ·rename_i e;subst e;cases hg;exact x_max (h.gl hk) (h.blt _ (by decide)) ha h.calm he hp
 split at hg
 ·rename_i e;subst e;cases hg;exact x_min (h.gl hk) (h.blt _ (by decide)) ha h.calm he hp
 split at hg
 ·rename_i e;subst e;cases hg;exact x_list (h.gl hk) (h.blt _ (by decide)) ha he hp
 split at hg
 ·rename_i e;subst e;cases hg;exact x_tuple (h.gl hk) (h.blt _ (by decide)) ha he hp
 split at hg
 ·rename_i e;subst e;cases hg;exact x_all (h.gl hk) (h.blt _ (by decide)) ha h.calm he hp
 split at hg
 ·rename_i e;subst e;cases hg;exact x_any (h.gl hk) (h.blt _ (by decide)) ha h.calm he hp
 split at hg
 ·rename_i e;subst e;cases hg;exact x_sum (h.gl hk) (h.blt _ (by decide)) ha h.calm he hp
 ·cases hg
theorem isi_ok {t:Str}{T:String}{a:Expr}{fa:EE}{fp tp pos:Pos} (ht:isiOf t=some T) (hk:kindB Γ.ks ("isinstance":Str) [.globalImplicit]=true) (hk2:kindB Γ.ks t [.globalImplicit]=true) (ha:PE X a (tE X.K fa)) (ns:NoStar a) :
  PE X (.Call (.Name "isinstance" fp) [a,.Name t tp] [] pos) (tV X.K (vIsi T fa)):=by
 have hs:starEach [a,.Name t tp] X.env=[(false,eval a X.env),(false,eval (.Name t tp) X.env)]:=by rw [ns];rfl
 have hm:=h.blt ("isinstance":Str) (by decide)
 unfold isiOf at ht
 split at ht
 ·rename_i e;subst e;cases ht;exact yIsi kit_tuple (h.gl hk) hm (h.gl hk2) (h.blt _ (by decide)) PyProof.Rows.boot_tuple ha (by decide) (by decide) hs
 ·cases ht
omit h in
theorem isGl_of {f g:Str} (q:isGl Γ f g=true):f=g/\kindB Γ.ks f [.globalImplicit]=true:=by
 unfold isGl at q
 rw [Bool.and_eq_true] at q
 exact⟨of_decide_eq_true q.1,q.2⟩
theorem it_ok {n:Nat}{tg e:Expr}{f:EVs} (g:∀x,Good X x (tr Γ n x)) (q:trIt Γ (fun x=>tr Γ n x) tg e=some f):PI X tg e (tI X.K f):=by
 have plain:((tr Γ n e).v.map itS=some f)->PI X tg e (tI X.K f):=fun q=>by
  obtain⟨x,q1,rfl⟩:=map_eq q
  exact iS ((g e).v x q1)
 unfold trIt at q
 split at q
 ·rename_i fn fp args pos
  split at q
  ·rename_i hr
   obtain⟨rfl,hr⟩:=isGl_of hr
   have hg:=h.gl hr
   have hm:=h.blt ("range":Str) (by decide)
   split at q
   ·rename_i a
    obtain⟨x,q1,rfl⟩:=map_eq q
    exact iR1 hg hm ((g a).v x q1) (noStar_of (.inl (by rw [q1];rfl)) _ _)
   ·cases q
  ·exact plain q
 ·cases q
 ·exact plain q
omit h in
theorem setArg_of {a b:Expr} (q:setArg Γ a=some b):∃r p c,a=.Call (.Name r p) [b] [] c/\isGl Γ r "set"=true:=by
 unfold setArg at q
 split at q
 ·rename_i r p b' c
  split at q
  ·rename_i hc
   cases q
   exact⟨r,p,c,rfl,hc⟩
  ·cases q
 ·cases q
omit h in
theorem it_noset {T:Expr->Tr}{tg e:Expr}{f:EVs} (q:trIt Γ T tg e=some f) (env:Env) (x:Value):foldedSetIterable e env x=pure x:=by
 cases e <;> first | rfl | cases q
theorem block_ok {scope:Scope}{N':List Str}{ts:List Nat}{n:Nat} (q:blockB Γ scope N' ts n=true):BlockOk X scope N' ts n:=by
 unfold blockB at q
 simp only [Bool.and_eq_true] at q
 obtain⟨⟨⟨⟨⟨⟨q1,q2⟩,q3⟩,q4⟩,q5⟩,q6⟩,q7⟩:=q
 have e5:Γ.N=N'.take Γ.N.length:=of_decide_eq_true q5
 refine⟨of_decide_eq_true q1,fun x hx=>?_,fun x hx hl=>?_,fun x hx hl=>?_,?_,?_,fun x hx hl i hi=>?_⟩
 ·simpa using List.all_eq_true.mp q2 x hx
 ·have:=List.all_eq_true.mp q3 x hx
  rw [hl] at this
  simpa using this
 ·have:=List.all_eq_true.mp q4 x hx
  rw [hl] at this
  have t:scope.names.lookup x.1=some .free/\(Γ.ks.lookup x.1=some .cell\/Γ.ks.lookup x.1=some .free):=by simpa using this
  refine⟨t.1,?_⟩
  unfold Env.kindOf
  rw [h.ks];exact t.2
 ·rw [h.hN];exact e5
 ·rw [h.hN];exact of_decide_eq_true q6
 ·have:=List.all_eq_true.mp q7 x hx
  rw [hl] at this
  have hi':ixOf Γ.N x.1=some i:=ixOf_of_get (by rw [<- h.hN];exact h.nd) (by rw [<- h.hN];exact hi)
  rw [hi'] at this
  simpa using this
end
theorem nm_ok {X:Cx}{N:List Str}{ks:List (Str×NameKind)}{kinds:List NameKind}{e:Expr}{g:TGv} (hN:X.N=N) (nd:X.N.Nodup) (hk:∀x,kindB ks x kinds=true->L2.Loc X.env.scope x/\(X.fn x=true\/X.env.scope.names.lookup x=some .local)) (q:trNm N ks kinds e=some g):isNm e=true/\PG X e (gT X.K g):=by
 unfold trNm at q
 split at q
 ·split at q
  ·rename_i hc
   obtain⟨i,q1,rfl⟩:=map_eq q
   obtain⟨h1,h2⟩:=hk _ hc
   exact⟨rfl,gName' i nd (by rw [hN];exact ixOf_get q1) h1 h2⟩
  ·cases q
 ·cases q
theorem tg_ok {X:Cx}{N:List Str}{ks:List (Str×NameKind)}{kinds:List NameKind}{e:Expr}{g:TGv} (hc:X.calm=true) (hN:X.N=N) (nd:X.N.Nodup) (hk:∀x,kindB ks x kinds=true->L2.Loc X.env.scope x/\(X.fn x=true\/X.env.scope.names.lookup x=some .local)) (q:trTg N ks kinds e=some g):PG X e (gT X.K g):=by
 have all:∀{es:List Expr}{gs:List TGv},trNms N ks kinds es=some gs->GsOk X es gs:=by
  intro es
  induction es with
  | nil=>intro gs q;cases q;exact .nil
  | cons e es ih=>
   intro gs q
   obtain⟨g,q1,q⟩:=bind_eq q
   obtain⟨r,q2,rfl⟩:=map_eq q
   obtain⟨h1,h2⟩:=nm_ok hN nd hk q1
   exact .cons h1 h2 (ih q2)
 unfold trTg at q
 split at q
 ·obtain⟨gs,q1,rfl⟩:=map_eq q
  exact gTupOk hc (all q1)
 ·exact (nm_ok hN nd hk q).2
theorem relab_eq {scope:Scope}{env:Env} (hk:env.scope.kind=.function):(relabel scope env).names=relab scope.names env.scope.names:=by
 unfold relabel relab Env.kindOf
 rw [hk]
 simp
theorem XOk.inn {Γ:Cn}{X:Cx} (h:XOk Γ X) {scope:Scope}{N':List Str}{ts:List Nat}{n:Nat} (B:BlockOk X scope N' ts n) (nd:N'.Nodup) (s:Shared) (H:Hp) (C:Addr) (fp:List Addr) :
  XOk ⟨N',[],[],Γ.refs,relab scope.names Γ.ks,Γ.F,Γ.G,Γ.A,Γ.M,Γ.I⟩ (Ev.inn X scope N' s H C fp) where
 hN:=rfl
 nd:=nd
 ks:=by show (relabel scope X.env).names=_;rw [relab_eq h.kd,h.ks]
 kd:=B.kind
 calm:=h.calm
 hu:=h.hu
 fns:=h.fns
 blt:=h.blt
 glb:=h.glb
 attrs:=h.attrs
 meths:=h.meths
 mks:=h.mks
theorem closure_ok {X:Cx}{scope:Scope}{N':List Str}{ts:List Nat}{n:Nat}{pins:List (Addr×Obj)}{σ:L2.St}{H:Hp}{s:Shared} (B:BlockOk X scope N' ts n) (I:Inv X pins σ H s):closureFor scope X.env=pure (clOf scope X.env):=by
 have all:∀x ∈ scope.names,x.2=.free->∃c,X.env.cells.lookup x.1=some c:=fun x hx hl=>I.ok.has x.1 (B.fr x hx hl).2
 unfold closureFor clOf
 have key:∀(l:List (Str×NameKind)) (acc:List (Str×Addr)),(∀x ∈ l,x.2=.free->∃c,X.env.cells.lookup x.1=some c) ->
   (forIn l acc fun (x:Str×NameKind) (r:List (Str×Addr))=>(do
    if x.2 == .free then do
     let c <- cellOf X.env x.1
     pure (ForInStep.yield ((x.1,c)::r))
    else pure (ForInStep.yield r):Sem (ForInStep (List (Str×Addr)))))=pure ((((l.filter fun x=>x.2 == .free).map fun x=>(x.1,(X.env.cells.lookup x.1).getD 0)).reverse)++acc):=by
  intro l
  induction l with
  | nil=>intro acc _;rfl
  | cons x l ih=>
   intro acc hl
   rw [List.forIn_cons]
   by_cases hk:(x.2 == NameKind.free)=true
   ·obtain⟨c,hc⟩:=hl x List.mem_cons_self (by simpa using hk)
    rw [if_pos hk,List.filter_cons_of_pos (p:=fun (x:Str×NameKind)=>x.2 == .free) hk,List.map_cons,List.reverse_cons,List.append_assoc]
    have e1:cellOf X.env x.1=pure c:=by unfold cellOf;rw [hc]
    rw [e1,hc]
    show (forIn l ((x.1,c)::acc) _:Sem _)=_
    rw [ih ((x.1,c)::acc) fun y hy=>hl y (List.mem_cons_of_mem _ hy)];rfl
   ·rw [if_neg hk,List.filter_cons_of_neg (p:=fun (x:Str×NameKind)=>x.2 == .free) hk]
    show (forIn l acc _:Sem _)=_
    rw [ih acc fun y hy=>hl y (List.mem_cons_of_mem _ hy)]
 have k:=key scope.names [] all
 rw [List.append_nil] at k
 show (Bind.bind (forIn scope.names [] fun (x:Str×NameKind) (r:List (Str×Addr))=>(do
    if x.2 == .free then do
     let c <- cellOf X.env x.1
     pure (ForInStep.yield ((x.1,c)::r))
    else pure (ForInStep.yield r):Sem (ForInStep (List (Str×Addr))))) fun cs=>pure cs:Sem (List (Str×Addr)))=_
 rw [k];rfl
end Ev
namespace Ev
open PySem PySem.Spec PyProof.Rows L2
theorem xComp' {X:Cx}{scope:Scope}{N':List Str}{ts:List Nat}{n:Nat}{elt iter tg:Expr}{ifs:List Expr}{pos:Pos}{fi:EVs}{g:TGv}{fc:EB}{fe:EV} (B:BlockOk X scope N' ts n) (hcalm:X.calm=true)
  (hi:PI X tg iter (tI X.K fi)) (hg:∀s H C fp,PG (inn X scope N' s H C fp) tg (gT X.K g)) (hc:∀s H C fp,PIfs (inn X scope N' s H C fp) ifs fc) (he:∀s H C fp,PE (inn X scope N' s H C fp) elt (tV X.K fe))
  (hs:∀x,foldedSetIterable iter X.env x=pure x) :
  PE X (.ListComp elt [⟨tg,iter,ifs,0⟩] scope pos) (tV X.K (vComp fi ts n g fc fe)):=fun pins s σ H Q I q=>
 xComp B hcalm hi hg hc he (closure_ok B I) hs pins s σ H Q I q
theorem zComp' {X:Cx}{scope:Scope}{N':List Str}{ts:List Nat}{n:Nat} (i:Nat) {x:Str}{px spos:Pos}{elt iter tg:Expr}{ifs:List Expr}{pos:Pos}{fi:EVs}{g:TGv}{fc:EB}{fe:EV} (hN:X.N.Nodup) (B:BlockOk X scope N' ts n) (hcalm:X.calm=true)
  (hi:PI X tg iter (tI X.K fi)) (hg:∀s H C fp,PG (inn X scope N' s H C fp) tg (gT X.K g)) (hc:∀s H C fp,PIfs (inn X scope N' s H C fp) ifs fc) (he:∀s H C fp,PE (inn X scope N' s H C fp) elt (tV X.K fe))
  (hsw:swapsWith (.ListComp elt [⟨tg,iter,ifs,0⟩] scope pos) (some (.Name x px)) spos.line X.env=pure true)
  (hs:∀x,foldedSetIterable iter X.env x=pure x) (hix:X.N[i]? = some x) (hx:L2.Loc X.env.scope x)
  (hf:X.fn x=true\/X.env.scope.names.lookup x=some .local) :
  PS X (.Assign [.Name x px] (.ListComp elt [⟨tg,iter,ifs,0⟩] scope pos) spos) (tSt X.K (sSet i (eV (vComp fi ts n g fc fe)))):=fun pins s σ H D I q=>
 zComp i hN B hcalm hi hg hc he (closure_ok B I) hsw hs hix hx hf pins s σ H D I q
noncomputable def AllGood (n:Nat):Prop:=∀(Γ:Cn) (X:Cx),XOk Γ X->∀e,Good X e (tr Γ n e)
theorem XOk.own {Γ:Cn}{X:Cx} (h:XOk Γ X) (o:List Str):XOk ⟨Γ.N,o,Γ.deep,Γ.refs,Γ.ks,Γ.F,Γ.G,Γ.A,Γ.M,Γ.I⟩ X:=⟨h.hN,h.nd,h.ks,h.kd,h.calm,h.hu,h.fns,h.blt,h.glb,h.attrs,h.meths,h.mks⟩
theorem comp_pieces {Γ:Cn}{X:Cx} (h:XOk Γ X) {n:Nat} (G:AllGood n) {elt tg iter:Expr}{ifs:List Expr}{scope:Scope}{f:EV} (q:trCompP Γ (fun Γ' x=>tr Γ' n x) elt tg iter ifs scope=some f) :
  ∃N' ts m fi g fc fe,BlockOk X scope N' ts m/\PI X tg iter (tI X.K fi)/\(∀s H C fp,PG (inn X scope N' s H C fp) tg (gT X.K g))/\(∀s H C fp,PIfs (inn X scope N' s H C fp) ifs fc)/\(∀s H C fp,PE (inn X scope N' s H C fp) elt (tV X.K fe)) /\
   (∀x,foldedSetIterable iter X.env x=pure x)/\f=vComp fi ts m g fc fe:=by
 unfold trCompP at q
 generalize hN':Γ.N++cNew Γ.N (nmsOf tg)=N' at q
 generalize hts:cTs Γ.N (nmsOf tg)=ts at q
 generalize hm:(cNew Γ.N (nmsOf tg)).length=m at q
 split at q
 ·rename_i hc
  rw [Bool.and_eq_true] at hc
  obtain⟨it,q1,q⟩:=bind_eq q
  obtain⟨gg,q2,q⟩:=bind_eq q
  obtain⟨c,q3,q⟩:=bind_eq q
  obtain⟨e,q4,rfl⟩:=map_eq q
  have B:BlockOk X scope N' ts m:=block_ok h hc.1
  have nd:N'.Nodup:=of_decide_eq_true hc.2
  have hin:=fun s H C fp=>(h.inn B nd s H C fp).own (Γ.own.filter (fun x=>!(nmsOf tg).contains x))
  refine⟨N',ts,m,it,gg,c,e,B,it_ok h (G Γ X h) q1,fun s H C fp=>?_,fun s H C fp=>?_,fun s H C fp=>?_,fun x=>it_noset q1 _ x,rfl⟩
  ·exact tg_ok h.calm rfl nd (fun x hx=>⟨.inl ((hin s H C fp).local hx),.inr ((hin s H C fp).local hx)⟩) q2
  ·cases ifs with
   | nil=>cases q3;exact PIfs.none
   | cons a r=>
    cases r with
    | nil=>exact PIfs.one ((G _ _ (hin s H C fp) a).b c q3)
    | cons _ _=>cases q3
  ·exact (G _ _ (hin s H C fp) elt).v e q4
 ·cases q
theorem trTk_of {N:List Str}{ks:List (Str×NameKind)}{kinds:List NameKind}{e:Expr}{k:Nat} (q:trTk N ks kinds e=some k):∃x p,e=.Name x p/\kindB ks x kinds=true/\ixOf N x=some k:=by
 unfold trTk at q
 split at q
 ·split at q
  ·exact⟨_,_,rfl,by assumption,q⟩
  ·cases q
 ·cases q
theorem comp_use {Γ:Cn}{X:Cx} (h:XOk Γ X) {n:Nat} (G:AllGood n) {elt tg iter:Expr}{ifs:List Expr}{scope:Scope}{pos:Pos}{f:EV} (q:trComp Γ (fun Γ' x=>tr Γ' n x) elt tg iter ifs scope=some f) :
  PE X (.ListComp elt [⟨tg,iter,ifs,0⟩] scope pos) (tV X.K f)/\∀(i:Nat) {x:Str}{px spos:Pos},X.N.Nodup->swapsWith (.ListComp elt [⟨tg,iter,ifs,0⟩] scope pos) (some (.Name x px)) spos.line X.env=pure true->X.N[i]? = some x->L2.Loc X.env.scope x->(X.fn x=true\/X.env.scope.names.lookup x=some .local) ->
   PS X (.Assign [.Name x px] (.ListComp elt [⟨tg,iter,ifs,0⟩] scope pos) spos) (tSt X.K (sSet i (eV f))):=by
 unfold trComp at q
 split at q
 ·rename_i f' q'
  cases q
  unfold trCompD at q'
  generalize hN':Γ.N++cNew Γ.N (nmsOf tg)=N' at q'
  generalize hts:cTs Γ.N (nmsOf tg)=ts at q'
  generalize hm:(cNew Γ.N (nmsOf tg)).length=m at q'
  split at q'
  ·rename_i hc
   rw [Bool.and_eq_true] at hc
   obtain⟨fo,q1,q'⟩:=bind_eq q'
   obtain⟨k,q2,q'⟩:=bind_eq q'
   obtain⟨c,q3,q'⟩:=bind_eq q'
   obtain⟨e,q4,rfl⟩:=map_eq q'
   have B:BlockOk X scope N' ts m:=block_ok h hc.1
   have nd:N'.Nodup:=of_decide_eq_true hc.2
   have hin:=fun s H C fp=>(h.inn B nd s H C fp).own (nmsOf tg)
   unfold ownIt at q1
   split at q1
   ·rename_i xn xp
    split at q1
    ·have hi:PI X tg (.Name xn xp) (tIO X.K false fo):=iO ((G Γ X h _).e fo q1)
     obtain⟨tn,tp,rfl,hk,q2⟩:=trTk_of q2
     ··
       have hg:∀s H C fp,PG (inn X scope N' s H C fp) (.Name tn tp) (gTD X.K k):=fun s H C fp=>gNameD (X:=inn X scope N' s H C fp) k nd (ixOf_get q2) (.inl ((hin s H C fp).local hk)) (.inr ((hin s H C fp).local hk))
       have hcs:∀s H C fp,PIfs (inn X scope N' s H C fp) ifs c:=fun s H C fp=>by
        cases ifs with
        | nil=>cases q3;exact PIfs.none
        | cons a r=>
         cases r with
         | nil=>exact PIfs.one ((G _ _ (hin s H C fp) a).b c q3)
         | cons _ _=>cases q3
       have hel:∀s H C fp,PE (inn X scope N' s H C fp) elt (tV X.K e):=fun s H C fp=>(G _ _ (hin s H C fp) elt).v e q4
       exact⟨fun pins s σ H Q I qq=>xCompD B h.calm hi hg hcs hel (closure_ok B I) (fun _=>rfl) pins s σ H Q I qq,
        fun i x px spos hN sw hix hx hf pins s σ H D I qq=>zCompD i hN B h.calm hi hg hcs hel (closure_ok B I) sw (fun _=>rfl) hix hx hf pins s σ H D I qq⟩
    ·cases q1
   ·cases q1
  ·cases q'
 ·obtain⟨N',ts,m,fi,gg,fc,fe,B,p1,p2,p3,p4,p6,rfl⟩:=comp_pieces h G q
  exact⟨xComp' B h.calm p1 p2 p3 p4 p6,fun i x px spos hN sw hix hx hf=>zComp' i hN B h.calm p1 p2 p3 p4 sw p6 hix hx hf⟩
theorem attrBase_own {o:Expr}{x:Str}{env:Env}{Γ:Cn}{n:Nat} (ho:isOwn Γ n o=true) (hx:x≠("__class__":Str)):attributeBase o x env (eval o env)=eval o env:=by
 cases n with
 | zero=>cases ho
 | succ n=>
  cases o <;> first | (cases ho;done) | rfl | skip
theorem mth_of {Γ:Cn}{o:Expr}{m name:Str}{ap cp:Pos} (h:mth Γ o m name ap cp=true):m=name/\isOwn Γ 4 o=true/\(ap.endLine == cp.line)=true:=by
 unfold mth at h
 simp only [Bool.and_eq_true] at h
 exact⟨of_decide_eq_true h.1.1,h.1.2,h.2⟩
theorem tr_ok:∀n,AllGood n
 | 0=>fun Γ X h e=>Good.no
 | n+1=>by
  have G:=tr_ok n
  intro Γ X h e
  have g:=G Γ X h
  unfold tr
  split
  ·exact .ofV (fun f q=>by cases q;exact xInt) fun _ _=>rfl
  ·exact .ofV (fun f q=>by cases q;exact xBl) fun _ _=>rfl
  ·exact .ofV (fun f q=>by cases q;exact xNon) fun _ _=>rfl
  ·exact .ofV (fun f q=>by cases q;exact xStr) fun _ _=>rfl
  ·split
   ·rename_i x p hc
    rw [Bool.and_eq_true] at hc
    refine .ofE (fun f q=>?_) fun _ _=>rfl
    obtain⟨i,q1,rfl⟩:=map_eq q
    exact xVar i (h.get q1) (h.vis hc.1) (okName_of hc.2).1 (okName_of hc.2).2
   ·split
    ·rename_i hc
     rw [Bool.and_eq_true] at hc
     refine .ofV (fun f q=>?_) fun _ _=>rfl
     obtain⟨v,q1,q⟩:=bind_eq q
     split at q
     ·cases q
     ·rename_i hd
      cases q
      exact xGlob (h.gl hc.1) ((h.glb _ v q1).1 (by simpa using hd)) (okName_of hc.2).1
    ·exact .no
  ·refine .ofV (fun f q=>?_) fun _ _=>rfl
   obtain⟨o,q1,q⟩:=bind_eq q
   obtain⟨x,q2,q⟩:=bind_eq q
   obtain⟨y,q3,rfl⟩:=map_eq q
   exact xOp (bop_ok h q1) ((g _).v x q2) ((g _).v y q3)
  ·refine .ofV (fun f q=>?_) fun _ _=>rfl
   obtain⟨x,q1,rfl⟩:=map_eq q
   exact xNeg ((g _).v x q1)
  ·refine .ofB (fun f q=>?_) fun f q=>?_
   ·obtain⟨x,q1,rfl⟩:=map_eq q
    exact yNot ((g _).b x q1)
   ·obtain⟨x,q1,rfl⟩:=map_eq q
    exact xNot ((g _).w x q1)
  ·exact .ofB (fun f q=>(wFold_pw (fun e _=>g e) q).pt) fun f q=>wFold_pe (fun e _=>g e) q
  ·refine .ofC (fun f q=>?_) fun f q=>?_
   ·split at q
    ·rename_i g' q1
     obtain⟨x,q2,q⟩:=bind_eq q
     obtain⟨y,q3,rfl⟩:=map_eq q
     exact xCmp (cop_ok q1) ((g _).v x q2) ((g _).v y q3) (cop_mark _ q1)
    ·obtain⟨o,q1,q⟩:=bind_eq q
     obtain⟨x,q2,q⟩:=bind_eq q
     obtain⟨y,q3,rfl⟩:=map_eq q
     exact xCmpE (cop2_ok h q1) ((g _).e x q2) ((g _).e y q3) (mark_of (by rw [q3];rfl))
   ·split at q
    ·rename_i g' q1
     obtain⟨x,q2,q⟩:=bind_eq q
     obtain⟨y,q3,rfl⟩:=map_eq q
     exact yCmp (cop_ok q1) ((g _).v x q2) ((g _).v y q3) (cop_mark _ q1)
    ·obtain⟨o,q1,q⟩:=bind_eq q
     obtain⟨x,q2,q⟩:=bind_eq q
     obtain⟨y,q3,rfl⟩:=map_eq q
     exact yCmpE (cop2_ok h q1) ((g _).e x q2) ((g _).e y q3) (mark_of (by rw [q3];rfl))
  ·refine .ofC (fun f q=>?_) fun f q=>?_
   ·obtain⟨o,q1,q⟩:=bind_eq q
    obtain⟨o',q2,q⟩:=bind_eq q
    obtain⟨x,q3,q⟩:=bind_eq q
    obtain⟨y,q4,q⟩:=bind_eq q
    obtain⟨z,q5,rfl⟩:=map_eq q
    exact xChain (cop_ok q1) (cop_ok q2) ((g _).v x q3) ((g _).v y q4) ((g _).v z q5) (marks_of (by rw [q5];rfl))
   ·obtain⟨o,q1,q⟩:=bind_eq q
    obtain⟨o',q2,q⟩:=bind_eq q
    obtain⟨x,q3,q⟩:=bind_eq q
    obtain⟨y,q4,q⟩:=bind_eq q
    obtain⟨z,q5,rfl⟩:=map_eq q
    exact yChain (cop_ok q1) (cop_ok q2) ((g _).v x q3) ((g _).v y q4) ((g _).v z q5) (marks_of (by rw [q5];rfl))
  ·rename_i c a b p
   have hv:∀f,((tr Γ n c).b.bind fun q=>(tr Γ n a).v.bind fun x=>(tr Γ n b).v.map fun y=>vIf q x y)=some f->PE X (.IfExp c a b p) (tV X.K f):=fun f q=>by
    obtain⟨o,q1,q⟩:=bind_eq q
    obtain⟨x,q2,q⟩:=bind_eq q
    obtain⟨y,q3,rfl⟩:=map_eq q
    exact xIf ((g _).b o q1) ((g _).v x q2) ((g _).v y q3)
   refine⟨hv,fun f q=>?_,fun f q=>(by cases q),fun f q=>?_⟩
   ·obtain⟨x,q1,rfl⟩:=map_eq (show Option.map eV _=some f from q)
    exact xEV (hv _ q1)
   ·obtain⟨x,q1,rfl⟩:=map_eq (show Option.map bV _=some f from q)
    exact xBool (hv _ q1)
  ·refine .ofV (fun f q=>?_) fun _ _=>rfl
   obtain⟨x,q1,rfl⟩:=map_eq q
   exact xTup (trAs_ok (fun e _=>g e) q1).1
  ·refine .ofV (fun f q=>?_) fun _ _=>rfl
   obtain⟨x,q1,rfl⟩:=map_eq q
   exact xLst (trAs_ok (fun e _=>g e) q1).1
  ·refine .ofV (fun f q=>?_) fun _ _=>rfl
   obtain⟨x,q1,q⟩:=bind_eq q
   obtain⟨y,q2,q⟩:=bind_eq q
   obtain⟨z,q3,rfl⟩:=map_eq q
   exact xSl2 ((g _).v x q1) (trO_ok g q2) (trO_ok g q3)
  ·refine .ofV (fun f q=>?_) fun _ _=>rfl
   obtain⟨x,q1,q⟩:=bind_eq q
   obtain⟨y,q2,q⟩:=bind_eq q
   obtain⟨z,q3,q⟩:=bind_eq q
   obtain⟨c,q4,rfl⟩:=map_eq q
   exact xSl3 ((g _).v x q1) (trO_ok g q2) (trO_ok g q3) (oSome' ((g _).v c q4))
  ·split
   ·refine .ofE (fun f q=>?_) fun _ _=>rfl
    obtain⟨x,q1,q⟩:=bind_eq q
    obtain⟨y,q2,rfl⟩:=map_eq q
    exact xIxE (by have:=h.hu;omega) ((g _).e x q1) ((g _).v y q2) (plainIx_of (by rw [q2];rfl))
   ·refine .ofV (fun f q=>?_) fun _ _=>rfl
    obtain⟨x,q1,q⟩:=bind_eq q
    obtain⟨y,q2,rfl⟩:=map_eq q
    exact xIx (by have:=h.hu;omega) ((g _).v x q1) ((g _).v y q2) (plainIx_of (by rw [q2];rfl))
  ·rename_i f fp args cp
   split
   ·rename_i hc
    rw [Bool.and_eq_true] at hc
    split
    ·rename_i gf hg
     split
     ·exact .no
     ·rename_i args' hne
      split
      ·refine .ofV (fun f q=>?_) fun _ _=>rfl
       obtain⟨x,q1,rfl⟩:=map_eq q
       obtain⟨a1,a2⟩:=trDs_ok (fun e _=>g e) q1
       cases args with
       | nil=>exact absurd rfl hne
       | cons a as=>exact (callR_ok h hg hc.1 hc.2 a1 a2).1
      ·refine .ofV (fun f q=>?_) fun _ _=>rfl
       obtain⟨x,q1,rfl⟩:=map_eq q
       obtain⟨a1,a2⟩:=trAs_ok (fun e _=>g e) q1
       cases args with
       | nil=>exact absurd rfl hne
       | cons a as=>exact call_ok h hg hc.1 hc.2 a1 a2
    ·split
     ·exact .no
     ·rename_i a
      split
      ·rename_i hl
       subst hl
       split
       ·rename_i b hb
        obtain⟨r,p2,c2,rfl,hr⟩:=setArg_of hb
        refine .ofV (fun f q=>?_) fun _ _=>rfl
        obtain⟨x,q1,rfl⟩:=map_eq q
        obtain⟨rfl,hr⟩:=isGl_of hr
        exact x_lenset h.calm h.hu (h.gl hc.1) (h.blt _ (by decide)) (h.gl hr) (h.blt _ (by decide)) ((g _).v x q1) (noStar_of (.inl (by rw [q1];rfl)) _ _)
       ·refine .ofV (fun f q=>?_) fun _ _=>rfl
        obtain⟨x,q1,rfl⟩:=map_eq q
        exact xLen (h.gl hc.1) (h.blt _ (by decide)) ((g _).e x q1) (noStar_of (.inr (by rw [q1];rfl)) _ _)
      ·refine .ofV (fun f q=>?_) fun _ _=>rfl
       obtain⟨o,q1,q⟩:=bind_eq q
       obtain⟨x,q2,rfl⟩:=map_eq q
       obtain⟨a1,a2⟩:=trAs_ok (es:=[a]) (fun e _=>g e) q2
       exact blt_ok h q1 hc.1 a1 a2
     ·rename_i a t tp
      split
      ·rename_i hl
       subst hl
       split
       ·rename_i ht
        refine .ofV (fun f q=>?_) fun _ _=>rfl
        obtain⟨o,q1,q⟩:=bind_eq q
        obtain⟨x,q2,rfl⟩:=map_eq q
        exact isi_ok h q1 hc.1 ht ((g _).e x q2) (noStar_of (.inr (by rw [q2];rfl)))
       ·exact .no
      ·refine .ofV (fun f q=>?_) fun _ _=>rfl
       obtain⟨o,q1,q⟩:=bind_eq q
       obtain⟨x,q2,rfl⟩:=map_eq q
       obtain⟨a1,a2⟩:=trAs_ok (es:=[a,.Name t tp]) (fun e _=>g e) q2
       exact blt_ok h q1 hc.1 a1 a2
     ·rename_i hne _ _
      refine .ofV (fun f q=>?_) fun _ _=>rfl
      obtain⟨o,q1,q⟩:=bind_eq q
      obtain⟨x,q2,rfl⟩:=map_eq q
      obtain⟨a1,a2⟩:=trAs_ok (fun e _=>g e) q2
      cases args with
      | nil=>exact absurd rfl hne
      | cons a as=>exact blt_ok h q1 hc.1 a1 a2
   ·exact .no
  ·split
   ·rename_i hc
    obtain⟨rfl,h2,h3⟩:=mth_of hc
    refine .ofE (fun f q=>?_) fun _ _=>rfl
    obtain⟨x,q1,q⟩:=bind_eq q
    obtain⟨y,q2,rfl⟩:=map_eq q
    exact xAppend ((g _).e x q1) ((g _).e y q2) (noStar_of (.inr (by rw [q2];rfl)) _ _) (attrBase_own h2 (by decide)) h3
   ·split
    ·rename_i hc
     obtain⟨rfl,h2,h3⟩:=mth_of hc
     refine .ofE (fun f q=>?_) fun _ _=>rfl
     obtain⟨x,q1,q⟩:=bind_eq q
     obtain⟨y,q2,rfl⟩:=map_eq q
     exact xExtend ((g _).e x q1) ((g _).v y q2) (noStar_of (.inl (by rw [q2];rfl)) _ _) (attrBase_own h2 (by decide)) h3
    ·exact .no
  ·split
   ·rename_i hc
    obtain⟨rfl,h2,h3⟩:=mth_of hc
    refine .ofE (fun f q=>?_) fun _ _=>rfl
    obtain⟨x,q1,rfl⟩:=map_eq q
    exact xPop ((g _).e x q1) (attrBase_own h2 (by decide)) h3
   ·exact .no
  ·refine .ofV (fun f q=>?_) fun _ _=>rfl
   exact (comp_use h G q).1
  ·exact .no
theorem trD_star {Γ:Cn}{n k:Nat}{e:Expr}{f:EE} (h:trD Γ n k e=some f):NoStar e:=by
 intro es env
 cases k with
 | zero=>cases h
 | succ k=>
  cases e <;> first | rfl | exact noStar_of (Γ:=Γ) (n:=n) (.inr (by rw [show (tr Γ n (Expr.Starred _ _)).e=some f from h];rfl)) es env
theorem trD_ok {Γ:Cn}{X:Cx} (h:XOk Γ X) (n:Nat):∀(k:Nat) {e:Expr}{f:EE},trD Γ n k e=some f->PE X e (tE X.K f)
 | 0,_,_,q=>by cases q
 | k+1,e,f,q=>by
  have g:=tr_ok n Γ X h
  have all:∀{es:List Expr}{fs:EDs},trDs (es.map fun x=>trD Γ n k x)=some fs->PA X es (tDs X.K fs):=by
   intro es
   induction es with
   | nil=>intro fs q;cases q;exact daNil
   | cons e es ih=>
    intro fs q
    obtain⟨f,q1,q2⟩:=bind_eq q
    obtain⟨r,q3,rfl⟩:=map_eq q2
    have q1:trD Γ n k e=some f:=q1
    exact daCons (trD_ok h n k q1) (ih q3) (trD_star q1 _ _)
  unfold trD at q
  split at q
  ·obtain⟨fs,q1,rfl⟩:=map_eq q
   exact xLstD (all q1)
  ·rename_i f' fp args cp
   split at q
   ·rename_i hc
    simp only [Bool.and_eq_true] at hc
    split at q
    ·rename_i gf hg
     obtain⟨x,q1,rfl⟩:=map_eq q
     obtain⟨a1,a2⟩:=trDs_ok (fun e _=>g e) q1
     cases args with
     | nil=>simp at hc
     | cons a as=>exact (callR_ok h hg hc.1.1 hc.1.2 a1 a2).2
    ·exact (g _).e f q
   ·exact (g _).e f q
  ·exact (g _).e f q
end Ev
namespace Ev
open PySem PySem.Spec PyProof.Rows L2
noncomputable def trSs (T:Stmt->Option ES):List Stmt->Option ES
 | []=>some sNx
 | [s]=>T s
 | s::r=>(T s).bind fun f=>(trSs T r).map fun g=>sSeq f g
noncomputable def isLst:Expr->Option (List Expr)
 | .List es _=>some es
 | _=>none
noncomputable def isComp:Expr->Bool
 | .ListComp ..=>true
 | _=>false
theorem notComp {e:Expr} (h:isComp e=false):∀a b c d,e≠.ListComp a b c d:=fun a b c d z=>by subst z;cases h
noncomputable def forDk (Γ:Cn) (tg iter:Expr):Option Nat:=match iter with
 | .Name x _=>if Γ.deep.contains x=true then trTk Γ.N Γ.ks [.local,.cell] tg else none
 | _=>none
noncomputable def deepApp (Γ:Cn) (o:Expr) (m:Str) (a:Expr) (ap cp:Pos):Bool:=match o,a with
 | .Name x _,.List ..=>Γ.deep.contains x && mth Γ o m "append" ap cp
 | _,_=>false
noncomputable def trS (Γ:Cn):Nat->Stmt->Option ES
 | 0,_=>none
 | n+1,st=>match st with
  | .Assign [.Name x _] value _=>if kindB Γ.ks x [.local,.cell]=true then (ixOf Γ.N x).bind fun i=>if (Γ.deep.contains x && !isComp value)=true then (trD Γ n 5 value).map (sSet i) else match isLst value with
    | some es=>if Γ.own.contains x=true then (trAs (es.map fun y=>(tr Γ n y).v)).map fun a=>sSet i (eLst' a) else (tr Γ n value).e.map (sSet i)
    | none=>(tr Γ n value).e.map (sSet i)
   else none
  | .Assign [.Subscript o i _] value _=>(tr Γ n o).e.bind fun x=>(tr Γ n i).v.bind fun y=>if isComp value=true then none else (tr Γ n value).v.map fun z=>sPutL x y z
  | .Assign [.Tuple es c p] value _=>if (isComp value || isTup value)=true then none else (trTg Γ.N Γ.ks [.local,.cell] (.Tuple es c p)).bind fun g=>(tr Γ n value).v.map fun z=>sUnp g z
  | .Return (some e) _=>(tr Γ n e).e.map sRet
  | .Expr (.Call (.Attribute o m ap) [a] [] cp) _=>if deepApp Γ o m a ap cp=true then (tr Γ n o).e.bind fun x=>(trD Γ n 5 a).map fun y=>sDrop (eAppend x y) else (tr Γ n (.Call (.Attribute o m ap) [a] [] cp)).e.map sDrop
  | .Expr e _=>if isComp e=true then none else (tr Γ n e).e.map sDrop
  | .If c a b _=>(tr Γ n c).b.bind fun q=>(trSs (trS Γ n) a).bind fun x=>(trSs (trS Γ n) b).map fun y=>sIf q x y
  | .For tg iter body [] _=>match forDk Γ tg iter with
   | some k=>(ownIt Γ (fun y=>tr Γ n y) iter).bind fun it=>(trSs (trS Γ n) body).map fun b=>sForD it k b
   | none=>(trTg Γ.N Γ.ks [.local,.cell] tg).bind fun g=>(trIt Γ (fun y=>tr Γ n y) tg iter).bind fun it=>(trSs (trS Γ n) body).map fun b=>sFor it g b
  | .While c body [] _=>(tr Γ n c).b.bind fun q=>(trSs (trS Γ n) body).map fun b=>sWhile 1000 q b
  | .Raise ..=>some sNever
  | _=>none
theorem noSwap {value:Expr}{t:Option Expr}{line:Nat}{env:Env} (h:∀a b c d,value≠.ListComp a b c d) (h2:∀a b c d,value≠.SetComp a b c d) (h3:∀a b c d e,value≠.DictComp a b c d e):swapsWith value t line env=pure false:=by
 cases value <;> first | rfl | exact absurd rfl (h _ _ _ _) | exact absurd rfl (h2 _ _ _ _) | exact absurd rfl (h3 _ _ _ _ _)
theorem noSet_of {Γ:Cn}{n:Nat}{e:Expr} (h:(tr Γ n e).e.isSome=true):(∀a b c d,e≠.SetComp a b c d)/\∀a b c d f,e≠.DictComp a b c d f:=by
 cases n with
 | zero=>cases h
 | succ n=>exact⟨fun a b c d z=>(by subst z;cases h),fun a b c d f z=>(by subst z;cases h)⟩
theorem v_e {Γ:Cn}{n:Nat}{e:Expr}{f:EV} (h:(tr Γ n e).v=some f) (hl:∀a b c d,e≠.ListComp a b c d):(∀a b c d,e≠.SetComp a b c d)/\∀a b c d g,e≠.DictComp a b c d g:=by
 cases n with
 | zero=>cases h
 | succ n=>exact⟨fun a b c d z=>(by subst z;cases h),fun a b c d f z=>(by subst z;cases h)⟩
theorem trD_e {Γ:Cn}{n k:Nat}{e:Expr}{f:EE} (h:trD Γ n k e=some f):(∀a b c d,e≠.SetComp a b c d)/\∀a b c d g,e≠.DictComp a b c d g:=by
 cases k with
 | zero=>cases h
 | succ k=>
  cases n with
  | zero=>exact⟨fun a b c d z=>(by subst z;cases h),fun a b c d f z=>(by subst z;cases h)⟩
  | succ n=>exact⟨fun a b c d z=>(by subst z;cases h),fun a b c d f z=>(by subst z;cases h)⟩
theorem plainSet_of {Γ:Cn}{n:Nat}{e:Expr} (h:(tr Γ n e).v.isSome=true):PlainSet e:=by
 intro o pos env v
 cases n with
 | zero=>cases h
 | succ n=>
  cases e <;> first | rfl | cases h
theorem noStores {es:List Expr}{c:Nat}{p:Pos}{value:Expr}{env:Env} (h:isTup value=false):swappedStores [.Tuple es c p] value env=pure none:=by
 cases value <;> first | rfl | cases h
theorem tr_comp {Γ:Cn}{n:Nat}{elt:Expr}{gs:List Comprehension}{scope:Scope}{pos:Pos}{f:EE} (h:(tr Γ n (.ListComp elt gs scope pos)).e=some f) :
    ∃k tg iter ifs f',n=k+1/\gs=[⟨tg,iter,ifs,0⟩]/\trComp Γ (fun Γ' x=>tr Γ' k x) elt tg iter ifs scope=some f'/\f=eV f':=by
  cases n with
  | zero=>cases h
  | succ n=>
    unfold tr at h
    split at h
    all_goals first
      | (rename_i hh;cases hh;done)
      | (rename_i hh;cases hh
         obtain⟨x,q1,rfl⟩:=map_eq (show Option.map eV _=some f from h)
         exact⟨n,_,_,_,x,rfl,rfl,q1,rfl⟩)
      | (cases h;done)
theorem trSs_ok {X:Cx}{T:Stmt->Option ES} (h:∀st f,T st=some f->PS X st (tSt X.K f)):∀{sts:List Stmt}{f:ES},trSs T sts=some f->PSs X sts (tSt X.K f)
 | [],f,q=>by cases q;exact zNil
 | [s],f,q=>zOne (h s f q)
 | s::t::r,f,q=>by
  obtain⟨x,q1,q⟩:=bind_eq q
  obtain⟨y,q2,rfl⟩:=map_eq q
  exact zCons (h s x q1) (trSs_ok h q2)
theorem trS_ok {Γ:Cn}{X:Cx} (h:XOk Γ X) (hfn:∀x,X.fn x=true) (hp:PassesOwn (model X.prog X.w) X.A X.env X.xe) (hx:∀e s,X.xe e s->False):∀n (st:Stmt) (f:ES),trS Γ n st=some f->PS X st (tSt X.K f)
 | 0,st,f,q=>by cases q
 | n+1,st,f,q=>by
  have ih:=trS_ok h hfn hp hx n
  have g:=tr_ok n Γ X h
  unfold trS at q
  split at q
  ·rename_i x px value sp
   split at q
   ·rename_i hk
    obtain⟨i,qi,q⟩:=bind_eq q
    split at q
    ·rename_i hd
     rw [Bool.and_eq_true] at hd
     obtain⟨fe,q1,rfl⟩:=map_eq q
     obtain⟨n2,n3⟩:=trD_e q1
     exact zSet i h.nd (trD_ok h n 5 q1) (h.get qi) (h.loc hk) (noSwap (notComp (by simpa using hd.2)) n2 n3) (.inl (hfn x))
    have plain:(tr Γ n value).e.map (sSet i)=some f->PS X (.Assign [.Name x px] value sp) (tSt X.K f):=fun q=>by
     obtain⟨fe,q1,rfl⟩:=map_eq q
     by_cases hl:∃a b c d,value=.ListComp a b c d
     ·obtain⟨a,b,c,d,rfl⟩:=hl
      obtain⟨k,tg,iter,ifs,f',rfl,rfl,q2,rfl⟩:=tr_comp q1
      have cu:=comp_use (pos:=d) h (tr_ok k) q2
      have sw:swapsWith (.ListComp a [⟨tg,iter,ifs,0⟩] c d) (some (.Name x px)) sp.line X.env=pure (X.env.blockKind == .function && X.env.kindOf x == some .local && px.line == (Expr.ListComp a [⟨tg,iter,ifs,0⟩] c d).pos.line
       && !(c.names.any fun (n,k)=>n == x && (k == .local || k == .cell))):=rfl
      cases hb:(X.env.blockKind == .function && X.env.kindOf x == some .local && px.line == (Expr.ListComp a [⟨tg,iter,ifs,0⟩] c d).pos.line && !(c.names.any fun (n,k)=>n == x && (k == .local || k == .cell))) with
      | true=>
       rw [hb] at sw
       exact cu.2 i h.nd sw (h.get qi) (h.loc hk) (.inl (hfn x))
      | false=>
       rw [hb] at sw
       exact zSet i h.nd (xEV cu.1) (h.get qi) (h.loc hk) sw (.inl (hfn x))
     ·have n1:∀a b c d,value≠.ListComp a b c d:=fun a b c d z=>hl ⟨a,b,c,d,z⟩
      obtain⟨n2,n3⟩:=noSet_of (show (tr Γ n value).e.isSome=true by rw [q1];rfl)
      exact zSet i h.nd ((g value).e fe q1) (h.get qi) (h.loc hk) (noSwap n1 n2 n3) (.inl (hfn x))
    split at q
    ·rename_i es hes
     split at q
     ·obtain⟨a,q1,rfl⟩:=map_eq q
      unfold isLst at hes
      split at hes
      ·cases hes
       exact zSet i h.nd (xLstE (trAs_ok (fun e _=>g e) q1).1) (h.get qi) (h.loc hk) rfl (.inl (hfn x))
      ·cases hes
     ·exact plain q
    ·exact plain q
   ·cases q
  ·rename_i o i ip value sp
   obtain⟨x,q1,q⟩:=bind_eq q
   obtain⟨y,q2,q⟩:=bind_eq q
   split at q
   ·cases q
   ·rename_i hne
    obtain⟨z,q3,rfl⟩:=map_eq q
    have n1:∀a b c d,value≠.ListComp a b c d:=notComp (by simpa using hne)
    obtain⟨n2,n3⟩:=v_e q3 n1
    exact zPutL ((g o).e x q1) ((g i).v y q2) ((g value).v z q3) (noSwap n1 n2 n3) rfl (plainSet_of (by rw [q2];rfl))
  ·rename_i es c p value sp
   split at q
   ·cases q
   ·rename_i hne
    rw [Bool.or_eq_true,not_or] at hne
    obtain⟨gg,q1,q⟩:=bind_eq q
    obtain⟨z,q3,rfl⟩:=map_eq q
    have n1:∀a b c d,value≠.ListComp a b c d:=notComp (by simpa using hne.1)
    obtain⟨n2,n3⟩:=v_e q3 n1
    exact zUnp ((g value).v z q3) (tg_ok h.calm h.hN h.nd (fun x hx=>⟨h.loc hx,.inl (hfn x)⟩) q1) (show swapsWith value (some (.Tuple es c p)) sp.line X.env=pure false from noSwap n1 n2 n3) (noStores (by simpa using hne.2)) rfl
  ·obtain⟨x,q1,rfl⟩:=map_eq q
   exact zRet ((g _).e x q1)
  ·split at q
   ·rename_i hd
    obtain⟨x,q1,q⟩:=bind_eq q
    obtain⟨y,q2,rfl⟩:=map_eq q
    unfold deepApp at hd
    split at hd
    ·rw [Bool.and_eq_true] at hd
     obtain⟨rfl,h2,h3⟩:=mth_of hd.2
     exact zDrop (xAppend ((g _).e x q1) (trD_ok h n 5 q2) (trD_star q2 _ _) (attrBase_own h2 (by decide)) h3) rfl
    ·cases hd
   ·obtain⟨x,q1,rfl⟩:=map_eq q
    exact zDrop ((g _).e x q1) rfl
  ·split at q
   ·cases q
   ·rename_i hne
    obtain⟨x,q1,rfl⟩:=map_eq q
    obtain⟨n2,n3⟩:=noSet_of (by rw [q1];rfl)
    exact zDrop ((g _).e x q1) (noSwap (notComp (by simpa using hne)) n2 n3)
  ·obtain⟨c,q1,q⟩:=bind_eq q
   obtain⟨x,q2,q⟩:=bind_eq q
   obtain⟨y,q3,rfl⟩:=map_eq q
   exact zIf ((g _).b c q1) (trSs_ok ih q2) (trSs_ok ih q3)
  ·split at q
   ·rename_i k hk
    obtain⟨it,q1,q⟩:=bind_eq q
    obtain⟨b,q2,rfl⟩:=map_eq q
    unfold forDk at hk
    split at hk
    ·rename_i xn xp
     split at hk
     ·obtain⟨tn,tp,rfl,hkk,hk⟩:=trTk_of hk
      unfold ownIt at q1
      dsimp only at q1
      split at q1
      ·exact zForD hp h.calm (iO ((g _).e it q1)) (gNameD k h.nd (h.get hk) (h.loc hkk) (.inl (hfn _))) (trSs_ok ih q2) fun _=>rfl
      ·cases q1
     ·cases hk
    ·cases hk
   obtain⟨gg,q0,q⟩:=bind_eq q
   obtain⟨it,q1,q⟩:=bind_eq q
   obtain⟨b,q2,rfl⟩:=map_eq q
   exact zFor hp h.calm (it_ok h g q1) (tg_ok h.calm h.hN h.nd (fun x hx=>⟨h.loc hx,.inl (hfn x)⟩) q0) (trSs_ok ih q2) fun x=>it_noset q1 _ x
  ·obtain⟨c,q1,q⟩:=bind_eq q
   obtain⟨b,q2,rfl⟩:=map_eq q
   exact zWhile hp ((g _).b c q1) (trSs_ok ih q2)
  ·cases q;exact zNever
  ·cases q
structure Df where
 name:Str
 short:Str
 cls:Str
 st:Stmt
 N:List Str
 ps:List Str
 own:List Str
 deep:List Str
 refs:List Str
noncomputable abbrev At:=List (Str×List Str)
noncomputable def aT (T:At) (c f:Str):Bool:=T.any fun x=>decide (x.1=c) && x.2.contains f
noncomputable def fT (D:List Df) (ψ:Str->GF) (x:Str):Option GF:=if (D.any fun d=>decide (d.name=x) && d.cls.cps.isEmpty)=true then some (ψ x) else none
noncomputable def isM (c m:Str) (d:Df):Bool:=decide (d.cls=c) && decide (d.short=m) && !d.cls.cps.isEmpty
noncomputable def mT (D:List Df) (ψ:Str->GF) (c m:Str):Option GF:=if m=("__init__":Str) then none else (D.find? (isM c m)).map fun d=>ψ d.name
noncomputable def inT (D:List Df) (ψ:Str->GF) (c:Str):Option GF:=(D.find? (isM c "__init__")).map fun d=>ψ d.name
noncomputable def bodyOf (G:Str->Option P) (T:At) (D:List Df) (ψ:Str->GF) (ι:Str->Option GF) (d:Df):ES:=(trSs (trS ⟨d.N,d.own,d.deep,d.refs,(defScope d.st).names,fT D ψ,G,aT T,mT D ψ,ι⟩ 60) (defBody d.st)).getD sNever
noncomputable def Psi2 (G:Str->Option P) (T:At) (D:List Df):Nat->(Str->GF)×(Str->Option GF)
 | 0=>(fun _ _ _=>none,fun _=>none)
 | n+1=>(fun x=>match D.find? fun d=>decide (d.name=x) with
  | some d=>fnR d.ps.length d.N.length (bodyOf G T D (Psi2 G T D n).1 (Psi2 G T D n).2 d)
  | none=>fun _ _=>none,inT D (Psi2 G T D n).1)
noncomputable def Psi (G:Str->Option P) (T:At) (D:List Df) (n:Nat):Str->GF:=(Psi2 G T D n).1
noncomputable def scB (d:Df):Bool:=decide ((defScope d.st).kind=.function) && !(defScope d.st).isCoroutine && !(defScope d.st).isGenerator && decide d.N.Nodup && decide (d.N.take d.ps.length=d.ps)
 && d.ps.all (fun x=>(defScope d.st).names.lookup x == some .local || (defScope d.st).names.lookup x == some .cell) && (defScope d.st).names.all (fun y=>y.2 != .free)
theorem scB_ok {d:Df} (h:scB d=true):FnScope d.N d.ps (defScope d.st):=by
 unfold scB at h
 simp only [Bool.and_eq_true] at h
 obtain⟨⟨⟨⟨⟨⟨h1,h2⟩,h3⟩,h4⟩,h5⟩,h6⟩,h7⟩:=h
 refine⟨of_decide_eq_true h1,by simpa using h2,by simpa using h3,of_decide_eq_true h4,of_decide_eq_true h5,fun x hx=>?_,fun y hy=>?_⟩
 ·have:=List.all_eq_true.mp h6 x hx
  simpa using this
 ·have:=List.all_eq_true.mp h7 y hy
  simpa using this
structure DOk (K:PySem.W.Frag) (mg:Str->Option Value) (d:Df) (f:Addr) (fd:FuncData):Prop where
 fn:Fun K d.short d.name d.st f fd
 bd:Binds K fd d.ps []
 gl:d.cls.cps.isEmpty=true->mg d.name=some (.ref f)
 cl:d.cls.cps.isEmpty=false->∃C,ClsOf K d.cls C/\mg d.cls=some (.ref C)/\Cls K C/\(d.short=("__init__":Str)->Mk K C f)/\(d.short≠("__init__":Str)->Meth K C d.short f)
structure TOk (w:World) (G:Str->Option P) (T:At) (D:List Df) (K:PySem.W.Frag) (mg:Str->Option Value):Prop where
 fn:∀d ∈ D,∃f fd,DOk K mg d f fd
 sc:D.all scB=true
 un:(D.map (·.name)).Nodup
 z:∀x ∈ bltN,mg x=none
 gl:∀x v,G x=some v->GlobOk2 w K mg x v
 at':AOk K (aT T)
theorem find_nodup:∀{D:List Df}{d:Df},(D.map (·.name)).Nodup->d ∈ D->(D.find? fun d'=>decide (d'.name=d.name))=some d
 | [],_,_,h=>by cases h
 | a::r,d,nd,h=>by
  rw [List.map_cons,List.nodup_cons] at nd
  rcases List.mem_cons.mp h with h | h
  ·subst h;simp
  ·have hne:¬a.name=d.name:=fun z=>nd.1 (by rw [z];exact List.mem_map.mpr ⟨d,h,rfl⟩)
   rw [List.find?_cons_of_neg (by simpa using hne)]
   exact find_nodup nd.2 h
theorem any_name {D:List Df}{x:Str}{ψ:Str->GF}{g:GF} (h:fT D ψ x=some g):∃d ∈ D,d.name=x/\d.cls.cps.isEmpty=true/\g=ψ x:=by
 unfold fT at h
 split at h
 ·rename_i hc
  cases h
  obtain⟨d,hd,e⟩:=List.any_eq_true.mp hc
  rw [Bool.and_eq_true] at e
  exact⟨d,hd,of_decide_eq_true e.1,e.2,rfl⟩
 ·cases h
theorem isM_of {c m:Str}{d:Df} (h:isM c m d=true):d.cls=c/\d.short=m/\d.cls.cps.isEmpty=false:=by
 unfold isM at h
 simp only [Bool.and_eq_true] at h
 exact⟨of_decide_eq_true h.1.1,of_decide_eq_true h.1.2,by simpa using h.2⟩
theorem any_meth {D:List Df}{ψ:Str->GF}{c m:Str}{g:GF} (h:mT D ψ c m=some g):m≠("__init__":Str)/\∃d ∈ D,d.cls=c/\d.short=m/\d.cls.cps.isEmpty=false/\g=ψ d.name:=by
 unfold mT at h
 split at h
 ·cases h
 ·rename_i hm
  obtain⟨d,q1,rfl⟩:=map_eq h
  obtain⟨h1,h2,h3⟩:=isM_of (List.find?_some q1)
  exact⟨hm,d,List.mem_of_find?_eq_some q1,h1,h2,h3,rfl⟩
theorem any_init {D:List Df}{ψ:Str->GF}{c:Str}{g:GF} (h:inT D ψ c=some g):∃d ∈ D,d.cls=c/\d.short=("__init__":Str)/\d.cls.cps.isEmpty=false/\g=ψ d.name:=by
 unfold inT at h
 obtain⟨d,q1,rfl⟩:=map_eq h
 obtain⟨h1,h2,h3⟩:=isM_of (List.find?_some q1)
 exact⟨d,List.mem_of_find?_eq_some q1,h1,h2,h3,rfl⟩
theorem defs_ok {G:Str->Option P}{T:At}{D:List Df}{Pg:Program}{w:World}{K:PySem.W.Frag}{mg:Str->Option Value}{base:Heap} (Tk:TOk w G T D K mg):∀n,(∀d ∈ D,
  ∀f fd,Fun K d.short d.name d.st f fd->FnOk Pg w K mg base CX0 n f fd d.ps (spR K (Psi G T D n d.name))) /\
  ∀c g,(Psi2 G T D n).2 c=some g->∃m,n=m+1/\∃C f fd ps,ClsOf K c C/\mg c=some (.ref C)/\Mk K C f/\FnOk Pg w K mg base CX0 m f fd ps (spR K g)/\Binds K fd ps []
 | 0=>⟨fun d hd f fd hF=>fn_noneR,fun c g h=>by cases h⟩
 | n+1=>by
  have ih:=defs_ok (Pg:=Pg) (w:=w) (base:=base) Tk n
  refine⟨fun d hd f fd hF=>?_,fun c g h=>?_⟩
  ·have e:Psi G T D (n+1) d.name=fnR d.ps.length d.N.length (bodyOf G T D (Psi2 G T D n).1 (Psi2 G T D n).2 d):=by
    show (match D.find? fun d'=>decide (d'.name=d.name) with | some d=>fnR d.ps.length d.N.length (bodyOf G T D (Psi2 G T D n).1 (Psi2 G T D n).2 d) | none=>fun _ _=>none)=_
    rw [find_nodup Tk.un hd]
   rw [e]
   have hsc:=scB_ok (List.all_eq_true.mp Tk.sc d hd)
   refine fn_okR (N:=d.N) hF hsc fun cdv A outer s H E hr=>?_
   unfold bodyOf
   have X:XOk ⟨d.N,d.own,d.deep,d.refs,(defScope d.st).names,fT D (Psi2 G T D n).1,G,aT T,mT D (Psi2 G T D n).1,(Psi2 G T D n).2⟩ (cxOf CX0 Pg w K mg base d.N d.name (defScope d.st) f cdv A outer s H E).nox:={
    hN:=rfl
    nd:=hsc.nd
    ks:=rfl
    kd:=hsc.kind
    calm:=rfl
    hu:=by have:=hr.un;show (A.deeper (envOfC d.name (defScope d.st) s.heap.objs.size f cdv)).units+64 < _;omega
    fns:=fun x g hg=>by
     obtain⟨d',hd',hn,hc,rfl⟩:=any_name hg
     obtain⟨f',fd',h1⟩:=Tk.fn d' hd'
     subst hn
     exact⟨n,f',fd',d'.ps,ih.1 d' hd' f' fd' h1.fn,hr,h1.gl hc,h1.fn.kp,h1.bd⟩
    blt:=Tk.z
    glb:=Tk.gl
    attrs:=Tk.at'
    meths:=fun c m g hg=>by
     obtain⟨hm,d',hd',rfl,rfl,hc,rfl⟩:=any_meth hg
     obtain⟨f',fd',h1⟩:=Tk.fn d' hd'
     obtain⟨C,c1,c2,c3,c4,c5⟩:=h1.cl hc
     exact⟨C,n,f',fd',d'.ps,c1,c3,c5 hm,ih.1 d' hd' f' fd' h1.fn,hr,h1.bd⟩
    mks:=fun c g hg=>by
     obtain⟨m,rfl,C,f',fd',ps,c1,c2,c3,c4,c5⟩:=ih.2 c g hg
     exact⟨C,m,f',fd',ps,c1,c2,c3,c4,hr,c5⟩ }
   cases q:trSs (trS ⟨d.N,d.own,d.deep,d.refs,(defScope d.st).names,fT D (Psi2 G T D n).1,G,aT T,mT D (Psi2 G T D n).1,(Psi2 G T D n).2⟩ 60) (defBody d.st) with
   | none=>exact pss_never.imp' fun D σ H hz=>by obtain⟨F,m,L,S,fl,L',S',r,l,q,k⟩:=hz;cases q
   | some b=>exact trSs_ok (fun st f q=>trS_ok X (fun _=>rfl) PassesOwn.never (fun _ _ z=>z) 60 st f q) q
  ·obtain⟨d,hd,rfl,hs,hc,rfl⟩:=any_init (ψ:=(Psi2 G T D n).1) h
   obtain⟨f,fd,h1⟩:=Tk.fn d hd
   obtain⟨C,c1,c2,c3,c4,c5⟩:=h1.cl hc
   exact⟨n,rfl,C,f,fd,d.ps,c1,c2,c4 hs,ih.1 d hd f fd h1.fn,h1.bd⟩
end Ev
namespace Ev
open PySem PySem.Spec PyProof.Rows L2
theorem ints_rps {K:PySem.W.Frag}{F:Addr->Prop}{H:Hp}:∀ns:List Int,RPs K F H (ns.map .int) (ns.map V.int)
 | []=>rfl
 | n::r=>⟨_,_,rfl,rfl,ints_rps r⟩
theorem law_of {K:PySem.W.Frag}{H:Hp}{a:Addr}{ns:List Int}{g:GF}{E:XK} (hO:Only H) (hS:SqL K H a (ns.map V.int)) (h:pureOf g [.ro (ns.map .int)]=some (.bl true)):spR K g [.ref a] H (fun v _=>v=.bl true) E:=by
 refine spR_of_spV ⟨fun b=>b=a/\H a≠none,[.ro (ns.map .int)],.bl true,fun b hb=>(by rw [hb.1];exact hb.2),⟨_,_,rfl,⟨a,_,rfl,?_,ints_rps ns⟩,rfl⟩,h,fun v F' H' _ r=>r⟩
 rcases hS with hS | hS
 ·rcases hO a with z | ⟨o,xs,z⟩
  ·rcases hS with hS | ⟨o,hS⟩ <;> rw [z] at hS <;> cases hS
  ·rcases hS with hS | ⟨o',hS⟩
   ·rw [z] at hS;cases hS
   ·exact .inl ⟨⟨rfl,by rw [z];exact fun q=>nomatch q⟩,o',hS⟩
 ·exact .inr (.inr hS)
end Ev
namespace Ev
open PySem L2
section
variable (L:Lc) (S:Sto)
@[simp] theorem vC_ev (v:P):vC v L S=some (v,S):=rfl
@[simp] theorem eVar_ev (i:Nat):eVar i L S=match L[i]? with | some (some d)=>some (d,S) | _=>none:=rfl
@[simp] theorem vE_ev (f:EE):vE f L S=bnd (f L S) (toP 9):=rfl
@[simp] theorem eV_ev (f:EV):eV f L S=bnd (f L S) fun v S1=>some (.p v,S1):=rfl
@[simp] theorem vVar_ev (i:Nat):vVar i L S=bnd (eVar i L S) (toP 9):=rfl
@[simp] theorem vOp_ev (g:P->P->Option P) (a b:EV):vOp g a b L S=bnd (a L S) fun x S1=>bnd (b L S1) fun y S2=>(g x y).map fun v=>(v,S2):=rfl
@[simp] theorem vUn_ev (g:P->Option P) (a:EV):vUn g a L S=bnd (a L S) fun x S1=>(g x).map fun v=>(v,S1):=rfl
@[simp] theorem bV_ev (a:EV):bV a L S=bnd (a L S) fun x S1=>match x with | .bl b=>some (b,S1) | _=>none:=rfl
@[simp] theorem bAnd_ev (a b:EB):bAnd a b L S=bnd (a L S) fun c S1=>if c=true then b L S1 else some (false,S1):=rfl
@[simp] theorem bOr_ev (a b:EB):bOr a b L S=bnd (a L S) fun c S1=>if c=true then some (true,S1) else b L S1:=rfl
@[simp] theorem bNot_ev (a:EB):bNot a L S=bnd (a L S) fun c S1=>some (!c,S1):=rfl
@[simp] theorem bYes_ev:bYes L S=some (true,S):=rfl
@[simp] theorem vB_ev (a:EB):vB a L S=bnd (a L S) fun c S1=>some (.bl c,S1):=rfl
@[simp] theorem vIf_ev (c:EB) (a b:EV):vIf c a b L S=bnd (c L S) fun k S1=>if k=true then a L S1 else b L S1:=rfl
@[simp] theorem vsNil_ev:vsNil L S=some ([],S):=rfl
@[simp] theorem vsCons_ev (a:EV) (r:EVs):vsCons a r L S=bnd (a L S) fun x S1=>bnd (r L S1) fun xs S2=>some (x::xs,S2):=rfl
@[simp] theorem vTup_ev (a:EVs):vTup' a L S=bnd (a L S) fun xs S1=>if few xs=true then some (.tup xs,S1) else none:=rfl
@[simp] theorem vLst_ev (a:EVs):vLst' a L S=bnd (a L S) fun xs S1=>if few xs=true then some (.lst xs,S1) else none:=rfl
@[simp] theorem eLst_ev (a:EVs):eLst' a L S=bnd (a L S) fun xs S1=>if few xs=true then some (.ref S1.length,S1++[.lst (xs.map .p)]) else none:=rfl
@[simp] theorem vCall_ev (g:List P->Option P) (a:EVs):vCall g a L S=bnd (a L S) fun xs S1=>(g xs).map fun v=>(v,S1):=rfl
@[simp] theorem vLen_ev (r:EE):vLen r L S=bnd (r L S) fun d S1=>match lenD d S1 with | some n=>some (.int (n:Int),S1) | none=>none:=by
 unfold vLen
 cases r L S with
 | none=>rfl
 | some z=>
  obtain⟨d,S1⟩:=z
  rw [bnd_some,bnd_some]
  cases lenD d S1 <;> rfl
@[simp] theorem vSl2_ev (a:EV) (lo hi:EO):vSl2 a lo hi L S=bnd (a L S) fun x S1=>bnd (lo L S1) fun i S2=>bnd (hi L S2) fun j S3=>(dSl2 x i j).map fun v=>(v,S3):=rfl
@[simp] theorem sNx_ev:sNx L S=some (.nx,L,S):=rfl
@[simp] theorem sSeq_ev (f g:ES):sSeq f g L S=match f L S with | some (.nx,L1,S1)=>g L1 S1 | r=>r:=rfl
@[simp] theorem sSet_ev (i:Nat) (f:EE):sSet i f L S=bnd (f L S) fun d S1=>some (.nx,L.set i (some d),S1):=rfl
@[simp] theorem sRet_ev (f:EE):sRet f L S=bnd (f L S) fun d S1=>some (.rt d,L,S1):=rfl
@[simp] theorem sDrop_ev (f:EE):sDrop f L S=bnd (f L S) fun _ S1=>some (.nx,L,S1):=rfl
@[simp] theorem sIf_ev (c:EB) (a b:ES):sIf c a b L S=bnd (c L S) fun k S1=>if k=true then a L S1 else b L S1:=rfl
@[simp] theorem sFor_ev (it:EVs) (g:TGv) (b:ES):sFor it g b L S=bnd (it L S) fun xs S1=>forGo g b xs L S1:=rfl
@[simp] theorem gSet_ev (i:Nat) (v:P):gSet i v L=some (L.set i (some (.p v))):=rfl
@[simp] theorem itS_ev (a:EV):itS a L S=bnd (a L S) fun v S1=>match v with | .lst xs=>some (xs,S1) | .ro xs=>some (xs,S1) | .tup xs=>some (xs,S1) | .str x=>if (x.cps.all (· < 128))=true then some (signs x,S1) else none | _=>none:=rfl
@[simp] theorem vCompD_ev (fo:EE) (ts:List Nat) (n kx:Nat) (c:EB) (e:EV):vCompD fo ts n kx c e L S=bnd (fo L S) fun d S1=>match d with
 | .ref j=>match S1[j]? with
  | some (.lst _)=>bnd (compD j kx c e 1000 0 (upL ts n L) S1) fun ys S2=>some (.lst ys,S2)
  | _=>none
 | _=>none:=rfl
@[simp] theorem sForD_ev (e:EE) (k:Nat) (b:ES):sForD e k b L S=bnd (e L S) fun d S1=>match d with
 | .ref j=>match S1[j]? with
  | some (.lst _)=>forD j k b 1000 0 L S1
  | _=>none
 | _=>none:=rfl
@[simp] theorem vLenSet_ev (a:EV):vLenSet a L S=bnd (a L S) fun v S1=>match v with | .lst xs=>(setN xs).map fun n=>(P.int (n:Int),S1) | _=>none:=by
 unfold vLenSet
 rfl
@[simp] theorem vSl3_ev (a:EV) (lo hi st:EO):vSl3 a lo hi st L S=bnd (a L S) fun x S1=>bnd (lo L S1) fun i S2=>bnd (hi L S2) fun j S3=>bnd (st L S3) fun c S4=>match x,c with
 | .lst xs,some c=>if c=0 then none else some (.lst (pickL xs i j (some c)),S4)
 | _,_=>none:=rfl
@[simp] theorem eIx_ev (r:EE) (k:EV):eIx r k L S=bnd (r L S) fun d S1=>bnd (k L S1) fun y S2=>match d with
 | .p v=>(dIx v y).map fun z=>(.p z,S2)
 | .ref i=>match S2[i]? with
  | some (.lst ds)=>(match y with
   | .int j=>(L2.atI ds j).map fun z=>(z,S2)
   | _=>none)
  | some (.fz v)=>(dIx v y).map fun z=>(.p z,S2)
  | _=>none:=rfl
@[simp] theorem ePop_ev (r:EE):ePop r L S=bnd (r L S) fun d S1=>match ownL d S1 with
 | some (i,ds)=>match ds[ds.length-1]? with
  | some x=>some (x,S1.set i (.lst ds.dropLast))
  | none=>none
 | none=>none:=rfl
@[simp] theorem eAppend_ev (r a:EE):eAppend r a L S=bnd (r L S) fun d S1=>match ownL d S1 with
 | none=>none
 | some _=>bnd (a L S1) fun x S2=>match ownL d S2 with
  | some (i,ds)=>if few ds=true then some (.p .non,S2.set i (.lst (ds++[x]))) else none
  | none=>none:=rfl
end
@[simp] theorem few_ev {α:Type} (xs:List α):(few xs=true)=(xs.length≤1000000):=by unfold few;simp
@[simp] theorem capN_ev (n:Nat):(capN n=true)=(n≤1000000):=by unfold capN;simp
theorem atI_nat' {α:Type}{xs:List α}{i:Int}{x:α} (h0:0≤i) (h:xs[i.toNat]? = some x):L2.atI xs i=some x:=by
 have hl:=(List.getElem?_eq_some_iff.mp h).1
 unfold L2.atI L2.ixN
 rw [if_pos h0,if_pos (by omega)]
 exact h
@[simp] theorem atI_zero {α:Type} (x:α) (xs:List α):L2.atI (x::xs) 0=some x:=atI_nat' (by omega) rfl
@[simp] theorem atI_one {α:Type} (x y:α) (xs:List α):L2.atI (x::y::xs) 1=some y:=atI_nat' (by omega) rfl
@[simp] theorem atI_two {α:Type} (x y z:α) (xs:List α):L2.atI (x::y::z::xs) 2=some z:=atI_nat' (by omega) rfl
@[simp] theorem atI_three {α:Type} (x y z w:α) (xs:List α):L2.atI (x::y::z::w::xs) 3=some w:=atI_nat' (by omega) rfl
@[simp] theorem dIx_tup (xs:List P) (i:Int):dIx (.tup xs) (.int i)=L2.atI xs i:=rfl
@[simp] theorem dIx_lst (xs:List P) (i:Int):dIx (.lst xs) (.int i)=L2.atI xs i:=rfl
@[simp] theorem dIx_ro (xs:List P) (i:Int):dIx (.ro xs) (.int i)=L2.atI xs i:=rfl
@[simp] theorem dIx_dct (ks:List Key) (vs:List P) (x:Str):dIx (.dct ks vs) (.str x)=dLook (.inr x) ks vs:=rfl
@[simp] theorem dEqD_int (i j:Int):dEqD (.int i) (.int j)=some (.bl (decide (i=j))):=rfl
@[simp] theorem dEqD_str (i j:Str):dEqD (.str i) (.str j)=some (.bl (decide (i=j))):=rfl
@[simp] theorem dEqD_bl (i j:Bool):dEqD (.bl i) (.bl j)=some (.bl (decide (i=j))):=rfl
@[simp] theorem dNe_int (i j:Int):dNe (.int i) (.int j)=some (.bl (!decide (i=j))):=rfl
@[simp] theorem dNe_str (i j:Str):dNe (.str i) (.str j)=some (.bl (!decide (i=j))):=rfl
@[simp] theorem dNe_bl (i j:Bool):dNe (.bl i) (.bl j)=some (.bl (!decide (i=j))):=rfl
@[simp] theorem dAdd_int (i j:Int):dAdd (.int i) (.int j)=some (.int (i+j)):=rfl
@[simp] theorem dMul_int (i j:Int):dMul (.int i) (.int j)=if mulOk i j=true then some (.int (i * j)) else none:=rfl
@[simp] theorem dNeg_int (i:Int):dNeg (.int i)=some (.int (-i)):=rfl
theorem pureOf_some {g:GF}{ps:List P}{v:P}{S:Sto} (h:g (ps.map .p) []=some (.p v,S)):pureOf g ps=some v:=by
 unfold pureOf;rw [h];simp
theorem pureOf_fn (np nn:Nat) (b:ES) (ps:List P):pureOf (fnR np nn b) ps=if ps.length=np then match b (ps.map (fun p=>some (.p p))++List.replicate (nn-ps.length) none) [] with
 | some (.rt d,_,S)=>(toP 9 d S).map (·.1)
 | some (.nx,_,_)=>some .non
 | _=>none else none:=by
 unfold pureOf fnR
 rw [List.length_map,List.map_map]
 by_cases h:ps.length=np
 ·rw [if_pos h,if_pos h]
  show (match (match b (ps.map (fun p=>some (D.p p))++List.replicate (nn-ps.length) none) [] with
   | some (.rt d,_,S')=>some (d,S')
   | some (.nx,_,S')=>some (.p .non,S')
   | _=>none:Option (D×Sto)) with
   | some (d,S)=>(toP 9 d S).map (fun (x:P×Sto)=>x.1)
   | none=>none)=_
  cases b (ps.map (fun p=>some (D.p p))++List.replicate (nn-ps.length) none) [] with
  | none=>rfl
  | some z=>
   obtain⟨fl,L,S⟩:=z
   cases fl <;> simp
 ·rw [if_neg h,if_neg h]
theorem forGo_nx {g:TGv}{b:ES}{v:P}{r:List P}{L L1 L2:Lc}{S S2:Sto} (h1:g v L=some L1) (h2:b L1 S=some (.nx,L2,S2)):forGo g b (v::r) L S=forGo g b r L2 S2:=by
 simp [forGo,h1,h2]
theorem forGo_rt {g:TGv}{b:ES}{v:P}{r:List P}{L L1 L2:Lc}{S S2:Sto}{d:D} (h1:g v L=some L1) (h2:b L1 S=some (.rt d,L2,S2)):forGo g b (v::r) L S=some (.rt d,L2,S2):=by
 simp [forGo,h1,h2]
theorem whileGo_nx {c:EB}{b:ES}{n:Nat}{L L2:Lc}{S S1 S2:Sto} (h1:c L S=some (true,S1)) (h2:b L S1=some (.nx,L2,S2)):whileGo c b (n+1) L S=whileGo c b n L2 S2:=by
 simp [whileGo,h1,h2]
theorem whileGo_end {c:EB}{b:ES}{n:Nat}{L:Lc}{S S1:Sto} (h1:c L S=some (false,S1)):whileGo c b (n+1) L S=some (.nx,L,S1):=by
 simp [whileGo,h1]
section
variable (L:Lc) (S:Sto)
@[simp] theorem vOpE_ev (g:D->D->Sto->Option P) (a b:EE):vOpE g a b L S=bnd (a L S) fun x S1=>bnd (b L S1) fun y S2=>(g x y S2).map fun v=>(v,S2):=rfl
@[simp] theorem bT_ev (a:EE):bT a L S=bnd (a L S) fun d S1=>(truD d S1).map fun b=>(b,S1):=rfl
@[simp] theorem vChain_ev (g g':P->P->Option P) (a b c:EV):vChain g g' a b c L S=bnd (a L S) fun x S1=>bnd (b L S1) fun y S2=>match g x y with
 | some (.bl true)=>bnd (c L S2) fun z S3=>(g' y z).map fun v=>(v,S3)
 | some (.bl false)=>some (.bl false,S2)
 | _=>none:=rfl
@[simp] theorem itR1_ev (a:EV):itR1 a L S=bnd (a L S) fun x S1=>match x with | .int n=>if (decide (n.natAbs < 1000000))=true then some (intsFrom 0 n.toNat,S1) else none | _=>none:=by
 unfold itR1;cases a L S with
 | none=>rfl
 | some z=>obtain⟨x,S1⟩:=z;cases x <;> first | rfl | simp
@[simp] theorem eExtend_ev (r:EE) (a:EV):eExtend r a L S=bnd (r L S) fun d S1=>match ownL d S1 with
 | none=>none
 | some _=>bnd (a L S1) fun x S2=>match ownL d S2,x with
  | some (i,ds),.lst ys=>if capN (ds.length+ys.length)=true then some (.p .non,S2.set i (.lst (ds++ys.map .p))) else none
  | _,_=>none:=rfl
@[simp] theorem dsNil_ev:dsNil L S=some ([],S):=rfl
@[simp] theorem dsCons_ev (a:EE) (r:EDs):dsCons a r L S=bnd (a L S) fun x S1=>bnd (r L S1) fun xs S2=>some (x::xs,S2):=rfl
@[simp] theorem eLstD_ev (a:EDs):eLstD a L S=bnd (a L S) fun xs S1=>if few xs=true then some (.ref S1.length,S1++[.lst xs]) else none:=rfl
@[simp] theorem eCallR_ev (g:GF) (a:EDs):eCallR g a L S=bnd (a L S) fun ds S1=>g ds S1:=rfl
@[simp] theorem vCallR_ev (g:GF) (a:EDs):vCallR g a L S=bnd (a L S) fun ds S1=>bnd (g ds S1) fun d S2=>bnd (toP 9 d S2) fun v S3=>some (v,trunc S1.length S3):=rfl
@[simp] theorem vIsi_ev (T:String) (f:EE):vIsi T f L S=bnd (f L S) fun d S1=>(isiD T d S1).map fun b=>(.bl b,S1):=rfl
@[simp] theorem sUnp_ev (g:TGv) (f:EV):sUnp g f L S=bnd (f L S) fun v S1=>match g v L with | some L'=>some (.nx,L',S1) | none=>none:=rfl
@[simp] theorem gTupP_ev (gs:List TGv) (vs:List P):gTupP gs (.tup vs) L=gsGo gs vs L:=rfl
@[simp] theorem gsGo_nil:gsGo [] [] L=some L:=rfl
@[simp] theorem gsGo_cons (g:TGv) (gs:List TGv) (v:P) (vs:List P):gsGo (g::gs) (v::vs) L=match g v L with | some L1=>gsGo gs vs L1 | none=>none:=rfl
@[simp] theorem isiD_p (T:String) (v:P):isiD T (.p v) S=some (isiP T v):=rfl
@[simp] theorem truD_p (v:P):truD (.p v) S=truP v:=rfl
@[simp] theorem truP_bl (b:Bool):truP (.bl b)=some b:=rfl
@[simp] theorem truP_int (i:Int):truP (.int i)=some (i != 0):=rfl
@[simp] theorem gEq_p (x y:P):gEq (.p x) (.p y) S=(eqD x y).map .bl:=rfl
@[simp] theorem gNe_p (x y:P):gNe (.p x) (.p y) S=(neD x y).map .bl:=rfl
end
@[simp] theorem eqD_int (i j:Int):eqD (.int i) (.int j)=some (decide (i=j)):=rfl
@[simp] theorem eqD_str (i j:Str):eqD (.str i) (.str j)=some (decide (i=j)):=rfl
@[simp] theorem eqD_bl (i j:Bool):eqD (.bl i) (.bl j)=some (decide (i=j)):=rfl
@[simp] theorem neD_int (i j:Int):neD (.int i) (.int j)=some (!decide (i=j)):=rfl
@[simp] theorem neD_str (i j:Str):neD (.str i) (.str j)=some (!decide (i=j)):=rfl
@[simp] theorem neD_bl (i j:Bool):neD (.bl i) (.bl j)=some (!decide (i=j)):=rfl
@[simp] theorem dAdd2_int (i j:Int):dAdd2 (.int i) (.int j)=some (.int (i+j)):=rfl
@[simp] theorem dAdd2_str (x y:Str):dAdd2 (.str x) (.str y)=dAdd (.str x) (.str y):=rfl
@[simp] theorem dAdd2_lst (x y:List P):dAdd2 (.lst x) (.lst y)=if capN (x.length+y.length)=true then some (.lst (x++y)) else none:=rfl
@[simp] theorem dMul2_int (i j:Int):dMul2 (.int i) (.int j)=if mulOk i j=true then some (.int (i * j)) else none:=rfl
@[simp] theorem dMul2_str (x:Str) (n:Int):dMul2 (.str x) (.int n)=dMul (.str x) (.int n):=rfl
theorem eqD_self {v:P} (h:okP 20 v=true):eqD v v=some true:=by
 unfold eqD
 have e:PyData.eqv (pd v) (pd v)=true:=PySem.SeqAt.eqv_refl _ (okP_lay 20 v h).1
 cases hq:dEqD v v with
 | none=>simp [h,e]
 | some z=>
  cases v with
  | int i=>cases hq;simp
  | str i=>cases hq;simp
  | bl i=>cases hq;simp
  | non=>cases hq
  | tup _=>cases hq
  | lst _=>cases hq
  | ro _=>cases hq
  | dct _ _=>cases h
theorem eqD_nil {xs:List P} (h:okP 20 (.lst xs)=true):eqD (.lst xs) (.lst [])=some xs.isEmpty:=by
 unfold eqD
 have e:okP 20 (.lst [])=true:=rfl
 show (if (okP 20 (.lst xs) && okP 20 (.lst []))=true then some (PyData.eqv (pd (.lst xs)) (pd (.lst []))) else none)=_
 rw [h,e]
 cases xs with
 | nil=>rfl
 | cons x r=>simp [pd,pds,PyData.eqv,PyData.eqvAll]
theorem neD_nil {xs:List P} (h:okP 20 (.lst xs)=true):neD (.lst xs) (.lst [])=some (!xs.isEmpty):=by
 unfold neD
 have e:okP 20 (.lst [])=true:=rfl
 show (if (okP 20 (.lst xs) && okP 20 (.lst []))=true then some (!PyData.eqv (pd (.lst xs)) (pd (.lst []))) else none)=_
 rw [h,e]
 cases xs with
 | nil=>rfl
 | cons x r=>simp [pd,pds,PyData.eqv,PyData.eqvAll]
section
variable (L:Lc) (S:Sto)
end
end Ev
namespace My
open PySem L2 Ev
noncomputable def top (i:Nat):Stmt:=PySem.Challenge.pw_roadsall_k10_plans_let_by.main.body.getD i (.Pass ⟨0,0,0,0⟩)
noncomputable def Gv (x:Str):Option P:=if x=("LETTERS":Str) then some (.str "abcdefghijklmnopqrstuvwxyz") else if x=("MOST_CELLS":Str) then some (.int 3) else if x=("MOST_FAMILIES":Str) then some (.int 4) else if x=("MOST_HANDS":Str) then some (.int 5) else if x=("MOST_LETTERS":Str) then some (.int 10) else if x=("MOST_LETTERS_ON_ROAD":Str) then some (.int 3) else if x=("MOST_ROADS":Str) then some (.int 8) else if x=("MOST_ROOMS":Str) then some (.int 8) else if x=("MOST_STEPS":Str) then some (.int 8) else if x=("MOST_WHOS":Str) then some (.int 2) else if x=("MOST_WISHES":Str) then some (.int 6) else if x=("ROAD_KINDS":Str) then some (.tup [.str "row",.str "heap"]) else if x=("WAYS":Str) then some (.tup [.str "who",.str "all",.str "any"]) else if x=("WIDEST_CELL":Str) then some (.int 9) else if x=("WISH_KINDS":Str) then some (.tup [.str "weak",.str "strong"]) else if x=("WORDS":Str) then some (.tup [.str "or",.str "and",.str "not",.str "true"]) else none
noncomputable def d_n_law_mix:Df:=⟨"_law_mix","_law_mix","",(top 43),["_law_number","_law_place","_law_turn","_law_part"],["_law_number","_law_place"],[],[],["_law_next","_law_cells","_law_first","_law_roads","_law_small","_law_when","_law_sends","_law_step"]⟩
noncomputable def d_n_law_at:Df:=⟨"_law_at","_law_at","",(top 42),["_law_script","_law_k"],["_law_script","_law_k"],[],[],["_law_next","_law_cells","_law_first","_law_roads","_law_small","_law_when","_law_sends","_law_step"]⟩
noncomputable def d_n_law_next:Df:=⟨"_law_next","_law_next","",(top 45),["_law_script","_law_at_here"],["_law_script","_law_at_here"],["_law_at_here"],[],["_law_next","_law_cells","_law_first","_law_roads","_law_small","_law_when","_law_sends","_law_step"]⟩
noncomputable def d_n_law_named:Df:=⟨"_law_named","_law_named","",(top 44),["_law_k","_law_number","_law_place"],["_law_k","_law_number"],[],[],["_law_next","_law_cells","_law_first","_law_roads","_law_small","_law_when","_law_sends","_law_step"]⟩
noncomputable def d_n_law_cells:Df:=⟨"_law_cells","_law_cells","",(top 49),["_law_script","_law_at_here","_law_cells_here","_law_number","_law_k","_law_drawn","_law_low","_law_high"],["_law_script","_law_at_here"],["_law_cells_here"],[],["_law_next","_law_cells","_law_first","_law_roads","_law_small","_law_when","_law_sends","_law_step"]⟩
noncomputable def d_n_law_first:Df:=⟨"_law_first","_law_first","",(top 50),["_law_script","_law_at_here","_law_many","_law_families","_law_left","_law_kinds","_law_k","_law_number","_law_hands","_law_rooms","_law_cells_here","_law_whos"],["_law_script","_law_at_here","_law_many"],["_law_families"],["_law_families"],["_law_next","_law_cells","_law_first","_law_roads","_law_small","_law_when","_law_sends","_law_step"]⟩
noncomputable def d_n_law_roads:Df:=⟨"_law_roads","_law_roads","",(top 51),["_law_families","_law_script","_law_at_here","_law_roads_here","_law_names","_law_k","_law_number","_law_one","_law_other","_law_road"],["_law_families","_law_script","_law_at_here"],["_law_families","_law_roads_here"],[],["_law_next","_law_cells","_law_first","_law_roads","_law_small","_law_when","_law_sends","_law_step"]⟩
noncomputable def d_n_law_leaf:Df:=⟨"_law_leaf","_law_leaf","",(top 46),["_law_names","_law_number"],["_law_names","_law_number"],[],[],["_law_next","_law_cells","_law_first","_law_roads","_law_small","_law_when","_law_sends","_law_step"]⟩
noncomputable def d_n_law_small:Df:=⟨"_law_small","_law_small","",(top 47),["_law_names","_law_script","_law_at_here","_law_number","_law_one"],["_law_names","_law_script","_law_at_here"],[],[],["_law_next","_law_cells","_law_first","_law_roads","_law_small","_law_when","_law_sends","_law_step"]⟩
noncomputable def d_n_law_when:Df:=⟨"_law_when","_law_when","",(top 48),["_law_names","_law_script","_law_at_here","_law_number","_law_word","_law_found","_law_other"],["_law_names","_law_script","_law_at_here"],[],[],["_law_next","_law_cells","_law_first","_law_roads","_law_small","_law_when","_law_sends","_law_step"]⟩
noncomputable def d_n_law_sends:Df:=⟨"_law_sends","_law_sends","",(top 52),["_law_family","_law_roads_here","_law_known","_law_script","_law_at_here","_law_sends_here","_law_goals","_law_k","_law_number","_law_way","_law_name"],["_law_family","_law_roads_here","_law_known","_law_script","_law_at_here"],["_law_family","_law_sends_here"],[],["_law_next","_law_cells","_law_first","_law_roads","_law_small","_law_when","_law_sends","_law_step"]⟩
noncomputable def d_n_law_step:Df:=⟨"_law_step","_law_step","",(top 53),["_law_family","_law_roads_here","_law_k","_law_script","_law_at_here","_law_number","_law_names","_law_take","_law_known","_law_left","_law_senders","_law_cell","_law_who","_law_changes","_law_name","_law_when_here","_law_sends_here","_law_rooms"],["_law_family","_law_roads_here","_law_k","_law_script","_law_at_here"],["_law_changes","_law_family"],[],["_law_next","_law_cells","_law_first","_law_roads","_law_small","_law_when","_law_sends","_law_step"]⟩
noncomputable def d_n_law_plan:Df:=⟨"_law_plan","_law_plan","",(top 54),["_law_script","_law_counts","_law_at_here","_law_families","_law_roads_here","_law_left","_law_wishes","_law_family","_law_k","_law_number","_law_name"],["_law_script","_law_counts"],["_law_at_here","_law_families","_law_family","_law_wishes"],["_law_families","_law_family"],["_law_next","_law_cells","_law_first","_law_roads","_law_small","_law_when","_law_sends","_law_step"]⟩
noncomputable def d_n_law_copy:Df:=⟨"_law_copy","_law_copy","",(top 55),["_law_plan_here","_law_families","_law_family","_law_steps"],["_law_plan_here"],["_law_families"],[],["_law_next","_law_cells","_law_first","_law_roads","_law_small","_law_when","_law_sends","_law_step"]⟩
noncomputable def d_n_is_made_of:Df:=⟨"is_made_of","is_made_of","",(top 10),["text","signs"],["text","signs"],[],[],["_law_next","_law_cells","_law_first","_law_roads","_law_small","_law_when","_law_sends","_law_step"]⟩
noncomputable def d_n_is_name:Df:=⟨"is_name","is_name","",(top 11),["text"],["text"],[],[],["_law_next","_law_cells","_law_first","_law_roads","_law_small","_law_when","_law_sends","_law_step"]⟩
noncomputable def d_n_are_names:Df:=⟨"are_names","are_names","",(top 12),["texts"],["texts"],[],[],["_law_next","_law_cells","_law_first","_law_roads","_law_small","_law_when","_law_sends","_law_step"]⟩
noncomputable def d_n_are_unlike_names:Df:=⟨"are_unlike_names","are_unlike_names","",(top 13),["texts"],["texts"],[],[],["_law_next","_law_cells","_law_first","_law_roads","_law_small","_law_when","_law_sends","_law_step"]⟩
noncomputable def d_n_is_cell:Df:=⟨"is_cell","is_cell","",(top 31),["cell","name","low","high","start"],["cell"],[],[],["_law_next","_law_cells","_law_first","_law_roads","_law_small","_law_when","_law_sends","_law_step"]⟩
noncomputable def d_n_is_family:Df:=⟨"is_family","is_family","",(top 30),["family","name","many","rooms","cells","whos","steps","cell_names"],["family"],[],[],["_law_next","_law_cells","_law_first","_law_roads","_law_small","_law_when","_law_sends","_law_step"]⟩
noncomputable def d_n_are_families:Df:=⟨"are_families","are_families","",(top 29),["families"],["families"],[],[],["_law_next","_law_cells","_law_first","_law_roads","_law_small","_law_when","_law_sends","_law_step"]⟩
noncomputable def d_n_is_road:Df:=⟨"is_road","is_road","",(top 33),["road","names","one","other","kind","room","loses","doubles"],["road","names"],[],[],["_law_next","_law_cells","_law_first","_law_roads","_law_small","_law_when","_law_sends","_law_step"]⟩
noncomputable def d_n_are_roads:Df:=⟨"are_roads","are_roads","",(top 32),["roads","families","names"],["roads","families"],[],[],["_law_next","_law_cells","_law_first","_law_roads","_law_small","_law_when","_law_sends","_law_step"]⟩
noncomputable def d_n_is_wish:Df:=⟨"is_wish","is_wish","",(top 34),["wish","families","kind","name","step","family"],["wish","families"],[],[],["_law_next","_law_cells","_law_first","_law_roads","_law_small","_law_when","_law_sends","_law_step"]⟩
noncomputable def d_n_are_among:Df:=⟨"are_among","are_among","",(top 36),["names","known"],["names","known"],[],[],["_law_next","_law_cells","_law_first","_law_roads","_law_small","_law_when","_law_sends","_law_step"]⟩
noncomputable def d_n_names_in:Df:=⟨"names_in","names_in","",(top 15),["tree","names","waiting","part"],["tree"],["names","waiting"],[],["_law_next","_law_cells","_law_first","_law_roads","_law_small","_law_when","_law_sends","_law_step"]⟩
noncomputable def d_n_are_changes:Df:=⟨"are_changes","are_changes","",(top 38),["changes","take","cells","known","changed"],["changes","take","cells","known"],[],[],["_law_next","_law_cells","_law_first","_law_roads","_law_small","_law_when","_law_sends","_law_step"]⟩
noncomputable def d_n_leads:Df:=⟨"leads","leads","",(top 40),["roads","one","other"],["roads","one","other"],[],[],["_law_next","_law_cells","_law_first","_law_roads","_law_small","_law_when","_law_sends","_law_step"]⟩
noncomputable def d_n_is_take:Df:=⟨"is_take","is_take","",(top 37),["take","family","cells","roads","mark","sender","cell","who"],["take","family","cells","roads"],[],[],["_law_next","_law_cells","_law_first","_law_roads","_law_small","_law_when","_law_sends","_law_step"]⟩
noncomputable def d_n_is_send:Df:=⟨"is_send","is_send","",(top 39),["send","family","known","roads","mark","amount","way","target"],["send","family","known","roads"],[],[],["_law_next","_law_cells","_law_first","_law_roads","_law_small","_law_when","_law_sends","_law_step"]⟩
noncomputable def d_n_is_step:Df:=⟨"is_step","is_step","",(top 35),["step","family","families","roads","name","at","when","take","changes","sends","go","rooms","cells","known"],["step","family","families","roads"],[],[],["_law_next","_law_cells","_law_first","_law_roads","_law_small","_law_when","_law_sends","_law_step"]⟩
noncomputable def d_n_is_plan:Df:=⟨"is_plan","is_plan","",(top 28),["plan","families","roads","wishes","family"],["plan"],[],[],["_law_next","_law_cells","_law_first","_law_roads","_law_small","_law_when","_law_sends","_law_step"]⟩
noncomputable def d_n_check_plan:Df:=⟨"check_plan","check_plan","",(top 27),["plan"],["plan"],[],[],["_law_next","_law_cells","_law_first","_law_roads","_law_small","_law_when","_law_sends","_law_step"]⟩
noncomputable def d_n_law:Df:=⟨"law","law","",(top 56),["_law_script","_law_plan_here","_law_handed"],["_law_script"],[],[],["_law_next","_law_cells","_law_first","_law_roads","_law_small","_law_when","_law_sends","_law_step"]⟩
noncomputable def Att:At:=[]
noncomputable def Tb:List Df:=[d_n_law_mix,d_n_law_at,d_n_law_next,d_n_law_named,d_n_law_cells,d_n_law_first,d_n_law_roads,d_n_law_leaf,d_n_law_small,d_n_law_when,d_n_law_sends,d_n_law_step,d_n_law_plan,d_n_law_copy,d_n_is_made_of,d_n_is_name,d_n_are_names,d_n_are_unlike_names,d_n_is_cell,d_n_is_family,d_n_are_families,d_n_is_road,d_n_are_roads,d_n_is_wish,d_n_are_among,d_n_names_in,d_n_are_changes,d_n_leads,d_n_is_take,d_n_is_send,d_n_is_step,d_n_is_plan,d_n_check_plan,d_n_law]
noncomputable def b_n_law_mix_L1 (ψ ι:Str->GF):ES:=(sSet 0 (eV (vOp dFloor (vE (eVar 0)) (vC (.int 2147483648)))))
noncomputable def b_n_law_mix (ψ ι:Str->GF):ES:=(sSeq (sIf (bV (vOp dGe (vE (eVar 0)) (vOp dPow (vC (.int 10)) (vC (.int 12))))) (sSeq (sSet 0 (eV (vOp dSub (vOp dFloor (vE (eVar 0)) (vOp dPow (vC (.int 10)) (vC (.int 12)))) (vC (.int 1)))))
  (sSeq (sFor (itR1 (vOp dMod (vE (eVar 1)) (vC (.int 61)))) (gSet 2) (b_n_law_mix_L1 ψ ι))
  (sRet (eV (vOp dMod (vE (eVar 0)) (vC (.int 2147483648))))))) sNx)
  (sSeq (sSet 3 (eV (vOp dMod (vOp dMul2 (vOp dAdd2 (vOp dAdd2 (vOp dMod (vE (eVar 0)) (vC (.int 2147483629))) (vE (eVar 1))) (vC (.int 1))) (vOp dAdd2 (vOp dMul2 (vOp dMul2 (vC (.int 8)) (vE (eVar 1))) (vE (eVar 1))) (vC (.int 48271)))) (vC (.int 2147483647)))))
  (sSeq (sSet 3 (eV (vOp dMod (vOp dMul2 (vE (eVar 3)) (vE (eVar 3))) (vC (.int 2147483587)))))
  (sRet (eV (vOp dMod (vOp dMul2 (vE (eVar 3)) (vOp dAdd2 (vE (eVar 3)) (vC (.int 2)))) (vC (.int 2147483579))))))))
theorem e_n_law_mix (n:Nat):Psi Gv Att Tb (n+2) "_law_mix"=fnR 2 4 (b_n_law_mix (Psi Gv Att Tb (n+1)) (Psi Gv Att Tb n)):=by kernel_rfl
noncomputable def b_n_law_at (ψ ι:Str->GF):ES:=(sSeq (sIf (bV (vOp dLt (vE (eVar 1)) (vLen (eVar 0)))) (sRet (eV (vOp dIx (vE (eVar 0)) (vE (eVar 1))))) sNx)
  (sRet (eV (vOp dAdd2 (vOp dMul2 (vC (.int 23)) (vE (eVar 1))) (vC (.int 6))))))
theorem e_n_law_at (n:Nat):Psi Gv Att Tb (n+2) "_law_at"=fnR 2 2 (b_n_law_at (Psi Gv Att Tb (n+1)) (Psi Gv Att Tb n)):=by kernel_rfl
noncomputable def b_n_law_next (ψ ι:Str->GF):ES:=(sSeq (sPutL (eVar 1) (vC (.int 0)) (vOp dAdd2 (vE (eIx (eVar 1) (vC (.int 0)))) (vC (.int 1))))
  (sRet (eV (vCall (pureOf (ψ "_law_mix")) (vsCons (vCall (pureOf (ψ "_law_at")) (vsCons (vE (eVar 0)) (vsCons (vOp dAdd2 (vC (.int 1)) (vOp dMod (vE (eIx (eVar 1) (vC (.int 0)))) (vC (.int 62)))) vsNil))) (vsCons (vOp dAdd2 (vC (.int 1)) (vOp dFloor (vE (eIx (eVar 1) (vC (.int 0)))) (vC (.int 62)))) vsNil))))))
theorem e_n_law_next (n:Nat):Psi Gv Att Tb (n+2) "_law_next"=fnR 2 2 (b_n_law_next (Psi Gv Att Tb (n+1)) (Psi Gv Att Tb n)):=by kernel_rfl
noncomputable def b_n_law_named (ψ ι:Str->GF):ES:=(sSeq (sIf (bV (vOpE gEq (eV (vOp dMod (vE (eVar 1)) (vC (.int 2)))) (eV (vC (.int 0))))) (sRet (eV (vOp dAdd2 (vOp dMul2 (vOp dIx (vC (.str "abcdefgh")) (vE (eVar 0))) (vOp dAdd2 (vC (.int 1)) (vOp dMod (vOp dFloor (vE (eVar 1)) (vC (.int 2))) (vC (.int 9))))) (vOp dIx (vC (.str "xvz")) (vOp dMod (vOp dFloor (vE (eVar 1)) (vC (.int 18))) (vC (.int 3))))))) sNx)
  (sSeq (sSet 2 (eV (vOp dMod (vOp dFloor (vE (eVar 1)) (vC (.int 2))) (vC (.int 10)))))
  (sRet (eV (vOp dAdd2 (vOp dAdd2 (vOp dMul2 (vC (.str "m")) (vE (eVar 2))) (vOp dIx (vC (.str "abcdefgh")) (vE (eVar 0)))) (vOp dMul2 (vC (.str "m")) (vOp dSub (vC (.int 9)) (vE (eVar 2)))))))))
theorem e_n_law_named (n:Nat):Psi Gv Att Tb (n+2) "_law_named"=fnR 2 3 (b_n_law_named (Psi Gv Att Tb (n+1)) (Psi Gv Att Tb n)):=by kernel_rfl
noncomputable def b_n_law_cells_L1 (ψ ι:Str->GF):ES:=(sSeq (sSet 5 (eV (vCallR (ψ "_law_next") (dsCons (eVar 0) (dsCons (eVar 1) dsNil)))))
  (sSeq (sSet 6 (eV (vOp dIx (vLst' (vsCons (vOp dSub (vOp dMod (vOp dFloor (vE (eVar 5)) (vC (.int 100))) (vC (.int 13))) (vC (.int 6))) (vsCons (vOp dSub (vOp dMod (vOp dFloor (vE (eVar 5)) (vC (.int 100))) (vC (.int 1980))) (vC (.int 990))) vsNil))) (vOp dFloor (vOp dMod (vE (eVar 5)) (vC (.int 4))) (vC (.int 3))))))
  (sSeq (sSet 7 (eV (vOp dAdd2 (vE (eVar 6)) (vOp dMod (vOp dFloor (vE (eVar 5)) (vC (.int 4))) (vC (.int 10))))))
  (sDrop (eAppend (eVar 2) (eV (vTup' (vsCons (vCall (pureOf (ψ "_law_named")) (vsCons (vE (eVar 4)) (vsCons (vOp dFloor (vE (eVar 3)) (vC (.int 4))) vsNil))) (vsCons (vE (eVar 6)) (vsCons (vE (eVar 7)) (vsCons (vOp dAdd2 (vE (eVar 6)) (vOp dMod (vOp dMod (vOp dFloor (vE (eVar 5)) (vC (.int 40))) (vC (.int 1000))) (vOp dAdd2 (vOp dSub (vE (eVar 7)) (vE (eVar 6))) (vC (.int 1))))) vsNil)))))))))))
noncomputable def b_n_law_cells (ψ ι:Str->GF):ES:=(sSeq (sSet 2 (eLst' vsNil))
  (sSeq (sSet 3 (eV (vCallR (ψ "_law_next") (dsCons (eVar 0) (dsCons (eVar 1) dsNil)))))
  (sSeq (sFor (itR1 (vOp dMod (vE (eVar 3)) (vC (.int 4)))) (gSet 4) (b_n_law_cells_L1 ψ ι))
  (sRet (eVar 2)))))
theorem e_n_law_cells (n:Nat):Psi Gv Att Tb (n+2) "_law_cells"=fnR 2 8 (b_n_law_cells (Psi Gv Att Tb (n+1)) (Psi Gv Att Tb n)):=by kernel_rfl
noncomputable def b_n_law_first_L1 (ψ ι:Str->GF):ES:=(sSeq (sSet 7 (eV (vCallR (ψ "_law_next") (dsCons (eVar 0) (dsCons (eVar 1) dsNil)))))
  (sSeq (sSet 8 (eV (vOp dAdd2 (vC (.int 1)) (vOp dMod (vE (eVar 7)) (vC (.int 3))))))
  (sSeq (sSet 8 (eV (vCall c_min (vsCons (vE (eVar 8)) (vsCons (vOp dSub (vE (eVar 4)) (vOp dSub (vOp dMod (vE (eVar 2)) (vC (.int 4))) (vE (eVar 6)))) vsNil)))))
  (sSeq (sSet 4 (eV (vOp dSub (vE (eVar 4)) (vE (eVar 8)))))
  (sSeq (sSet 9 (eV (vComp (itR1 (vOp dAdd2 (vC (.int 1)) (vOp dMod (vOp dFloor (vE (eVar 7)) (vC (.int 64))) (vC (.int 8))))) [] 1 (gSet 12) bYes (vCall (pureOf (ψ "_law_named")) (vsCons (vE (eVar 12)) (vsCons (vOp dFloor (vE (eVar 7)) (vC (.int 4))) vsNil))))))
  (sSeq (sSet 10 (eV (vCallR (ψ "_law_cells") (dsCons (eVar 0) (dsCons (eVar 1) dsNil)))))
  (sSeq (sSet 11 (eV (vSl2 (vOp dIx (vLst' (vsCons (vLst' (vsCons (vC (.str "it")) (vsCons (vC (.str "first")) vsNil))) (vsCons (vLst' (vsCons (vC (.str "by")) (vsCons (vC (.str "who")) vsNil))) (vsCons (vLst' (vsCons (vC (.str "to")) (vsCons (vC (.str "from")) vsNil))) (vsCons (vLst' (vsCons (vC (.str "at")) (vsCons (vC (.str "go")) vsNil))) vsNil))))) (vOp dMod (vOp dFloor (vE (eVar 7)) (vC (.int 512))) (vC (.int 4)))) oNone (oSome (vOp dMod (vOp dFloor (vE (eVar 7)) (vC (.int 2048))) (vC (.int 3)))))))
  (sDrop (eAppend (eVar 3) (eLstD (dsCons (eCallR (ψ "_law_named") (dsCons (eVar 6) (dsCons (eVar 5) dsNil))) (dsCons (eVar 8) (dsCons (eVar 9) (dsCons (eVar 10) (dsCons (eVar 11) (dsCons (eLstD dsNil) dsNil))))))))))))))))
noncomputable def b_n_law_first (ψ ι:Str->GF):ES:=(sSeq (sSet 3 (eLstD dsNil))
  (sSeq (sSet 4 (eV (vC (.int 5))))
  (sSeq (sSet 5 (eV (vCallR (ψ "_law_next") (dsCons (eVar 0) (dsCons (eVar 1) dsNil)))))
  (sSeq (sFor (itR1 (vOp dAdd2 (vC (.int 1)) (vOp dMod (vE (eVar 2)) (vC (.int 4))))) (gSet 6) (b_n_law_first_L1 ψ ι))
  (sRet (eVar 3))))))
theorem e_n_law_first (n:Nat):Psi Gv Att Tb (n+2) "_law_first"=fnR 3 12 (b_n_law_first (Psi Gv Att Tb (n+1)) (Psi Gv Att Tb n)):=by kernel_rfl
noncomputable def b_n_law_roads_L1 (ψ ι:Str->GF):ES:=(sSeq (sSet 6 (eV (vCallR (ψ "_law_next") (dsCons (eVar 1) (dsCons (eVar 2) dsNil)))))
  (sSeq (sSet 7 (eV (vOp dIx (vE (eVar 4)) (vOp dMod (vE (eVar 6)) (vLen (eVar 4))))))
  (sSeq (sSet 8 (eV (vOp dIx (vE (eVar 4)) (vOp dMod (vOp dFloor (vE (eVar 6)) (vC (.int 4))) (vLen (eVar 4))))))
  (sSeq (sSet 9 (eV (vTup' (vsCons (vE (eVar 7)) (vsCons (vE (eVar 8)) (vsCons (vOp dIx (vLst' (vsCons (vC (.str "row")) (vsCons (vC (.str "heap")) vsNil))) (vOp dMod (vOp dFloor (vE (eVar 6)) (vC (.int 16))) (vC (.int 2)))) (vsCons (vOp dAdd2 (vC (.int 1)) (vOp dMod (vOp dFloor (vE (eVar 6)) (vC (.int 32))) (vC (.int 3)))) vsNil)))))))
  (sSeq (sSet 9 (eV (vOp dAdd2 (vE (eVar 9)) (vTup' (vsCons (vOpE gEq (eV (vOp dMod (vOp dFloor (vE (eVar 6)) (vC (.int 128))) (vC (.int 2)))) (eV (vC (.int 1)))) (vsCons (vOpE gEq (eV (vOp dMod (vOp dFloor (vE (eVar 6)) (vC (.int 256))) (vC (.int 2)))) (eV (vC (.int 1)))) vsNil))))))
  (sIf (bV (vOpE gNotIn (eV (vTup' (vsCons (vE (eVar 7)) (vsCons (vE (eVar 8)) vsNil)))) (eV (vCompD (eVar 3) [] 1 10 bYes (vSl2 (vE (eVar 10)) oNone (oSome (vC (.int 2)))))))) (sDrop (eAppend (eVar 3) (eVar 9))) sNx))))))
noncomputable def b_n_law_roads (ψ ι:Str->GF):ES:=(sSeq (sSet 3 (eLst' vsNil))
  (sSeq (sSet 4 (eV (vCompD (eVar 0) [] 1 10 bYes (vE (eIx (eVar 10) (vC (.int 0)))))))
  (sSeq (sFor (itR1 (vOp dMod (vCallR (ψ "_law_next") (dsCons (eVar 1) (dsCons (eVar 2) dsNil))) (vC (.int 9)))) (gSet 5) (b_n_law_roads_L1 ψ ι))
  (sRet (eVar 3)))))
theorem e_n_law_roads (n:Nat):Psi Gv Att Tb (n+2) "_law_roads"=fnR 3 10 (b_n_law_roads (Psi Gv Att Tb (n+1)) (Psi Gv Att Tb n)):=by kernel_rfl
noncomputable def b_n_law_leaf (ψ ι:Str->GF):ES:=(sSeq (sIf (bAnd (bV (vOp dGt (vOp dMod (vE (eVar 1)) (vC (.int 3))) (vC (.int 0)))) (bV (vOp dGt (vLen (eVar 0)) (vC (.int 0))))) (sRet (eV (vTup' (vsCons (vC (.str "name")) (vsCons (vOp dIx (vE (eVar 0)) (vOp dMod (vOp dFloor (vE (eVar 1)) (vC (.int 3))) (vLen (eVar 0)))) vsNil))))) sNx)
  (sRet (eV (vTup' (vsCons (vC (.str "number")) (vsCons (vOp dIx (vLst' (vsCons (vOp dMod (vOp dFloor (vE (eVar 1)) (vC (.int 3))) (vC (.int 10))) (vsCons (vOp dMod (vOp dFloor (vE (eVar 1)) (vC (.int 30))) (vC (.int 1000))) vsNil))) (vOp dFloor (vOp dMod (vOp dFloor (vE (eVar 1)) (vC (.int 3))) (vC (.int 4))) (vC (.int 3)))) vsNil))))))
theorem e_n_law_leaf (n:Nat):Psi Gv Att Tb (n+2) "_law_leaf"=fnR 2 2 (b_n_law_leaf (Psi Gv Att Tb (n+1)) (Psi Gv Att Tb n)):=by kernel_rfl
noncomputable def b_n_law_small (ψ ι:Str->GF):ES:=(sSeq (sSet 3 (eV (vCallR (ψ "_law_next") (dsCons (eVar 1) (dsCons (eVar 2) dsNil)))))
  (sSeq (sSet 4 (eV (vCall (pureOf (ψ "_law_leaf")) (vsCons (vE (eVar 0)) (vsCons (vOp dFloor (vE (eVar 3)) (vC (.int 8))) vsNil)))))
  (sSeq (sIf (bV (vOp dGt (vOp dMod (vE (eVar 3)) (vC (.int 8))) (vC (.int 2)))) (sRet (eVar 4)) sNx)
  (sRet (eV (vTup' (vsCons (vOp dIx (vLst' (vsCons (vC (.str "plus")) (vsCons (vC (.str "minus")) (vsCons (vC (.str "times")) vsNil)))) (vOp dMod (vE (eVar 3)) (vC (.int 8)))) (vsCons (vE (eVar 4)) (vsCons (vCall (pureOf (ψ "_law_leaf")) (vsCons (vE (eVar 0)) (vsCons (vOp dFloor (vE (eVar 3)) (vC (.int 32768))) vsNil))) vsNil)))))))))
theorem e_n_law_small (n:Nat):Psi Gv Att Tb (n+2) "_law_small"=fnR 3 5 (b_n_law_small (Psi Gv Att Tb (n+1)) (Psi Gv Att Tb n)):=by kernel_rfl
noncomputable def b_n_law_when (ψ ι:Str->GF):ES:=(sSeq (sSet 3 (eV (vCallR (ψ "_law_next") (dsCons (eVar 1) (dsCons (eVar 2) dsNil)))))
  (sSeq (sIf (bV (vOpE gEq (eV (vOp dMod (vE (eVar 3)) (vC (.int 3)))) (eV (vC (.int 0))))) (sRet (eV (vTup' (vsCons (vC (.str "true")) vsNil)))) sNx)
  (sSeq (sSet 4 (eV (vOp dIx (vLst' (vsCons (vC (.str "=")) (vsCons (vC (.str "!=")) (vsCons (vC (.str "<")) (vsCons (vC (.str "<=")) (vsCons (vC (.str ">")) (vsCons (vC (.str ">=")) vsNil))))))) (vOp dMod (vOp dFloor (vE (eVar 3)) (vC (.int 3))) (vC (.int 6))))))
  (sSeq (sSet 5 (eV (vTup' (vsCons (vC (.str "is")) (vsCons (vE (eVar 4)) (vsCons (vCallR (ψ "_law_small") (dsCons (eVar 0) (dsCons (eVar 1) (dsCons (eVar 2) dsNil)))) (vsCons (vCallR (ψ "_law_small") (dsCons (eVar 0) (dsCons (eVar 1) (dsCons (eVar 2) dsNil)))) vsNil)))))))
  (sSeq (sIf (bV (vOpE gEq (eV (vOp dMod (vOp dFloor (vE (eVar 3)) (vC (.int 18))) (vC (.int 4)))) (eV (vC (.int 0))))) (sSet 5 (eV (vTup' (vsCons (vC (.str "not")) (vsCons (vE (eVar 5)) vsNil))))) sNx)
  (sSeq (sIf (bV (vOpE gEq (eV (vOp dMod (vOp dFloor (vE (eVar 3)) (vC (.int 18))) (vC (.int 4)))) (eV (vC (.int 1))))) (sSeq (sSet 6 (eV (vTup' (vsCons (vC (.str "is")) (vsCons (vC (.str "=")) (vsCons (vCall (pureOf (ψ "_law_leaf")) (vsCons (vE (eVar 0)) (vsCons (vOp dFloor (vE (eVar 3)) (vC (.int 72))) vsNil))) (vsCons (vTup' (vsCons (vC (.str "number")) (vsCons (vOp dMod (vOp dFloor (vE (eVar 3)) (vC (.int 720))) (vC (.int 10))) vsNil))) vsNil)))))))
  (sSet 5 (eV (vTup' (vsCons (vOp dIx (vLst' (vsCons (vC (.str "and")) (vsCons (vC (.str "or")) vsNil))) (vOp dMod (vOp dFloor (vE (eVar 3)) (vC (.int 7200))) (vC (.int 2)))) (vsCons (vE (eVar 5)) (vsCons (vE (eVar 6)) vsNil))))))) sNx)
  (sRet (eVar 5))))))))
theorem e_n_law_when (n:Nat):Psi Gv Att Tb (n+2) "_law_when"=fnR 3 7 (b_n_law_when (Psi Gv Att Tb (n+1)) (Psi Gv Att Tb n)):=by kernel_rfl
noncomputable def b_n_law_sends_L1 (ψ ι:Str->GF):ES:=(sSeq (sSet 8 (eV (vCallR (ψ "_law_next") (dsCons (eVar 3) (dsCons (eVar 4) dsNil)))))
  (sSeq (sSet 9 (eV (vOp dIx (vLst' (vsCons (vC (.str "all")) (vsCons (vC (.str "any")) vsNil))) (vOp dMod (vE (eVar 8)) (vC (.int 2))))))
  (sSeq (sSet 10 (eV (vOp dIx (vOp dAdd2 (vE (eVar 6)) (vLst' (vsCons (vC (.str "")) vsNil))) (vOp dMod (vOp dFloor (vE (eVar 8)) (vC (.int 4))) (vCall c_max (vsCons (vC (.int 1)) (vsCons (vLen (eVar 6)) vsNil)))))))
  (sSeq (sIf (bAnd (bV (vOpE gNe (eIx (eVar 0) (vC (.int 4))) (eV (vLst' vsNil)))) (bOr (bV (vOpE gEq (eV (vOp dMod (vE (eVar 8)) (vC (.int 3)))) (eV (vC (.int 0))))) (bV (vOpE gEq (eVar 6) (eV (vLst' vsNil)))))) (sSeq (sSet 9 (eV (vC (.str "who"))))
  (sSet 10 (eIx (eIx (eVar 0) (vC (.int 4))) (vOp dMod (vOp dFloor (vE (eVar 8)) (vC (.int 4))) (vLen (eIx (eVar 0) (vC (.int 4)))))))) sNx)
  (sIf (bV (vOpE gNe (eVar 10) (eV (vC (.str ""))))) (sDrop (eAppend (eVar 5) (eV (vTup' (vsCons (vCall (pureOf (ψ "_law_named")) (vsCons (vC (.int 0)) (vsCons (vOp dFloor (vE (eVar 8)) (vC (.int 64))) vsNil))) (vsCons (vCallR (ψ "_law_small") (dsCons (eVar 2) (dsCons (eVar 3) (dsCons (eVar 4) dsNil)))) (vsCons (vE (eVar 9)) (vsCons (vE (eVar 10)) vsNil)))))))) sNx)))))
noncomputable def b_n_law_sends (ψ ι:Str->GF):ES:=(sSeq (sSet 5 (eLst' vsNil))
  (sSeq (sSet 6 (eV (vComp (itS (vE (eVar 1))) [] 1 (gSet 11) (bV (vOpE gEq (eV (vOp dIx (vE (eVar 11)) (vC (.int 0)))) (eIx (eVar 0) (vC (.int 0))))) (vOp dIx (vE (eVar 11)) (vC (.int 1))))))
  (sSeq (sFor (itR1 (vOp dMod (vCallR (ψ "_law_next") (dsCons (eVar 3) (dsCons (eVar 4) dsNil))) (vC (.int 3)))) (gSet 7) (b_n_law_sends_L1 ψ ι))
  (sRet (eVar 5)))))
theorem e_n_law_sends (n:Nat):Psi Gv Att Tb (n+2) "_law_sends"=fnR 5 11 (b_n_law_sends (Psi Gv Att Tb (n+1)) (Psi Gv Att Tb n)):=by kernel_rfl
noncomputable def b_n_law_step_L1 (ψ ι:Str->GF):ES:=(sIf (bV (vOpE gEq (eV (vOp dMod (vCallR (ψ "_law_next") (dsCons (eVar 3) (dsCons (eVar 4) dsNil))) (vC (.int 2)))) (eV (vC (.int 0))))) (sDrop (eAppend (eVar 13) (eV (vTup' (vsCons (vE (eVar 14)) (vsCons (vCallR (ψ "_law_small") (dsCons (eVar 8) (dsCons (eVar 3) (dsCons (eVar 4) dsNil)))) vsNil)))))) sNx)
noncomputable def b_n_law_step (ψ ι:Str->GF):ES:=(sSeq (sSet 5 (eV (vCallR (ψ "_law_next") (dsCons (eVar 3) (dsCons (eVar 4) dsNil)))))
  (sSeq (sSet 6 (eV (vComp (itS (vE (eIx (eVar 0) (vC (.int 3))))) [11] 0 (gSet 11) bYes (vOp dIx (vE (eVar 11)) (vC (.int 0))))))
  (sSeq (sSet 7 (eV (vC (.non))))
  (sSeq (sSet 8 (eVar 6))
  (sSeq (sSet 9 (eV (vCall c_list (vsCons (vE (eVar 6)) vsNil))))
  (sSeq (sSet 10 (eV (vComp (itS (vE (eVar 1))) [] 1 (gSet 18) (bV (vOpE gEq (eV (vOp dIx (vE (eVar 18)) (vC (.int 1)))) (eIx (eVar 0) (vC (.int 0))))) (vOp dIx (vE (eVar 18)) (vC (.int 0))))))
  (sSeq (sIf (bAnd (bV (vOpE gNe (eVar 10) (eV (vLst' vsNil)))) (bV (vOpE gEq (eV (vOp dMod (vE (eVar 5)) (vC (.int 2)))) (eV (vC (.int 0)))))) (sSeq (sSet 8 (eV (vOp dAdd2 (vE (eVar 6)) (vLst' (vsCons (vC (.str "it")) vsNil)))))
  (sSeq (sSet 11 (eV (vOp dIx (vOp dAdd2 (vE (eVar 6)) (vLst' (vsCons (vC (.str "")) vsNil))) (vOp dMod (vOp dFloor (vE (eVar 5)) (vC (.int 2))) (vOp dAdd2 (vLen (eVar 6)) (vC (.int 1)))))))
  (sSeq (sSet 12 (eV (vOp dIx (vOp dAdd2 (vE (eIx (eVar 0) (vC (.int 4)))) (vLst' (vsCons (vC (.str "")) vsNil))) (vOp dMod (vOp dFloor (vE (eVar 5)) (vC (.int 8))) (vOp dAdd2 (vLen (eIx (eVar 0) (vC (.int 4)))) (vC (.int 1)))))))
  (sSeq (sSet 7 (eV (vTup' (vsCons (vCall (pureOf (ψ "_law_named")) (vsCons (vC (.int 1)) (vsCons (vOp dFloor (vE (eVar 5)) (vC (.int 32))) vsNil))) (vsCons (vOp dIx (vE (eVar 10)) (vOp dMod (vOp dFloor (vE (eVar 5)) (vC (.int 24))) (vLen (eVar 10)))) (vsCons (vE (eVar 11)) (vsCons (vE (eVar 12)) vsNil)))))))
  (sSet 9 (eV (vComp (itS (vE (eVar 6))) [14] 0 (gSet 14) (bV (vOpE gNe (eVar 14) (eVar 11))) (vE (eVar 14))))))))) sNx)
  (sSeq (sSet 13 (eLst' vsNil))
  (sSeq (sFor (itS (vE (eVar 9))) (gSet 14) (b_n_law_step_L1 ψ ι))
  (sSeq (sSet 15 (eV (vCallR (ψ "_law_when") (dsCons (eVar 6) (dsCons (eVar 3) (dsCons (eVar 4) dsNil))))))
  (sSeq (sSet 16 (eV (vCallR (ψ "_law_sends") (dsCons (eVar 0) (dsCons (eVar 1) (dsCons (eVar 8) (dsCons (eVar 3) (dsCons (eVar 4) dsNil))))))))
  (sSeq (sSet 17 (eV (vLst' (vsCons (vE (eIx (eIx (eVar 0) (vC (.int 2))) (vOp dMod (vOp dFloor (vE (eVar 5)) (vC (.int 1024))) (vLen (eIx (eVar 0) (vC (.int 2))))))) (vsCons (vE (eIx (eIx (eVar 0) (vC (.int 2))) (vOp dMod (vOp dFloor (vE (eVar 5)) (vC (.int 8192))) (vLen (eIx (eVar 0) (vC (.int 2))))))) vsNil)))))
  (sRet (eV (vTup' (vsCons (vCall (pureOf (ψ "_law_named")) (vsCons (vE (eVar 2)) (vsCons (vC (.int 7)) vsNil))) (vsCons (vOp dIx (vE (eVar 17)) (vC (.int 0))) (vsCons (vE (eVar 15)) (vsCons (vE (eVar 7)) (vsCons (vSl3 (vE (eVar 13)) oNone oNone (oSome (vOp dIx (vLst' (vsCons (vC (.int 1)) (vsCons (vUn dNeg (vC (.int 1))) vsNil))) (vOp dMod (vOp dFloor (vE (eVar 5)) (vC (.int 65536))) (vC (.int 2)))))) (vsCons (vE (eVar 16)) (vsCons (vOp dIx (vE (eVar 17)) (vC (.int 1))) vsNil))))))))))))))))))))))
theorem e_n_law_step (n:Nat):Psi Gv Att Tb (n+2) "_law_step"=fnR 5 18 (b_n_law_step (Psi Gv Att Tb (n+1)) (Psi Gv Att Tb n)):=by kernel_rfl
noncomputable def b_n_law_plan_L1 (ψ ι:Str->GF):ES:=(sSeq (sDrop (eAppend (eIx (eVar 7) (vC (.int 5))) (eV (vCallR (ψ "_law_step") (dsCons (eVar 7) (dsCons (eVar 4) (dsCons (eVar 8) (dsCons (eVar 0) (dsCons (eVar 2) dsNil)))))))))
  (sSet 5 (eV (vOp dSub (vE (eVar 5)) (vC (.int 1))))))
noncomputable def b_n_law_plan_L2 (ψ ι:Str->GF):ES:=(sFor (itR1 (vCall c_min (vsCons (vE (eVar 5)) (vsCons (vOp dMod (vCallR (ψ "_law_next") (dsCons (eVar 0) (dsCons (eVar 2) dsNil))) (vC (.int 9))) vsNil)))) (gSet 8) (b_n_law_plan_L1 ψ ι))
noncomputable def b_n_law_plan_L3 (ψ ι:Str->GF):ES:=(sSeq (sSet 9 (eV (vCallR (ψ "_law_next") (dsCons (eVar 0) (dsCons (eVar 2) dsNil)))))
  (sSeq (sSet 7 (eIx (eVar 3) (vOp dMod (vE (eVar 9)) (vLen (eVar 3)))))
  (sIf (bV (vOpE gNe (eIx (eVar 7) (vC (.int 5))) (eV (vLst' vsNil)))) (sSeq (sSet 10 (eIx (eIx (eIx (eVar 7) (vC (.int 5))) (vOp dMod (vOp dFloor (vE (eVar 9)) (vC (.int 4))) (vLen (eIx (eVar 7) (vC (.int 5)))))) (vC (.int 0))))
  (sDrop (eAppend (eVar 6) (eV (vTup' (vsCons (vOp dIx (vLst' (vsCons (vC (.str "weak")) (vsCons (vC (.str "strong")) vsNil))) (vOp dMod (vOp dFloor (vE (eVar 9)) (vC (.int 64))) (vC (.int 2)))) (vsCons (vE (eIx (eVar 7) (vC (.int 0)))) (vsCons (vE (eVar 10)) vsNil)))))))) sNx)))
noncomputable def b_n_law_plan (ψ ι:Str->GF):ES:=(sSeq (sSet 2 (eLst' (vsCons (vC (.int 0)) vsNil)))
  (sSeq (sSet 3 (eCallR (ψ "_law_first") (dsCons (eVar 0) (dsCons (eVar 2) (dsCons (eVar 1) dsNil)))))
  (sSeq (sSet 4 (eV (vCallR (ψ "_law_roads") (dsCons (eVar 3) (dsCons (eVar 0) (dsCons (eVar 2) dsNil))))))
  (sSeq (sSet 5 (eV (vC (.int 9))))
  (sSeq (sSet 6 (eLst' vsNil))
  (sSeq (sForD (eVar 3) 7 (b_n_law_plan_L2 ψ ι))
  (sSeq (sFor (itR1 (vOp dMod (vCallR (ψ "_law_next") (dsCons (eVar 0) (dsCons (eVar 2) dsNil))) (vC (.int 7)))) (gSet 8) (b_n_law_plan_L3 ψ ι))
  (sRet (eV (vTup' (vsCons (vCompD (eVar 3) [7] 0 7 bYes (vCall c_tuple (vsCons (vE (eVar 7)) vsNil))) (vsCons (vE (eVar 4)) (vsCons (vE (eVar 6)) vsNil)))))))))))))
theorem e_n_law_plan (n:Nat):Psi Gv Att Tb (n+2) "_law_plan"=fnR 2 11 (b_n_law_plan (Psi Gv Att Tb (n+1)) (Psi Gv Att Tb n)):=by kernel_rfl
noncomputable def b_n_law_copy_L1 (ψ ι:Str->GF):ES:=(sSeq (sSet 3 (eV (vComp (itS (vOp dIx (vE (eVar 2)) (vC (.int 5)))) [] 1 (gSet 4) bYes (vOp dAdd2 (vSl2 (vE (eVar 4)) oNone (oSome (vC (.int 4)))) (vTup' (vsCons (vCall c_list (vsCons (vOp dIx (vE (eVar 4)) (vC (.int 4))) vsNil)) (vsCons (vCall c_list (vsCons (vOp dIx (vE (eVar 4)) (vC (.int 5))) vsNil)) (vsCons (vOp dIx (vE (eVar 4)) (vC (.int 6))) vsNil))))))))
  (sDrop (eAppend (eVar 1) (eV (vTup' (vsCons (vOp dIx (vE (eVar 2)) (vC (.int 0))) (vsCons (vOp dIx (vE (eVar 2)) (vC (.int 1))) (vsCons (vCall c_list (vsCons (vOp dIx (vE (eVar 2)) (vC (.int 2))) vsNil)) (vsCons (vCall c_list (vsCons (vOp dIx (vE (eVar 2)) (vC (.int 3))) vsNil)) (vsCons (vCall c_list (vsCons (vOp dIx (vE (eVar 2)) (vC (.int 4))) vsNil)) (vsCons (vE (eVar 3)) vsNil)))))))))))
noncomputable def b_n_law_copy (ψ ι:Str->GF):ES:=(sSeq (sSet 1 (eLst' vsNil))
  (sSeq (sFor (itS (vOp dIx (vE (eVar 0)) (vC (.int 0)))) (gSet 2) (b_n_law_copy_L1 ψ ι))
  (sRet (eV (vTup' (vsCons (vE (eVar 1)) (vsCons (vCall c_list (vsCons (vOp dIx (vE (eVar 0)) (vC (.int 1))) vsNil)) (vsCons (vCall c_list (vsCons (vOp dIx (vE (eVar 0)) (vC (.int 2))) vsNil)) vsNil))))))))
theorem e_n_law_copy (n:Nat):Psi Gv Att Tb (n+2) "_law_copy"=fnR 1 4 (b_n_law_copy (Psi Gv Att Tb (n+1)) (Psi Gv Att Tb n)):=by kernel_rfl
noncomputable def b_n_is_made_of (ψ ι:Str->GF):ES:=(sRet (eV (vCall c_all (vsCons (vComp (itS (vE (eVar 0))) [] 1 (gSet 2) bYes (vOpE gIn (eVar 2) (eVar 1))) vsNil))))
theorem e_n_is_made_of (n:Nat):Psi Gv Att Tb (n+2) "is_made_of"=fnR 2 2 (b_n_is_made_of (Psi Gv Att Tb (n+1)) (Psi Gv Att Tb n)):=by kernel_rfl
noncomputable def b_n_is_name (ψ ι:Str->GF):ES:=(sRet (eV (vB (bAnd (bV (vChain dLe dLe (vC (.int 1)) (vLen (eVar 0)) (vC (.int 10)))) (bAnd (bV (vCall (pureOf (ψ "is_made_of")) (vsCons (vE (eVar 0)) (vsCons (vC (.str "abcdefghijklmnopqrstuvwxyz")) vsNil)))) (bV (vOpE gNotIn (eVar 0) (eV (vC (.tup [.str "or",.str "and",.str "not",.str "true"]))))))))))
theorem e_n_is_name (n:Nat):Psi Gv Att Tb (n+2) "is_name"=fnR 1 1 (b_n_is_name (Psi Gv Att Tb (n+1)) (Psi Gv Att Tb n)):=by kernel_rfl
noncomputable def b_n_are_names (ψ ι:Str->GF):ES:=(sRet (eV (vCall c_all (vsCons (vComp (itS (vE (eVar 0))) [] 1 (gSet 1) bYes (vCall (pureOf (ψ "is_name")) (vsCons (vE (eVar 1)) vsNil))) vsNil))))
theorem e_n_are_names (n:Nat):Psi Gv Att Tb (n+2) "are_names"=fnR 1 1 (b_n_are_names (Psi Gv Att Tb (n+1)) (Psi Gv Att Tb n)):=by kernel_rfl
noncomputable def b_n_are_unlike_names (ψ ι:Str->GF):ES:=(sRet (eV (vB (bAnd (bV (vCall (pureOf (ψ "are_names")) (vsCons (vE (eVar 0)) vsNil))) (bV (vOpE gEq (eV (vLenSet (vE (eVar 0)))) (eV (vLen (eVar 0)))))))))
theorem e_n_are_unlike_names (n:Nat):Psi Gv Att Tb (n+2) "are_unlike_names"=fnR 1 1 (b_n_are_unlike_names (Psi Gv Att Tb (n+1)) (Psi Gv Att Tb n)):=by kernel_rfl
noncomputable def b_n_is_cell (ψ ι:Str->GF):ES:=(sSeq (sUnp (gTupP [gSet 1,gSet 2,gSet 3,gSet 4]) (vE (eVar 0)))
  (sRet (eV (vB (bAnd (bV (vChain dLe dLe (vC (.int 0)) (vOp dSub (vE (eVar 3)) (vE (eVar 2))) (vC (.int 9)))) (bV (vChain dLe dLe (vE (eVar 2)) (vE (eVar 4)) (vE (eVar 3)))))))))
theorem e_n_is_cell (n:Nat):Psi Gv Att Tb (n+2) "is_cell"=fnR 1 5 (b_n_is_cell (Psi Gv Att Tb (n+1)) (Psi Gv Att Tb n)):=by kernel_rfl
noncomputable def b_n_is_family (ψ ι:Str->GF):ES:=(sSeq (sUnp (gTupP [gSet 1,gSet 2,gSet 3,gSet 4,gSet 5,gSet 6]) (vE (eVar 0)))
  (sSeq (sSet 7 (eV (vComp (itS (vE (eVar 4))) [] 1 (gSet 8) bYes (vOp dIx (vE (eVar 8)) (vC (.int 0))))))
  (sSeq (sIf (bOr (bV (vOp dLt (vE (eVar 2)) (vC (.int 1)))) (bNot (bV (vChain dLe dLe (vC (.int 1)) (vLen (eVar 3)) (vC (.int 8)))))) (sRet (eV (vC (.bl false)))) sNx)
  (sSeq (sIf (bOr (bV (vOp dGt (vLen (eVar 4)) (vC (.int 3)))) (bOr (bV (vOp dGt (vLen (eVar 5)) (vC (.int 2)))) (bV (vOp dGt (vLen (eVar 6)) (vC (.int 8)))))) (sRet (eV (vC (.bl false)))) sNx)
  (sSeq (sIf (bOr (bNot (bT (eV (vCall (pureOf (ψ "are_unlike_names")) (vsCons (vE (eVar 3)) vsNil))))) (bNot (bT (eV (vCall (pureOf (ψ "are_unlike_names")) (vsCons (vOp dAdd2 (vE (eVar 7)) (vE (eVar 5))) vsNil)))))) (sRet (eV (vC (.bl false)))) sNx)
  (sSeq (sIf (bOr (bV (vOpE gIn (eV (vC (.str "it"))) (eVar 7))) (bNot (bT (eV (vCall (pureOf (ψ "are_unlike_names")) (vsCons (vComp (itS (vE (eVar 6))) [] 1 (gSet 8) bYes (vOp dIx (vE (eVar 8)) (vC (.int 0)))) vsNil)))))) (sRet (eV (vC (.bl false)))) sNx)
  (sRet (eV (vCall c_all (vsCons (vComp (itS (vE (eVar 4))) [] 1 (gSet 8) bYes (vCall (pureOf (ψ "is_cell")) (vsCons (vE (eVar 8)) vsNil))) vsNil))))))))))
theorem e_n_is_family (n:Nat):Psi Gv Att Tb (n+2) "is_family"=fnR 1 8 (b_n_is_family (Psi Gv Att Tb (n+1)) (Psi Gv Att Tb n)):=by kernel_rfl
noncomputable def b_n_are_families (ψ ι:Str->GF):ES:=(sSeq (sIf (bNot (bV (vChain dLe dLe (vC (.int 1)) (vLen (eVar 0)) (vC (.int 4))))) (sRet (eV (vC (.bl false)))) sNx)
  (sSeq (sIf (bNot (bT (eV (vCall (pureOf (ψ "are_unlike_names")) (vsCons (vComp (itS (vE (eVar 0))) [] 1 (gSet 1) bYes (vOp dIx (vE (eVar 1)) (vC (.int 0)))) vsNil))))) (sRet (eV (vC (.bl false)))) sNx)
  (sSeq (sIf (bNot (bT (eV (vCall c_all (vsCons (vComp (itS (vE (eVar 0))) [] 1 (gSet 1) bYes (vCall (pureOf (ψ "is_family")) (vsCons (vE (eVar 1)) vsNil))) vsNil))))) (sRet (eV (vC (.bl false)))) sNx)
  (sRet (eV (vOp dLe (vCall c_sum (vsCons (vComp (itS (vE (eVar 0))) [] 1 (gSet 1) bYes (vOp dIx (vE (eVar 1)) (vC (.int 1)))) vsNil)) (vC (.int 5))))))))
theorem e_n_are_families (n:Nat):Psi Gv Att Tb (n+2) "are_families"=fnR 1 1 (b_n_are_families (Psi Gv Att Tb (n+1)) (Psi Gv Att Tb n)):=by kernel_rfl
noncomputable def b_n_is_road (ψ ι:Str->GF):ES:=(sSeq (sUnp (gTupP [gSet 2,gSet 3,gSet 4,gSet 5,gSet 6,gSet 7]) (vE (eVar 0)))
  (sRet (eV (vB (bAnd (bV (vOpE gIn (eVar 2) (eVar 1))) (bAnd (bV (vOpE gIn (eVar 3) (eVar 1))) (bAnd (bV (vOpE gIn (eVar 4) (eV (vC (.tup [.str "row",.str "heap"]))))) (bV (vChain dLe dLe (vC (.int 1)) (vE (eVar 5)) (vC (.int 3)))))))))))
theorem e_n_is_road (n:Nat):Psi Gv Att Tb (n+2) "is_road"=fnR 2 8 (b_n_is_road (Psi Gv Att Tb (n+1)) (Psi Gv Att Tb n)):=by kernel_rfl
noncomputable def b_n_are_roads (ψ ι:Str->GF):ES:=(sSeq (sSet 2 (eV (vComp (itS (vE (eVar 1))) [] 1 (gSet 3) bYes (vOp dIx (vE (eVar 3)) (vC (.int 0))))))
  (sSeq (sIf (bOr (bV (vOp dGt (vLen (eVar 0)) (vC (.int 8)))) (bNot (bT (eV (vCall c_all (vsCons (vComp (itS (vE (eVar 0))) [] 1 (gSet 3) bYes (vCall (pureOf (ψ "is_road")) (vsCons (vE (eVar 3)) (vsCons (vE (eVar 2)) vsNil)))) vsNil)))))) (sRet (eV (vC (.bl false)))) sNx)
  (sRet (eV (vOpE gEq (eV (vLenSet (vComp (itS (vE (eVar 0))) [] 1 (gSet 3) bYes (vSl2 (vE (eVar 3)) oNone (oSome (vC (.int 2))))))) (eV (vLen (eVar 0))))))))
theorem e_n_are_roads (n:Nat):Psi Gv Att Tb (n+2) "are_roads"=fnR 2 3 (b_n_are_roads (Psi Gv Att Tb (n+1)) (Psi Gv Att Tb n)):=by kernel_rfl
noncomputable def b_n_is_wish_L1 (ψ ι:Str->GF):ES:=(sIf (bV (vOpE gEq (eV (vOp dIx (vE (eVar 5)) (vC (.int 0)))) (eVar 3))) (sRet (eV (vOpE gIn (eVar 4) (eV (vComp (itS (vOp dIx (vE (eVar 5)) (vC (.int 5)))) [] 1 (gSet 6) bYes (vOp dIx (vE (eVar 6)) (vC (.int 0)))))))) sNx)
noncomputable def b_n_is_wish (ψ ι:Str->GF):ES:=(sSeq (sUnp (gTupP [gSet 2,gSet 3,gSet 4]) (vE (eVar 0)))
  (sSeq (sIf (bV (vOpE gNotIn (eVar 2) (eV (vC (.tup [.str "weak",.str "strong"]))))) (sRet (eV (vC (.bl false)))) sNx)
  (sSeq (sFor (itS (vE (eVar 1))) (gSet 5) (b_n_is_wish_L1 ψ ι))
  (sRet (eV (vC (.bl false)))))))
theorem e_n_is_wish (n:Nat):Psi Gv Att Tb (n+2) "is_wish"=fnR 2 6 (b_n_is_wish (Psi Gv Att Tb (n+1)) (Psi Gv Att Tb n)):=by kernel_rfl
noncomputable def b_n_are_among (ψ ι:Str->GF):ES:=(sRet (eV (vCall c_all (vsCons (vComp (itS (vE (eVar 0))) [] 1 (gSet 2) bYes (vOpE gIn (eVar 2) (eVar 1))) vsNil))))
theorem e_n_are_among (n:Nat):Psi Gv Att Tb (n+2) "are_among"=fnR 2 2 (b_n_are_among (Psi Gv Att Tb (n+1)) (Psi Gv Att Tb n)):=by kernel_rfl
noncomputable def b_n_names_in_L1 (ψ ι:Str->GF):ES:=(sSeq (sSet 3 (ePop (eVar 2)))
  (sIf (bV (vOpE gEq (eV (vOp dIx (vE (eVar 3)) (vC (.int 0)))) (eV (vC (.str "name"))))) (sDrop (eAppend (eVar 1) (eV (vOp dIx (vE (eVar 3)) (vC (.int 1)))))) (sDrop (eExtend (eVar 2) (vComp (itS (vE (eVar 3))) [] 1 (gSet 4) (bT (eV (vIsi "tuple" (eVar 4)))) (vE (eVar 4)))))))
noncomputable def b_n_names_in (ψ ι:Str->GF):ES:=(sSeq (sSet 1 (eLst' vsNil))
  (sSeq (sSet 2 (eLst' (vsCons (vE (eVar 0)) vsNil)))
  (sSeq (sWhile 1000 (bT (eVar 2)) (b_n_names_in_L1 ψ ι))
  (sRet (eVar 1)))))
theorem e_n_names_in (n:Nat):Psi Gv Att Tb (n+2) "names_in"=fnR 1 4 (b_n_names_in (Psi Gv Att Tb (n+1)) (Psi Gv Att Tb n)):=by kernel_rfl
noncomputable def b_n_are_changes (ψ ι:Str->GF):ES:=(sSeq (sSet 4 (eV (vComp (itS (vE (eVar 0))) [] 1 (gSet 5) bYes (vOp dIx (vE (eVar 5)) (vC (.int 0))))))
  (sSeq (sIf (bOr (bNot (bT (eV (vCall (pureOf (ψ "are_among")) (vsCons (vE (eVar 4)) (vsCons (vE (eVar 2)) vsNil)))))) (bV (vOpE gNe (eV (vLenSet (vE (eVar 4)))) (eV (vLen (eVar 4)))))) (sRet (eV (vC (.bl false)))) sNx)
  (sSeq (sIf (bAnd (bV (vOpE gIsNot (eVar 1) (eV (vC (.non))))) (bV (vOpE gIn (eV (vOp dIx (vE (eVar 1)) (vC (.int 2)))) (eVar 4)))) (sRet (eV (vC (.bl false)))) sNx)
  (sRet (eV (vCall c_all (vsCons (vComp (itS (vE (eVar 0))) [] 1 (gSet 5) bYes (vCall (pureOf (ψ "are_among")) (vsCons (vCall (pureOf (ψ "names_in")) (vsCons (vOp dIx (vE (eVar 5)) (vC (.int 1))) vsNil)) (vsCons (vE (eVar 3)) vsNil)))) vsNil)))))))
theorem e_n_are_changes (n:Nat):Psi Gv Att Tb (n+2) "are_changes"=fnR 4 5 (b_n_are_changes (Psi Gv Att Tb (n+1)) (Psi Gv Att Tb n)):=by kernel_rfl
noncomputable def b_n_leads (ψ ι:Str->GF):ES:=(sRet (eV (vCall c_any (vsCons (vComp (itS (vE (eVar 0))) [] 1 (gSet 3) bYes (vB (bAnd (bV (vOpE gEq (eV (vOp dIx (vE (eVar 3)) (vC (.int 0)))) (eVar 1))) (bV (vOpE gEq (eV (vOp dIx (vE (eVar 3)) (vC (.int 1)))) (eVar 2)))))) vsNil))))
theorem e_n_leads (n:Nat):Psi Gv Att Tb (n+2) "leads"=fnR 3 3 (b_n_leads (Psi Gv Att Tb (n+1)) (Psi Gv Att Tb n)):=by kernel_rfl
noncomputable def b_n_is_take (ψ ι:Str->GF):ES:=(sSeq (sUnp (gTupP [gSet 4,gSet 5,gSet 6,gSet 7]) (vE (eVar 0)))
  (sSeq (sIf (bOr (bNot (bT (eV (vCall (pureOf (ψ "is_name")) (vsCons (vE (eVar 4)) vsNil))))) (bNot (bT (eV (vCall (pureOf (ψ "leads")) (vsCons (vE (eVar 3)) (vsCons (vE (eVar 5)) (vsCons (vOp dIx (vE (eVar 1)) (vC (.int 0))) vsNil)))))))) (sRet (eV (vC (.bl false)))) sNx)
  (sRet (eV (vB (bAnd (bOr (bV (vOpE gEq (eVar 6) (eV (vC (.str ""))))) (bV (vOpE gIn (eVar 6) (eVar 2)))) (bOr (bV (vOpE gEq (eVar 7) (eV (vC (.str ""))))) (bV (vOpE gIn (eVar 7) (eV (vOp dIx (vE (eVar 1)) (vC (.int 4)))))))))))))
theorem e_n_is_take (n:Nat):Psi Gv Att Tb (n+2) "is_take"=fnR 4 8 (b_n_is_take (Psi Gv Att Tb (n+1)) (Psi Gv Att Tb n)):=by kernel_rfl
noncomputable def b_n_is_send (ψ ι:Str->GF):ES:=(sSeq (sUnp (gTupP [gSet 4,gSet 5,gSet 6,gSet 7]) (vE (eVar 0)))
  (sSeq (sIf (bOr (bNot (bT (eV (vCall (pureOf (ψ "is_name")) (vsCons (vE (eVar 4)) vsNil))))) (bOr (bV (vOpE gNotIn (eVar 6) (eV (vC (.tup [.str "who",.str "all",.str "any"]))))) (bNot (bT (eV (vCall (pureOf (ψ "are_among")) (vsCons (vCall (pureOf (ψ "names_in")) (vsCons (vE (eVar 5)) vsNil)) (vsCons (vE (eVar 2)) vsNil)))))))) (sRet (eV (vC (.bl false)))) sNx)
  (sSeq (sIf (bV (vOpE gEq (eVar 6) (eV (vC (.str "who"))))) (sRet (eV (vOpE gIn (eVar 7) (eV (vOp dIx (vE (eVar 1)) (vC (.int 4))))))) sNx)
  (sRet (eV (vCall (pureOf (ψ "leads")) (vsCons (vE (eVar 3)) (vsCons (vOp dIx (vE (eVar 1)) (vC (.int 0))) (vsCons (vE (eVar 7)) vsNil)))))))))
theorem e_n_is_send (n:Nat):Psi Gv Att Tb (n+2) "is_send"=fnR 4 8 (b_n_is_send (Psi Gv Att Tb (n+1)) (Psi Gv Att Tb n)):=by kernel_rfl
noncomputable def b_n_is_step (ψ ι:Str->GF):ES:=(sSeq (sUnp (gTupP [gSet 4,gSet 5,gSet 6,gSet 7,gSet 8,gSet 9,gSet 10]) (vE (eVar 0)))
  (sSeq (sSet 11 (eV (vOp dIx (vE (eVar 1)) (vC (.int 2)))))
  (sSeq (sSet 12 (eV (vComp (itS (vOp dIx (vE (eVar 1)) (vC (.int 3)))) [] 1 (gSet 14) bYes (vOp dIx (vE (eVar 14)) (vC (.int 0))))))
  (sSeq (sIf (bOr (bV (vOpE gNotIn (eVar 5) (eVar 11))) (bOr (bV (vOpE gNotIn (eVar 10) (eVar 11))) (bNot (bT (eV (vCall (pureOf (ψ "are_among")) (vsCons (vCall (pureOf (ψ "names_in")) (vsCons (vE (eVar 6)) vsNil)) (vsCons (vE (eVar 12)) vsNil)))))))) (sRet (eV (vC (.bl false)))) sNx)
  (sSeq (sIf (bAnd (bV (vOpE gIsNot (eVar 7) (eV (vC (.non))))) (bNot (bT (eV (vCall (pureOf (ψ "is_take")) (vsCons (vE (eVar 7)) (vsCons (vE (eVar 1)) (vsCons (vE (eVar 12)) (vsCons (vE (eVar 3)) vsNil))))))))) (sRet (eV (vC (.bl false)))) sNx)
  (sSeq (sSet 13 (eV (vIf (bV (vOpE gIs (eVar 7) (eV (vC (.non))))) (vE (eVar 12)) (vOp dAdd2 (vE (eVar 12)) (vLst' (vsCons (vC (.str "it")) vsNil))))))
  (sSeq (sIf (bNot (bT (eV (vCall (pureOf (ψ "are_changes")) (vsCons (vE (eVar 8)) (vsCons (vE (eVar 7)) (vsCons (vE (eVar 12)) (vsCons (vE (eVar 13)) vsNil)))))))) (sRet (eV (vC (.bl false)))) sNx)
  (sRet (eV (vCall c_all (vsCons (vComp (itS (vE (eVar 9))) [] 1 (gSet 14) bYes (vCall (pureOf (ψ "is_send")) (vsCons (vE (eVar 14)) (vsCons (vE (eVar 1)) (vsCons (vE (eVar 13)) (vsCons (vE (eVar 3)) vsNil)))))) vsNil)))))))))))
theorem e_n_is_step (n:Nat):Psi Gv Att Tb (n+2) "is_step"=fnR 4 14 (b_n_is_step (Psi Gv Att Tb (n+1)) (Psi Gv Att Tb n)):=by kernel_rfl
noncomputable def b_n_is_plan_L1 (ψ ι:Str->GF):ES:=(sIf (bNot (bT (eV (vCall c_all (vsCons (vComp (itS (vOp dIx (vE (eVar 4)) (vC (.int 5)))) [] 1 (gSet 5) bYes (vCall (pureOf (ψ "is_step")) (vsCons (vE (eVar 5)) (vsCons (vE (eVar 4)) (vsCons (vE (eVar 1)) (vsCons (vE (eVar 2)) vsNil)))))) vsNil))))) (sRet (eV (vC (.bl false)))) sNx)
noncomputable def b_n_is_plan (ψ ι:Str->GF):ES:=(sSeq (sUnp (gTupP [gSet 1,gSet 2,gSet 3]) (vE (eVar 0)))
  (sSeq (sIf (bNot (bAnd (bT (eV (vCall (pureOf (ψ "are_families")) (vsCons (vE (eVar 1)) vsNil)))) (bT (eV (vCall (pureOf (ψ "are_roads")) (vsCons (vE (eVar 2)) (vsCons (vE (eVar 1)) vsNil))))))) (sRet (eV (vC (.bl false)))) sNx)
  (sSeq (sFor (itS (vE (eVar 1))) (gSet 4) (b_n_is_plan_L1 ψ ι))
  (sRet (eV (vB (bAnd (bV (vOp dLe (vLen (eVar 3)) (vC (.int 6)))) (bV (vCall c_all (vsCons (vComp (itS (vE (eVar 3))) [] 1 (gSet 5) bYes (vCall (pureOf (ψ "is_wish")) (vsCons (vE (eVar 5)) (vsCons (vE (eVar 1)) vsNil)))) vsNil))))))))))
theorem e_n_is_plan (n:Nat):Psi Gv Att Tb (n+2) "is_plan"=fnR 1 5 (b_n_is_plan (Psi Gv Att Tb (n+1)) (Psi Gv Att Tb n)):=by kernel_rfl
noncomputable def b_n_check_plan (ψ ι:Str->GF):ES:=(sIf (bNot (bT (eV (vCall (pureOf (ψ "is_plan")) (vsCons (vE (eVar 0)) vsNil))))) sNever sNx)
theorem e_n_check_plan (n:Nat):Psi Gv Att Tb (n+2) "check_plan"=fnR 1 1 (b_n_check_plan (Psi Gv Att Tb (n+1)) (Psi Gv Att Tb n)):=by kernel_rfl
noncomputable def b_n_law (ψ ι:Str->GF):ES:=(sSeq (sSet 1 (eV (vCall (pureOf (ψ "_law_plan")) (vsCons (vE (eVar 0)) (vsCons (vCall (pureOf (ψ "_law_mix")) (vsCons (vCall (pureOf (ψ "_law_at")) (vsCons (vE (eVar 0)) (vsCons (vC (.int 0)) vsNil))) (vsCons (vC (.int 1)) vsNil))) vsNil)))))
  (sSeq (sSet 2 (eV (vCall (pureOf (ψ "_law_copy")) (vsCons (vE (eVar 1)) vsNil))))
  (sRet (eV (vB (bAnd (bV (vOpE gIs (eV (vCall (pureOf (ψ "check_plan")) (vsCons (vE (eVar 2)) vsNil))) (eV (vC (.non))))) (bAnd (bV (vOpE gEq (eVar 2) (eVar 1))) (bV (vOpE gIs (eV (vCall (pureOf (ψ "check_plan")) (vsCons (vE (eVar 2)) vsNil))) (eV (vC (.non))))))))))))
theorem e_n_law (n:Nat):Psi Gv Att Tb (n+2) "law"=fnR 1 3 (b_n_law (Psi Gv Att Tb (n+1)) (Psi Gv Att Tb n)):=by kernel_rfl
theorem ln1 {α:Type}{us:List α} (h:us.length=1):∃a,us=[a]:=by
 match us,h with
 | [a],_=>exact⟨a,rfl⟩
theorem ln2 {α:Type}{us:List α} (h:us.length=2):∃a b,us=[a,b]:=by
 match us,h with
 | [a,b],_=>exact⟨a,b,rfl⟩
theorem ln3 {α:Type}{us:List α} (h:us.length=3):∃a b c,us=[a,b,c]:=by
 match us,h with
 | [a,b,c],_=>exact⟨a,b,c,rfl⟩
theorem ln4 {α:Type}{us:List α} (h:us.length=4):∃a b c d,us=[a,b,c,d]:=by
 match us,h with
 | [a,b,c,d],_=>exact⟨a,b,c,d,rfl⟩
theorem ln5 {α:Type}{us:List α} (h:us.length=5):∃a b c d e,us=[a,b,c,d,e]:=by
 match us,h with
 | [a,b,c,d,e],_=>exact⟨a,b,c,d,e,rfl⟩
theorem sc:Tb.all scB=true:=by decide +kernel
theorem un:(Tb.map (·.name)).Nodup:=by decide +kernel
open PySem.W in
theorem all_mk {w:World}{K:Frag}{h:Heap}{mg:Str->Option Value} (X:K.In h) (G:h.Ns mainGlobals mg)
  {f0 f1 f2 f3 f4 f5 f6 f7 f8 f9 f10 f11 f12 f13 f14 f15 f16 f17 f18 f19 f20 f21 f22 f23 f24 f25 f26 f27 f28 f29 f30 f31 f32 f33:Addr}{od0 an0 od1 an1 od2 an2 od3 an3 od4 an4 od5 an5 od6 an6 od7 an7 od8 an8 od9 an9 od10 an10 od11 an11 od12 an12 od13 an13 od14 an14 od15 an15 od16 an16 od17 an17 od18 an18 od19 an19 od20 an20 od21 an21 od22 an22 od23 an23 od24 an24 od25 an25 od26 an26 od27 an27 od28 an28 od29 an29 od30 an30 od31 an31 od32 an32 od33 an33:Option Addr}{sl0 sl1 sl2 sl3 sl4 sl5 sl6 sl7 sl8 sl9 sl10 sl11 sl12 sl13 sl14 sl15 sl16 sl17 sl18 sl19 sl20 sl21 sl22 sl23 sl24 sl25 sl26 sl27 sl28 sl29 sl30 sl31 sl32 sl33:Array (Option Value)}{oc0 kV0 dc0 pm0 cd0 ct0 oc1 kV1 dc1 pm1 cd1 ct1 oc2 kV2 dc2 pm2 cd2 ct2 oc3 kV3 dc3 pm3 cd3 ct3 oc4 kV4 dc4 pm4 cd4 ct4 oc5 kV5 dc5 pm5 cd5 ct5 oc6 kV6 dc6 pm6 cd6 ct6 oc7 kV7 dc7 pm7 cd7 ct7 oc8 kV8 dc8 pm8 cd8 ct8 oc9 kV9 dc9 pm9 cd9 ct9 oc10 kV10 dc10 pm10 cd10 ct10 oc11 kV11 dc11 pm11 cd11 ct11 oc12 kV12 dc12 pm12 cd12 ct12 oc13 kV13 dc13 pm13 cd13 ct13 oc14 kV14 dc14 pm14 cd14 ct14 oc15 kV15 dc15 pm15 cd15 ct15 oc16 kV16 dc16 pm16 cd16 ct16 oc17 kV17 dc17 pm17 cd17 ct17 oc18 kV18 dc18 pm18 cd18 ct18 oc19 kV19 dc19 pm19 cd19 ct19 oc20 kV20 dc20 pm20 cd20 ct20 oc21 kV21 dc21 pm21 cd21 ct21 oc22 kV22 dc22 pm22 cd22 ct22 oc23 kV23 dc23 pm23 cd23 ct23 oc24 kV24 dc24 pm24 cd24 ct24 oc25 kV25 dc25 pm25 cd25 ct25 oc26 kV26 dc26 pm26 cd26 ct26 oc27 kV27 dc27 pm27 cd27 ct27 oc28 kV28 dc28 pm28 cd28 ct28 oc29 kV29 dc29 pm29 cd29 ct29 oc30 kV30 dc30 pm30 cd30 ct30 oc31 kV31 dc31 pm31 cd31 ct31 oc32 kV32 dc32 pm32 cd32 ct32 oc33 kV33 dc33 pm33 cd33 ct33:Value}
  (a0:nsIn K mainGlobals "_law_mix"=some (some (.ref f0)))
  (l0:K.lookup f0=some ⟨oc0,od0,.func (fnOf "_law_mix" "_law_mix" (defArgs (top 43)) (defBody (top 43)) (defScope (top 43)) .none kV0 dc0 pm0 an0 cd0 ct0),sl0⟩) (c0:codeIn K cd0 "_law_mix"=true) (k0:keepIn K (.ref f0)=true)
  (a1:nsIn K mainGlobals "_law_at"=some (some (.ref f1)))
  (l1:K.lookup f1=some ⟨oc1,od1,.func (fnOf "_law_at" "_law_at" (defArgs (top 42)) (defBody (top 42)) (defScope (top 42)) .none kV1 dc1 pm1 an1 cd1 ct1),sl1⟩) (c1:codeIn K cd1 "_law_at"=true) (k1:keepIn K (.ref f1)=true)
  (a2:nsIn K mainGlobals "_law_next"=some (some (.ref f2)))
  (l2:K.lookup f2=some ⟨oc2,od2,.func (fnOf "_law_next" "_law_next" (defArgs (top 45)) (defBody (top 45)) (defScope (top 45)) .none kV2 dc2 pm2 an2 cd2 ct2),sl2⟩) (c2:codeIn K cd2 "_law_next"=true) (k2:keepIn K (.ref f2)=true)
  (a3:nsIn K mainGlobals "_law_named"=some (some (.ref f3)))
  (l3:K.lookup f3=some ⟨oc3,od3,.func (fnOf "_law_named" "_law_named" (defArgs (top 44)) (defBody (top 44)) (defScope (top 44)) .none kV3 dc3 pm3 an3 cd3 ct3),sl3⟩) (c3:codeIn K cd3 "_law_named"=true) (k3:keepIn K (.ref f3)=true)
  (a4:nsIn K mainGlobals "_law_cells"=some (some (.ref f4)))
  (l4:K.lookup f4=some ⟨oc4,od4,.func (fnOf "_law_cells" "_law_cells" (defArgs (top 49)) (defBody (top 49)) (defScope (top 49)) .none kV4 dc4 pm4 an4 cd4 ct4),sl4⟩) (c4:codeIn K cd4 "_law_cells"=true) (k4:keepIn K (.ref f4)=true)
  (a5:nsIn K mainGlobals "_law_first"=some (some (.ref f5)))
  (l5:K.lookup f5=some ⟨oc5,od5,.func (fnOf "_law_first" "_law_first" (defArgs (top 50)) (defBody (top 50)) (defScope (top 50)) .none kV5 dc5 pm5 an5 cd5 ct5),sl5⟩) (c5:codeIn K cd5 "_law_first"=true) (k5:keepIn K (.ref f5)=true)
  (a6:nsIn K mainGlobals "_law_roads"=some (some (.ref f6)))
  (l6:K.lookup f6=some ⟨oc6,od6,.func (fnOf "_law_roads" "_law_roads" (defArgs (top 51)) (defBody (top 51)) (defScope (top 51)) .none kV6 dc6 pm6 an6 cd6 ct6),sl6⟩) (c6:codeIn K cd6 "_law_roads"=true) (k6:keepIn K (.ref f6)=true)
  (a7:nsIn K mainGlobals "_law_leaf"=some (some (.ref f7)))
  (l7:K.lookup f7=some ⟨oc7,od7,.func (fnOf "_law_leaf" "_law_leaf" (defArgs (top 46)) (defBody (top 46)) (defScope (top 46)) .none kV7 dc7 pm7 an7 cd7 ct7),sl7⟩) (c7:codeIn K cd7 "_law_leaf"=true) (k7:keepIn K (.ref f7)=true)
  (a8:nsIn K mainGlobals "_law_small"=some (some (.ref f8)))
  (l8:K.lookup f8=some ⟨oc8,od8,.func (fnOf "_law_small" "_law_small" (defArgs (top 47)) (defBody (top 47)) (defScope (top 47)) .none kV8 dc8 pm8 an8 cd8 ct8),sl8⟩) (c8:codeIn K cd8 "_law_small"=true) (k8:keepIn K (.ref f8)=true)
  (a9:nsIn K mainGlobals "_law_when"=some (some (.ref f9)))
  (l9:K.lookup f9=some ⟨oc9,od9,.func (fnOf "_law_when" "_law_when" (defArgs (top 48)) (defBody (top 48)) (defScope (top 48)) .none kV9 dc9 pm9 an9 cd9 ct9),sl9⟩) (c9:codeIn K cd9 "_law_when"=true) (k9:keepIn K (.ref f9)=true)
  (a10:nsIn K mainGlobals "_law_sends"=some (some (.ref f10)))
  (l10:K.lookup f10=some ⟨oc10,od10,.func (fnOf "_law_sends" "_law_sends" (defArgs (top 52)) (defBody (top 52)) (defScope (top 52)) .none kV10 dc10 pm10 an10 cd10 ct10),sl10⟩) (c10:codeIn K cd10 "_law_sends"=true) (k10:keepIn K (.ref f10)=true)
  (a11:nsIn K mainGlobals "_law_step"=some (some (.ref f11)))
  (l11:K.lookup f11=some ⟨oc11,od11,.func (fnOf "_law_step" "_law_step" (defArgs (top 53)) (defBody (top 53)) (defScope (top 53)) .none kV11 dc11 pm11 an11 cd11 ct11),sl11⟩) (c11:codeIn K cd11 "_law_step"=true) (k11:keepIn K (.ref f11)=true)
  (a12:nsIn K mainGlobals "_law_plan"=some (some (.ref f12)))
  (l12:K.lookup f12=some ⟨oc12,od12,.func (fnOf "_law_plan" "_law_plan" (defArgs (top 54)) (defBody (top 54)) (defScope (top 54)) .none kV12 dc12 pm12 an12 cd12 ct12),sl12⟩) (c12:codeIn K cd12 "_law_plan"=true) (k12:keepIn K (.ref f12)=true)
  (a13:nsIn K mainGlobals "_law_copy"=some (some (.ref f13)))
  (l13:K.lookup f13=some ⟨oc13,od13,.func (fnOf "_law_copy" "_law_copy" (defArgs (top 55)) (defBody (top 55)) (defScope (top 55)) .none kV13 dc13 pm13 an13 cd13 ct13),sl13⟩) (c13:codeIn K cd13 "_law_copy"=true) (k13:keepIn K (.ref f13)=true)
  (a14:nsIn K mainGlobals "is_made_of"=some (some (.ref f14)))
  (l14:K.lookup f14=some ⟨oc14,od14,.func (fnOf "is_made_of" "is_made_of" (defArgs (top 10)) (defBody (top 10)) (defScope (top 10)) .none kV14 dc14 pm14 an14 cd14 ct14),sl14⟩) (c14:codeIn K cd14 "is_made_of"=true) (k14:keepIn K (.ref f14)=true)
  (a15:nsIn K mainGlobals "is_name"=some (some (.ref f15)))
  (l15:K.lookup f15=some ⟨oc15,od15,.func (fnOf "is_name" "is_name" (defArgs (top 11)) (defBody (top 11)) (defScope (top 11)) .none kV15 dc15 pm15 an15 cd15 ct15),sl15⟩) (c15:codeIn K cd15 "is_name"=true) (k15:keepIn K (.ref f15)=true)
  (a16:nsIn K mainGlobals "are_names"=some (some (.ref f16)))
  (l16:K.lookup f16=some ⟨oc16,od16,.func (fnOf "are_names" "are_names" (defArgs (top 12)) (defBody (top 12)) (defScope (top 12)) .none kV16 dc16 pm16 an16 cd16 ct16),sl16⟩) (c16:codeIn K cd16 "are_names"=true) (k16:keepIn K (.ref f16)=true)
  (a17:nsIn K mainGlobals "are_unlike_names"=some (some (.ref f17)))
  (l17:K.lookup f17=some ⟨oc17,od17,.func (fnOf "are_unlike_names" "are_unlike_names" (defArgs (top 13)) (defBody (top 13)) (defScope (top 13)) .none kV17 dc17 pm17 an17 cd17 ct17),sl17⟩) (c17:codeIn K cd17 "are_unlike_names"=true) (k17:keepIn K (.ref f17)=true)
  (a18:nsIn K mainGlobals "is_cell"=some (some (.ref f18)))
  (l18:K.lookup f18=some ⟨oc18,od18,.func (fnOf "is_cell" "is_cell" (defArgs (top 31)) (defBody (top 31)) (defScope (top 31)) .none kV18 dc18 pm18 an18 cd18 ct18),sl18⟩) (c18:codeIn K cd18 "is_cell"=true) (k18:keepIn K (.ref f18)=true)
  (a19:nsIn K mainGlobals "is_family"=some (some (.ref f19)))
  (l19:K.lookup f19=some ⟨oc19,od19,.func (fnOf "is_family" "is_family" (defArgs (top 30)) (defBody (top 30)) (defScope (top 30)) .none kV19 dc19 pm19 an19 cd19 ct19),sl19⟩) (c19:codeIn K cd19 "is_family"=true) (k19:keepIn K (.ref f19)=true)
  (a20:nsIn K mainGlobals "are_families"=some (some (.ref f20)))
  (l20:K.lookup f20=some ⟨oc20,od20,.func (fnOf "are_families" "are_families" (defArgs (top 29)) (defBody (top 29)) (defScope (top 29)) .none kV20 dc20 pm20 an20 cd20 ct20),sl20⟩) (c20:codeIn K cd20 "are_families"=true) (k20:keepIn K (.ref f20)=true)
  (a21:nsIn K mainGlobals "is_road"=some (some (.ref f21)))
  (l21:K.lookup f21=some ⟨oc21,od21,.func (fnOf "is_road" "is_road" (defArgs (top 33)) (defBody (top 33)) (defScope (top 33)) .none kV21 dc21 pm21 an21 cd21 ct21),sl21⟩) (c21:codeIn K cd21 "is_road"=true) (k21:keepIn K (.ref f21)=true)
  (a22:nsIn K mainGlobals "are_roads"=some (some (.ref f22)))
  (l22:K.lookup f22=some ⟨oc22,od22,.func (fnOf "are_roads" "are_roads" (defArgs (top 32)) (defBody (top 32)) (defScope (top 32)) .none kV22 dc22 pm22 an22 cd22 ct22),sl22⟩) (c22:codeIn K cd22 "are_roads"=true) (k22:keepIn K (.ref f22)=true)
  (a23:nsIn K mainGlobals "is_wish"=some (some (.ref f23)))
  (l23:K.lookup f23=some ⟨oc23,od23,.func (fnOf "is_wish" "is_wish" (defArgs (top 34)) (defBody (top 34)) (defScope (top 34)) .none kV23 dc23 pm23 an23 cd23 ct23),sl23⟩) (c23:codeIn K cd23 "is_wish"=true) (k23:keepIn K (.ref f23)=true)
  (a24:nsIn K mainGlobals "are_among"=some (some (.ref f24)))
  (l24:K.lookup f24=some ⟨oc24,od24,.func (fnOf "are_among" "are_among" (defArgs (top 36)) (defBody (top 36)) (defScope (top 36)) .none kV24 dc24 pm24 an24 cd24 ct24),sl24⟩) (c24:codeIn K cd24 "are_among"=true) (k24:keepIn K (.ref f24)=true)
  (a25:nsIn K mainGlobals "names_in"=some (some (.ref f25)))
  (l25:K.lookup f25=some ⟨oc25,od25,.func (fnOf "names_in" "names_in" (defArgs (top 15)) (defBody (top 15)) (defScope (top 15)) .none kV25 dc25 pm25 an25 cd25 ct25),sl25⟩) (c25:codeIn K cd25 "names_in"=true) (k25:keepIn K (.ref f25)=true)
  (a26:nsIn K mainGlobals "are_changes"=some (some (.ref f26)))
  (l26:K.lookup f26=some ⟨oc26,od26,.func (fnOf "are_changes" "are_changes" (defArgs (top 38)) (defBody (top 38)) (defScope (top 38)) .none kV26 dc26 pm26 an26 cd26 ct26),sl26⟩) (c26:codeIn K cd26 "are_changes"=true) (k26:keepIn K (.ref f26)=true)
  (a27:nsIn K mainGlobals "leads"=some (some (.ref f27)))
  (l27:K.lookup f27=some ⟨oc27,od27,.func (fnOf "leads" "leads" (defArgs (top 40)) (defBody (top 40)) (defScope (top 40)) .none kV27 dc27 pm27 an27 cd27 ct27),sl27⟩) (c27:codeIn K cd27 "leads"=true) (k27:keepIn K (.ref f27)=true)
  (a28:nsIn K mainGlobals "is_take"=some (some (.ref f28)))
  (l28:K.lookup f28=some ⟨oc28,od28,.func (fnOf "is_take" "is_take" (defArgs (top 37)) (defBody (top 37)) (defScope (top 37)) .none kV28 dc28 pm28 an28 cd28 ct28),sl28⟩) (c28:codeIn K cd28 "is_take"=true) (k28:keepIn K (.ref f28)=true)
  (a29:nsIn K mainGlobals "is_send"=some (some (.ref f29)))
  (l29:K.lookup f29=some ⟨oc29,od29,.func (fnOf "is_send" "is_send" (defArgs (top 39)) (defBody (top 39)) (defScope (top 39)) .none kV29 dc29 pm29 an29 cd29 ct29),sl29⟩) (c29:codeIn K cd29 "is_send"=true) (k29:keepIn K (.ref f29)=true)
  (a30:nsIn K mainGlobals "is_step"=some (some (.ref f30)))
  (l30:K.lookup f30=some ⟨oc30,od30,.func (fnOf "is_step" "is_step" (defArgs (top 35)) (defBody (top 35)) (defScope (top 35)) .none kV30 dc30 pm30 an30 cd30 ct30),sl30⟩) (c30:codeIn K cd30 "is_step"=true) (k30:keepIn K (.ref f30)=true)
  (a31:nsIn K mainGlobals "is_plan"=some (some (.ref f31)))
  (l31:K.lookup f31=some ⟨oc31,od31,.func (fnOf "is_plan" "is_plan" (defArgs (top 28)) (defBody (top 28)) (defScope (top 28)) .none kV31 dc31 pm31 an31 cd31 ct31),sl31⟩) (c31:codeIn K cd31 "is_plan"=true) (k31:keepIn K (.ref f31)=true)
  (a32:nsIn K mainGlobals "check_plan"=some (some (.ref f32)))
  (l32:K.lookup f32=some ⟨oc32,od32,.func (fnOf "check_plan" "check_plan" (defArgs (top 27)) (defBody (top 27)) (defScope (top 27)) .none kV32 dc32 pm32 an32 cd32 ct32),sl32⟩) (c32:codeIn K cd32 "check_plan"=true) (k32:keepIn K (.ref f32)=true)
  (a33:nsIn K mainGlobals "law"=some (some (.ref f33)))
  (l33:K.lookup f33=some ⟨oc33,od33,.func (fnOf "law" "law" (defArgs (top 56)) (defBody (top 56)) (defScope (top 56)) .none kV33 dc33 pm33 an33 cd33 ct33),sl33⟩) (c33:codeIn K cd33 "law"=true) (k33:keepIn K (.ref f33)=true)
  {gt0:Tok} (glb0:nsIn K mainGlobals "LETTERS"=some (some (.str "abcdefghijklmnopqrstuvwxyz" gt0)))
  {gt1:Tok} (glb1:nsIn K mainGlobals "MOST_CELLS"=some (some (.int 3 gt1)))
  {gt2:Tok} (glb2:nsIn K mainGlobals "MOST_FAMILIES"=some (some (.int 4 gt2)))
  {gt3:Tok} (glb3:nsIn K mainGlobals "MOST_HANDS"=some (some (.int 5 gt3)))
  {gt4:Tok} (glb4:nsIn K mainGlobals "MOST_LETTERS"=some (some (.int 10 gt4)))
  {gt5:Tok} (glb5:nsIn K mainGlobals "MOST_LETTERS_ON_ROAD"=some (some (.int 3 gt5)))
  {gt6:Tok} (glb6:nsIn K mainGlobals "MOST_ROADS"=some (some (.int 8 gt6)))
  {gt7:Tok} (glb7:nsIn K mainGlobals "MOST_ROOMS"=some (some (.int 8 gt7)))
  {gt8:Tok} (glb8:nsIn K mainGlobals "MOST_STEPS"=some (some (.int 8 gt8)))
  {gt9:Tok} (glb9:nsIn K mainGlobals "MOST_WHOS"=some (some (.int 2 gt9)))
  {gt10:Tok} (glb10:nsIn K mainGlobals "MOST_WISHES"=some (some (.int 6 gt10)))
  {ga11:Addr}{go11:Option Addr}{gn11:Nat}{gs11:Array (Option Value)}{gt11_0 gt11_1:Tok} (glb11:nsIn K mainGlobals "ROAD_KINDS"=some (some (.ref ga11))) (glt11:K.lookup ga11=some ⟨.type "tuple",go11,.seq #[.str "row" gt11_0,.str "heap" gt11_1] gn11,gs11⟩)
  {ga12:Addr}{go12:Option Addr}{gn12:Nat}{gs12:Array (Option Value)}{gt12_0 gt12_1 gt12_2:Tok} (glb12:nsIn K mainGlobals "WAYS"=some (some (.ref ga12))) (glt12:K.lookup ga12=some ⟨.type "tuple",go12,.seq #[.str "who" gt12_0,.str "all" gt12_1,.str "any" gt12_2] gn12,gs12⟩)
  {gt13:Tok} (glb13:nsIn K mainGlobals "WIDEST_CELL"=some (some (.int 9 gt13)))
  {ga14:Addr}{go14:Option Addr}{gn14:Nat}{gs14:Array (Option Value)}{gt14_0 gt14_1:Tok} (glb14:nsIn K mainGlobals "WISH_KINDS"=some (some (.ref ga14))) (glt14:K.lookup ga14=some ⟨.type "tuple",go14,.seq #[.str "weak" gt14_0,.str "strong" gt14_1] gn14,gs14⟩)
  {ga15:Addr}{go15:Option Addr}{gn15:Nat}{gs15:Array (Option Value)}{gt15_0 gt15_1 gt15_2 gt15_3:Tok} (glb15:nsIn K mainGlobals "WORDS"=some (some (.ref ga15))) (glt15:K.lookup ga15=some ⟨.type "tuple",go15,.seq #[.str "or" gt15_0,.str "and" gt15_1,.str "not" gt15_2,.str "true" gt15_3] gn15,gs15⟩)
  (z:∀x ∈ bltN,nsIn K mainGlobals x=some none)
  : TOk w Gv Att Tb K mg:=by
 refine⟨fun d hd=>?_,sc,un,fun x hx=>mg_none_of X G (z x hx),fun x v hv=>?_,fun c f hc=>?_⟩
 ·rcases List.mem_cons.mp hd with hd | hd
  ·subst hd;exact⟨_,_,⟨fun_mk (st:=(top 43)) l0 c0 k0,(fun_mk (st:=(top 43)) l0 c0 k0).binds (ps:=["_law_number","_law_place"]) fun _ _ _ _ _ _ us hl=>by obtain⟨_,_,rfl⟩:=ln2 hl;rfl,fun _=>mg_of X G a0,fun h=>absurd h (by decide +kernel)⟩⟩
  rcases List.mem_cons.mp hd with hd | hd
  ·subst hd;exact⟨_,_,⟨fun_mk (st:=(top 42)) l1 c1 k1,(fun_mk (st:=(top 42)) l1 c1 k1).binds (ps:=["_law_script","_law_k"]) fun _ _ _ _ _ _ us hl=>by obtain⟨_,_,rfl⟩:=ln2 hl;rfl,fun _=>mg_of X G a1,fun h=>absurd h (by decide +kernel)⟩⟩
  rcases List.mem_cons.mp hd with hd | hd
  ·subst hd;exact⟨_,_,⟨fun_mk (st:=(top 45)) l2 c2 k2,(fun_mk (st:=(top 45)) l2 c2 k2).binds (ps:=["_law_script","_law_at_here"]) fun _ _ _ _ _ _ us hl=>by obtain⟨_,_,rfl⟩:=ln2 hl;rfl,fun _=>mg_of X G a2,fun h=>absurd h (by decide +kernel)⟩⟩
  rcases List.mem_cons.mp hd with hd | hd
  ·subst hd;exact⟨_,_,⟨fun_mk (st:=(top 44)) l3 c3 k3,(fun_mk (st:=(top 44)) l3 c3 k3).binds (ps:=["_law_k","_law_number"]) fun _ _ _ _ _ _ us hl=>by obtain⟨_,_,rfl⟩:=ln2 hl;rfl,fun _=>mg_of X G a3,fun h=>absurd h (by decide +kernel)⟩⟩
  rcases List.mem_cons.mp hd with hd | hd
  ·subst hd;exact⟨_,_,⟨fun_mk (st:=(top 49)) l4 c4 k4,(fun_mk (st:=(top 49)) l4 c4 k4).binds (ps:=["_law_script","_law_at_here"]) fun _ _ _ _ _ _ us hl=>by obtain⟨_,_,rfl⟩:=ln2 hl;rfl,fun _=>mg_of X G a4,fun h=>absurd h (by decide +kernel)⟩⟩
  rcases List.mem_cons.mp hd with hd | hd
  ·subst hd;exact⟨_,_,⟨fun_mk (st:=(top 50)) l5 c5 k5,(fun_mk (st:=(top 50)) l5 c5 k5).binds (ps:=["_law_script","_law_at_here","_law_many"]) fun _ _ _ _ _ _ us hl=>by obtain⟨_,_,_,rfl⟩:=ln3 hl;rfl,fun _=>mg_of X G a5,fun h=>absurd h (by decide +kernel)⟩⟩
  rcases List.mem_cons.mp hd with hd | hd
  ·subst hd;exact⟨_,_,⟨fun_mk (st:=(top 51)) l6 c6 k6,(fun_mk (st:=(top 51)) l6 c6 k6).binds (ps:=["_law_families","_law_script","_law_at_here"]) fun _ _ _ _ _ _ us hl=>by obtain⟨_,_,_,rfl⟩:=ln3 hl;rfl,fun _=>mg_of X G a6,fun h=>absurd h (by decide +kernel)⟩⟩
  rcases List.mem_cons.mp hd with hd | hd
  ·subst hd;exact⟨_,_,⟨fun_mk (st:=(top 46)) l7 c7 k7,(fun_mk (st:=(top 46)) l7 c7 k7).binds (ps:=["_law_names","_law_number"]) fun _ _ _ _ _ _ us hl=>by obtain⟨_,_,rfl⟩:=ln2 hl;rfl,fun _=>mg_of X G a7,fun h=>absurd h (by decide +kernel)⟩⟩
  rcases List.mem_cons.mp hd with hd | hd
  ·subst hd;exact⟨_,_,⟨fun_mk (st:=(top 47)) l8 c8 k8,(fun_mk (st:=(top 47)) l8 c8 k8).binds (ps:=["_law_names","_law_script","_law_at_here"]) fun _ _ _ _ _ _ us hl=>by obtain⟨_,_,_,rfl⟩:=ln3 hl;rfl,fun _=>mg_of X G a8,fun h=>absurd h (by decide +kernel)⟩⟩
  rcases List.mem_cons.mp hd with hd | hd
  ·subst hd;exact⟨_,_,⟨fun_mk (st:=(top 48)) l9 c9 k9,(fun_mk (st:=(top 48)) l9 c9 k9).binds (ps:=["_law_names","_law_script","_law_at_here"]) fun _ _ _ _ _ _ us hl=>by obtain⟨_,_,_,rfl⟩:=ln3 hl;rfl,fun _=>mg_of X G a9,fun h=>absurd h (by decide +kernel)⟩⟩
  rcases List.mem_cons.mp hd with hd | hd
  ·subst hd;exact⟨_,_,⟨fun_mk (st:=(top 52)) l10 c10 k10,(fun_mk (st:=(top 52)) l10 c10 k10).binds (ps:=["_law_family","_law_roads_here","_law_known","_law_script","_law_at_here"]) fun _ _ _ _ _ _ us hl=>by obtain⟨_,_,_,_,_,rfl⟩:=ln5 hl;rfl,fun _=>mg_of X G a10,fun h=>absurd h (by decide +kernel)⟩⟩
  rcases List.mem_cons.mp hd with hd | hd
  ·subst hd;exact⟨_,_,⟨fun_mk (st:=(top 53)) l11 c11 k11,(fun_mk (st:=(top 53)) l11 c11 k11).binds (ps:=["_law_family","_law_roads_here","_law_k","_law_script","_law_at_here"]) fun _ _ _ _ _ _ us hl=>by obtain⟨_,_,_,_,_,rfl⟩:=ln5 hl;rfl,fun _=>mg_of X G a11,fun h=>absurd h (by decide +kernel)⟩⟩
  rcases List.mem_cons.mp hd with hd | hd
  ·subst hd;exact⟨_,_,⟨fun_mk (st:=(top 54)) l12 c12 k12,(fun_mk (st:=(top 54)) l12 c12 k12).binds (ps:=["_law_script","_law_counts"]) fun _ _ _ _ _ _ us hl=>by obtain⟨_,_,rfl⟩:=ln2 hl;rfl,fun _=>mg_of X G a12,fun h=>absurd h (by decide +kernel)⟩⟩
  rcases List.mem_cons.mp hd with hd | hd
  ·subst hd;exact⟨_,_,⟨fun_mk (st:=(top 55)) l13 c13 k13,(fun_mk (st:=(top 55)) l13 c13 k13).binds (ps:=["_law_plan_here"]) fun _ _ _ _ _ _ us hl=>by obtain⟨_,rfl⟩:=ln1 hl;rfl,fun _=>mg_of X G a13,fun h=>absurd h (by decide +kernel)⟩⟩
  rcases List.mem_cons.mp hd with hd | hd
  ·subst hd;exact⟨_,_,⟨fun_mk (st:=(top 10)) l14 c14 k14,(fun_mk (st:=(top 10)) l14 c14 k14).binds (ps:=["text","signs"]) fun _ _ _ _ _ _ us hl=>by obtain⟨_,_,rfl⟩:=ln2 hl;rfl,fun _=>mg_of X G a14,fun h=>absurd h (by decide +kernel)⟩⟩
  rcases List.mem_cons.mp hd with hd | hd
  ·subst hd;exact⟨_,_,⟨fun_mk (st:=(top 11)) l15 c15 k15,(fun_mk (st:=(top 11)) l15 c15 k15).binds (ps:=["text"]) fun _ _ _ _ _ _ us hl=>by obtain⟨_,rfl⟩:=ln1 hl;rfl,fun _=>mg_of X G a15,fun h=>absurd h (by decide +kernel)⟩⟩
  rcases List.mem_cons.mp hd with hd | hd
  ·subst hd;exact⟨_,_,⟨fun_mk (st:=(top 12)) l16 c16 k16,(fun_mk (st:=(top 12)) l16 c16 k16).binds (ps:=["texts"]) fun _ _ _ _ _ _ us hl=>by obtain⟨_,rfl⟩:=ln1 hl;rfl,fun _=>mg_of X G a16,fun h=>absurd h (by decide +kernel)⟩⟩
  rcases List.mem_cons.mp hd with hd | hd
  ·subst hd;exact⟨_,_,⟨fun_mk (st:=(top 13)) l17 c17 k17,(fun_mk (st:=(top 13)) l17 c17 k17).binds (ps:=["texts"]) fun _ _ _ _ _ _ us hl=>by obtain⟨_,rfl⟩:=ln1 hl;rfl,fun _=>mg_of X G a17,fun h=>absurd h (by decide +kernel)⟩⟩
  rcases List.mem_cons.mp hd with hd | hd
  ·subst hd;exact⟨_,_,⟨fun_mk (st:=(top 31)) l18 c18 k18,(fun_mk (st:=(top 31)) l18 c18 k18).binds (ps:=["cell"]) fun _ _ _ _ _ _ us hl=>by obtain⟨_,rfl⟩:=ln1 hl;rfl,fun _=>mg_of X G a18,fun h=>absurd h (by decide +kernel)⟩⟩
  rcases List.mem_cons.mp hd with hd | hd
  ·subst hd;exact⟨_,_,⟨fun_mk (st:=(top 30)) l19 c19 k19,(fun_mk (st:=(top 30)) l19 c19 k19).binds (ps:=["family"]) fun _ _ _ _ _ _ us hl=>by obtain⟨_,rfl⟩:=ln1 hl;rfl,fun _=>mg_of X G a19,fun h=>absurd h (by decide +kernel)⟩⟩
  rcases List.mem_cons.mp hd with hd | hd
  ·subst hd;exact⟨_,_,⟨fun_mk (st:=(top 29)) l20 c20 k20,(fun_mk (st:=(top 29)) l20 c20 k20).binds (ps:=["families"]) fun _ _ _ _ _ _ us hl=>by obtain⟨_,rfl⟩:=ln1 hl;rfl,fun _=>mg_of X G a20,fun h=>absurd h (by decide +kernel)⟩⟩
  rcases List.mem_cons.mp hd with hd | hd
  ·subst hd;exact⟨_,_,⟨fun_mk (st:=(top 33)) l21 c21 k21,(fun_mk (st:=(top 33)) l21 c21 k21).binds (ps:=["road","names"]) fun _ _ _ _ _ _ us hl=>by obtain⟨_,_,rfl⟩:=ln2 hl;rfl,fun _=>mg_of X G a21,fun h=>absurd h (by decide +kernel)⟩⟩
  rcases List.mem_cons.mp hd with hd | hd
  ·subst hd;exact⟨_,_,⟨fun_mk (st:=(top 32)) l22 c22 k22,(fun_mk (st:=(top 32)) l22 c22 k22).binds (ps:=["roads","families"]) fun _ _ _ _ _ _ us hl=>by obtain⟨_,_,rfl⟩:=ln2 hl;rfl,fun _=>mg_of X G a22,fun h=>absurd h (by decide +kernel)⟩⟩
  rcases List.mem_cons.mp hd with hd | hd
  ·subst hd;exact⟨_,_,⟨fun_mk (st:=(top 34)) l23 c23 k23,(fun_mk (st:=(top 34)) l23 c23 k23).binds (ps:=["wish","families"]) fun _ _ _ _ _ _ us hl=>by obtain⟨_,_,rfl⟩:=ln2 hl;rfl,fun _=>mg_of X G a23,fun h=>absurd h (by decide +kernel)⟩⟩
  rcases List.mem_cons.mp hd with hd | hd
  ·subst hd;exact⟨_,_,⟨fun_mk (st:=(top 36)) l24 c24 k24,(fun_mk (st:=(top 36)) l24 c24 k24).binds (ps:=["names","known"]) fun _ _ _ _ _ _ us hl=>by obtain⟨_,_,rfl⟩:=ln2 hl;rfl,fun _=>mg_of X G a24,fun h=>absurd h (by decide +kernel)⟩⟩
  rcases List.mem_cons.mp hd with hd | hd
  ·subst hd;exact⟨_,_,⟨fun_mk (st:=(top 15)) l25 c25 k25,(fun_mk (st:=(top 15)) l25 c25 k25).binds (ps:=["tree"]) fun _ _ _ _ _ _ us hl=>by obtain⟨_,rfl⟩:=ln1 hl;rfl,fun _=>mg_of X G a25,fun h=>absurd h (by decide +kernel)⟩⟩
  rcases List.mem_cons.mp hd with hd | hd
  ·subst hd;exact⟨_,_,⟨fun_mk (st:=(top 38)) l26 c26 k26,(fun_mk (st:=(top 38)) l26 c26 k26).binds (ps:=["changes","take","cells","known"]) fun _ _ _ _ _ _ us hl=>by obtain⟨_,_,_,_,rfl⟩:=ln4 hl;rfl,fun _=>mg_of X G a26,fun h=>absurd h (by decide +kernel)⟩⟩
  rcases List.mem_cons.mp hd with hd | hd
  ·subst hd;exact⟨_,_,⟨fun_mk (st:=(top 40)) l27 c27 k27,(fun_mk (st:=(top 40)) l27 c27 k27).binds (ps:=["roads","one","other"]) fun _ _ _ _ _ _ us hl=>by obtain⟨_,_,_,rfl⟩:=ln3 hl;rfl,fun _=>mg_of X G a27,fun h=>absurd h (by decide +kernel)⟩⟩
  rcases List.mem_cons.mp hd with hd | hd
  ·subst hd;exact⟨_,_,⟨fun_mk (st:=(top 37)) l28 c28 k28,(fun_mk (st:=(top 37)) l28 c28 k28).binds (ps:=["take","family","cells","roads"]) fun _ _ _ _ _ _ us hl=>by obtain⟨_,_,_,_,rfl⟩:=ln4 hl;rfl,fun _=>mg_of X G a28,fun h=>absurd h (by decide +kernel)⟩⟩
  rcases List.mem_cons.mp hd with hd | hd
  ·subst hd;exact⟨_,_,⟨fun_mk (st:=(top 39)) l29 c29 k29,(fun_mk (st:=(top 39)) l29 c29 k29).binds (ps:=["send","family","known","roads"]) fun _ _ _ _ _ _ us hl=>by obtain⟨_,_,_,_,rfl⟩:=ln4 hl;rfl,fun _=>mg_of X G a29,fun h=>absurd h (by decide +kernel)⟩⟩
  rcases List.mem_cons.mp hd with hd | hd
  ·subst hd;exact⟨_,_,⟨fun_mk (st:=(top 35)) l30 c30 k30,(fun_mk (st:=(top 35)) l30 c30 k30).binds (ps:=["step","family","families","roads"]) fun _ _ _ _ _ _ us hl=>by obtain⟨_,_,_,_,rfl⟩:=ln4 hl;rfl,fun _=>mg_of X G a30,fun h=>absurd h (by decide +kernel)⟩⟩
  rcases List.mem_cons.mp hd with hd | hd
  ·subst hd;exact⟨_,_,⟨fun_mk (st:=(top 28)) l31 c31 k31,(fun_mk (st:=(top 28)) l31 c31 k31).binds (ps:=["plan"]) fun _ _ _ _ _ _ us hl=>by obtain⟨_,rfl⟩:=ln1 hl;rfl,fun _=>mg_of X G a31,fun h=>absurd h (by decide +kernel)⟩⟩
  rcases List.mem_cons.mp hd with hd | hd
  ·subst hd;exact⟨_,_,⟨fun_mk (st:=(top 27)) l32 c32 k32,(fun_mk (st:=(top 27)) l32 c32 k32).binds (ps:=["plan"]) fun _ _ _ _ _ _ us hl=>by obtain⟨_,rfl⟩:=ln1 hl;rfl,fun _=>mg_of X G a32,fun h=>absurd h (by decide +kernel)⟩⟩
  rcases List.mem_cons.mp hd with hd | hd
  ·subst hd;exact⟨_,_,⟨fun_mk (st:=(top 56)) l33 c33 k33,(fun_mk (st:=(top 56)) l33 c33 k33).binds (ps:=["_law_script"]) fun _ _ _ _ _ _ us hl=>by obtain⟨_,rfl⟩:=ln1 hl;rfl,fun _=>mg_of X G a33,fun h=>absurd h (by decide +kernel)⟩⟩
  cases hd
 ·unfold Gv at hv
  by_cases e:x=("LETTERS":Str)
  ·rw [if_pos e] at hv;subst e;cases hv;exact .plain ⟨_,.str "abcdefghijklmnopqrstuvwxyz",mg_of X G glb0,by first | exact rfl | exact⟨_,rfl⟩,fun _ _=>rfl⟩ rfl
  rw [if_neg e] at hv;clear e
  by_cases e:x=("MOST_CELLS":Str)
  ·rw [if_pos e] at hv;subst e;cases hv;exact .plain ⟨_,.int 3,mg_of X G glb1,by first | exact rfl | exact⟨_,rfl⟩,fun _ _=>rfl⟩ rfl
  rw [if_neg e] at hv;clear e
  by_cases e:x=("MOST_FAMILIES":Str)
  ·rw [if_pos e] at hv;subst e;cases hv;exact .plain ⟨_,.int 4,mg_of X G glb2,by first | exact rfl | exact⟨_,rfl⟩,fun _ _=>rfl⟩ rfl
  rw [if_neg e] at hv;clear e
  by_cases e:x=("MOST_HANDS":Str)
  ·rw [if_pos e] at hv;subst e;cases hv;exact .plain ⟨_,.int 5,mg_of X G glb3,by first | exact rfl | exact⟨_,rfl⟩,fun _ _=>rfl⟩ rfl
  rw [if_neg e] at hv;clear e
  by_cases e:x=("MOST_LETTERS":Str)
  ·rw [if_pos e] at hv;subst e;cases hv;exact .plain ⟨_,.int 10,mg_of X G glb4,by first | exact rfl | exact⟨_,rfl⟩,fun _ _=>rfl⟩ rfl
  rw [if_neg e] at hv;clear e
  by_cases e:x=("MOST_LETTERS_ON_ROAD":Str)
  ·rw [if_pos e] at hv;subst e;cases hv;exact .plain ⟨_,.int 3,mg_of X G glb5,by first | exact rfl | exact⟨_,rfl⟩,fun _ _=>rfl⟩ rfl
  rw [if_neg e] at hv;clear e
  by_cases e:x=("MOST_ROADS":Str)
  ·rw [if_pos e] at hv;subst e;cases hv;exact .plain ⟨_,.int 8,mg_of X G glb6,by first | exact rfl | exact⟨_,rfl⟩,fun _ _=>rfl⟩ rfl
  rw [if_neg e] at hv;clear e
  by_cases e:x=("MOST_ROOMS":Str)
  ·rw [if_pos e] at hv;subst e;cases hv;exact .plain ⟨_,.int 8,mg_of X G glb7,by first | exact rfl | exact⟨_,rfl⟩,fun _ _=>rfl⟩ rfl
  rw [if_neg e] at hv;clear e
  by_cases e:x=("MOST_STEPS":Str)
  ·rw [if_pos e] at hv;subst e;cases hv;exact .plain ⟨_,.int 8,mg_of X G glb8,by first | exact rfl | exact⟨_,rfl⟩,fun _ _=>rfl⟩ rfl
  rw [if_neg e] at hv;clear e
  by_cases e:x=("MOST_WHOS":Str)
  ·rw [if_pos e] at hv;subst e;cases hv;exact .plain ⟨_,.int 2,mg_of X G glb9,by first | exact rfl | exact⟨_,rfl⟩,fun _ _=>rfl⟩ rfl
  rw [if_neg e] at hv;clear e
  by_cases e:x=("MOST_WISHES":Str)
  ·rw [if_pos e] at hv;subst e;cases hv;exact .plain ⟨_,.int 6,mg_of X G glb10,by first | exact rfl | exact⟨_,rfl⟩,fun _ _=>rfl⟩ rfl
  rw [if_neg e] at hv;clear e
  by_cases e:x=("ROAD_KINDS":Str)
  ·rw [if_pos e] at hv;subst e;cases hv;exact .plain (glob_strs ["row","heap"] (mg_of X G glb11) glt11 (by show 2≤sizeLine;decide) (.cons ⟨_,rfl⟩ (.cons ⟨_,rfl⟩ (.nil)))) rfl
  rw [if_neg e] at hv;clear e
  by_cases e:x=("WAYS":Str)
  ·rw [if_pos e] at hv;subst e;cases hv;exact .plain (glob_strs ["who","all","any"] (mg_of X G glb12) glt12 (by show 3≤sizeLine;decide) (.cons ⟨_,rfl⟩ (.cons ⟨_,rfl⟩ (.cons ⟨_,rfl⟩ (.nil))))) rfl
  rw [if_neg e] at hv;clear e
  by_cases e:x=("WIDEST_CELL":Str)
  ·rw [if_pos e] at hv;subst e;cases hv;exact .plain ⟨_,.int 9,mg_of X G glb13,by first | exact rfl | exact⟨_,rfl⟩,fun _ _=>rfl⟩ rfl
  rw [if_neg e] at hv;clear e
  by_cases e:x=("WISH_KINDS":Str)
  ·rw [if_pos e] at hv;subst e;cases hv;exact .plain (glob_strs ["weak","strong"] (mg_of X G glb14) glt14 (by show 2≤sizeLine;decide) (.cons ⟨_,rfl⟩ (.cons ⟨_,rfl⟩ (.nil)))) rfl
  rw [if_neg e] at hv;clear e
  by_cases e:x=("WORDS":Str)
  ·rw [if_pos e] at hv;subst e;cases hv;exact .plain (glob_strs ["or","and","not","true"] (mg_of X G glb15) glt15 (by show 4≤sizeLine;decide) (.cons ⟨_,rfl⟩ (.cons ⟨_,rfl⟩ (.cons ⟨_,rfl⟩ (.cons ⟨_,rfl⟩ (.nil)))))) rfl
  rw [if_neg e] at hv;clear e
  cases hv
 ·obtain⟨x,hx,e⟩:=List.any_eq_true.mp hc
  rw [Bool.and_eq_true] at e
  have e1:=of_decide_eq_true e.1
  have e2:f ∈ x.2:=by simpa using e.2
  subst e1
  cases hx
end My
namespace My
open PySem L2 Ev
theorem eqv_str (a b:Str):PyData.eqv (.str a) (.str b)=decide (a=b):=by
 rw [Bool.eq_iff_iff];simp [PyData.eqv]
theorem eqv_tup2 (a b c d:PyData):PyData.eqv (.tuple [a,b]) (.tuple [c,d])=(PyData.eqv a c && PyData.eqv b d):=by
 simp [PyData.eqv,PyData.eqvAll]
end My
namespace My
open PySem L2 Ev
theorem log2_small {i:Int} (h:i.natAbs < 2 ^ 60):i.natAbs.log2 < 60:=by
 by_cases e:i.natAbs=0
 ·rw [e];decide
 ·exact (Nat.log2_lt e).mpr h
theorem mulOk_small {i j:Int} (h1:i.natAbs < 2 ^ 60) (h2:j.natAbs < 2 ^ 60):mulOk i j=true:=by
 unfold mulOk
 have a:=log2_small h1
 have b:=log2_small h2
 exact decide_eq_true (by lia)
noncomputable def strOk (x:Str):Prop:=PyData.strOk x=true
@[simp] theorem okP_int (n:Nat) (i:Int):okP n (.int i)=true:=by cases n <;> rfl
@[simp] theorem okP_bl (n:Nat) (i:Bool):okP n (.bl i)=true:=by cases n <;> rfl
@[simp] theorem okP_non (n:Nat):okP n .non=true:=by cases n <;> rfl
@[simp] theorem okP_str (n:Nat) (x:Str):okP n (.str x)=PyData.strOk x:=by cases n <;> rfl
@[simp] theorem okP_tup (n:Nat) (xs:List P):okP (n+1) (.tup xs)=xs.all (okP n):=rfl
@[simp] theorem okP_lst (n:Nat) (xs:List P):okP (n+1) (.lst xs)=xs.all (okP n):=rfl
theorem okL {n:Nat}{xs:List P} (h:∀x ∈ xs,okP n x=true):okP (n+1) (.lst xs)=true:=List.all_eq_true.mpr h
@[simp] theorem len_one (c:Nat):Str.length ⟨#[c]⟩=1:=rfl
theorem len_app (x y:Str):(x++y).length=x.length+y.length:=by
 show (x.cps++y.cps).size=_
 rw [Array.size_append];rfl
theorem dAdd_str' {x y:Str} (h:x.length+y.length≤1000000):dAdd (.str x) (.str y)=some (.str (x++y)):=by
 show (if capN (x.length+y.length)=true then some (P.str (x++y)) else none)=_
 rw [if_pos (by rw [capN_ev];exact h)]
theorem atI_pick {α:Type}{xs:List α} (h:xs≠[]) (a:Int):∃x ∈ xs,L2.atI xs (a % (xs.length:Int))=some x:=by
 have hl:(0:Int) < (xs.length:Int):=by cases xs with | nil=>exact absurd rfl h | cons _ _=>simp
 have h0:=Int.emod_nonneg a (Int.ne_of_gt hl)
 have h1:=Int.emod_lt_of_pos a hl
 have hk:(a % (xs.length:Int)).toNat < xs.length:=by lia
 exact⟨xs[(a % (xs.length:Int)).toNat],List.getElem_mem _,atI_nat' h0 (by simp [hk])⟩
theorem atI_in {α:Type}{xs:List α}{k:Int} (h0:0≤k) (h1:k < (xs.length:Int)):∃x ∈ xs,L2.atI xs k=some x:=by
 have hk:k.toNat < xs.length:=by lia
 exact⟨xs[k.toNat],List.getElem_mem _,atI_nat' h0 (by simp [hk])⟩
theorem atI_last {α:Type}{xs:List α} (h:xs≠[]):∃x ∈ xs,L2.atI xs (-1)=some x:=by
 have hl:0 < xs.length:=List.length_pos_iff.mpr h
 refine⟨xs[xs.length-1],List.getElem_mem _,?_⟩
 unfold L2.atI L2.ixN
 rw [if_neg (by lia),if_pos (by lia)]
 have e:(-1+(xs.length:Int)).toNat=xs.length-1:=by lia
 simp [e,hl]
theorem ints_len (lo:Int) (n:Nat):(intsFrom lo n).length=n:=by simp [Ev.intsFrom]
theorem mix_loop (ψ ι:Str->GF) (xs:List P):∀(a:Int) (p t q:Option D),∃(r:Int) (t':Option D),forGo (gSet 2) (b_n_law_mix_L1 ψ ι) xs [some (.p (.int a)),p,t,q] []=some (.nx,[some (.p (.int r)),p,t',q],[]):=by
 induction xs with
 | nil=>intro a p t q;exact⟨a,t,rfl⟩
 | cons x xs ih=>
  intro a p t q
  obtain⟨r,t',h⟩:=ih (a / 2147483648) p (some (.p x)) q
  exact⟨r,t',by simpa [forGo,b_n_law_mix_L1] using h⟩
theorem mix_ok (n:Nat) (a:Int) {p:Int} (h0:0≤p) (h1:p < 1000):∃r:Int,0≤r/\r < 2147483648/\pureOf (Psi Gv Att Tb (n+2) "_law_mix") [.int a,.int p]=some (.int r):=by
 by_cases h:(1000000000000:Int)≤a
 ·obtain⟨r,t',e⟩:=mix_loop (Psi Gv Att Tb (n+1)) (Psi Gv Att Tb n) (intsFrom 0 (p % 61).toNat) (a / 1000000000000-1) (some (.p (.int p))) none none
  refine⟨r % 2147483648,Int.emod_nonneg _ (by decide),Int.emod_lt_of_pos _ (by decide),?_⟩
  have hp:(p % 61).natAbs < 1000000:=by lia
  rw [e_n_law_mix,pureOf_fn]
  simp [b_n_law_mix,h,hp,e]
 ·have hp2:0≤8 * p * p/\8 * p * p≤8000000:=by
   have:0≤p * p/\p * p≤1000000:=⟨Int.mul_nonneg h0 h0,Int.le_trans (Int.mul_le_mul (Int.le_of_lt h1) (Int.le_of_lt h1) h0 (by decide)) (by decide)⟩
   rw [Int.mul_assoc];lia
  have m1:mulOk 8 p=true:=mulOk_small (by decide) (by lia)
  have m2:mulOk (8 * p) p=true:=mulOk_small (by lia) (by lia)
  have m3:mulOk (a % 2147483629+p+1) (8 * p * p+48271)=true:=mulOk_small (by lia) (by lia)
  generalize hx:(a % 2147483629+p+1) * (8 * p * p+48271) % 2147483647=x
  have hx1:0≤x/\x < 2147483647:=by subst hx;exact⟨Int.emod_nonneg _ (by decide),Int.emod_lt_of_pos _ (by decide)⟩
  have m4:mulOk x x=true:=mulOk_small (by lia) (by lia)
  generalize hy:x * x % 2147483587=y
  have hy1:0≤y/\y < 2147483587:=by subst hy;exact⟨Int.emod_nonneg _ (by decide),Int.emod_lt_of_pos _ (by decide)⟩
  have m5:mulOk y (y+2)=true:=mulOk_small (by lia) (by lia)
  refine⟨y * (y+2) % 2147483579,Int.emod_nonneg _ (by decide),Int.lt_trans (Int.emod_lt_of_pos _ (by decide)) (by decide),?_⟩
  rw [e_n_law_mix,pureOf_fn]
  simp [b_n_law_mix,h,m1,m2,m3,hx,m4,hy,m5]
noncomputable def scr (ns:List Int):P:=.ro (ns.map .int)
theorem at_ok (n:Nat) (ns:List Int) {k:Int} (h0:0≤k) (h1:k < 1000):∃r:Int,pureOf (Psi Gv Att Tb (n+2) "_law_at") [scr ns,.int k]=some (.int r):=by
 by_cases h:k < (ns.length:Int)
 ·have hk:k.toNat < ns.length:=by lia
  refine⟨ns[k.toNat],?_⟩
  have e:L2.atI (ns.map P.int) k=some (.int ns[k.toNat]):=atI_nat' h0 (by simp [hk])
  rw [e_n_law_at,pureOf_fn]
  simp [b_n_law_at,scr,lenD,lenP,h,e]
 ·refine⟨23 * k+6,?_⟩
  have m1:mulOk 23 k=true:=mulOk_small (by decide) (by lia)
  rw [e_n_law_at,pureOf_fn]
  simp [b_n_law_at,scr,lenD,lenP,h,m1]
theorem draw_ok (n:Nat) (ns:List Int) {k p:Int} (h0:0≤k) (h3:k < 1000) (h1:0≤p) (h2:p < 1000):∃c r:Int,0≤r/\r < 2147483648/\pureOf (Psi Gv Att Tb (n+2) "_law_at") [scr ns,.int k]=some (.int c)/\pureOf (Psi Gv Att Tb (n+2) "_law_mix") [.int c,.int p]=some (.int r):=by
 obtain⟨c,e1⟩:=at_ok n ns h0 h3
 obtain⟨r,hr,hr2,e2⟩:=mix_ok n c h1 h2
 exact⟨c,r,hr,hr2,e1,e2⟩
end My
namespace My
open PySem L2 Ev
noncomputable def cnt (c:Int):SO:=.lst [.p (.int c)]
@[simp] theorem trunc_set (S:Sto) (j:Nat) (x:SO):trunc S.length (S.set j x)=S.set j x:=by
 unfold trunc
 have:(S.set j x).take S.length=S.set j x:=List.take_of_length_le (by simp)
 rw [this];split <;> rfl
theorem trunc_len {n:Nat}{S:Sto} (h:S.length=n):trunc n S=S:=by
 unfold trunc
 rw [List.take_of_length_le (by lia)];split <;> rfl
theorem next_ok (n:Nat) (ns:List Int) {S:Sto}{j:Nat}{c:Int} (hj:S[j]? = some (cnt c)) (h0:0≤c) (h1:c < 50000) :
  ∃r:Int,0≤r/\r < 2147483648/\Psi Gv Att Tb (n+4) "_law_next" [.p (scr ns),.ref j] S=some (.p (.int r),S.set j (cnt (c+1))):=by
 obtain⟨a,r,r0,r1,e1,e2⟩:=draw_ok (n+1) ns (k:=1+(c+1) % 62) (p:=1+(c+1) / 62) (by lia) (by lia) (by lia) (by lia)
 refine⟨r,r0,r1,?_⟩
 have hl:j < S.length:=(List.getElem?_eq_some_iff.mp hj).1
 have hs:(S.set j (cnt (c+1)))[j]? = some (cnt (c+1)):=by rw [List.getElem?_set_self hl]
 have p1:sPutL (eVar 1) (vC (.int 0)) (vOp dAdd2 (vE (eIx (eVar 1) (vC (.int 0)))) (vC (.int 1))) [some (.p (scr ns)),some (.ref j)] S=some (.nx,[some (.p (scr ns)),some (.ref j)],S.set j (cnt (c+1))):=by
  simp [sPutL,sPut,sPutL,ownD,ownL,hj,cnt,keyOf,L2.ixN]
 have hs2:(S.set j (cnt (c+1)))[j]? = some (.lst [.p (.int (c+1))]):=hs
 have e1':pureOf (Psi Gv Att Tb (n+2+1) "_law_at") [scr ns,.int (1+(c+1) % 62)]=some (.int a):=e1
 have e2':pureOf (Psi Gv Att Tb (n+2+1) "_law_mix") [.int a,.int (1+(c+1) / 62)]=some (.int r):=e2
 clear hs hj e1 e2
 generalize S.set j (cnt (c+1))=S' at *
 rw [e_n_law_next]
 simp only [fnR,b_n_law_next,List.length_cons,List.length_nil,List.map_cons,List.map_nil,List.cons_append,List.nil_append,Nat.reduceAdd,Nat.reduceSub,List.replicate_zero,if_true]
 simp only [sSeq_ev,p1]
 simp [hs2,e1',e2']
noncomputable def NextOk (ψ:Str->GF) (ns:List Int):Prop:=∀{S:Sto}{j:Nat}{c:Int},S[j]? = some (cnt c)->0≤c->c < 50000 ->
  ∃r:Int,0≤r/\r < 2147483648/\ψ "_law_next" [.p (scr ns),.ref j] S=some (.p (.int r),S.set j (cnt (c+1)))
theorem next_all (n:Nat) (ns:List Int):NextOk (Psi Gv Att Tb (n+4)) ns:=fun hj h0 h1=>next_ok n ns hj h0 h1
theorem cnt_set {S:Sto}{j:Nat}{c c':Int} (h:S[j]? = some (cnt c)):(S.set j (cnt c'))[j]? = some (cnt c'):=by
 rw [List.getElem?_set_self (List.getElem?_eq_some_iff.mp h).1]
end My
namespace My
open PySem L2 Ev
noncomputable def xv (i:Nat):Nat:=[120,118,122].getD i 0
noncomputable def nmA (k a b:Nat):Str:=strRep ⟨#[97+k]⟩ (1+a)++⟨#[xv b]⟩
noncomputable def nmB (k d:Nat):Str:=strRep ⟨#[109]⟩ d++⟨#[97+k]⟩++strRep ⟨#[109]⟩ (9-d)
noncomputable def nm (k:Nat) (s:Int):Str:=if s % 2=0 then nmA k (s / 2 % 9).toNat (s / 18 % 3).toNat else nmB k (s / 2 % 10).toNat
noncomputable def nameB (x:Str):Bool:=decide (1≤x.length) && decide (x.length≤10) && x.cps.all (fun c=>decide (97≤c) && decide (c≤122)) && !(([("or":Str),"and","not","true"]).any fun y=>decide (y=x))
noncomputable def whoWs:List Str:=["it","first","by","who","to","from","at","go"]
noncomputable def freeB (x:Str):Bool:=!(whoWs.any fun y=>decide (y=x))
noncomputable def unlikeA (a b:Nat):Bool:=(List.range 8).all fun k=>(List.range 8).all fun k'=>decide (k=k') || !decide (nmA k a b=nmA k' a b)
noncomputable def unlikeB (d:Nat):Bool:=(List.range 8).all fun k=>(List.range 8).all fun k'=>decide (k=k') || !decide (nmB k d=nmB k' d)
theorem nmA_all:((List.range 9).all fun a=>(List.range 3).all fun b=>unlikeA a b && (List.range 8).all fun k=>nameB (nmA k a b) && freeB (nmA k a b))=true:=by decide +kernel
theorem nmB_all:((List.range 10).all fun d=>unlikeB d && (List.range 8).all fun k=>nameB (nmB k d) && freeB (nmB k d))=true:=by decide +kernel
theorem who_all:(whoWs.all fun x=>nameB x)=true:=by decide +kernel
theorem nm_both {k:Nat} (s:Int) (hk:k < 8):nameB (nm k s)=true/\freeB (nm k s)=true:=by
 unfold nm
 split
 ·have:=List.all_eq_true.mp nmA_all (s / 2 % 9).toNat (List.mem_range.mpr (by lia))
  have:=List.all_eq_true.mp this (s / 18 % 3).toNat (List.mem_range.mpr (by lia))
  have:=List.all_eq_true.mp (Bool.and_eq_true _ _ ▸ this).2 k (List.mem_range.mpr hk)
  simpa using this
 ·have:=List.all_eq_true.mp nmB_all (s / 2 % 10).toNat (List.mem_range.mpr (by lia))
  have:=List.all_eq_true.mp (Bool.and_eq_true _ _ ▸ this).2 k (List.mem_range.mpr hk)
  simpa using this
theorem nm_inj {k k':Nat}{s:Int} (hk:k < 8) (hk':k' < 8) (h:nm k s=nm k' s):k=k':=by
 unfold nm at h
 split at h
 ·have:=List.all_eq_true.mp nmA_all (s / 2 % 9).toNat (List.mem_range.mpr (by lia))
  have:=List.all_eq_true.mp this (s / 18 % 3).toNat (List.mem_range.mpr (by lia))
  have:=(Bool.and_eq_true _ _ ▸ this).1
  have:=List.all_eq_true.mp (List.all_eq_true.mp this k (List.mem_range.mpr hk)) k' (List.mem_range.mpr hk')
  simpa [h] using this
 ·have:=List.all_eq_true.mp nmB_all (s / 2 % 10).toNat (List.mem_range.mpr (by lia))
  have:=(Bool.and_eq_true _ _ ▸ this).1
  have:=List.all_eq_true.mp (List.all_eq_true.mp this k (List.mem_range.mpr hk)) k' (List.mem_range.mpr hk')
  simpa [h] using this
theorem name_ok {x:Str} (h:nameB x=true):strOk x:=by
 unfold nameB at h
 simp only [Bool.and_eq_true] at h
 refine Array.all_eq_true.mpr fun i hi=>?_
 have:=Array.all_eq_true.mp h.1.2 i hi
 simp only [Bool.and_eq_true,decide_eq_true_eq] at this
 exact decide_eq_true (by lia)
theorem name_ne {x:Str} (h:nameB x=true):x≠"":=by
 rintro rfl
 revert h;decide +kernel
theorem abc_at:∀k:Nat,k < 8->dIx (.str "abcdefgh") (.int (k:Int))=some (.str ⟨#[97+k]⟩):=by
 intro k hk
 have e:∀k:Nat,k < 8->L2.atI ((("abcdefgh":Str)).cps.toList) (k:Int)=some (97+k):=by decide +kernel
 show (if capN (("abcdefgh":Str)).length=true then (L2.atI ((("abcdefgh":Str)).cps.toList) (k:Int)).map fun c=>P.str ⟨#[c]⟩ else none)=_
 rw [e k hk,if_pos (by decide +kernel)];rfl
theorem xvz_at {i:Int} (h0:0≤i) (h1:i < 3):dIx (.str "xvz") (.int i)=some (.str ⟨#[xv i.toNat]⟩):=by
 have e:∀k:Nat,k < 3->L2.atI ((("xvz":Str)).cps.toList) (k:Int)=some (xv k):=by decide +kernel
 have e:=e i.toNat (by lia)
 rw [Int.toNat_of_nonneg h0] at e
 show (if capN (("xvz":Str)).length=true then (L2.atI ((("xvz":Str)).cps.toList) i).map fun c=>P.str ⟨#[c]⟩ else none)=_
 rw [e,if_pos (by decide +kernel)];rfl
theorem mul_str {x:Str}{m:Int} (h0:0≤m) (h1:m≤100) (h2:x.length=1):dMul (.str x) (.int m)=some (.str (strRep x m.toNat)):=by
 show (if (capN (m.toNat * x.length) && decide (m.natAbs < 1000000))=true then some (P.str (strRep x m.toNat)) else none)=_
 rw [if_pos (by rw [Bool.and_eq_true,capN_ev,h2];exact⟨by lia,decide_eq_true (by lia)⟩)]
theorem named_D (n:Nat) {k:Nat} (hk:k < 8) (s:Int) (S:Sto):Psi Gv Att Tb (n+2) "_law_named" [.p (.int (k:Int)),.p (.int s)] S=some (.p (.str (nm k s)),S):=by
 have a1:=abc_at k hk
 rw [e_n_law_named]
 unfold nm
 by_cases h:s % 2=0
 ·have m0:0≤s / 2 % 9/\s / 2 % 9 < 9:=by lia
  have m1:0≤s / 18 % 3/\s / 18 % 3 < 3:=by lia
  have a2:=xvz_at m1.1 m1.2
  have a3:dMul (.str ⟨#[97+k]⟩) (.int (1+s / 2 % 9))=some (.str (strRep ⟨#[97+k]⟩ (1+s / 2 % 9).toNat)):=mul_str (by lia) (by lia) rfl
  have a4:dAdd (.str (strRep ⟨#[97+k]⟩ (1+s / 2 % 9).toNat)) (.str ⟨#[xv (s / 18 % 3).toNat]⟩)=some (.str (nmA k (s / 2 % 9).toNat (s / 18 % 3).toNat)):=by
   rw [dAdd_str' (by rw [strRep_length,len_one,len_one];lia)]
   unfold nmA
   rw [show (1+s / 2 % 9).toNat=1+(s / 2 % 9).toNat by lia]
  simp only [if_pos h]
  simp [fnR,b_n_law_named,h,a1,a2,a3,a4]
 ·have m0:0≤s / 2 % 10/\s / 2 % 10 < 10:=by lia
  have l1:(("m":Str)).length=1:=by decide +kernel
  have e1:("m":Str)=⟨#[109]⟩:=by decide +kernel
  have a3:=mul_str (x:="m") m0.1 (by lia) l1
  have a4:=mul_str (x:="m") (m:=9-s / 2 % 10) (by lia) (by lia) l1
  have a5:dAdd (.str (strRep "m" (s / 2 % 10).toNat)) (.str ⟨#[97+k]⟩)=some (.str (strRep "m" (s / 2 % 10).toNat++⟨#[97+k]⟩)):=dAdd_str' (by rw [strRep_length,l1,len_one];lia)
  have a6:dAdd (.str (strRep "m" (s / 2 % 10).toNat++⟨#[97+k]⟩)) (.str (strRep "m" (9-s / 2 % 10).toNat))=some (.str (nmB k (s / 2 % 10).toNat)):=by
   rw [dAdd_str' (by rw [len_app,strRep_length,strRep_length,l1,len_one];lia)]
   unfold nmB
   rw [show (9-s / 2 % 10).toNat=9-(s / 2 % 10).toNat by lia,e1]
  simp only [if_neg h]
  simp [fnR,b_n_law_named,h,a1,a3,a4,a5,a6]
noncomputable def NamedOk (ψ:Str->GF):Prop:=∀(k:Nat) (s:Int) (S:Sto),k < 8->ψ "_law_named" [.p (.int (k:Int)),.p (.int s)] S=some (.p (.str (nm k s)),S)
theorem NamedOk.pure {ψ:Str->GF} (h:NamedOk ψ) {k:Nat} (s:Int) (hk:k < 8):pureOf (ψ "_law_named") [.int (k:Int),.int s]=some (.str (nm k s)):=pureOf_some (h k s [] hk)
theorem named_all (n:Nat):NamedOk (Psi Gv Att Tb (n+2)):=fun _ s S hk=>named_D n hk s S
end My
namespace My
open PySem L2 Ev
noncomputable def sts (K:List Str):List P:=K.map .str
@[simp] theorem sts_len (K:List Str):(sts K).length=K.length:=by simp [sts]
theorem pickS {K:List Str} (h:K≠[]) (a:Int):∃x ∈ K,L2.atI (sts K) (a % (K.length:Int))=some (.str x):=by
 obtain⟨v,hv,e⟩:=atI_pick (xs:=sts K) (by simpa [sts] using h) a
 obtain⟨x,hx,rfl⟩:=List.mem_map.mp hv
 rw [sts_len] at e
 exact⟨x,hx,e⟩
noncomputable def isLeaf (K:List Str) (v:P):Prop:=(∃x ∈ K,v=.tup [.str "name",.str x])\/∃i:Int,v=.tup [.str "number",.int i]
noncomputable def isSmall (K:List Str) (v:P):Prop:=isLeaf K v\/∃(o:Str) (a b:P),(o="plus"\/o="minus"\/o="times")/\isLeaf K a/\isLeaf K b/\v=.tup [.str o,a,b]
noncomputable def isCmp (K:List Str) (v:P):Prop:=∃(w:Str) (a b:P),strOk w/\isSmall K a/\isSmall K b/\v=.tup [.str "is",.str w,a,b]
noncomputable def isWhen (K:List Str) (v:P):Prop:=v=.tup [.str "true"]\/isCmp K v\/(∃a,isCmp K a/\v=.tup [.str "not",a])\/∃(o:Str) (a b:P),(o="and"\/o="or")/\isCmp K a/\isCmp K b/\v=.tup [.str o,a,b]
theorem at2 {α:Type} (x y:α) {i:Int} (h0:0≤i) (h1:i < 2):∃z ∈ [x,y],L2.atI [x,y] i=some z:=atI_in h0 (by simpa using h1)
theorem leaf_ok (n:Nat) (K:List Str) (s:Int):∃v,isLeaf K v/\pureOf (Psi Gv Att Tb (n+2) "_law_leaf") [.lst (sts K),.int s]=some v:=by
 by_cases h:0 < s % 3/\K≠[]
 ·obtain⟨x,hx,e⟩:=pickS h.2 (s / 3)
  have hl:0 < K.length:=List.length_pos_iff.mpr h.2
  refine⟨_,.inl ⟨x,hx,rfl⟩,?_⟩
  have h1:=h.1
  have hl2:(0:Int) < K.length:=by lia
  rw [e_n_law_leaf,pureOf_fn]
  simp [b_n_law_leaf,h1,lenD,lenP,hl,hl2,e]
 ·obtain⟨z,hz,e⟩:=at2 (P.int (s / 3 % 10)) (.int (s / 30 % 1000)) (i:=s / 3 % 4 / 3) (by lia) (by lia)
  have:∃i:Int,z=.int i:=by
   simp only [List.mem_cons,List.not_mem_nil,or_false] at hz
   rcases hz with rfl | rfl <;> exact⟨_,rfl⟩
  obtain⟨i,rfl⟩:=this
  refine⟨_,.inr ⟨i,rfl⟩,?_⟩
  rw [e_n_law_leaf,pureOf_fn]
  by_cases h1:0 < s % 3
  ·have:K=[]:=Classical.byContradiction fun z=>h ⟨h1,z⟩
   subst this
   simp [b_n_law_leaf,h1,lenD,lenP,sts,e]
  ·simp [b_n_law_leaf,h1,e]
noncomputable def LeafOk (ψ:Str->GF):Prop:=∀(K:List Str) (s:Int),∃v,isLeaf K v/\pureOf (ψ "_law_leaf") [.lst (sts K),.int s]=some v
theorem leaf_all (n:Nat):LeafOk (Psi Gv Att Tb (n+2)):=leaf_ok n
noncomputable def SmallOk (ψ:Str->GF) (ns:List Int):Prop:=∀(K:List Str) {S:Sto}{j:Nat}{c:Int},S[j]? = some (cnt c)->0≤c->c < 50000 ->
  ∃v,isSmall K v/\ψ "_law_small" [.p (.lst (sts K)),.p (scr ns),.ref j] S=some (.p v,S.set j (cnt (c+1)))
theorem small_body {ψ:Str->GF} (ι:Str->GF) {ns:List Int} (hn:NextOk ψ ns) (hf:LeafOk ψ) (K:List Str) {S:Sto}{j:Nat}{c:Int} (hj:S[j]? = some (cnt c)) (h0:0≤c) (h1:c < 50000) :
  ∃v,isSmall K v/\fnR 3 5 (b_n_law_small ψ ι) [.p (.lst (sts K)),.p (scr ns),.ref j] S=some (.p v,S.set j (cnt (c+1))):=by
 obtain⟨r,r0,_,e⟩:=hn hj h0 h1
 obtain⟨a,ha,e1⟩:=hf K (r / 8)
 obtain⟨b,hb,e2⟩:=hf K (r / 32768)
 by_cases h:2 < r % 8
 ·exact⟨a,.inl ha,by simp [fnR,b_n_law_small,e,e1,h]⟩
 ·obtain⟨z,hz,e3⟩:=atI_in (xs:=[P.str "plus",.str "minus",.str "times"]) (k:=r % 8) (by lia) (by simp;lia)
  have:∃o:Str,(o="plus"\/o="minus"\/o="times")/\z=.str o:=by
   simp only [List.mem_cons,List.not_mem_nil,or_false] at hz
   rcases hz with rfl | rfl | rfl
   ·exact⟨_,.inl rfl,rfl⟩
   ·exact⟨_,.inr (.inl rfl),rfl⟩
   ·exact⟨_,.inr (.inr rfl),rfl⟩
  obtain⟨o,ho,rfl⟩:=this
  exact⟨_,.inr ⟨o,a,b,ho,ha,hb,rfl⟩,by simp [fnR,b_n_law_small,e,e1,e2,e3,h]⟩
theorem small_all (n:Nat) (ns:List Int):SmallOk (Psi Gv Att Tb (n+6)) ns:=fun K {S j c} hj h0 h1=>by
 obtain⟨v,hv,e⟩:=small_body (ψ:=Psi Gv Att Tb (n+4+1)) (Psi Gv Att Tb (n+4)) (next_all (n+1) ns) (leaf_all (n+3)) K hj h0 h1
 exact⟨v,hv,by rw [<- e];exact congrFun (congrFun (e_n_law_small (n+4)) _) _⟩
noncomputable def WhenOk (ψ:Str->GF) (ns:List Int):Prop:=∀(K:List Str) {S:Sto}{j:Nat}{c:Int},S[j]? = some (cnt c)->0≤c->c < 49000 ->
  ∃v c',isWhen K v/\c≤c'/\c'≤c+3/\ψ "_law_when" [.p (.lst (sts K)),.p (scr ns),.ref j] S=some (.p v,S.set j (cnt c'))
theorem when_body {ψ:Str->GF} (ι:Str->GF) {ns:List Int} (hn:NextOk ψ ns) (hf:LeafOk ψ) (hm:SmallOk ψ ns) (K:List Str) {S:Sto}{j:Nat}{c:Int} (hj:S[j]? = some (cnt c)) (h0:0≤c) (h1:c < 49000) :
  ∃v c',isWhen K v/\c≤c'/\c'≤c+3/\fnR 3 7 (b_n_law_when ψ ι) [.p (.lst (sts K)),.p (scr ns),.ref j] S=some (.p v,S.set j (cnt c')):=by
 obtain⟨r,r0,_,e⟩:=hn hj h0 (by lia)
 by_cases h:r % 3=0
 ·exact⟨_,c+1,.inl rfl,by lia,by lia,by simp [fnR,b_n_law_when,e,h]⟩
 obtain⟨a,ha,e1⟩:=hm K (cnt_set (c':=c+1) hj) (by lia) (by lia)
 obtain⟨b,hb,e2⟩:=hm K (cnt_set (c':=c+1+1) hj) (by lia) (by lia)
 rw [List.set_set] at e1 e2
 obtain⟨z,hz,e3⟩:=atI_in (xs:=[P.str "=",.str "!=",.str "<",.str "<=",.str ">",.str ">="]) (k:=r / 3 % 6) (by lia) (by simp;lia)
 have:∃w:Str,strOk w/\z=.str w:=by
  simp only [List.mem_cons,List.not_mem_nil,or_false] at hz
  rcases hz with rfl | rfl | rfl | rfl | rfl | rfl <;> exact⟨_,by unfold strOk;decide +kernel,rfl⟩
 obtain⟨w,hw,rfl⟩:=this
 clear hz
 have h3:isCmp K (.tup [.str "is",.str w,a,b]):=⟨w,a,b,hw,ha,hb,rfl⟩
 have hS:(S.set j (cnt (c+1))).length=S.length:=by simp
 have t1:trunc S.length (S.set j (cnt (c+1+1)))=S.set j (cnt (c+1+1)):=trunc_set ..
 have t2:trunc S.length (S.set j (cnt (c+1+1+1)))=S.set j (cnt (c+1+1+1)):=trunc_set ..
 by_cases h4:r / 18 % 4=0
 ·exact⟨_,c+1+1+1,.inr (.inr (.inl ⟨_,h3,rfl⟩)),by lia,by lia,by simp [fnR,b_n_law_when,e,h,e1,e2,e3,h4]⟩
 by_cases h5:r / 18 % 4=1
 ·obtain⟨f,hf1,e4⟩:=hf K (r / 72)
  obtain⟨z,hz,e5⟩:=at2 (P.str "and") (.str "or") (i:=r / 7200 % 2) (by lia) (by lia)
  have:∃o:Str,(o="and"\/o="or")/\z=.str o:=by
   simp only [List.mem_cons,List.not_mem_nil,or_false] at hz
   rcases hz with rfl | rfl
   ·exact⟨_,.inl rfl,rfl⟩
   ·exact⟨_,.inr rfl,rfl⟩
  obtain⟨o,ho,rfl⟩:=this
  clear hz
  exact⟨_,c+1+1+1,.inr (.inr (.inr ⟨o,_,_,ho,h3,⟨"=",f,.tup [.str "number",.int (r / 720 % 10)],by unfold strOk;decide +kernel,.inl hf1,.inl (.inr ⟨_,rfl⟩),rfl⟩,rfl⟩)),by lia,by lia,by simp [fnR,b_n_law_when,e,h,e1,e2,e3,h4,h5,e4,e5]⟩
 ·exact⟨_,c+1+1+1,.inr (.inl h3),by lia,by lia,by simp [fnR,b_n_law_when,e,h,e1,e2,e3,h4,h5]⟩
theorem when_all (n:Nat) (ns:List Int):WhenOk (Psi Gv Att Tb (n+8)) ns:=fun K {S j c} hj h0 h1=>by
 obtain⟨v,c',hv,a,b,e⟩:=when_body (ψ:=Psi Gv Att Tb (n+6+1)) (Psi Gv Att Tb (n+6)) (next_all (n+3) ns) (leaf_all (n+5)) (small_all (n+1) ns) K hj h0 h1
 exact⟨v,c',hv,a,b,by rw [<- e];exact congrFun (congrFun (e_n_law_when (n+6)) _) _⟩
end My
namespace My
open PySem L2 Ev
theorem own_last {S:Sto}{ds:List D}{N:Nat} (h:S.length=N):ownL (.ref N) (S++[.lst ds])=some (N,ds):=by
 subst h
 simp [ownL]
theorem set_last {S:Sto}{x y:SO}{N:Nat} (h:S.length=N):(S++[x]).set N y=S++[y]:=by
 subst h
 simp
theorem set_app {S T:Sto}{j:Nat}{x y:SO} (h:S[j]? = some y):(S++T).set j x=S.set j x++T:=List.set_append_left _ _ (List.getElem?_eq_some_iff.mp h).1
theorem get_app {S T:Sto}{j:Nat}{y:SO} (h:S[j]? = some y):(S++T)[j]? = some y:=by rw [List.getElem?_append_left (List.getElem?_eq_some_iff.mp h).1];exact h
theorem NextOk.app {ψ:Str->GF}{ns:List Int} (h:NextOk ψ ns) {S:Sto} (T:Sto) {j:Nat}{c:Int} (hj:S[j]? = some (cnt c)) (h0:0≤c) (h1:c < 50000) :
  ∃r:Int,0≤r/\r < 2147483648/\ψ "_law_next" [.p (scr ns),.ref j] (S++T)=some (.p (.int r),S.set j (cnt (c+1))++T):=by
 obtain⟨r,a,b,e⟩:=h (get_app (T:=T) hj) h0 h1
 exact⟨r,a,b,by rw [e,set_app hj]⟩
theorem trunc_app (S:Sto) (j:Nat) (x:SO) (T:Sto):trunc (S++T).length (S.set j x++T)=S.set j x++T:=trunc_len (by simp)
noncomputable def Low (n:Nat) (T:Sto):Prop:=∀o ∈ T,lowO n o=true
theorem Low.set {n:Nat}{T:Sto} (h:Low n T) (j:Nat) (c:Int):Low n (T.set j (cnt c)):=fun o ho=>by
 rcases List.mem_or_eq_of_mem_set ho with q | q
 ·exact h o q
 ·rw [q];rfl
theorem trunc_low {n:Nat}{T X:Sto} (h:Low n T) (hn:T.length=n):trunc n (T++X)=T:=by
 unfold trunc
 rw [List.take_append_of_le_length (by lia),List.take_of_length_le (by lia),if_pos (List.all_eq_true.mpr h)]
theorem ints_r (n:Nat):intsFrom 0 n=(List.range' 0 n).map fun i:Nat=>P.int (i:Int):=by
 unfold Ev.intsFrom
 rw [List.range_eq_range']
 refine List.map_congr_left fun i _=>?_
 rw [Int.zero_add]
theorem comp_map {α:Type}{f g:α->P}{tgt:TGv}{e:EV}{S:Sto} (Lf:Option D->Lc) (hT:∀q v,tgt v (Lf q)=some (Lf (some (.p v)))):∀{xs:List α},(∀x ∈ xs,e (Lf (some (.p (f x)))) S=some (g x,S))->∀q,compGo tgt bYes e (xs.map f) (Lf q) S=some (xs.map g,S)
 | [],_,q=>rfl
 | x::xs,he,q=>by
  have e1:=he x List.mem_cons_self
  have e2:=comp_map Lf hT (xs:=xs) (fun y hy=>he y (List.mem_cons_of_mem _ hy)) (some (.p (f x)))
  simp [compGo,hT,e1,e2]
structure Cel where
 name:Str
 low:Int
 high:Int
 start:Int
noncomputable def celP (c:Cel):P:=.tup [.str c.name,.int c.low,.int c.high,.int c.start]
noncomputable def CelOk (c:Cel):Prop:=c.low≤c.start/\c.start≤c.high/\c.high-c.low≤9
theorem cells_turn {ψ:Str->GF} (ι:Str->GF) {ns:List Int} (hn:NextOk ψ ns) (hm:NamedOk ψ) {S:Sto}{j N k:Nat}{c r:Int} (hj:S[j]? = some (cnt c)) (h0:0≤c) (h1:c < 50000) (hN:S.length=N) (hk:k < 8) (ds:List D) (hd:ds.length≤100) (p5 p6 p7:Option D) :
  ∃(x:Cel) (q5 q6 q7:Option D),CelOk x/\x.name=nm k (r / 4)/\b_n_law_cells_L1 ψ ι [some (.p (scr ns)),some (.ref j),some (.ref N),some (.p (.int r)),some (.p (.int (k:Int))),p5,p6,p7] (S++[.lst ds]) =
   some (.nx,[some (.p (scr ns)),some (.ref j),some (.ref N),some (.p (.int r)),some (.p (.int (k:Int))),q5,q6,q7],S.set j (cnt (c+1))++[.lst (ds++[.p (celP x)])]):=by
 obtain⟨d,d0,_,e⟩:=hn.app [.lst ds] hj h0 h1
 have e1:=hm.pure (r / 4) hk
 obtain⟨z,hz,e2⟩:=at2 (P.int (d / 100 % 13-6)) (.int (d / 100 % 1980-990)) (i:=d % 4 / 3) (by lia) (by lia)
 have:∃i:Int,z=.int i:=by
  simp only [List.mem_cons,List.not_mem_nil,or_false] at hz
  rcases hz with rfl | rfl <;> exact⟨_,rfl⟩
 obtain⟨lo,rfl⟩:=this
 clear hz
 have hp:0 < lo+d / 4 % 10-lo+1:=by lia
 have m0:=Int.emod_nonneg (d / 40 % 1000) (Int.ne_of_gt hp)
 have m1:=Int.emod_lt_of_pos (d / 40 % 1000) hp
 have t1:=trunc_app S j (cnt (c+1)) [.lst ds]
 have o1:ownL (.ref N) (S.set j (cnt (c+1))++[.lst ds])=some (N,ds):=own_last (by simpa using hN)
 have o2:∀y,(S.set j (cnt (c+1))++[SO.lst ds]).set N y=S.set j (cnt (c+1))++[y]:=fun y=>set_last (by simpa using hN)
 have hd2:ds.length≤1000000:=by lia
 generalize hx:d / 40 % 1000 % (lo+d / 4 % 10-lo+1)=x at *
 generalize S.set j (cnt (c+1))++[.lst ds]=S1 at *
 generalize S++[.lst ds]=S0 at *
 refine⟨⟨nm k (r / 4),lo,lo+d / 4 % 10,lo+x⟩,some (.p (.int d)),some (.p (.int lo)),some (.p (.int (lo+d / 4 % 10))),⟨?_,?_,?_⟩,rfl,?_⟩
 ·show lo≤lo+x;lia
 ·show lo+x≤lo+d / 4 % 10;lia
 ·show lo+d / 4 % 10-lo≤9;lia
 ·simp only [b_n_law_cells_L1]
  simp [e,e1,e2,t1,o1,o2,hp,hx,hd2,celP]
noncomputable def celD (cs:List Cel):List D:=cs.map fun c=>.p (celP c)
theorem cells_loop {ψ:Str->GF} (ι:Str->GF) {ns:List Int} (hn:NextOk ψ ns) (hm:NamedOk ψ) {j N:Nat}{r:Int}:∀(m k:Nat) {S:Sto}{c:Int} (cs:List Cel) (p4 p5 p6 p7:Option D),S[j]? = some (cnt c)->0≤c->c+m < 50000->S.length=N->k+m≤8->cs.map Cel.name=(List.range k).map (nm · (r / 4))->(∀x ∈ cs,CelOk x) ->
  ∃(cs':List Cel) (q4 q5 q6 q7:Option D),cs'.map Cel.name=(List.range (k+m)).map (nm · (r / 4))/\(∀x ∈ cs',CelOk x)/\forGo (gSet 4) (b_n_law_cells_L1 ψ ι) ((List.range' k m).map fun i:Nat=>P.int (i:Int)) [some (.p (scr ns)),some (.ref j),some (.ref N),some (.p (.int r)),p4,p5,p6,p7] (S++[.lst (celD cs)]) =
   some (.nx,[some (.p (scr ns)),some (.ref j),some (.ref N),some (.p (.int r)),q4,q5,q6,q7],S.set j (cnt (c+m))++[.lst (celD cs')])
 | 0,k,S,c,cs,p4,p5,p6,p7,hj,h0,h1,hN,hk,hcs,hok=>by
  refine⟨cs,p4,p5,p6,p7,hcs,hok,?_⟩
  have:S.set j (cnt (c+(0:Nat)))=S:=by
   obtain⟨hl,e⟩:=List.getElem?_eq_some_iff.mp hj
   rw [show c+((0:Nat):Int)=c by lia,<- e]
   exact List.set_getElem_self hl
  rw [this];rfl
 | m+1,k,S,c,cs,p4,p5,p6,p7,hj,h0,h1,hN,hk,hcs,hok=>by
  have hl:cs.length=k:=by have:=congrArg List.length hcs;simpa using this
  obtain⟨x,q5,q6,q7,hx,hxn,e1⟩:=cells_turn ι hn hm (r:=r) hj h0 (by lia) hN (k:=k) (by lia) (celD cs) (by simp [celD];lia) p5 p6 p7
  obtain⟨cs',q4',q5',q6',q7',a,b,e2⟩:=cells_loop ι hn hm (r:=r) m (k+1) (S:=S.set j (cnt (c+1))) (c:=c+1) (cs++[x]) (some (.p (.int (k:Int)))) q5 q6 q7 (cnt_set hj) (by lia) (by lia) (by simpa using hN) (by lia)
   (by rw [List.map_append,hcs,List.range_succ,List.map_append];simp [hxn])
   (fun y hy=>by
    rcases List.mem_append.mp hy with q | q
    ·exact hok y q
    ·rw [List.mem_singleton.mp q];exact hx)
  refine⟨cs',q4',q5',q6',q7',by rw [a,show k+1+m=k+(m+1) by lia],b,?_⟩
  have e2':=e2
  rw [List.set_set,show celD (cs++[x])=celD cs++[.p (celP x)] by simp [celD],show c+1+(m:Int)=c+((m+1:Nat):Int) by lia] at e2'
  rw [List.range'_succ,List.map_cons]
  exact (forGo_nx rfl e1).trans e2'
noncomputable def CellsOk (ψ:Str->GF) (ns:List Int):Prop:=∀{S:Sto}{j:Nat}{c:Int},S[j]? = some (cnt c)->0≤c->c < 49000 ->
  ∃(cs:List Cel) (s c':Int),c≤c'/\c'≤c+4/\cs.length≤3/\cs.map Cel.name=(List.range cs.length).map (nm · s)/\(∀x ∈ cs,CelOk x)/\ψ "_law_cells" [.p (scr ns),.ref j] S=some (.ref S.length,S.set j (cnt c')++[.lst (celD cs)])
theorem cells_body {ψ:Str->GF} (ι:Str->GF) {ns:List Int} (hn:NextOk ψ ns) (hm:NamedOk ψ) {S:Sto}{j:Nat}{c:Int} (hj:S[j]? = some (cnt c)) (h0:0≤c) (h1:c < 49000) :
  ∃(cs:List Cel) (s c':Int),c≤c'/\c'≤c+4/\cs.length≤3/\cs.map Cel.name=(List.range cs.length).map (nm · s)/\(∀x ∈ cs,CelOk x)/\fnR 2 8 (b_n_law_cells ψ ι) [.p (scr ns),.ref j] S=some (.ref S.length,S.set j (cnt c')++[.lst (celD cs)]):=by
 obtain⟨r,r0,_,e⟩:=hn.app [.lst []] hj h0 (by lia)
 obtain⟨cs,q4,q5,q6,q7,a,b,e2⟩:=cells_loop ι hn hm (r:=r) (N:=S.length) (r % 4).toNat 0 [] none none none none (cnt_set (c':=c+1) hj) (by lia) (by lia) (by simp) (by lia) rfl (fun _ h=>by cases h)
 have hl:cs.length=(r % 4).toNat:=by have:=congrArg List.length a;simpa using this
 rw [<- ints_r,List.set_set] at e2
 obtain⟨m,hm1⟩:∃m,(r % 4).toNat=m:=⟨_,rfl⟩
 rw [hm1] at e2 a hl
 refine⟨cs,r / 4,c+1+(m:Int),by lia,by lia,by lia,by rw [a,hl,Nat.zero_add],b,?_⟩
 have t1:trunc (S.length+1) (S.set j (cnt (c+1))++[SO.lst []])=S.set j (cnt (c+1))++[SO.lst []]:=trunc_len (by simp)
 have hr:(r % 4).natAbs < 1000000:=by lia
 rw [show celD []=[] from rfl] at e2
 simp [fnR,b_n_law_cells,e,t1,hr,hm1,e2]
theorem cells_all (n:Nat) (ns:List Int):CellsOk (Psi Gv Att Tb (n+6)) ns:=fun {S j c} hj h0 h1=>by
 obtain⟨cs,s,c',a1,a2,a3,a4,a5,e⟩:=cells_body (ψ:=Psi Gv Att Tb (n+4+1)) (Psi Gv Att Tb (n+4)) (next_all (n+1) ns) (named_all (n+3)) hj h0 h1
 exact⟨cs,s,c',a1,a2,a3,a4,a5,by rw [<- e];exact congrFun (congrFun (e_n_law_cells (n+4)) _) _⟩
end My
namespace My
open PySem L2 Ev
theorem seq_nx {f g:ES}{L L1:Lc}{S S1:Sto} (h:f L S=some (.nx,L1,S1)):sSeq f g L S=g L1 S1:=by
 simp [h]
structure Fam where
 name:Str
 hands:Int
 rooms:List Str
 cells:List Cel
 whos:List Str
 steps:List P
noncomputable def famD (i:Nat) (f:Fam):List D:=[.p (.str f.name),.p (.int f.hands),.p (.lst (sts f.rooms)),.p (.lst (f.cells.map celP)),.p (.lst (sts f.whos)),.ref i]
noncomputable def famsO:Nat->List Fam->Sto
 | _,[]=>[]
 | i,f::r=>.lst (f.steps.map .p)::.lst (famD i f)::famsO (i+2) r
noncomputable def refsF (n:Nat):List D:=(List.range n).map fun k=>.ref (3+2 * k)
noncomputable def stoF (c:Int) (fs:List Fam):Sto:=cnt c::.lst (refsF fs.length)::famsO 2 fs
theorem famsO_len:∀(i:Nat) (fs:List Fam),(famsO i fs).length=2 * fs.length
 | _,[]=>rfl
 | i,f::r=>by
  show (famsO (i+2) r).length+1+1=2 * (r.length+1)
  rw [famsO_len];lia
theorem famsO_app:∀(i:Nat) (fs:List Fam) (f:Fam),famsO i (fs++[f])=famsO i fs++[.lst (f.steps.map .p),.lst (famD (i+2 * fs.length) f)]
 | i,[],f=>rfl
 | i,g::r,f=>by
  show _::_::famsO (i+2) (r++[f])=_::_::(famsO (i+2) r++_)
  rw [famsO_app,List.length_cons,show i+2+2 * r.length=i+2 * (r.length+1) by lia]
theorem famsO_low {n:Nat}:∀(i:Nat) (fs:List Fam),i+2 * fs.length≤n->Low n (famsO i fs)
 | _,[],_=>fun _ h=>by cases h
 | i,f::r,h=>fun o ho=>by
  simp only [List.length_cons] at h
  rcases List.mem_cons.mp ho with rfl | ho
  ·show (f.steps.map D.p).all (lowD n)=true
   rw [List.all_map];exact List.all_eq_true.mpr fun _ _=>rfl
  rcases List.mem_cons.mp ho with rfl | ho
  ·show (famD i f).all (lowD n)=true
   simp [famD,lowD];lia
  ·exact famsO_low (i+2) r (by lia) o ho
theorem stoF_len (c:Int) (fs:List Fam):(stoF c fs).length=2+2 * fs.length:=by
 show (famsO 2 fs).length+1+1=_
 rw [famsO_len];lia
theorem refs_low {n k:Nat} (h:2+2 * k≤n):lowO n (.lst (refsF k))=true:=by
 show (refsF k).all (lowD n)=true
 unfold refsF
 rw [List.all_map]
 refine List.all_eq_true.mpr fun i hi=>decide_eq_true ?_
 have:=List.mem_range.mp hi
 lia
theorem stoF_low (c:Int) (fs:List Fam):Low (2+2 * fs.length) (stoF c fs):=fun o ho=>by
 rcases List.mem_cons.mp ho with rfl | ho
 ·rfl
 rcases List.mem_cons.mp ho with rfl | ho
 ·exact refs_low (Nat.le_refl _)
 ·exact famsO_low 2 fs (by lia) o ho
theorem stoF_0 (c:Int) (fs:List Fam):(stoF c fs)[0]? = some (cnt c):=rfl
theorem stoF_1 (c:Int) (fs:List Fam):ownL (.ref 1) (stoF c fs)=some (1,refsF fs.length):=rfl
theorem stoF_set (c c':Int) (fs:List Fam):(stoF c fs).set 0 (cnt c')=stoF c' fs:=rfl
theorem stoF_add (c:Int) (fs:List Fam) (f:Fam) (hs:f.steps=[]):(stoF c fs++[SO.lst [],SO.lst (famD (2+2 * fs.length) f)]).set 1 (SO.lst (refsF fs.length++[D.ref (3+2 * fs.length)]))=stoF c (fs++[f]):=by
 show cnt c::.lst _::(famsO 2 fs++_)=cnt c::.lst _::famsO 2 (fs++[f])
 rw [famsO_app,hs,List.length_append,List.length_singleton]
 unfold refsF
 rw [List.range_succ,List.map_append];rfl
noncomputable def FamOk (f:Fam):Prop:=1≤f.hands/\1≤f.rooms.length/\f.rooms.length≤8/\f.rooms.Nodup/\(∀x ∈ f.rooms,nameB x=true)/\f.cells.length≤3/\(f.cells.map Cel.name++f.whos).Nodup/\(∀x ∈ f.cells.map Cel.name++f.whos,nameB x=true)/\("it":Str) ∉ f.cells.map Cel.name/\(∀c ∈ f.cells,CelOk c)/\f.whos.length≤2
theorem nodup_nm {m:Nat} (s:Int) (h:m≤8):((List.range m).map (nm · s)).Nodup:=by
 refine List.pairwise_map.mpr ((List.nodup_range (n:=m)).imp_of_mem fun {a b} ha hb hne e=>hne ?_)
 have:=List.mem_range.mp ha
 have:=List.mem_range.mp hb
 exact nm_inj (by lia) (by lia) e
theorem name_nm {m:Nat}{s:Int} (h:m≤8) {x:Str} (hx:x ∈ (List.range m).map (nm · s)):nameB x=true/\freeB x=true:=by
 obtain⟨k,hk,rfl⟩:=List.mem_map.mp hx
 exact nm_both s (by have:=List.mem_range.mp hk;lia)
theorem who_pick {i:Int} (h0:0≤i) (h1:i < 4):∃a b:Str,a ∈ whoWs/\b ∈ whoWs/\a≠b/\L2.atI [P.lst [.str "it",.str "first"],.lst [.str "by",.str "who"],.lst [.str "to",.str "from"],.lst [.str "at",.str "go"]] i=some (.lst [.str a,.str b]):=by
 have:i=0\/i=1\/i=2\/i=3:=by lia
 rcases this with rfl | rfl | rfl | rfl
 ·exact⟨"it","first",by simp [whoWs],by simp [whoWs],by decide +kernel,rfl⟩
 ·exact⟨"by","who",by simp [whoWs],by simp [whoWs],by decide +kernel,rfl⟩
 ·exact⟨"to","from",by simp [whoWs],by simp [whoWs],by decide +kernel,rfl⟩
 ·exact⟨"at","go",by simp [whoWs],by simp [whoWs],by decide +kernel,rfl⟩
theorem who_cut {a b:Str} (hne:a≠b) {k:Int} (h0:0≤k) (h1:k < 3):∃ws:List Str,dSl2 (.lst [.str a,.str b]) none (some k)=some (.lst (sts ws))/\ws.length≤2/\ws.Nodup/\∀w ∈ ws,w=a\/w=b:=by
 have:k=0\/k=1\/k=2:=by lia
 rcases this with rfl | rfl | rfl
 ·exact⟨[],rfl,by simp,by simp,by simp⟩
 ·exact⟨[a],rfl,by simp,by simp,by simp⟩
 ·exact⟨[a,b],rfl,by simp,by simpa using hne,by simp⟩
theorem rooms_comp {ψ:Str->GF} (hm:NamedOk ψ) (r:Int) {m:Nat} (hm8:m≤8) (a0 a1 a2 a3 a4 a5 a6 a8 a9 a10 a11 q:Option D) (S:Sto) :
  compGo (gSet 12) bYes (vCall (pureOf (ψ "_law_named")) (vsCons (vE (eVar 12)) (vsCons (vOp dFloor (vE (eVar 7)) (vC (.int 4))) vsNil))) (intsFrom 0 m) [a0,a1,a2,a3,a4,a5,a6,some (.p (.int r)),a8,a9,a10,a11,q] S=some (sts ((List.range m).map (nm · (r / 4))),S):=by
 rw [ints_r]
 have:=comp_map (f:=fun i:Nat=>P.int (i:Int)) (g:=fun i=>P.str (nm i (r / 4))) (S:=S) (tgt:=gSet 12) (e:=vCall (pureOf (ψ "_law_named")) (vsCons (vE (eVar 12)) (vsCons (vOp dFloor (vE (eVar 7)) (vC (.int 4))) vsNil)))
  (fun q=>[a0,a1,a2,a3,a4,a5,a6,some (.p (.int r)),a8,a9,a10,a11,q]) (fun q v=>rfl) (xs:=List.range' 0 m) (fun i hi=>by
   have h8:i < 8:=by have:=List.mem_range'_1.mp hi;lia
   have e:=hm.pure (r / 4) h8
   simp [e]) q
 rw [this,<- List.range_eq_range']
 simp [sts]
theorem first_turn {ψ:Str->GF} (ι:Str->GF) {ns:List Int} (hn:NextOk ψ ns) (hm:NamedOk ψ) (hc:CellsOk ψ ns) {c many left kinds:Int}{fs:List Fam} (h0:0≤c) (h1:c < 40000) (hk:fs.length < 4) (hl:1≤left-(many % 4-(fs.length:Int))) (p7 p8 p9 p10 p11:Option D) :
  ∃(f:Fam) (c':Int) (q7 q8 q9 q10 q11:Option D),FamOk f/\f.name=nm fs.length kinds/\f.steps=[]/\many % 4-fs.length≤left-f.hands/\c≤c'/\c'≤c+5 /\
   b_n_law_first_L1 ψ ι [some (.p (scr ns)),some (.ref 0),some (.p (.int many)),some (.ref 1),some (.p (.int left)),some (.p (.int kinds)),some (.p (.int (fs.length:Int))),p7,p8,p9,p10,p11] (stoF c fs) =
   some (.nx,[some (.p (scr ns)),some (.ref 0),some (.p (.int many)),some (.ref 1),some (.p (.int (left-f.hands))),some (.p (.int kinds)),some (.p (.int (fs.length:Int))),q7,q8,q9,q10,q11],stoF c' (fs++[f])):=by
 obtain⟨r,r0,_,e⟩:=hn (stoF_0 c fs) h0 (by lia)
 rw [stoF_set] at e
 obtain⟨cs,s,c',c1,c2,cl,cn,co,ec⟩:=hc (stoF_0 (c+1) fs) (by lia) (by lia)
 rw [stoF_set,stoF_len] at ec
 obtain⟨a,b,ha,hb,hab,ew⟩:=who_pick (i:=r / 512 % 4) (by lia) (by lia)
 obtain⟨ws,es,wl,wn,wm⟩:=who_cut hab (k:=r / 2048 % 3) (by lia) (by lia)
 obtain⟨m,hm1⟩:∃m,(1+r / 64 % 8).toNat=m:=⟨_,rfl⟩
 obtain⟨hands,hh⟩:∃h:Int,(if left-(many % 4-(fs.length:Int)) < 1+r % 3 then left-(many % 4-(fs.length:Int)) else 1+r % 3)=h:=⟨_,rfl⟩
 have hh1:1≤hands/\hands≤left-(many % 4-(fs.length:Int)):=by subst hh;split <;> lia
 have t1:trunc (2+2 * fs.length) (stoF (c+1) fs)=stoF (c+1) fs:=trunc_len (stoF_len _ _)
 have tp:toP 9 (.ref (2+2 * fs.length)) (stoF c' fs++[.lst (celD cs)])=some (.lst (cs.map celP),stoF c' fs++[.fz (.lst (cs.map celP))]):=by
  have hg:(stoF c' fs++[SO.lst (celD cs)])[2+2 * fs.length]? = some (.lst ((cs.map celP).map .p)):=by
   rw [List.getElem?_append_right (by rw [stoF_len];lia),stoF_len,Nat.sub_self]
   simp [celD]
  rw [toP_lst hg,set_last (stoF_len _ _)]
 have t2:trunc (2+2 * fs.length) (stoF c' fs++[.fz (.lst (cs.map celP))])=stoF c' fs:=trunc_low (stoF_low _ _) (stoF_len _ _)
 have hm8:m≤8:=by lia
 have er:=fun S a0 a1 a2 a3 a4 a5 a6 a8 a9 a10 a11 q=>rooms_comp hm r hm8 a0 a1 a2 a3 a4 a5 a6 a8 a9 a10 a11 q S
 have nr:(1+r / 64 % 8).natAbs < 1000000:=by lia
 have il:(intsFrom 0 m).length≤1000000:=by rw [ints_len];lia
 refine⟨⟨nm fs.length kinds,hands,(List.range m).map (nm · (r / 4)),cs,ws,[]⟩,c',some (.p (.int r)),some (.p (.int hands)),some (.p (.lst (sts ((List.range m).map (nm · (r / 4)))))),some (.p (.lst (cs.map celP))),some (.p (.lst (sts ws))),⟨hh1.1,by simp;lia,by simpa using hm8,nodup_nm _ hm8,fun x hx=>(name_nm hm8 hx).1,cl,?_,?_,?_,co,wl⟩,rfl,rfl,by show _≤left-hands;lia,by lia,by lia,?_⟩
 ·show (cs.map Cel.name++ws).Nodup
  rw [cn]
  refine List.nodup_append.mpr ⟨nodup_nm _ (by lia),wn,fun x hx y hy e=>?_⟩
  subst e
  have f1:=(name_nm (m:=cs.length) (by lia) hx).2
  have:x ∈ whoWs:=by rcases wm x hy with rfl | rfl <;> assumption
  unfold freeB at f1
  have f2:(whoWs.any fun y=>decide (y=x))=true:=List.any_eq_true.mpr ⟨x,this,by simp⟩
  rw [f2] at f1;cases f1
 ·show ∀x ∈ cs.map Cel.name++ws,nameB x=true
  intro x hx
  rcases List.mem_append.mp hx with q | q
  ·rw [cn] at q;exact (name_nm (m:=cs.length) (by lia) q).1
  ·exact List.all_eq_true.mp who_all x (by rcases wm x q with rfl | rfl <;> assumption)
 ·show ("it":Str) ∉ cs.map Cel.name
  intro hx
  rw [cn] at hx
  have f1:=(name_nm (m:=cs.length) (by lia) hx).2
  revert f1;decide +kernel
 ·have en:=fun S=>hm fs.length kinds S (by lia)
  unfold b_n_law_first_L1
  refine (seq_nx (L1:=[some (.p (scr ns)),some (.ref 0),some (.p (.int many)),some (.ref 1),some (.p (.int left)),some (.p (.int kinds)),some (.p (.int (fs.length:Int))),some (.p (.int r)),p8,p9,p10,p11]) (S1:=stoF (c+1) fs) (by simp [e,stoF_len,t1])).trans ?_
  refine (seq_nx (L1:=[some (.p (scr ns)),some (.ref 0),some (.p (.int many)),some (.ref 1),some (.p (.int left)),some (.p (.int kinds)),some (.p (.int (fs.length:Int))),some (.p (.int r)),some (.p (.int (1+r % 3))),p9,p10,p11]) (S1:=stoF (c+1) fs) (by simp)).trans ?_
  refine (seq_nx (L1:=[some (.p (scr ns)),some (.ref 0),some (.p (.int many)),some (.ref 1),some (.p (.int left)),some (.p (.int kinds)),some (.p (.int (fs.length:Int))),some (.p (.int r)),some (.p (.int hands)),p9,p10,p11]) (S1:=stoF (c+1) fs) (by simp [c_min,hh])).trans ?_
  refine (seq_nx (L1:=[some (.p (scr ns)),some (.ref 0),some (.p (.int many)),some (.ref 1),some (.p (.int (left-hands))),some (.p (.int kinds)),some (.p (.int (fs.length:Int))),some (.p (.int r)),some (.p (.int hands)),p9,p10,p11]) (S1:=stoF (c+1) fs) (by simp)).trans ?_
  refine (seq_nx (L1:=[some (.p (scr ns)),some (.ref 0),some (.p (.int many)),some (.ref 1),some (.p (.int (left-hands))),some (.p (.int kinds)),some (.p (.int (fs.length:Int))),some (.p (.int r)),some (.p (.int hands)),some (.p (.lst (sts ((List.range m).map (nm · (r / 4)))))),p10,p11]) (S1:=stoF (c+1) fs) (by simp [vComp,nr,hm1,il,upL,er])).trans ?_
  refine (seq_nx (L1:=[some (.p (scr ns)),some (.ref 0),some (.p (.int many)),some (.ref 1),some (.p (.int (left-hands))),some (.p (.int kinds)),some (.p (.int (fs.length:Int))),some (.p (.int r)),some (.p (.int hands)),some (.p (.lst (sts ((List.range m).map (nm · (r / 4)))))),some (.p (.lst (cs.map celP))),p11]) (S1:=stoF c' fs) (by simp [ec,tp,stoF_len,t2])).trans ?_
  refine (seq_nx (L1:=[some (.p (scr ns)),some (.ref 0),some (.p (.int many)),some (.ref 1),some (.p (.int (left-hands))),some (.p (.int kinds)),some (.p (.int (fs.length:Int))),some (.p (.int r)),some (.p (.int hands)),some (.p (.lst (sts ((List.range m).map (nm · (r / 4)))))),some (.p (.lst (cs.map celP))),some (.p (.lst (sts ws)))]) (S1:=stoF c' fs) (by simp [ew,oNone,oSome,es])).trans ?_
  have rl:(refsF fs.length).length≤1000000:=by simp [refsF];lia
  have o1:=stoF_1 c' fs
  have o2:∀T,ownL (.ref 1) (stoF c' fs++T)=some (1,refsF fs.length):=fun _=>rfl
  have hf:=stoF_add c' fs ⟨nm fs.length kinds,hands,(List.range m).map (nm · (r / 4)),cs,ws,[]⟩ rfl
  rw [<- hf]
  have ln:=stoF_len c' fs
  generalize stoF c' fs=S' at *
  simp [en,o1,o2,ln,rl,famD]
  rw [show 2+2 * fs.length+1=3+2 * fs.length by lia]
end My
namespace My
open PySem L2 Ev
theorem first_loop {ψ:Str->GF} (ι:Str->GF) {ns:List Int} (hn:NextOk ψ ns) (hm:NamedOk ψ) (hc:CellsOk ψ ns) {many kinds:Int}:∀(m:Nat) {c left:Int} (fs:List Fam) (p6 p7 p8 p9 p10 p11:Option D),0≤c->c+5 * m < 40000->many % 4+1=fs.length+m->(m:Int)≤left->(∀f ∈ fs,FamOk f/\f.steps=[])->fs.map Fam.name=(List.range fs.length).map (nm · kinds) ->
  ∃(fs':List Fam) (c' left':Int) (q6 q7 q8 q9 q10 q11:Option D),0≤left'/\(fs'.map Fam.hands).sum+left'=(fs.map Fam.hands).sum+left/\c≤c'/\c'≤c+5 * m/\fs'.length=fs.length+m/\(∀f ∈ fs',FamOk f/\f.steps=[])/\fs'.map Fam.name=(List.range fs'.length).map (nm · kinds) /\
   forGo (gSet 6) (b_n_law_first_L1 ψ ι) ((List.range' fs.length m).map fun i:Nat=>P.int (i:Int)) [some (.p (scr ns)),some (.ref 0),some (.p (.int many)),some (.ref 1),some (.p (.int left)),some (.p (.int kinds)),p6,p7,p8,p9,p10,p11] (stoF c fs) =
   some (.nx,[some (.p (scr ns)),some (.ref 0),some (.p (.int many)),some (.ref 1),some (.p (.int left')),some (.p (.int kinds)),q6,q7,q8,q9,q10,q11],stoF c' fs')
 | 0,c,left,fs,p6,p7,p8,p9,p10,p11,h0,h1,hk,hl,hf,hnm=>⟨fs,c,left,p6,p7,p8,p9,p10,p11,by lia,rfl,by lia,by lia,rfl,hf,hnm,rfl⟩
 | m+1,c,left,fs,p6,p7,p8,p9,p10,p11,h0,h1,hk,hl,hf,hnm=>by
  obtain⟨f,c1,q7,q8,q9,q10,q11,f1,f2,f3,f4,c2,c3,e1⟩:=first_turn ι hn hm hc (c:=c) (many:=many) (left:=left) (kinds:=kinds) (fs:=fs) h0 (by lia) (by lia) (by lia) p7 p8 p9 p10 p11
  obtain⟨fs',c',left',r6,r7,r8,r9,r10,r11,a1,a2,a3,a4,a5,a6,a7,e2⟩:=first_loop ι hn hm hc (many:=many) (kinds:=kinds) m (c:=c1) (left:=left-f.hands) (fs++[f]) (some (.p (.int (fs.length:Int)))) q7 q8 q9 q10 q11 (by lia) (by lia) (by simp;lia) (by lia)
   (fun g hg=>by
    rcases List.mem_append.mp hg with q | q
    ·exact hf g q
    ·rw [List.mem_singleton.mp q];exact⟨f1,f3⟩)
   (by rw [List.map_append,hnm,List.length_append,List.length_singleton,List.range_succ,List.map_append];simp [f2])
  refine⟨fs',c',left',r6,r7,r8,r9,r10,r11,a1,by rw [a2];simp;lia,by lia,by lia,by rw [a5];simp;lia,a6,a7,?_⟩
  rw [List.range'_succ,List.map_cons]
  refine (forGo_nx rfl e1).trans ?_
  rw [List.length_append,List.length_singleton] at e2
  exact e2
structure Fams (kinds:Int) (fs:List Fam):Prop where
 l1:1≤fs.length
 l2:fs.length≤4
 ok:∀f ∈ fs,FamOk f
 nms:fs.map Fam.name=(List.range fs.length).map (nm · kinds)
 sum:(fs.map Fam.hands).sum≤5
noncomputable def FirstOk (ψ:Str->GF) (ns:List Int):Prop:=∀{c:Int} (many:Int),0≤c->c < 20000->∃(fs:List Fam) (kinds c':Int),Fams kinds fs/\(∀f ∈ fs,f.steps=[])/\c≤c'/\c'≤c+21/\ψ "_law_first" [.p (scr ns),.ref 0,.p (.int many)] [cnt c]=some (.ref 1,stoF c' fs)
theorem first_body {ψ:Str->GF} (ι:Str->GF) {ns:List Int} (hn:NextOk ψ ns) (hm:NamedOk ψ) (hc:CellsOk ψ ns) {c:Int} (many:Int) (h0:0≤c) (h1:c < 20000) :
  ∃(fs:List Fam) (kinds c':Int),Fams kinds fs/\(∀f ∈ fs,f.steps=[])/\c≤c'/\c'≤c+21/\fnR 3 12 (b_n_law_first ψ ι) [.p (scr ns),.ref 0,.p (.int many)] [cnt c]=some (.ref 1,stoF c' fs):=by
 obtain⟨r,r0,_,e⟩:=hn (S:=stoF c []) (stoF_0 c []) h0 (by lia)
 rw [stoF_set] at e
 obtain⟨m,hm1⟩:∃m,(1+many % 4).toNat=m:=⟨_,rfl⟩
 obtain⟨fs,c',left,q6,q7,q8,q9,q10,q11,a1,a2,a3,a4,a5,a6,a7,e2⟩:=first_loop ι hn hm hc (many:=many) (kinds:=r) m (c:=c+1) (left:=5) [] none none none none none none (by lia) (by lia) (by simp;lia) (by lia) (fun _ h=>by cases h) rfl
 refine⟨fs,r,c',⟨by rw [a5];simp;lia,by rw [a5];simp;lia,fun f h=>(a6 f h).1,a7,by simp at a2;lia⟩,fun f h=>(a6 f h).2,by lia,by lia,?_⟩
 have t1:trunc 2 (stoF (c+1) [])=stoF (c+1) []:=trunc_len rfl
 have hr:(1+many % 4).natAbs < 1000000:=by lia
 rw [show ([]:List Fam).length=0 from rfl,<- ints_r] at e2
 rw [show stoF c []=[cnt c,.lst []] from rfl] at e
 simp [fnR,b_n_law_first,e,t1,hr,hm1,e2]
theorem first_all (n:Nat) (ns:List Int):FirstOk (Psi Gv Att Tb (n+8)) ns:=fun {c} many h0 h1=>by
 obtain⟨fs,k,c',a1,a2,a3,a4,e⟩:=first_body (ψ:=Psi Gv Att Tb (n+6+1)) (Psi Gv Att Tb (n+6)) (next_all (n+3) ns) (named_all (n+5)) (cells_all (n+1) ns) many h0 h1
 exact⟨fs,k,c',a1,a2,a3,a4,by rw [<- e];exact congrFun (congrFun (e_n_law_first (n+6)) _) _⟩
theorem famsO_get:∀(i:Nat) (fs:List Fam) {k:Nat}{f:Fam},fs[k]? = some f->(famsO i fs)[2 * k]? = some (.lst (f.steps.map .p))/\(famsO i fs)[2 * k+1]? = some (.lst (famD (i+2 * k) f))
 | _,[],_,_,h=>by simp at h
 | i,g::r,0,f,h=>by
  simp at h;subst h
  exact⟨rfl,rfl⟩
 | i,g::r,k+1,f,h=>by
  obtain⟨a,b⟩:=famsO_get (i+2) r (k:=k) (f:=f) (by simpa using h)
  rw [show i+2 * (k+1)=i+2+2 * k by lia,show 2 * (k+1)=2 * k+1+1 by lia]
  exact⟨a,b⟩
theorem stoF_fam {c:Int}{fs:List Fam}{k:Nat}{f:Fam} (h:fs[k]? = some f):(stoF c fs)[3+2 * k]? = some (.lst (famD (2+2 * k) f)):=by
 rw [show 3+2 * k=2 * k+1+1+1 by lia]
 exact (famsO_get 2 fs h).2
theorem stoF_stp {c:Int}{fs:List Fam}{k:Nat}{f:Fam} (h:fs[k]? = some f):(stoF c fs)[2+2 * k]? = some (.lst (f.steps.map .p)):=by
 rw [show 2+2 * k=2 * k+1+1 by lia]
 exact (famsO_get 2 fs h).1
theorem refs_get {n k:Nat} (h:k < n):(refsF n)[k]? = some (.ref (3+2 * k)):=by
 unfold refsF
 rw [List.getElem?_map,List.getElem?_range h];rfl
theorem compD_map {j kx:Nat}{e:EV}{S:Sto}{ds:List D} (hS:S[j]? = some (.lst ds)) (Lf:Option D->Lc) (hT:∀q d,(Lf q).set kx (some d)=Lf (some d)) {ys:List P} (hl:ys.length=ds.length) (he:∀(i:Nat) d y,ds[i]? = some d->ys[i]? = some y->e (Lf (some d)) S=some (y,S)) :
  ∀(fuel i:Nat) (q:Option D),ds.length-i < fuel->compD j kx bYes e fuel i (Lf q) S=some (ys.drop i,S)
 | 0,i,q,h=>absurd h (Nat.not_lt_zero _)
 | fuel+1,i,q,h=>by
  unfold compD
  rw [hS]
  dsimp only
  cases hd:ds[i]? with
  | none=>
   have:=List.getElem?_eq_none_iff.mp hd
   rw [List.drop_eq_nil_of_le (by lia)]
  | some d=>
   have hi:=(List.getElem?_eq_some_iff.mp hd).1
   have hy:ys[i]? = some ys[i]:=List.getElem?_eq_getElem (by lia)
   have e1:=he i d _ hd hy
   have e2:=compD_map hS Lf hT hl he fuel (i+1) (some d) (by lia)
   rw [List.drop_eq_getElem_cons (by lia:i < ys.length)]
   simp [hT,e1,e2]
end My
namespace My
open PySem L2 Ev
structure Road where
 one:Str
 other:Str
 kind:Str
 room:Int
 lo:Bool
 db:Bool
noncomputable def roadP (r:Road):P:=.tup [.str r.one,.str r.other,.str r.kind,.int r.room,.bl r.lo,.bl r.db]
noncomputable def pairP (r:Road):P:=.tup [.str r.one,.str r.other]
noncomputable def RoadOk (Ns:List Str) (r:Road):Prop:=r.one ∈ Ns/\r.other ∈ Ns/\(r.kind="row"\/r.kind="heap")/\1≤r.room/\r.room≤3
noncomputable def rdD (rds:List Road):List D:=rds.map fun r=>.p (roadP r)
structure Rds (Ns:List Str) (rds:List Road):Prop where
 ok:∀r ∈ rds,RoadOk Ns r
 nd:(rds.map fun r=>(r.one,r.other)).Nodup
theorem inP_pairs {a b:Str}{rds:List Road} (ha:strOk a) (hb:strOk b) (h:∀r ∈ rds,strOk r.one/\strOk r.other):inP (.tup [.str a,.str b]) (.lst (rds.map pairP))=some (rds.any fun r=>decide (r.one=a) && decide (r.other=b)):=by
 have h1:((rds.map pairP).all (okP 19) && okP 19 (.tup [.str a,.str b]))=true:=by
  rw [Bool.and_eq_true]
  refine⟨?_,?_⟩
  ·rw [List.all_map]
   refine List.all_eq_true.mpr fun r hr=>?_
   have:=h r hr
   show okP 19 (.tup [.str r.one,.str r.other])=true
   simp [show PyData.strOk r.one=true from this.1,show PyData.strOk r.other=true from this.2]
  ·simp [show PyData.strOk a=true from ha,show PyData.strOk b=true from hb]
 show (if ((rds.map pairP).all (okP 19) && okP 19 (.tup [.str a,.str b]))=true then some ((rds.map pairP).any fun y=>PyData.eqv (pd y) (pd (.tup [.str a,.str b]))) else none)=_
 rw [if_pos h1,List.any_map]
 congr 2
 funext r
 show PyData.eqv (.tuple [.str r.one,.str r.other]) (.tuple [.str a,.str b])=_
 rw [eqv_tup2,eqv_str,eqv_str]
theorem pairs_comp {S:Sto}{N:Nat}{rds:List Road} (hS:S[N]? = some (.lst (rdD rds))) (hl:rds.length < 1000) (a0 a1 a2 a3 a4 a5 a6 a7 a8 a9 q:Option D) :
  compD N 10 bYes (vSl2 (vE (eVar 10)) oNone (oSome (vC (.int 2)))) 1000 0 [a0,a1,a2,a3,a4,a5,a6,a7,a8,a9,q] S=some (rds.map pairP,S):=by
 have:=compD_map (e:=vSl2 (vE (eVar 10)) oNone (oSome (vC (.int 2)))) hS (kx:=10) (fun q=>[a0,a1,a2,a3,a4,a5,a6,a7,a8,a9,q]) (fun _ _=>rfl) (ys:=rds.map pairP) (by simp [rdD]) (fun i d y hd hy=>by
  unfold rdD at hd
  rw [List.getElem?_map] at hd hy
  cases hr:rds[i]? with
  | none=>rw [hr] at hd;cases hd
  | some r=>
   rw [hr] at hd hy
   cases hd;cases hy
   have:dSl2 (roadP r) none (some 2)=some (pairP r):=rfl
   simp [oNone,oSome,this]) 1000 0 q (by simp [rdD];lia)
 simpa using this
theorem names_comp {c:Int}{fs:List Fam} (hl:fs.length≤4) (T:Sto) (a0 a1 a2 a3 a4 a5 a6 a7 a8 a9 q:Option D) :
  compD 1 10 bYes (vE (eIx (eVar 10) (vC (.int 0)))) 1000 0 [a0,a1,a2,a3,a4,a5,a6,a7,a8,a9,q] (stoF c fs++T)=some (sts (fs.map Fam.name),stoF c fs++T):=by
 have hS:(stoF c fs++T)[1]? = some (.lst (refsF fs.length)):=rfl
 have:=compD_map (e:=vE (eIx (eVar 10) (vC (.int 0)))) hS (kx:=10) (fun q=>[a0,a1,a2,a3,a4,a5,a6,a7,a8,a9,q]) (fun _ _=>rfl) (ys:=sts (fs.map Fam.name)) (by simp [refsF]) (fun i d y hd hy=>by
  have hi:i < fs.length:=by have:=(List.getElem?_eq_some_iff.mp hd).1;simpa [refsF] using this
  have hf:fs[i]? = some fs[i]:=List.getElem?_eq_getElem hi
  rw [refs_get hi] at hd
  cases hd
  unfold sts at hy
  rw [List.getElem?_map,List.getElem?_map,hf] at hy
  cases hy
  have g:=get_app (T:=T) (stoF_fam (c:=c) hf)
  simp [g,famD]) 1000 0 q (by simp [refsF];lia)
 simpa using this
theorem roads_turn {ψ:Str->GF} (ι:Str->GF) {ns:List Int} (hn:NextOk ψ ns) {c:Int}{fs:List Fam}{Ns:List Str} (hN:Ns≠[]) (hNo:∀x ∈ Ns,strOk x) {rds:List Road} (hr:Rds Ns rds) (hl:rds.length≤20) (h0:0≤c) (h1:c < 50000) (p5 p6 p7 p8 p9:Option D) :
  ∃(rds':List Road) (q6 q7 q8 q9:Option D),Rds Ns rds'/\rds'.length≤rds.length+1/\b_n_law_roads_L1 ψ ι [some (.ref 1),some (.p (scr ns)),some (.ref 0),some (.ref (2+2 * fs.length)),some (.p (.lst (sts Ns))),p5,p6,p7,p8,p9] (stoF c fs++[.lst (rdD rds)]) =
   some (.nx,[some (.ref 1),some (.p (scr ns)),some (.ref 0),some (.ref (2+2 * fs.length)),some (.p (.lst (sts Ns))),p5,q6,q7,q8,q9],stoF (c+1) fs++[.lst (rdD rds')]):=by
 obtain⟨r,r0,_,e⟩:=hn.app [.lst (rdD rds)] (stoF_0 c fs) h0 (by lia)
 rw [stoF_set] at e
 obtain⟨a,ha,e1⟩:=pickS hN r
 obtain⟨b,hb,e2⟩:=pickS hN (r / 4)
 have hl3:0 < Ns.length:=List.length_pos_iff.mpr hN
 obtain⟨z,hz,e3⟩:=at2 (P.str "row") (.str "heap") (i:=r / 16 % 2) (by lia) (by lia)
 have:∃k:Str,(k="row"\/k="heap")/\z=.str k:=by
  simp only [List.mem_cons,List.not_mem_nil,or_false] at hz
  rcases hz with rfl | rfl
  ·exact⟨_,.inl rfl,rfl⟩
  ·exact⟨_,.inr rfl,rfl⟩
 obtain⟨kd,hkd,rfl⟩:=this
 clear hz
 have t1:trunc (2+2 * fs.length+1) (stoF (c+1) fs++[.lst (rdD rds)])=stoF (c+1) fs++[.lst (rdD rds)]:=trunc_len (by simp [stoF_len])
 have hok:∀r ∈ rds,strOk r.one/\strOk r.other:=fun r h=>⟨hNo _ (hr.ok r h).1,hNo _ (hr.ok r h).2.1⟩
 have hg:(stoF (c+1) fs++[.lst (rdD rds)])[2+2 * fs.length]? = some (.lst (rdD rds)):=by
  rw [List.getElem?_append_right (by rw [stoF_len];lia),stoF_len,Nat.sub_self];rfl
 have o1:ownL (.ref (2+2 * fs.length)) (stoF (c+1) fs++[.lst (rdD rds)])=some (2+2 * fs.length,rdD rds):=own_last (stoF_len _ _)
 have o2:∀y,(stoF (c+1) fs++[SO.lst (rdD rds)]).set (2+2 * fs.length) y=stoF (c+1) fs++[y]:=fun y=>set_last (stoF_len _ _)
 have pc:=fun a0 a1 a2 a3 a4 a5 a6 a7 a8 a9 q=>pairs_comp hg (by lia) a0 a1 a2 a3 a4 a5 a6 a7 a8 a9 q
 have ip:=inP_pairs (hNo a ha) (hNo b hb) hok
 have gi:∀S,gNotIn (.p (.tup [.str a,.str b])) (.p (.lst (rds.map pairP))) S=some (.bl (!rds.any fun r=>decide (r.one=a) && decide (r.other=b))):=fun S=>by
  simp [gNotIn,inG,dKeys,ip]
 have hd2:(rdD rds).length≤1000000:=by simp [rdD];lia
 have ad:dAdd2 (.tup [.str a,.str b,.str kd,.int (1+r / 32 % 3)]) (.tup [.bl (decide (r / 128 % 2=1)),.bl (decide (r / 256 % 2=1))])=some (roadP ⟨a,b,kd,1+r / 32 % 3,decide (r / 128 % 2=1),decide (r / 256 % 2=1)⟩):=rfl
 have sl:(sts Ns).length=Ns.length:=sts_len _
 have hln:(stoF c fs++[SO.lst (rdD rds)]).length=2+2 * fs.length+1:=by simp [stoF_len]
 cases hi:rds.any fun r=>decide (r.one=a) && decide (r.other=b) with
 | true=>
  refine⟨rds,some (.p (.int r)),some (.p (.str a)),some (.p (.str b)),some (.p (roadP ⟨a,b,kd,1+r / 32 % 3,decide (r / 128 % 2=1),decide (r / 256 % 2=1)⟩)),hr,by lia,?_⟩
  rw [hi] at gi
  generalize stoF (c+1) fs++[SO.lst (rdD rds)]=S1 at *
  generalize stoF c fs++[SO.lst (rdD rds)]=S0 at *
  simp [b_n_law_roads_L1,e,hln,t1,lenD,lenP,sl,hl3,e1,e2,e3,ad,hg,pc,upL,gi]
 | false=>
  refine⟨rds++[⟨a,b,kd,1+r / 32 % 3,decide (r / 128 % 2=1),decide (r / 256 % 2=1)⟩],some (.p (.int r)),some (.p (.str a)),some (.p (.str b)),some (.p (roadP ⟨a,b,kd,1+r / 32 % 3,decide (r / 128 % 2=1),decide (r / 256 % 2=1)⟩)),⟨?_,?_⟩,by simp,?_⟩
  ·intro x hx
   rcases List.mem_append.mp hx with q | q
   ·exact hr.ok x q
   ·rw [List.mem_singleton.mp q];exact⟨ha,hb,hkd,by show 1≤1+r / 32 % 3;lia,by show 1+r / 32 % 3≤3;lia⟩
  ·rw [List.map_append]
   refine List.nodup_append.mpr ⟨hr.nd,by simp,fun x hx y hy e=>?_⟩
   subst e
   rw [List.map_singleton,List.mem_singleton] at hy
   obtain⟨w,hw,rfl⟩:=List.mem_map.mp hx
   have h1:(rds.any fun r=>decide (r.one=a) && decide (r.other=b))=true:=List.any_eq_true.mpr ⟨w,hw,by
    have p1:w.one=a:=congrArg Prod.fst hy
    have p2:w.other=b:=congrArg Prod.snd hy
    simp [p1,p2]⟩
   rw [hi] at h1;cases h1
  ·rw [hi] at gi
   rw [show rdD (rds++[⟨a,b,kd,1+r / 32 % 3,decide (r / 128 % 2=1),decide (r / 256 % 2=1)⟩])=rdD rds++[.p (roadP ⟨a,b,kd,1+r / 32 % 3,decide (r / 128 % 2=1),decide (r / 256 % 2=1)⟩)] by simp [rdD]]
   generalize stoF (c+1) fs++[SO.lst (rdD rds)]=S1 at *
   generalize stoF c fs++[SO.lst (rdD rds)]=S0 at *
   simp [b_n_law_roads_L1,e,hln,t1,lenD,lenP,sl,hl3,e1,e2,e3,ad,hg,pc,upL,gi,o1,o2,hd2]
theorem roads_loop {ψ:Str->GF} (ι:Str->GF) {ns:List Int} (hn:NextOk ψ ns) {fs:List Fam}{Ns:List Str} (hN:Ns≠[]) (hNo:∀x ∈ Ns,strOk x):∀(xs:List P) {c:Int} (rds:List Road) (p5 p6 p7 p8 p9:Option D),Rds Ns rds->rds.length+xs.length≤20->0≤c->c+xs.length < 50000 ->
  ∃(rds':List Road) (q5 q6 q7 q8 q9:Option D),Rds Ns rds'/\rds'.length≤rds.length+xs.length/\forGo (gSet 5) (b_n_law_roads_L1 ψ ι) xs [some (.ref 1),some (.p (scr ns)),some (.ref 0),some (.ref (2+2 * fs.length)),some (.p (.lst (sts Ns))),p5,p6,p7,p8,p9] (stoF c fs++[.lst (rdD rds)]) =
   some (.nx,[some (.ref 1),some (.p (scr ns)),some (.ref 0),some (.ref (2+2 * fs.length)),some (.p (.lst (sts Ns))),q5,q6,q7,q8,q9],stoF (c+xs.length) fs++[.lst (rdD rds')])
 | [],c,rds,p5,p6,p7,p8,p9,hr,hl,h0,h1=>⟨rds,p5,p6,p7,p8,p9,hr,by simp,by simp [forGo]⟩
 | x::xs,c,rds,p5,p6,p7,p8,p9,hr,hl,h0,h1=>by
  simp only [List.length_cons] at hl h1
  obtain⟨rds1,q6,q7,q8,q9,a1,a2,e1⟩:=roads_turn ι hn (fs:=fs) hN hNo hr (by lia) h0 (by lia) (some (.p x)) p6 p7 p8 p9
  obtain⟨rds2,r5,r6,r7,r8,r9,b1,b2,e2⟩:=roads_loop ι hn (fs:=fs) hN hNo xs (c:=c+1) rds1 (some (.p x)) q6 q7 q8 q9 a1 (by lia) (by lia) (by lia)
  refine⟨rds2,r5,r6,r7,r8,r9,b1,by simp;lia,?_⟩
  refine (forGo_nx rfl e1).trans ?_
  rw [e2,List.length_cons,show c+1+(xs.length:Int)=c+((xs.length+1:Nat):Int) by lia]
noncomputable def RoadsOk (ψ:Str->GF) (ns:List Int):Prop:=∀{c:Int}{fs:List Fam},fs≠[]->fs.length≤4->(∀f ∈ fs,strOk f.name)->0≤c->c < 40000->∃(rds:List Road) (c':Int),Rds (fs.map Fam.name) rds/\rds.length≤8/\c≤c'/\c'≤c+9 /\
  ψ "_law_roads" [.ref 1,.p (scr ns),.ref 0] (stoF c fs)=some (.ref (2+2 * fs.length),stoF c' fs++[.lst (rdD rds)])
theorem roads_body {ψ:Str->GF} (ι:Str->GF) {ns:List Int} (hn:NextOk ψ ns) {c:Int}{fs:List Fam} (hf:fs≠[]) (hl:fs.length≤4) (hs:∀f ∈ fs,strOk f.name) (h0:0≤c) (h1:c < 40000):∃(rds:List Road) (c':Int),Rds (fs.map Fam.name) rds/\rds.length≤8/\c≤c'/\c'≤c+9 /\
  fnR 3 10 (b_n_law_roads ψ ι) [.ref 1,.p (scr ns),.ref 0] (stoF c fs)=some (.ref (2+2 * fs.length),stoF c' fs++[.lst (rdD rds)]):=by
 obtain⟨r,r0,_,e⟩:=hn.app [.lst []] (stoF_0 c fs) h0 (by lia)
 rw [stoF_set] at e
 obtain⟨rds,q5,q6,q7,q8,q9,a1,a2,e2⟩:=roads_loop ι hn (fs:=fs) (Ns:=fs.map Fam.name) (by simpa using hf) (fun x hx=>by obtain⟨f,hf,rfl⟩:=List.mem_map.mp hx;exact hs f hf) (intsFrom 0 (r % 9).toNat) (c:=c+1) [] none none none none none ⟨(fun _ h=>by cases h),by simp⟩ (by rw [ints_len];simp;lia) (by lia) (by rw [ints_len];lia)
 rw [ints_len] at a2 e2
 obtain⟨m,hm⟩:∃m,(r % 9).toNat=m:=⟨_,rfl⟩
 rw [hm] at a2 e2
 refine⟨rds,c+1+(m:Int),a1,by simp at a2;lia,by lia,by lia,?_⟩
 have nc:=fun a0 a1 a2 a3 a4 a5 a6 a7 a8 a9 q=>names_comp (c:=c) hl [.lst []] a0 a1 a2 a3 a4 a5 a6 a7 a8 a9 q
 have t1:trunc (2+2 * fs.length+1) (stoF (c+1) fs++[.lst []])=stoF (c+1) fs++[.lst []]:=trunc_len (by simp [stoF_len])
 have hS:(stoF c fs++[SO.lst []])[1]? = some (.lst (refsF fs.length)):=rfl
 have hr:(r % 9).natAbs < 1000000:=by lia
 have hln:(stoF c fs++[SO.lst []]).length=2+2 * fs.length+1:=by simp [stoF_len]
 have ln:=stoF_len c fs
 rw [show rdD []=[] from rfl] at e2
 generalize hS0:stoF c fs++[SO.lst []]=S0 at *
 generalize stoF c fs=Sx at *
 generalize stoF (c+1) fs++[SO.lst []]=S1 at *
 simp [fnR,b_n_law_roads,ln,hS0,hS,upL,nc,e,hln,t1,hr,hm,e2]
theorem roads_all (n:Nat) (ns:List Int):RoadsOk (Psi Gv Att Tb (n+6)) ns:=fun {c fs} hf hl hs h0 h1=>by
 obtain⟨rds,c',a1,a2,a3,a4,e⟩:=roads_body (ψ:=Psi Gv Att Tb (n+4+1)) (Psi Gv Att Tb (n+4)) (next_all (n+1) ns) hf hl hs h0 h1
 exact⟨rds,c',a1,a2,a3,a4,by rw [<- e];exact congrFun (congrFun (e_n_law_roads (n+4)) _) _⟩
end My
namespace My
open PySem L2 Ev
theorem comp_filter {α:Type}{f g:α->P}{tgt:TGv}{cd:EB}{e:EV}{S:Sto}{p:α->Bool} (Lf:Option D->Lc) (hT:∀q v,tgt v (Lf q)=some (Lf (some (.p v)))):∀{xs:List α},(∀x ∈ xs,cd (Lf (some (.p (f x)))) S=some (p x,S)/\e (Lf (some (.p (f x)))) S=some (g x,S))->∀q,compGo tgt cd e (xs.map f) (Lf q) S=some ((xs.filter p).map g,S)
 | [],_,q=>rfl
 | x::xs,he,q=>by
  obtain⟨e0,e1⟩:=he x List.mem_cons_self
  have e2:=comp_filter Lf hT (xs:=xs) (fun y hy=>he y (List.mem_cons_of_mem _ hy)) (some (.p (f x)))
  cases hp:p x with
  | true=>rw [hp] at e0;simp [compGo,hT,e0,e1,e2,hp]
  | false=>rw [hp] at e0;simp [compGo,hT,e0,e2,hp]
theorem strs_ok {K:List Str} (h:∀x ∈ K,strOk x) (n:Nat):okP (n+1) (.lst (sts K))=true:=by
 refine okL fun v hv=>?_
 obtain⟨x,hx,rfl⟩:=List.mem_map.mp hv
 rw [okP_str];exact h x hx
theorem sts_empty (K:List Str):(sts K).isEmpty=K.isEmpty:=by cases K <;> rfl
theorem sts_app (K M:List Str):sts K++sts M=sts (K++M):=by simp [sts]
noncomputable def goalsOf (x:Str) (rds:List Road):List Str:=(rds.filter fun r=>decide (r.one=x)).map Road.other
noncomputable def sendersOf (x:Str) (rds:List Road):List Str:=(rds.filter fun r=>decide (r.other=x)).map Road.one
theorem goals_comp {S:Sto}{fi i:Nat}{f:Fam} (hf:S[fi]? = some (.lst (famD i f))) (rds:List Road) (a1 a2 a3 a4 a5 a6 a7 a8 a9 a10 q:Option D) :
  compGo (gSet 11) (bV (vOpE gEq (eV (vOp dIx (vE (eVar 11)) (vC (.int 0)))) (eIx (eVar 0) (vC (.int 0))))) (vOp dIx (vE (eVar 11)) (vC (.int 1))) (rds.map roadP) [some (.ref fi),a1,a2,a3,a4,a5,a6,a7,a8,a9,a10,q] S=some (sts (goalsOf f.name rds),S):=by
 have:=comp_filter (f:=roadP) (g:=fun r=>P.str r.other) (p:=fun r=>decide (r.one=f.name)) (S:=S) (tgt:=gSet 11) (cd:=bV (vOpE gEq (eV (vOp dIx (vE (eVar 11)) (vC (.int 0)))) (eIx (eVar 0) (vC (.int 0))))) (e:=vOp dIx (vE (eVar 11)) (vC (.int 1)))
  (fun q=>[some (.ref fi),a1,a2,a3,a4,a5,a6,a7,a8,a9,a10,q]) (fun _ _=>rfl) (xs:=rds) (fun r _=>by
   constructor
   ·simp [roadP,hf,famD]
   ·simp [roadP]) q
 rw [this];simp [sts,goalsOf]
theorem senders_comp {S:Sto}{fi i:Nat}{f:Fam} (hf:S[fi]? = some (.lst (famD i f))) (rds:List Road) (a1 a2 a3 a4 a5 a6 a7 a8 a9 a10 a11 a12 a13 a14 a15 a16 a17 q:Option D) :
  compGo (gSet 18) (bV (vOpE gEq (eV (vOp dIx (vE (eVar 18)) (vC (.int 1)))) (eIx (eVar 0) (vC (.int 0))))) (vOp dIx (vE (eVar 18)) (vC (.int 0))) (rds.map roadP) [some (.ref fi),a1,a2,a3,a4,a5,a6,a7,a8,a9,a10,a11,a12,a13,a14,a15,a16,a17,q] S=some (sts (sendersOf f.name rds),S):=by
 have:=comp_filter (f:=roadP) (g:=fun r=>P.str r.one) (p:=fun r=>decide (r.other=f.name)) (S:=S) (tgt:=gSet 18) (cd:=bV (vOpE gEq (eV (vOp dIx (vE (eVar 18)) (vC (.int 1)))) (eIx (eVar 0) (vC (.int 0))))) (e:=vOp dIx (vE (eVar 18)) (vC (.int 0)))
  (fun q=>[some (.ref fi),a1,a2,a3,a4,a5,a6,a7,a8,a9,a10,a11,a12,a13,a14,a15,a16,a17,q]) (fun _ _=>rfl) (xs:=rds) (fun r _=>by
   constructor
   ·simp [roadP,hf,famD]
   ·simp [roadP]) q
 rw [this];simp [sts,sendersOf]
noncomputable def LeadsP (rds:List Road) (a b:Str):Prop:=∃r ∈ rds,r.one=a/\r.other=b
noncomputable def SendOk (f:Fam) (rds:List Road) (K:List Str) (v:P):Prop:=∃(mark:Str) (am:P) (way tg:Str),v=.tup [.str mark,am,.str way,.str tg]/\nameB mark=true/\isSmall K am/\strOk tg/\((way="who"/\tg ∈ f.whos)\/((way="all"\/way="any")/\LeadsP rds f.name tg))
theorem goals_lead {x g:Str}{rds:List Road} (h:g ∈ goalsOf x rds):LeadsP rds x g:=by
 obtain⟨r,hr,rfl⟩:=List.mem_map.mp h
 have:=List.mem_filter.mp hr
 exact⟨r,this.1,by simpa using this.2,rfl⟩
theorem senders_lead {x g:Str}{rds:List Road} (h:g ∈ sendersOf x rds):LeadsP rds g x:=by
 obtain⟨r,hr,rfl⟩:=List.mem_map.mp h
 have:=List.mem_filter.mp hr
 exact⟨r,this.1,rfl,by simpa using this.2⟩
noncomputable def ppD (xs:List P):List D:=xs.map .p
@[simp] theorem ppD_app (xs:List P) (x:P):ppD (xs++[x])=ppD xs++[.p x]:=by simp [ppD]
@[simp] theorem ppD_len (xs:List P):(ppD xs).length=xs.length:=by simp [ppD]
theorem at4 {α:Type} (a b c d e:α) (r:List α):L2.atI (a::b::c::d::e::r) 4=some e:=atI_nat' (by decide) rfl
structure Lies (S:Sto) (c:Int) (fi i:Nat) (f:Fam):Prop where
 cn:S[0]? = some (cnt c)
 fm:S[fi]? = some (.lst (famD i f))
 ne:fi≠0
theorem Lies.set {S:Sto}{c:Int}{fi i:Nat}{f:Fam} (h:Lies S c fi i f) (c':Int):Lies (S.set 0 (cnt c')) c' fi i f:=⟨cnt_set h.cn,by rw [List.getElem?_set_ne (Ne.symm h.ne)];exact h.fm,h.ne⟩
theorem Lies.app {S:Sto}{c:Int}{fi i:Nat}{f:Fam} (h:Lies S c fi i f) (T:Sto):Lies (S++T) c fi i f:=⟨get_app h.cn,get_app h.fm,h.ne⟩
theorem goals_len (x:Str) (rds:List Road):(goalsOf x rds).length≤rds.length:=by
 unfold goalsOf;rw [List.length_map];exact List.length_filter_le _ _
theorem goal_pick (G:List Str) (a:Int) {M:Int} (hM:(if (G.length:Int) > 1 then (G.length:Int) else 1)=M):0 < M/\∃x:Str,L2.atI (sts G++[.str ""]) (a % M)=some (.str x)/\(G≠[]->x ∈ G)/\(G=[]->x=""):=by
 have hp:0 < M:=by subst hM;split <;> lia
 refine⟨hp,?_⟩
 have m0:=Int.emod_nonneg a (Int.ne_of_gt hp)
 have m1:=Int.emod_lt_of_pos a hp
 by_cases h:G=[]
 ·subst h
  have:M=1:=by subst hM;rfl
  subst this
  have:a % 1=0:=by lia
  rw [this]
  exact⟨"",rfl,fun z=>absurd rfl z,fun _=>rfl⟩
 ·have hl:0 < G.length:=List.length_pos_iff.mpr h
  have hMl:M≤(G.length:Int):=by subst hM;split <;> lia
  have hk:(a % M).toNat < G.length:=by lia
  refine⟨G[(a % M).toNat],atI_nat' m0 ?_,fun _=>List.getElem_mem _,fun z=>absurd z h⟩
  rw [List.getElem?_append_left (by simpa using hk)]
  simp [sts,hk]
theorem sends_turn {ψ:Str->GF} (ι:Str->GF) {ns:List Int} (hn:NextOk ψ ns) (hm:NamedOk ψ) (hs:SmallOk ψ ns) {S:Sto}{c:Int}{fi i N:Nat}{f:Fam} (hS:Lies S c fi i f) (hN:S.length=N) {rds:List Road}{K:List Str} (hg:∀g ∈ goalsOf f.name rds,nameB g=true) (hw:∀w ∈ f.whos,nameB w=true) (h0:0≤c) (h1:c < 40000) (sd:List P) (hsd:∀s ∈ sd,SendOk f rds K s) (hl:sd.length≤20) (hr8:rds.length≤8) (a1 p7 p8 p9 p10:Option D) :
  ∃(sd':List P) (c':Int) (q8 q9 q10:Option D),(∀s ∈ sd',SendOk f rds K s)/\sd'.length≤sd.length+1/\c≤c'/\c'≤c+2/\b_n_law_sends_L1 ψ ι [some (.ref fi),a1,some (.p (.lst (sts K))),some (.p (scr ns)),some (.ref 0),some (.ref N),some (.p (.lst (sts (goalsOf f.name rds)))),p7,p8,p9,p10] (S++[.lst (ppD sd)]) =
   some (.nx,[some (.ref fi),a1,some (.p (.lst (sts K))),some (.p (scr ns)),some (.ref 0),some (.ref N),some (.p (.lst (sts (goalsOf f.name rds)))),p7,q8,q9,q10],S.set 0 (cnt c')++[.lst (ppD sd')]):=by
 obtain⟨r,r0,_,e⟩:=hn.app [.lst (ppD sd)] hS.cn h0 (by lia)
 have hS1:=hS.set (c+1)
 have g1:=get_app (T:=[SO.lst (ppD sd)]) hS1.fm
 obtain⟨am,ham,e1⟩:=hs K (get_app (T:=[SO.lst (ppD sd)]) hS1.cn) (by lia) (by lia)
 rw [set_app hS1.cn,List.set_set] at e1
 have e2:=hm.pure (r / 64) (k:=0) (by lia)
 rw [show ((0:Nat):Int)=0 from rfl] at e2
 have hmk:=(nm_both (r / 64) (k:=0) (by lia)).1
 obtain⟨z,hz,e3⟩:=at2 (P.str "all") (.str "any") (i:=r % 2) (by lia) (by lia)
 have:∃k:Str,(k="all"\/k="any")/\z=.str k:=by
  simp only [List.mem_cons,List.not_mem_nil,or_false] at hz
  rcases hz with rfl | rfl
  ·exact⟨_,.inl rfl,rfl⟩
  ·exact⟨_,.inr rfl,rfl⟩
 obtain⟨wy,hwy,rfl⟩:=this
 clear hz
 have t1:trunc (S.length+1) (S.set 0 (cnt (c+1))++[.lst (ppD sd)])=S.set 0 (cnt (c+1))++[.lst (ppD sd)]:=trunc_len (by simp)
 have t2:trunc (S.length+1) (S.set 0 (cnt (c+1+1))++[.lst (ppD sd)])=S.set 0 (cnt (c+1+1))++[.lst (ppD sd)]:=trunc_len (by simp)
 have o1:∀c',ownL (.ref N) (S.set 0 (cnt c')++[.lst (ppD sd)])=some (N,ppD sd):=fun _=>own_last (by simpa using hN)
 have o2:∀c' y,(S.set 0 (cnt c')++[SO.lst (ppD sd)]).set N y=S.set 0 (cnt c')++[y]:=fun _ _=>set_last (by simpa using hN)
 have hln:(S++[SO.lst (ppD sd)]).length=S.length+1:=by simp
 have hln1:(S.set 0 (cnt (c+1))++[SO.lst (ppD sd)]).length=S.length+1:=by simp
 have nw:neD (.lst (sts f.whos)) (.lst [])=some (!f.whos.isEmpty):=by rw [neD_nil (strs_ok (fun x hx=>name_ok (hw x hx)) 19),sts_empty]
 have ng:eqD (.lst (sts (goalsOf f.name rds))) (.lst [])=some (goalsOf f.name rds).isEmpty:=by rw [eqD_nil (strs_ok (fun x hx=>name_ok (hg x hx)) 19),sts_empty]
 have hl2:sd.length≤1000000:=by lia
 have hgl:(goalsOf f.name rds).length+1≤1000000:=by have:=goals_len f.name rds;lia
 obtain⟨M,hM⟩:∃M:Int,(if ((goalsOf f.name rds).length:Int) > 1 then ((goalsOf f.name rds).length:Int) else 1)=M:=⟨_,rfl⟩
 obtain⟨hMp,x,ex,hx1,hx2⟩:=goal_pick _ (r / 4) hM
 have q4:L2.atI (famD i f) 4=some (.p (.lst (sts f.whos))):=at4 _ _ _ _ _ _
 have q44:∀T,∃y,L2.atI (famD i f) T=y:=fun T=>⟨_,rfl⟩
 by_cases hA:f.whos≠[]/\(r % 3=0\/goalsOf f.name rds=[])
 ·obtain⟨w,hw1,ew⟩:=pickS hA.1 (r / 4)
  have hwl:0 < f.whos.length:=List.length_pos_iff.mpr hA.1
  have hwe:f.whos.isEmpty=false:=by cases h:f.whos with | nil=>exact absurd h hA.1 | cons _ _=>rfl
  have hwne:w≠"":=name_ne (hw w hw1)
  refine⟨sd++[.tup [.str (nm 0 (r / 64)),am,.str "who",.str w]],c+1+1,some (.p (.int r)),some (.p (.str "who")),some (.p (.str w)),?_,by simp,by lia,by lia,?_⟩
  ·intro s hs
   rcases List.mem_append.mp hs with q | q
   ·exact hsd s q
   ·rw [List.mem_singleton.mp q];exact⟨_,am,"who",w,rfl,hmk,ham,name_ok (hw w hw1),.inl ⟨rfl,hw1⟩⟩
  unfold b_n_law_sends_L1
  refine (seq_nx (L1:=[some (.ref fi),a1,some (.p (.lst (sts K))),some (.p (scr ns)),some (.ref 0),some (.ref N),some (.p (.lst (sts (goalsOf f.name rds)))),p7,some (.p (.int r)),p9,p10]) (S1:=S.set 0 (cnt (c+1))++[.lst (ppD sd)]) (by simp [e,t1])).trans ?_
  refine (seq_nx (L1:=[some (.ref fi),a1,some (.p (.lst (sts K))),some (.p (scr ns)),some (.ref 0),some (.ref N),some (.p (.lst (sts (goalsOf f.name rds)))),p7,some (.p (.int r)),some (.p (.str wy)),p10]) (S1:=S.set 0 (cnt (c+1))++[.lst (ppD sd)]) (by simp [e3])).trans ?_
  refine (seq_nx (L1:=[some (.ref fi),a1,some (.p (.lst (sts K))),some (.p (scr ns)),some (.ref 0),some (.ref N),some (.p (.lst (sts (goalsOf f.name rds)))),p7,some (.p (.int r)),some (.p (.str wy)),some (.p (.str x))]) (S1:=S.set 0 (cnt (c+1))++[.lst (ppD sd)]) (by simp [hgl,lenD,lenP,c_max,hM,hMp,ex])).trans ?_
  refine (seq_nx (L1:=[some (.ref fi),a1,some (.p (.lst (sts K))),some (.p (scr ns)),some (.ref 0),some (.ref N),some (.p (.lst (sts (goalsOf f.name rds)))),p7,some (.p (.int r)),some (.p (.str "who")),some (.p (.str w))]) (S1:=S.set 0 (cnt (c+1))++[.lst (ppD sd)]) (by
   rcases hA.2 with h3 | h3
   ·simp [g1,q4,nw,hwe,h3,lenD,lenP,hwl,ew]
   ·have ng':eqD (.lst (sts (goalsOf f.name rds))) (.lst [])=some true:=by rw [ng,h3];rfl
    by_cases h4:r % 3=0 <;> simp [g1,q4,nw,hwe,h4,ng',lenD,lenP,hwl,ew])).trans ?_
  simp [hwne,o1,o2,e1,e2,t2,hl2]
 ·by_cases hG:goalsOf f.name rds=[]
  ·have hw0:f.whos=[]:=Classical.byContradiction fun z=>hA ⟨z,.inr hG⟩
   have hwe:f.whos.isEmpty=true:=by rw [hw0];rfl
   have hx:=hx2 hG
   refine⟨sd,c+1,some (.p (.int r)),some (.p (.str wy)),some (.p (.str x)),hsd,by lia,by lia,by lia,?_⟩
   unfold b_n_law_sends_L1
   refine (seq_nx (L1:=[some (.ref fi),a1,some (.p (.lst (sts K))),some (.p (scr ns)),some (.ref 0),some (.ref N),some (.p (.lst (sts (goalsOf f.name rds)))),p7,some (.p (.int r)),p9,p10]) (S1:=S.set 0 (cnt (c+1))++[.lst (ppD sd)]) (by simp [e,t1])).trans ?_
   refine (seq_nx (L1:=[some (.ref fi),a1,some (.p (.lst (sts K))),some (.p (scr ns)),some (.ref 0),some (.ref N),some (.p (.lst (sts (goalsOf f.name rds)))),p7,some (.p (.int r)),some (.p (.str wy)),p10]) (S1:=S.set 0 (cnt (c+1))++[.lst (ppD sd)]) (by simp [e3])).trans ?_
   refine (seq_nx (L1:=[some (.ref fi),a1,some (.p (.lst (sts K))),some (.p (scr ns)),some (.ref 0),some (.ref N),some (.p (.lst (sts (goalsOf f.name rds)))),p7,some (.p (.int r)),some (.p (.str wy)),some (.p (.str x))]) (S1:=S.set 0 (cnt (c+1))++[.lst (ppD sd)]) (by simp [hgl,lenD,lenP,c_max,hM,hMp,ex])).trans ?_
   refine (seq_nx (L1:=[some (.ref fi),a1,some (.p (.lst (sts K))),some (.p (scr ns)),some (.ref 0),some (.ref N),some (.p (.lst (sts (goalsOf f.name rds)))),p7,some (.p (.int r)),some (.p (.str wy)),some (.p (.str x))]) (S1:=S.set 0 (cnt (c+1))++[.lst (ppD sd)]) (by simp [g1,q4,nw,hwe])).trans ?_
   simp [hx]
  ·have hxm:=hx1 hG
   have hxn:x≠"":=name_ne (hg x hxm)
   have hGe:(goalsOf f.name rds).isEmpty=false:=by cases h:goalsOf f.name rds with | nil=>exact absurd h hG | cons _ _=>rfl
   refine⟨sd++[.tup [.str (nm 0 (r / 64)),am,.str wy,.str x]],c+1+1,some (.p (.int r)),some (.p (.str wy)),some (.p (.str x)),?_,by simp,by lia,by lia,?_⟩
   ·intro s hs
    rcases List.mem_append.mp hs with q | q
    ·exact hsd s q
    ·rw [List.mem_singleton.mp q];exact⟨_,am,wy,x,rfl,hmk,ham,name_ok (hg x hxm),.inr ⟨hwy,goals_lead hxm⟩⟩
   unfold b_n_law_sends_L1
   refine (seq_nx (L1:=[some (.ref fi),a1,some (.p (.lst (sts K))),some (.p (scr ns)),some (.ref 0),some (.ref N),some (.p (.lst (sts (goalsOf f.name rds)))),p7,some (.p (.int r)),p9,p10]) (S1:=S.set 0 (cnt (c+1))++[.lst (ppD sd)]) (by simp [e,t1])).trans ?_
   refine (seq_nx (L1:=[some (.ref fi),a1,some (.p (.lst (sts K))),some (.p (scr ns)),some (.ref 0),some (.ref N),some (.p (.lst (sts (goalsOf f.name rds)))),p7,some (.p (.int r)),some (.p (.str wy)),p10]) (S1:=S.set 0 (cnt (c+1))++[.lst (ppD sd)]) (by simp [e3])).trans ?_
   refine (seq_nx (L1:=[some (.ref fi),a1,some (.p (.lst (sts K))),some (.p (scr ns)),some (.ref 0),some (.ref N),some (.p (.lst (sts (goalsOf f.name rds)))),p7,some (.p (.int r)),some (.p (.str wy)),some (.p (.str x))]) (S1:=S.set 0 (cnt (c+1))++[.lst (ppD sd)]) (by simp [hgl,lenD,lenP,c_max,hM,hMp,ex])).trans ?_
   refine (seq_nx (L1:=[some (.ref fi),a1,some (.p (.lst (sts K))),some (.p (scr ns)),some (.ref 0),some (.ref N),some (.p (.lst (sts (goalsOf f.name rds)))),p7,some (.p (.int r)),some (.p (.str wy)),some (.p (.str x))]) (S1:=S.set 0 (cnt (c+1))++[.lst (ppD sd)]) (by
    by_cases hwe:f.whos.isEmpty=true
    ·simp [g1,q4,nw,hwe]
    ·have hwe:f.whos.isEmpty=false:=by simpa using hwe
     have h3:¬r % 3=0:=fun z=>hA ⟨fun y=>(by rw [y] at hwe;cases hwe),.inl z⟩
     simp [g1,q4,nw,hwe,h3,ng,hGe])).trans ?_
   simp [hxn,o1,o2,e1,e2,t2,hl2]
theorem sends_loop {ψ:Str->GF} (ι:Str->GF) {ns:List Int} (hn:NextOk ψ ns) (hm:NamedOk ψ) (hs:SmallOk ψ ns) {fi i N:Nat}{f:Fam}{rds:List Road}{K:List Str} (hg:∀g ∈ goalsOf f.name rds,nameB g=true) (hw:∀w ∈ f.whos,nameB w=true) (hr8:rds.length≤8) (a1:Option D):∀(xs:List P) {S:Sto}{c:Int} (sd:List P) (p7 p8 p9 p10:Option D),Lies S c fi i f->S.length=N->0≤c->c+2 * xs.length < 40000->(∀s ∈ sd,SendOk f rds K s)->sd.length+xs.length≤20 ->
  ∃(sd':List P) (c':Int) (q7 q8 q9 q10:Option D),(∀s ∈ sd',SendOk f rds K s)/\sd'.length≤sd.length+xs.length/\c≤c'/\c'≤c+2 * xs.length/\forGo (gSet 7) (b_n_law_sends_L1 ψ ι) xs [some (.ref fi),a1,some (.p (.lst (sts K))),some (.p (scr ns)),some (.ref 0),some (.ref N),some (.p (.lst (sts (goalsOf f.name rds)))),p7,p8,p9,p10] (S++[.lst (ppD sd)]) =
   some (.nx,[some (.ref fi),a1,some (.p (.lst (sts K))),some (.p (scr ns)),some (.ref 0),some (.ref N),some (.p (.lst (sts (goalsOf f.name rds)))),q7,q8,q9,q10],S.set 0 (cnt c')++[.lst (ppD sd')])
 | [],S,c,sd,p7,p8,p9,p10,hS,hN,h0,h1,hsd,hl=>by
  refine⟨sd,c,p7,p8,p9,p10,hsd,by simp,by lia,by simp,?_⟩
  have:S.set 0 (cnt c)=S:=by
   obtain⟨hl,e⟩:=List.getElem?_eq_some_iff.mp hS.cn
   rw [<- e];exact List.set_getElem_self hl
  rw [this];rfl
 | x::xs,S,c,sd,p7,p8,p9,p10,hS,hN,h0,h1,hsd,hl=>by
  simp only [List.length_cons] at hl h1
  obtain⟨sd1,c1,q8,q9,q10,a2,a3,a4,a5,e1⟩:=sends_turn ι hn hm hs hS hN hg hw h0 (by lia) sd hsd (by lia) hr8 a1 (some (.p x)) p8 p9 p10
  obtain⟨sd2,c2,r7,r8,r9,r10,b2,b3,b4,b5,e2⟩:=sends_loop ι hn hm hs hg hw hr8 a1 xs (S:=S.set 0 (cnt c1)) (c:=c1) sd1 (some (.p x)) q8 q9 q10 (hS.set c1) (by simpa using hN) (by lia) (by lia) a2 (by lia)
  refine⟨sd2,c2,r7,r8,r9,r10,b2,by simp;lia,by lia,by simp;lia,?_⟩
  rw [List.set_set] at e2
  exact (forGo_nx rfl e1).trans e2
noncomputable def SendsOk (ψ:Str->GF) (ns:List Int):Prop:=∀{S:Sto}{c:Int}{fi i:Nat}{f:Fam}{rds:List Road} (K:List Str),Lies S c fi i f->(∀g ∈ goalsOf f.name rds,nameB g=true)->(∀w ∈ f.whos,nameB w=true)->rds.length≤8->0≤c->c < 30000 ->
  ∃(sd:List P) (c':Int),(∀s ∈ sd,SendOk f rds K s)/\sd.length≤2/\c≤c'/\c'≤c+5/\ψ "_law_sends" [.ref fi,.p (.lst (rds.map roadP)),.p (.lst (sts K)),.p (scr ns),.ref 0] S=some (.ref S.length,S.set 0 (cnt c')++[.lst (ppD sd)])
theorem sends_body {ψ:Str->GF} (ι:Str->GF) {ns:List Int} (hn:NextOk ψ ns) (hm:NamedOk ψ) (hs:SmallOk ψ ns) {S:Sto}{c:Int}{fi i:Nat}{f:Fam}{rds:List Road} (K:List Str) (hS:Lies S c fi i f) (hg:∀g ∈ goalsOf f.name rds,nameB g=true) (hw:∀w ∈ f.whos,nameB w=true) (hr8:rds.length≤8) (h0:0≤c) (h1:c < 30000) :
  ∃(sd:List P) (c':Int),(∀s ∈ sd,SendOk f rds K s)/\sd.length≤2/\c≤c'/\c'≤c+5/\fnR 5 11 (b_n_law_sends ψ ι) [.ref fi,.p (.lst (rds.map roadP)),.p (.lst (sts K)),.p (scr ns),.ref 0] S=some (.ref S.length,S.set 0 (cnt c')++[.lst (ppD sd)]):=by
 obtain⟨r,r0,_,e⟩:=hn.app [.lst []] hS.cn h0 (by lia)
 obtain⟨m,hm1⟩:∃m,(r % 3).toNat=m:=⟨_,rfl⟩
 obtain⟨sd,c',q7,q8,q9,q10,a1,a2,a3,a4,e2⟩:=sends_loop ι hn hm hs (K:=K) (N:=S.length) hg hw hr8 (some (.p (.lst (rds.map roadP)))) (intsFrom 0 m) (S:=S.set 0 (cnt (c+1))) (c:=c+1) [] none none none none (hS.set _) (by simp) (by lia) (by rw [ints_len];lia) (fun _ h=>by cases h) (by rw [ints_len];simp;lia)
 rw [ints_len] at a2 a4
 rw [List.set_set] at e2
 refine⟨sd,c',a1,by simp at a2;lia,by lia,by lia,?_⟩
 have t1:trunc (S.length+1) (S.set 0 (cnt (c+1))++[.lst []])=S.set 0 (cnt (c+1))++[.lst []]:=trunc_len (by simp)
 have hr:(r % 3).natAbs < 1000000:=by lia
 have gc:=fun a1 a2 a3 a4 a5 a6 a7 a8 a9 a10 q=>goals_comp (get_app (T:=[SO.lst []]) hS.fm) rds a1 a2 a3 a4 a5 a6 a7 a8 a9 a10 q
 have rl:rds.length≤1000000:=by lia
 rw [show ppD []=[] from rfl] at e2
 simp [fnR,b_n_law_sends,vComp,rl,upL,gc,e,t1,hr,hm1,e2]
theorem sends_all (n:Nat) (ns:List Int):SendsOk (Psi Gv Att Tb (n+8)) ns:=fun {S c fi i f rds} K hS hg hw hr8 h0 h1=>by
 obtain⟨sd,c',a1,a2,a3,a4,e⟩:=sends_body (ψ:=Psi Gv Att Tb (n+6+1)) (Psi Gv Att Tb (n+6)) (next_all (n+3) ns) (named_all (n+5)) (small_all (n+1) ns) K hS hg hw hr8 h0 h1
 exact⟨sd,c',a1,a2,a3,a4,by rw [<- e];exact congrFun (congrFun (e_n_law_sends (n+6)) _) _⟩
end My
namespace My
open PySem L2 Ev
structure Take where
 mark:Str
 sender:Str
 cell:Str
 who:Str
noncomputable def takeP:Option Take->P
 | none=>.non
 | some t=>.tup [.str t.mark,.str t.sender,.str t.cell,.str t.who]
noncomputable def TakeOk (f:Fam) (rds:List Road) (t:Take):Prop:=nameB t.mark=true/\LeadsP rds t.sender f.name/\(t.cell=""\/t.cell ∈ f.cells.map Cel.name)/\(t.who=""\/t.who ∈ f.whos)
noncomputable def knownOf (C:List Str):Option Take->List Str
 | none=>C
 | some _=>C++[("it":Str)]
noncomputable def chP (x:Str×P):P:=.tup [.str x.1,x.2]
noncomputable def StepOk (f:Fam) (rds:List Road) (k:Nat) (v:P):Prop:=∃(at':Str) (wh:P) (t:Option Take) (chs:List (Str×P)) (sd:List P) (go:Str),
 v=.tup [.str (nm k 7),.str at',wh,takeP t,.lst (chs.map chP),.lst sd,.str go]/\at' ∈ f.rooms/\go ∈ f.rooms/\isWhen (f.cells.map Cel.name) wh/\(∀tk,t=some tk->TakeOk f rds tk/\∀ch ∈ chs,ch.1≠tk.cell) /\
 (chs.map Prod.fst).Nodup/\(∀ch ∈ chs,ch.1 ∈ f.cells.map Cel.name/\isSmall (knownOf (f.cells.map Cel.name) t) ch.2)/\chs.length≤3/\(∀s ∈ sd,SendOk f rds (knownOf (f.cells.map Cel.name) t) s)/\sd.length≤2
noncomputable def chD (chs:List (Str×P)):List D:=chs.map fun x=>.p (chP x)
theorem chg_turn {ψ:Str->GF} (ι:Str->GF) {ns:List Int} (hn:NextOk ψ ns) (hs:SmallOk ψ ns) {S:Sto}{c:Int}{N:Nat} (hj:S[0]? = some (cnt c)) (hN:S.length=N) (h0:0≤c) (h1:c < 40000) {K:List Str} (x:Str) (chs:List (Str×P)) (hl:chs.length≤20) (a0 a1 a2 a5 a6 a7 a9 a10 a11 a12 a15 a16 a17:Option D) :
  ∃(chs':List (Str×P)) (c':Int),(chs'=chs\/∃s,isSmall K s/\chs'=chs++[(x,s)])/\c≤c'/\c'≤c+2/\b_n_law_step_L1 ψ ι [a0,a1,a2,some (.p (scr ns)),some (.ref 0),a5,a6,a7,some (.p (.lst (sts K))),a9,a10,a11,a12,some (.ref N),some (.p (.str x)),a15,a16,a17] (S++[.lst (chD chs)]) =
   some (.nx,[a0,a1,a2,some (.p (scr ns)),some (.ref 0),a5,a6,a7,some (.p (.lst (sts K))),a9,a10,a11,a12,some (.ref N),some (.p (.str x)),a15,a16,a17],S.set 0 (cnt c')++[.lst (chD chs')]):=by
 obtain⟨r,r0,_,e⟩:=hn.app [.lst (chD chs)] hj h0 (by lia)
 have hj1:(S.set 0 (cnt (c+1)))[0]? = some (cnt (c+1)):=cnt_set hj
 obtain⟨am,ham,e1⟩:=hs K (get_app (T:=[SO.lst (chD chs)]) hj1) (by lia) (by lia)
 rw [set_app hj1,List.set_set] at e1
 have t1:trunc (S.length+1) (S.set 0 (cnt (c+1))++[.lst (chD chs)])=S.set 0 (cnt (c+1))++[.lst (chD chs)]:=trunc_len (by simp)
 have t2:trunc (S.length+1) (S.set 0 (cnt (c+1+1))++[.lst (chD chs)])=S.set 0 (cnt (c+1+1))++[.lst (chD chs)]:=trunc_len (by simp)
 have o1:∀c',ownL (.ref N) (S.set 0 (cnt c')++[.lst (chD chs)])=some (N,chD chs):=fun _=>own_last (by simpa using hN)
 have o2:∀c' y,(S.set 0 (cnt c')++[SO.lst (chD chs)]).set N y=S.set 0 (cnt c')++[y]:=fun _ _=>set_last (by simpa using hN)
 have hl2:(chD chs).length≤1000000:=by simp [chD];lia
 by_cases h:r % 2=0
 ·refine⟨chs++[(x,am)],c+1+1,.inr ⟨am,ham,rfl⟩,by lia,by lia,?_⟩
  rw [show chD (chs++[(x,am)])=chD chs++[.p (.tup [.str x,am])] by simp [chD,chP]]
  simp [b_n_law_step_L1,e,t1,h,o1,e1,t2,o2,hl2]
 ·refine⟨chs,c+1,.inl rfl,by lia,by lia,?_⟩
  simp [b_n_law_step_L1,e,t1,h]
theorem chg_loop {ψ:Str->GF} (ι:Str->GF) {ns:List Int} (hn:NextOk ψ ns) (hs:SmallOk ψ ns) {N:Nat}{K L0:List Str} (a0 a1 a2 a5 a6 a7 a9 a10 a11 a12 a15 a16 a17:Option D):∀(xs:List Str) {S:Sto}{c:Int} (chs:List (Str×P)) (p14:Option D),S[0]? = some (cnt c)->S.length=N->0≤c->c+2 * xs.length < 40000->chs.length+xs.length≤20->(chs.map Prod.fst++xs).Nodup->(∀ch ∈ chs,ch.1 ∈ L0/\isSmall K ch.2)->(∀x ∈ xs,x ∈ L0) ->
  ∃(chs':List (Str×P)) (c':Int) (q14:Option D),(chs'.map Prod.fst).Nodup/\(∀ch ∈ chs',ch.1 ∈ L0/\isSmall K ch.2)/\chs'.length≤chs.length+xs.length/\c≤c'/\c'≤c+2 * xs.length/\forGo (gSet 14) (b_n_law_step_L1 ψ ι) (sts xs) [a0,a1,a2,some (.p (scr ns)),some (.ref 0),a5,a6,a7,some (.p (.lst (sts K))),a9,a10,a11,a12,some (.ref N),p14,a15,a16,a17] (S++[.lst (chD chs)]) =
   some (.nx,[a0,a1,a2,some (.p (scr ns)),some (.ref 0),a5,a6,a7,some (.p (.lst (sts K))),a9,a10,a11,a12,some (.ref N),q14,a15,a16,a17],S.set 0 (cnt c')++[.lst (chD chs')])
 | [],S,c,chs,p14,hj,hN,h0,h1,hl,hnd,hc,hx=>by
  refine⟨chs,c,p14,by simpa using hnd,hc,by simp,by lia,by simp,?_⟩
  have:S.set 0 (cnt c)=S:=by
   obtain⟨hl,e⟩:=List.getElem?_eq_some_iff.mp hj
   rw [<- e];exact List.set_getElem_self hl
  rw [this];rfl
 | x::xs,S,c,chs,p14,hj,hN,h0,h1,hl,hnd,hc,hx=>by
  simp only [List.length_cons] at hl h1
  obtain⟨chs1,c1,a,b,d,e1⟩:=chg_turn ι hn hs (K:=K) hj hN h0 (by lia) x chs (by lia) a0 a1 a2 a5 a6 a7 a9 a10 a11 a12 a15 a16 a17
  have h2:(chs1.map Prod.fst++xs).Nodup/\(∀ch ∈ chs1,ch.1 ∈ L0/\isSmall K ch.2)/\chs1.length≤chs.length+1:=by
   rcases a with rfl | ⟨s,hs,rfl⟩
   ·exact⟨hnd.sublist (List.Sublist.append_left (List.sublist_cons_self x xs) _),hc,by lia⟩
   ·refine⟨by rw [List.map_append,List.append_assoc];exact hnd,fun ch h=>?_,by simp⟩
    rcases List.mem_append.mp h with q | q
    ·exact hc ch q
    ·rw [List.mem_singleton.mp q];exact⟨hx x List.mem_cons_self,hs⟩
  obtain⟨chs2,c2,q14,b1,b2,b3,b4,b5,e2⟩:=chg_loop ι hn hs a0 a1 a2 a5 a6 a7 a9 a10 a11 a12 a15 a16 a17 xs (S:=S.set 0 (cnt c1)) (c:=c1) chs1 (some (.p (.str x))) (cnt_set hj) (by simpa using hN) (by lia) (by lia) (by lia) h2.1 h2.2.1 (fun y hy=>hx y (List.mem_cons_of_mem _ hy))
  refine⟨chs2,c2,q14,b1,b2,by simp;lia,by lia,by simp;lia,?_⟩
  rw [List.set_set] at e2
  exact (forGo_nx rfl e1).trans e2
theorem sr1:∀n,n < 4->sliceRange (sliceBounds none none (some 1) n).1 (sliceBounds none none (some 1) n).2.1 (sliceBounds none none (some 1) n).2.2=List.range n:=by decide +kernel
theorem sr2:∀n,n < 4->sliceRange (sliceBounds none none (some (-1)) n).1 (sliceBounds none none (some (-1)) n).2.1 (sliceBounds none none (some (-1)) n).2.2=(List.range n).reverse:=by decide +kernel
theorem pick_one {xs:List P} (h:xs.length≤3):pickL xs none none (some 1)=xs:=by
 unfold pickL
 rw [sr1 _ (by lia)]
 match xs,h with
 | [],_=>rfl
 | [a],_=>rfl
 | [a,b],_=>rfl
 | [a,b,c],_=>rfl
 | _::_::_::_::_,h=>exact absurd h (by simp)
theorem pick_neg {xs:List P} (h:xs.length≤3):pickL xs none none (some (-1))=xs.reverse:=by
 unfold pickL
 rw [sr2 _ (by lia)]
 match xs,h with
 | [],_=>rfl
 | [a],_=>rfl
 | [a,b],_=>rfl
 | [a,b,c],_=>rfl
 | _::_::_::_::_,h=>exact absurd h (by simp)
theorem picks (chs:List (Str×P)) (h:chs.length≤3) (i:Int) (h0:0≤i) (h1:i < 2):∃(d:Int) (zs:List (Str×P)),L2.atI [P.int 1,.int (-1)] i=some (.int d)/\d≠0/\pickL (chs.map chP) none none (some d)=zs.map chP/\(zs=chs\/zs=chs.reverse):=by
 have:i=0\/i=1:=by lia
 rcases this with rfl | rfl
 ·exact⟨1,chs,rfl,by decide,pick_one (by simpa using h),.inl rfl⟩
 ·exact⟨-1,chs.reverse,rfl,by decide,by rw [pick_neg (by simpa using h),List.map_reverse],.inr rfl⟩
noncomputable def st_tail (ψ ι:Str->GF):ES:=(sSeq (sSet 13 (eLst' vsNil))
  (sSeq (sFor (itS (vE (eVar 9))) (gSet 14) (b_n_law_step_L1 ψ ι))
  (sSeq (sSet 15 (eV (vCallR (ψ "_law_when") (dsCons (eVar 6) (dsCons (eVar 3) (dsCons (eVar 4) dsNil))))))
  (sSeq (sSet 16 (eV (vCallR (ψ "_law_sends") (dsCons (eVar 0) (dsCons (eVar 1) (dsCons (eVar 8) (dsCons (eVar 3) (dsCons (eVar 4) dsNil))))))))
  (sSeq (sSet 17 (eV (vLst' (vsCons (vE (eIx (eIx (eVar 0) (vC (.int 2))) (vOp dMod (vOp dFloor (vE (eVar 5)) (vC (.int 1024))) (vLen (eIx (eVar 0) (vC (.int 2))))))) (vsCons (vE (eIx (eIx (eVar 0) (vC (.int 2))) (vOp dMod (vOp dFloor (vE (eVar 5)) (vC (.int 8192))) (vLen (eIx (eVar 0) (vC (.int 2))))))) vsNil)))))
  (sRet (eV (vTup' (vsCons (vCall (pureOf (ψ "_law_named")) (vsCons (vE (eVar 2)) (vsCons (vC (.int 7)) vsNil))) (vsCons (vOp dIx (vE (eVar 17)) (vC (.int 0))) (vsCons (vE (eVar 15)) (vsCons (vE (eVar 7)) (vsCons (vSl3 (vE (eVar 13)) oNone oNone (oSome (vOp dIx (vLst' (vsCons (vC (.int 1)) (vsCons (vUn dNeg (vC (.int 1))) vsNil))) (vOp dMod (vOp dFloor (vE (eVar 5)) (vC (.int 65536))) (vC (.int 2)))))) (vsCons (vE (eVar 16)) (vsCons (vOp dIx (vE (eVar 17)) (vC (.int 1))) vsNil)))))))))))))))
theorem tail_ok {ψ:Str->GF} (ι:Str->GF) {ns:List Int} (hn:NextOk ψ ns) (hm:NamedOk ψ) (hs:SmallOk ψ ns) (hwn:WhenOk ψ ns) (hsd:SendsOk ψ ns) {S:Sto}{c r:Int}{fi i k:Nat}{f:Fam} (hS:Lies S c fi i f) (hlow:Low (S.length+1) S) (hf:FamOk f) {rds:List Road} (hr:∀r ∈ rds,nameB r.one=true/\nameB r.other=true) (hr8:rds.length≤8) (hk:k < 8) (h0:0≤c) (h1:c < 20000) (t:Option Take) (K left:List Str) (hK:K=knownOf (f.cells.map Cel.name) t) (ht:∀tk,t=some tk->TakeOk f rds tk/\tk.cell ∉ left) (hnd:left.Nodup) (hlc:∀x ∈ left,x ∈ f.cells.map Cel.name) (hll:left.length≤3) (a10 a11 a12 p13 p14 p15 p16 p17:Option D) :
  ∃(v:P) (c':Int) (L':Lc) (T:SO),StepOk f rds k v/\c≤c'/\c'≤c+14/\st_tail ψ ι [some (.ref fi),some (.p (.lst (rds.map roadP))),some (.p (.int (k:Int))),some (.p (scr ns)),some (.ref 0),some (.p (.int r)),some (.p (.lst (sts (f.cells.map Cel.name)))),some (.p (takeP t)),some (.p (.lst (sts K))),some (.p (.lst (sts left))),a10,a11,a12,p13,p14,p15,p16,p17] S=some (.rt (.p v),L',S.set 0 (cnt c')++[T]):=by
 obtain⟨chs,c1,q14,b1,b2,b3,b4,b5,e1⟩:=chg_loop ι hn hs (N:=S.length) (K:=K) (L0:=left) (some (.ref fi)) (some (.p (.lst (rds.map roadP)))) (some (.p (.int (k:Int)))) (some (.p (.int r))) (some (.p (.lst (sts (f.cells.map Cel.name))))) (some (.p (takeP t))) (some (.p (.lst (sts left)))) a10 a11 a12 p15 p16 p17 left (S:=S) (c:=c) [] p14 hS.cn rfl h0 (by lia) (by simp;lia) (by simpa using hnd) (fun _ h=>by cases h) (fun _ h=>h)
 have hS1:=(hS.set c1).app [.lst (chD chs)]
 obtain⟨wh,c2,w1,w2,w3,e2⟩:=hwn (f.cells.map Cel.name) hS1.cn (by lia) (by lia)
 rw [set_app (hS.set c1).cn,List.set_set] at e2
 have hS2:=(hS.set c2).app [.lst (chD chs)]
 have hg:∀g ∈ goalsOf f.name rds,nameB g=true:=fun g h=>by
  obtain⟨r,hr1,_,rfl⟩:=goals_lead h
  exact (hr r hr1).2
 have hw:∀w ∈ f.whos,nameB w=true:=fun w h=>hf.2.2.2.2.2.2.2.1 w (List.mem_append_right _ h)
 obtain⟨sd,c3,s1,s2,s3,s4,e3⟩:=hsd (rds:=rds) K hS2 hg hw hr8 (by lia) (by lia)
 rw [set_app (hS.set c2).cn,List.set_set] at e3
 have hS3:=(hS.set c3).app [.lst (chD chs)]
 have hrl:f.rooms≠[]:=fun z=>by have:=hf.2.1;rw [z] at this;simp at this
 have hrl2:0 < f.rooms.length:=List.length_pos_iff.mpr hrl
 obtain⟨ra,hra,e4⟩:=pickS hrl (r / 1024)
 obtain⟨rb,hrb,e5⟩:=pickS hrl (r / 8192)
 obtain⟨d,zs,e6,hd,e7,hz⟩:=picks chs (by simp at b3;lia) (r / 65536 % 2) (by lia) (by lia)
 have e8:=hm.pure 7 hk
 have q2:L2.atI (famD i f) 2=some (.p (.lst (sts f.rooms))):=rfl
 have t1:trunc (S.length+1) (S.set 0 (cnt c2)++[.lst (chD chs)])=S.set 0 (cnt c2)++[.lst (chD chs)]:=trunc_len (by simp)
 have hlen:(S.set 0 (cnt c2)++[SO.lst (chD chs)]).length=S.length+1:=by simp
 have hlow3:Low (S.length+1) (S.set 0 (cnt c3)++[.lst (chD chs)]):=fun o ho=>by
  rcases List.mem_append.mp ho with q | q
  ·exact (hlow.set 0 c3) o q
  ·rw [List.mem_singleton.mp q]
   show (chD chs).all (lowD _)=true
   unfold chD
   rw [List.all_map];exact List.all_eq_true.mpr fun _ _=>rfl
 have tp:toP 9 (.ref (S.length+1)) (S.set 0 (cnt c3)++[.lst (chD chs)]++[.lst (ppD sd)])=some (.lst sd,S.set 0 (cnt c3)++[.lst (chD chs)]++[.fz (.lst sd)]):=by
  have hg:(S.set 0 (cnt c3)++[.lst (chD chs)]++[SO.lst (ppD sd)])[S.length+1]? = some (.lst (sd.map .p)):=by
   rw [List.getElem?_append_right (by simp)]
   simp [ppD]
  rw [toP_lst hg,set_last (by simp)]
 have t2:trunc (S.length+1) (S.set 0 (cnt c3)++[.lst (chD chs)]++[.fz (.lst sd)])=S.set 0 (cnt c3)++[.lst (chD chs)]:=trunc_low hlow3 (by simp)
 have tq:toP 9 (.ref S.length) (S.set 0 (cnt c3)++[.lst (chD chs)])=some (.lst (chs.map chP),S.set 0 (cnt c3)++[.fz (.lst (chs.map chP))]):=by
  have hg:(S.set 0 (cnt c3)++[SO.lst (chD chs)])[S.length]? = some (.lst ((chs.map chP).map .p)):=by
   rw [List.getElem?_append_right (by simp)]
   simp [chD]
  rw [toP_lst hg,set_last (by simp)]
 have g3:=hS3.fm
 refine⟨.tup [.str (nm k 7),.str ra,wh,takeP t,.lst (zs.map chP),.lst sd,.str rb],c3,[some (.ref fi),some (.p (.lst (rds.map roadP))),some (.p (.int (k:Int))),some (.p (scr ns)),some (.ref 0),some (.p (.int r)),some (.p (.lst (sts (f.cells.map Cel.name)))),some (.p (takeP t)),some (.p (.lst (sts K))),some (.p (.lst (sts left))),a10,a11,a12,some (.ref S.length),q14,some (.p wh),some (.p (.lst sd)),some (.p (.lst [.str ra,.str rb]))],.fz (.lst (chs.map chP)),⟨ra,wh,t,zs,sd,rb,rfl,hra,hrb,w1,?_,?_,?_,?_,by rw [<- hK];exact s1,s2⟩,by lia,by lia,?_⟩
 ·intro tk htk
  refine⟨(ht tk htk).1,fun ch hch e=>(ht tk htk).2 ?_⟩
  rw [<- e]
  have:ch ∈ chs:=by rcases hz with rfl | rfl;exact hch;exact List.mem_reverse.mp hch
  exact (b2 ch this).1
 ·rcases hz with rfl | rfl
  ·exact b1
  ·rw [List.map_reverse];exact List.pairwise_reverse.mpr (b1.imp Ne.symm)
 ·intro ch hch
  have:ch ∈ chs:=by rcases hz with rfl | rfl;exact hch;exact List.mem_reverse.mp hch
  exact⟨hlc _ (b2 ch this).1,by rw [<- hK];exact (b2 ch this).2⟩
 ·have:zs.length=chs.length:=by rcases hz with rfl | rfl <;> simp
  simp at b3;lia
 ·unfold st_tail
  refine (seq_nx (L1:=[some (.ref fi),some (.p (.lst (rds.map roadP))),some (.p (.int (k:Int))),some (.p (scr ns)),some (.ref 0),some (.p (.int r)),some (.p (.lst (sts (f.cells.map Cel.name)))),some (.p (takeP t)),some (.p (.lst (sts K))),some (.p (.lst (sts left))),a10,a11,a12,some (.ref S.length),p14,p15,p16,p17]) (S1:=S++[.lst []]) (by simp)).trans ?_
  refine (seq_nx (L1:=[some (.ref fi),some (.p (.lst (rds.map roadP))),some (.p (.int (k:Int))),some (.p (scr ns)),some (.ref 0),some (.p (.int r)),some (.p (.lst (sts (f.cells.map Cel.name)))),some (.p (takeP t)),some (.p (.lst (sts K))),some (.p (.lst (sts left))),a10,a11,a12,some (.ref S.length),q14,p15,p16,p17]) (S1:=S.set 0 (cnt c1)++[.lst (chD chs)]) (by
   rw [show chD []=[] from rfl] at e1
   simp [e1])).trans ?_
  refine (seq_nx (L1:=[some (.ref fi),some (.p (.lst (rds.map roadP))),some (.p (.int (k:Int))),some (.p (scr ns)),some (.ref 0),some (.p (.int r)),some (.p (.lst (sts (f.cells.map Cel.name)))),some (.p (takeP t)),some (.p (.lst (sts K))),some (.p (.lst (sts left))),a10,a11,a12,some (.ref S.length),q14,some (.p wh),p16,p17]) (S1:=S.set 0 (cnt c2)++[.lst (chD chs)]) (by simp [e2,t1])).trans ?_
  refine (seq_nx (L1:=[some (.ref fi),some (.p (.lst (rds.map roadP))),some (.p (.int (k:Int))),some (.p (scr ns)),some (.ref 0),some (.p (.int r)),some (.p (.lst (sts (f.cells.map Cel.name)))),some (.p (takeP t)),some (.p (.lst (sts K))),some (.p (.lst (sts left))),a10,a11,a12,some (.ref S.length),q14,some (.p wh),some (.p (.lst sd)),p17]) (S1:=S.set 0 (cnt c3)++[.lst (chD chs)]) (by
   rw [hlen] at e3
   generalize S.set 0 (cnt c3)++[SO.lst (chD chs)]=S3 at *
   generalize S.set 0 (cnt c2)++[SO.lst (chD chs)]=S2 at *
   simp [e3,tp,hlen,t2])).trans ?_
  refine (seq_nx (L1:=[some (.ref fi),some (.p (.lst (rds.map roadP))),some (.p (.int (k:Int))),some (.p (scr ns)),some (.ref 0),some (.p (.int r)),some (.p (.lst (sts (f.cells.map Cel.name)))),some (.p (takeP t)),some (.p (.lst (sts K))),some (.p (.lst (sts left))),a10,a11,a12,some (.ref S.length),q14,some (.p wh),some (.p (.lst sd)),some (.p (.lst [.str ra,.str rb]))]) (S1:=S.set 0 (cnt c3)++[.lst (chD chs)]) (by
   generalize S.set 0 (cnt c3)++[SO.lst (chD chs)]=S3 at *
   simp [g3,q2,lenD,lenP,hrl2,e4,e5])).trans ?_
  generalize S.set 0 (cnt c3)++[SO.lst (chD chs)]=S3 at *
  simp [e8,tq,oNone,oSome,e6,hd,e7]
end My
namespace My
open PySem L2 Ev
theorem cells_comp {S:Sto} (cs:List Cel) (a0 a1 a2 a3 a4 a5 a6 a7 a8 a9 a10 a12 a13 a14 a15 a16 a17 q:Option D) :
  compGo (gSet 11) bYes (vOp dIx (vE (eVar 11)) (vC (.int 0))) (cs.map celP) [a0,a1,a2,a3,a4,a5,a6,a7,a8,a9,a10,q,a12,a13,a14,a15,a16,a17] S=some (sts (cs.map Cel.name),S):=by
 have:=comp_map (f:=celP) (g:=fun c=>P.str c.name) (S:=S) (tgt:=gSet 11) (e:=vOp dIx (vE (eVar 11)) (vC (.int 0))) (fun q=>[a0,a1,a2,a3,a4,a5,a6,a7,a8,a9,a10,q,a12,a13,a14,a15,a16,a17]) (fun _ _=>rfl) (xs:=cs) (fun c _=>by simp [celP]) q
 rw [this];simp [sts]
theorem left_comp {S:Sto} (C:List Str) (cell:Str) (a0 a1 a2 a3 a4 a5 a6 a7 a8 a9 a10 a12 a13 a15 a16 a17 q:Option D) :
  compGo (gSet 14) (bV (vOpE gNe (eVar 14) (eVar 11))) (vE (eVar 14)) (sts C) [a0,a1,a2,a3,a4,a5,a6,a7,a8,a9,a10,some (.p (.str cell)),a12,a13,q,a15,a16,a17] S=some (sts (C.filter fun x=>!decide (x=cell)),S):=
 comp_filter (f:=P.str) (g:=P.str) (p:=fun x=>!decide (x=cell)) (S:=S) (tgt:=gSet 14) (cd:=bV (vOpE gNe (eVar 14) (eVar 11))) (e:=vE (eVar 14)) (fun q=>[a0,a1,a2,a3,a4,a5,a6,a7,a8,a9,a10,some (.p (.str cell)),a12,a13,q,a15,a16,a17]) (fun _ _=>rfl) (xs:=C) (fun c _=>⟨by simp,by simp⟩) q
theorem pick_more (G:List Str) (a:Int):∃x:Str,L2.atI (sts G++[.str ""]) (a % ((G.length:Int)+1))=some (.str x)/\(x=""\/x ∈ G):=by
 have hp:(0:Int) < (G.length:Int)+1:=by lia
 have m0:=Int.emod_nonneg a (Int.ne_of_gt hp)
 have m1:=Int.emod_lt_of_pos a hp
 by_cases h:(a % ((G.length:Int)+1)).toNat < G.length
 ·refine⟨G[(a % ((G.length:Int)+1)).toNat],atI_nat' m0 ?_,.inr (List.getElem_mem _)⟩
  rw [List.getElem?_append_left (by simpa using h)]
  simp [sts,h]
 ·have e:(a % ((G.length:Int)+1)).toNat=G.length:=by lia
  refine⟨"",atI_nat' m0 ?_,.inl rfl⟩
  rw [e,List.getElem?_append_right (by simp)]
  simp
noncomputable def StepFn (ψ:Str->GF) (ns:List Int):Prop:=∀{S:Sto}{c:Int}{fi i k:Nat}{f:Fam}{rds:List Road},Lies S c fi i f->Low (S.length+1) S->FamOk f->(∀r ∈ rds,nameB r.one=true/\nameB r.other=true)->rds.length≤8->k < 8->0≤c->c < 19000 ->
  ∃(v:P) (c':Int) (T:SO),StepOk f rds k v/\c≤c'/\c'≤c+15/\ψ "_law_step" [.ref fi,.p (.lst (rds.map roadP)),.p (.int (k:Int)),.p (scr ns),.ref 0] S=some (.p v,S.set 0 (cnt c')++[T])
theorem step_body {ψ:Str->GF} (ι:Str->GF) {ns:List Int} (hn:NextOk ψ ns) (hm:NamedOk ψ) (hs:SmallOk ψ ns) (hwn:WhenOk ψ ns) (hsd:SendsOk ψ ns) {S:Sto}{c:Int}{fi i k:Nat}{f:Fam}{rds:List Road} (hS:Lies S c fi i f) (hlow:Low (S.length+1) S) (hf:FamOk f) (hr:∀r ∈ rds,nameB r.one=true/\nameB r.other=true) (hr8:rds.length≤8) (hk:k < 8) (h0:0≤c) (h1:c < 19000) :
  ∃(v:P) (c':Int) (T:SO),StepOk f rds k v/\c≤c'/\c'≤c+15/\fnR 5 18 (b_n_law_step ψ ι) [.ref fi,.p (.lst (rds.map roadP)),.p (.int (k:Int)),.p (scr ns),.ref 0] S=some (.p v,S.set 0 (cnt c')++[T]):=by
 obtain⟨r,r0,_,e⟩:=hn hS.cn h0 (by lia)
 have hS1:=hS.set (c+1)
 have hlow1:Low ((S.set 0 (cnt (c+1))).length+1) (S.set 0 (cnt (c+1))):=by rw [List.length_set];exact hlow.set 0 _
 have g1:=hS1.fm
 have q3:L2.atI (famD i f) 3=some (.p (.lst (f.cells.map celP))):=rfl
 have q4:L2.atI (famD i f) 4=some (.p (.lst (sts f.whos))):=at4 _ _ _ _ _ _
 have hCl:f.cells.length≤3:=hf.2.2.2.2.2.1
 have hCl2:f.cells.length≤1000000:=by lia
 have hCn:(f.cells.map Cel.name).Nodup:=(List.nodup_append.mp hf.2.2.2.2.2.2.1).1
 have hCo:∀x ∈ f.cells.map Cel.name,nameB x=true:=fun x h=>hf.2.2.2.2.2.2.2.1 x (List.mem_append_left _ h)
 have cc:=fun a0 a1 a2 a3 a4 a5 a6 a7 a8 a9 a10 a12 a13 a14 a15 a16 a17 q=>cells_comp (S:=S.set 0 (cnt (c+1))) f.cells a0 a1 a2 a3 a4 a5 a6 a7 a8 a9 a10 a12 a13 a14 a15 a16 a17 q
 have sc:=fun a1 a2 a3 a4 a5 a6 a7 a8 a9 a10 a11 a12 a13 a14 a15 a16 a17 q=>senders_comp g1 rds a1 a2 a3 a4 a5 a6 a7 a8 a9 a10 a11 a12 a13 a14 a15 a16 a17 q
 have rl:rds.length≤1000000:=by lia
 have hsn:∀g ∈ sendersOf f.name rds,nameB g=true:=fun g h=>by
  obtain⟨r,hr1,rfl,_⟩:=senders_lead h
  exact (hr r hr1).1
 have ng:neD (.lst (sts (sendersOf f.name rds))) (.lst [])=some (!(sendersOf f.name rds).isEmpty):=by rw [neD_nil (strs_ok (fun x hx=>name_ok (hsn x hx)) 19),sts_empty]
 have tr0:trunc S.length (S.set 0 (cnt (c+1)))=S.set 0 (cnt (c+1)):=trunc_set ..
 by_cases hT:sendersOf f.name rds≠[]/\r % 2=0
 ·obtain⟨cell,ecl,hcl⟩:=pick_more (f.cells.map Cel.name) (r / 2)
  obtain⟨who,ewh,hwh⟩:=pick_more f.whos (r / 8)
  obtain⟨sn,hsn1,esn⟩:=pickS hT.1 (r / 24)
  have hsl:0 < (sendersOf f.name rds).length:=List.length_pos_iff.mpr hT.1
  have hse:(sendersOf f.name rds).isEmpty=false:=by cases h:sendersOf f.name rds with | nil=>exact absurd h hT.1 | cons _ _=>rfl
  have e1:=hm.pure (r / 32) (k:=1) (by lia)
  rw [show ((1:Nat):Int)=1 from rfl] at e1
  have hT2:=hT.2
  have hmk:=(nm_both (r / 32) (k:=1) (by lia)).1
  have lc:=fun a0 a1 a2 a3 a4 a5 a6 a7 a8 a9 a10 a12 a13 a15 a16 a17 q=>left_comp (S:=S.set 0 (cnt (c+1))) (f.cells.map Cel.name) cell a0 a1 a2 a3 a4 a5 a6 a7 a8 a9 a10 a12 a13 a15 a16 a17 q
  have cl1:f.cells.length+1≤1000000:=by lia
  have wl1:f.whos.length+1≤1000000:=by have:=hf.2.2.2.2.2.2.2.2.2.2;lia
  have hp1:(0:Int) < (f.cells.length:Int)+1:=by lia
  have hp2:(0:Int) < (f.whos.length:Int)+1:=by lia
  rw [List.length_map] at ecl
  have it1:[P.str "it"]=sts [("it":Str)]:=rfl
  obtain⟨v,c',L',T,a1,a2,a3,a4⟩:=tail_ok ι hn hm hs hwn hsd (r:=r) hS1 hlow1 hf hr hr8 hk (by lia) (by lia) (some ⟨nm 1 (r / 32),sn,cell,who⟩) (f.cells.map Cel.name++[("it":Str)]) ((f.cells.map Cel.name).filter fun x=>!decide (x=cell)) rfl
   (fun tk h=>by
    cases h
    refine⟨⟨hmk,senders_lead hsn1,hcl,hwh⟩,fun z=>?_⟩
    have:=(List.mem_filter.mp z).2
    simp at this) (hCn.sublist List.filter_sublist) (fun x hx=>(List.mem_filter.mp hx).1) (Nat.le_trans (List.length_filter_le _ _) (by simpa using hCl)) (some (.p (.lst (sts (sendersOf f.name rds))))) (some (.p (.str cell))) (some (.p (.str who))) none none none none none
  rw [List.set_set] at a4
  refine⟨v,c',T,a1,by lia,by lia,?_⟩
  have main:b_n_law_step ψ ι [some (.ref fi),some (.p (.lst (rds.map roadP))),some (.p (.int (k:Int))),some (.p (scr ns)),some (.ref 0),none,none,none,none,none,none,none,none,none,none,none,none,none] S=some (.rt (.p v),L',S.set 0 (cnt c')++[T]):=by
   unfold b_n_law_step
   refine (seq_nx (L1:=[some (.ref fi),some (.p (.lst (rds.map roadP))),some (.p (.int (k:Int))),some (.p (scr ns)),some (.ref 0),some (.p (.int r)),none,none,none,none,none,none,none,none,none,none,none,none]) (S1:=S.set 0 (cnt (c+1))) (by simp [e,tr0])).trans ?_
   refine (seq_nx (L1:=[some (.ref fi),some (.p (.lst (rds.map roadP))),some (.p (.int (k:Int))),some (.p (scr ns)),some (.ref 0),some (.p (.int r)),some (.p (.lst (sts (f.cells.map Cel.name)))),none,none,none,none,none,none,none,none,none,none,none]) (S1:=S.set 0 (cnt (c+1))) (by simp [g1,q3,vComp,hCl2,upL,cc])).trans ?_
   refine (seq_nx (L1:=[some (.ref fi),some (.p (.lst (rds.map roadP))),some (.p (.int (k:Int))),some (.p (scr ns)),some (.ref 0),some (.p (.int r)),some (.p (.lst (sts (f.cells.map Cel.name)))),some (.p .non),none,none,none,none,none,none,none,none,none,none]) (S1:=S.set 0 (cnt (c+1))) (by simp)).trans ?_
   refine (seq_nx (L1:=[some (.ref fi),some (.p (.lst (rds.map roadP))),some (.p (.int (k:Int))),some (.p (scr ns)),some (.ref 0),some (.p (.int r)),some (.p (.lst (sts (f.cells.map Cel.name)))),some (.p .non),some (.p (.lst (sts (f.cells.map Cel.name)))),none,none,none,none,none,none,none,none,none]) (S1:=S.set 0 (cnt (c+1))) (by simp)).trans ?_
   refine (seq_nx (L1:=[some (.ref fi),some (.p (.lst (rds.map roadP))),some (.p (.int (k:Int))),some (.p (scr ns)),some (.ref 0),some (.p (.int r)),some (.p (.lst (sts (f.cells.map Cel.name)))),some (.p .non),some (.p (.lst (sts (f.cells.map Cel.name)))),some (.p (.lst (sts (f.cells.map Cel.name)))),none,none,none,none,none,none,none,none]) (S1:=S.set 0 (cnt (c+1))) (by simp [c_list])).trans ?_
   refine (seq_nx (L1:=[some (.ref fi),some (.p (.lst (rds.map roadP))),some (.p (.int (k:Int))),some (.p (scr ns)),some (.ref 0),some (.p (.int r)),some (.p (.lst (sts (f.cells.map Cel.name)))),some (.p .non),some (.p (.lst (sts (f.cells.map Cel.name)))),some (.p (.lst (sts (f.cells.map Cel.name)))),some (.p (.lst (sts (sendersOf f.name rds)))),none,none,none,none,none,none,none]) (S1:=S.set 0 (cnt (c+1))) (by simp [vComp,rl,upL,sc])).trans ?_
   refine (seq_nx (L1:=[some (.ref fi),some (.p (.lst (rds.map roadP))),some (.p (.int (k:Int))),some (.p (scr ns)),some (.ref 0),some (.p (.int r)),some (.p (.lst (sts (f.cells.map Cel.name)))),some (.p (takeP (some ⟨nm 1 (r / 32),sn,cell,who⟩))),some (.p (.lst (sts (f.cells.map Cel.name++[("it":Str)])))),some (.p (.lst (sts ((f.cells.map Cel.name).filter fun x=>!decide (x=cell))))),some (.p (.lst (sts (sendersOf f.name rds)))),some (.p (.str cell)),some (.p (.str who)),none,none,none,none,none]) (S1:=S.set 0 (cnt (c+1))) (by
    simp only [sIf_ev]
    rw [show bAnd (bV (vOpE gNe (eVar 10) (eV (vLst' vsNil)))) (bV (vOpE gEq (eV (vOp dMod (vE (eVar 5)) (vC (.int 2)))) (eV (vC (.int 0))))) [some (.ref fi),some (.p (.lst (rds.map roadP))),some (.p (.int (k:Int))),some (.p (scr ns)),some (.ref 0),some (.p (.int r)),some (.p (.lst (sts (f.cells.map Cel.name)))),some (.p .non),some (.p (.lst (sts (f.cells.map Cel.name)))),some (.p (.lst (sts (f.cells.map Cel.name)))),some (.p (.lst (sts (sendersOf f.name rds)))),none,none,none,none,none,none,none] (S.set 0 (cnt (c+1)))=some (true,S.set 0 (cnt (c+1))) by simp [ng,hse,hT2]]
    simp [cl1,wl1,lenD,lenP,hp1,hp2,ecl,ewh,g1,q4,e1,esn,hsl,vComp,hCl2,upL,lc,takeP,it1,sts_app])).trans ?_
   exact a4
  simp [fnR,main]
 ·obtain⟨v,c',L',T,a1,a2,a3,a4⟩:=tail_ok ι hn hm hs hwn hsd (r:=r) hS1 hlow1 hf hr hr8 hk (by lia) (by lia) none (f.cells.map Cel.name) (f.cells.map Cel.name) rfl (fun tk h=>by cases h) hCn (fun x hx=>hx) (by simpa using hCl) (some (.p (.lst (sts (sendersOf f.name rds))))) none none none none none none none
  rw [List.set_set] at a4
  refine⟨v,c',T,a1,by lia,by lia,?_⟩
  have main:b_n_law_step ψ ι [some (.ref fi),some (.p (.lst (rds.map roadP))),some (.p (.int (k:Int))),some (.p (scr ns)),some (.ref 0),none,none,none,none,none,none,none,none,none,none,none,none,none] S=some (.rt (.p v),L',S.set 0 (cnt c')++[T]):=by
   unfold b_n_law_step
   refine (seq_nx (L1:=[some (.ref fi),some (.p (.lst (rds.map roadP))),some (.p (.int (k:Int))),some (.p (scr ns)),some (.ref 0),some (.p (.int r)),none,none,none,none,none,none,none,none,none,none,none,none]) (S1:=S.set 0 (cnt (c+1))) (by simp [e,tr0])).trans ?_
   refine (seq_nx (L1:=[some (.ref fi),some (.p (.lst (rds.map roadP))),some (.p (.int (k:Int))),some (.p (scr ns)),some (.ref 0),some (.p (.int r)),some (.p (.lst (sts (f.cells.map Cel.name)))),none,none,none,none,none,none,none,none,none,none,none]) (S1:=S.set 0 (cnt (c+1))) (by simp [g1,q3,vComp,hCl2,upL,cc])).trans ?_
   refine (seq_nx (L1:=[some (.ref fi),some (.p (.lst (rds.map roadP))),some (.p (.int (k:Int))),some (.p (scr ns)),some (.ref 0),some (.p (.int r)),some (.p (.lst (sts (f.cells.map Cel.name)))),some (.p .non),none,none,none,none,none,none,none,none,none,none]) (S1:=S.set 0 (cnt (c+1))) (by simp)).trans ?_
   refine (seq_nx (L1:=[some (.ref fi),some (.p (.lst (rds.map roadP))),some (.p (.int (k:Int))),some (.p (scr ns)),some (.ref 0),some (.p (.int r)),some (.p (.lst (sts (f.cells.map Cel.name)))),some (.p .non),some (.p (.lst (sts (f.cells.map Cel.name)))),none,none,none,none,none,none,none,none,none]) (S1:=S.set 0 (cnt (c+1))) (by simp)).trans ?_
   refine (seq_nx (L1:=[some (.ref fi),some (.p (.lst (rds.map roadP))),some (.p (.int (k:Int))),some (.p (scr ns)),some (.ref 0),some (.p (.int r)),some (.p (.lst (sts (f.cells.map Cel.name)))),some (.p .non),some (.p (.lst (sts (f.cells.map Cel.name)))),some (.p (.lst (sts (f.cells.map Cel.name)))),none,none,none,none,none,none,none,none]) (S1:=S.set 0 (cnt (c+1))) (by simp [c_list])).trans ?_
   refine (seq_nx (L1:=[some (.ref fi),some (.p (.lst (rds.map roadP))),some (.p (.int (k:Int))),some (.p (scr ns)),some (.ref 0),some (.p (.int r)),some (.p (.lst (sts (f.cells.map Cel.name)))),some (.p .non),some (.p (.lst (sts (f.cells.map Cel.name)))),some (.p (.lst (sts (f.cells.map Cel.name)))),some (.p (.lst (sts (sendersOf f.name rds)))),none,none,none,none,none,none,none]) (S1:=S.set 0 (cnt (c+1))) (by simp [vComp,rl,upL,sc])).trans ?_
   refine (seq_nx (L1:=[some (.ref fi),some (.p (.lst (rds.map roadP))),some (.p (.int (k:Int))),some (.p (scr ns)),some (.ref 0),some (.p (.int r)),some (.p (.lst (sts (f.cells.map Cel.name)))),some (.p .non),some (.p (.lst (sts (f.cells.map Cel.name)))),some (.p (.lst (sts (f.cells.map Cel.name)))),some (.p (.lst (sts (sendersOf f.name rds)))),none,none,none,none,none,none,none]) (S1:=S.set 0 (cnt (c+1))) (by
    by_cases hse:(sendersOf f.name rds).isEmpty=true
    ·simp [ng,hse]
    ·have hse:(sendersOf f.name rds).isEmpty=false:=by simpa using hse
     have h2:¬r % 2=0:=fun z=>hT ⟨fun y=>(by rw [y] at hse;cases hse),z⟩
     simp [ng,hse,h2])).trans ?_
   exact a4
  simp [fnR,main]
theorem step_all (n:Nat) (ns:List Int):StepFn (Psi Gv Att Tb (n+10)) ns:=fun {S c fi i k f rds} hS hl hf hr hr8 hk h0 h1=>by
 obtain⟨v,c',T,a1,a2,a3,e⟩:=step_body (ψ:=Psi Gv Att Tb (n+8+1)) (Psi Gv Att Tb (n+8)) (next_all (n+5) ns) (named_all (n+7)) (small_all (n+3) ns) (when_all (n+1) ns) (sends_all (n+1) ns) hS hl hf hr hr8 hk h0 h1
 exact⟨v,c',T,a1,a2,a3,by rw [<- e];exact congrFun (congrFun (e_n_law_step (n+8)) _) _⟩
end My
namespace My
open PySem L2 Ev
@[simp] theorem ko1:PyData.strOk ("name":Str)=true:=by decide +kernel
@[simp] theorem ko2:PyData.strOk ("number":Str)=true:=by decide +kernel
@[simp] theorem ko3:PyData.strOk ("is":Str)=true:=by decide +kernel
@[simp] theorem ko4:PyData.strOk ("not":Str)=true:=by decide +kernel
@[simp] theorem ko5:PyData.strOk ("true":Str)=true:=by decide +kernel
theorem ko_op {o:Str} (h:o="plus"\/o="minus"\/o="times"):PyData.strOk o=true:=by rcases h with rfl | rfl | rfl <;> decide +kernel
theorem ko_ao {o:Str} (h:o="and"\/o="or"):PyData.strOk o=true:=by rcases h with rfl | rfl <;> decide +kernel
theorem ko_it:strOk "it":=by unfold strOk;decide +kernel
theorem leaf_data {K:List Str} (hK:∀x ∈ K,strOk x) {v:P} (h:isLeaf K v) (n:Nat):okP (n+1) v=true:=by
 rcases h with ⟨x,hx,rfl⟩ | ⟨i,rfl⟩
 ·simp [show PyData.strOk x=true from hK x hx]
 ·simp
theorem small_data {K:List Str} (hK:∀x ∈ K,strOk x) {v:P} (h:isSmall K v) (n:Nat):okP (n+2) v=true:=by
 rcases h with h | ⟨o,a,b,ho,ha,hb,rfl⟩
 ·exact leaf_data hK h (n+1)
 ·simp [ko_op ho,leaf_data hK ha n,leaf_data hK hb n]
theorem cmp_data {K:List Str} (hK:∀x ∈ K,strOk x) {v:P} (h:isCmp K v) (n:Nat):okP (n+3) v=true:=by
 obtain⟨w,a,b,hw,ha,hb,rfl⟩:=h
 simp [show PyData.strOk w=true from hw,small_data hK ha n,small_data hK hb n]
theorem when_data {K:List Str} (hK:∀x ∈ K,strOk x) {v:P} (h:isWhen K v) (n:Nat):okP (n+4) v=true:=by
 rcases h with rfl | h | ⟨a,ha,rfl⟩ | ⟨o,a,b,ho,ha,hb,rfl⟩
 ·simp
 ·exact cmp_data hK h (n+1)
 ·simp [cmp_data hK ha n]
 ·simp [ko_ao ho,cmp_data hK ha n,cmp_data hK hb n]
theorem send_data {f:Fam}{rds:List Road}{K:List Str} (hK:∀x ∈ K,strOk x) {v:P} (h:SendOk f rds K v) (n:Nat):okP (n+3) v=true:=by
 obtain⟨mk,am,way,tg,rfl,h1,h2,h3,h4⟩:=h
 have:PyData.strOk way=true:=by rcases h4 with ⟨rfl,_⟩ | ⟨rfl | rfl,_⟩ <;> decide +kernel
 simp [show PyData.strOk mk=true from name_ok h1,small_data hK h2 n,this,show PyData.strOk tg=true from h3]
theorem known_ok {C:List Str} (hC:∀x ∈ C,strOk x) (t:Option Take):∀x ∈ knownOf C t,strOk x:=by
 intro x hx
 cases t with
 | none=>exact hC x hx
 | some _=>
  rcases List.mem_append.mp hx with q | q
  ·exact hC x q
  ·rw [List.mem_singleton.mp q];exact ko_it
theorem FamOk.cs {f:Fam} (h:FamOk f):∀x ∈ f.cells.map Cel.name,nameB x=true:=fun x hx=>h.2.2.2.2.2.2.2.1 x (List.mem_append_left _ hx)
theorem FamOk.ws {f:Fam} (h:FamOk f):∀x ∈ f.whos,nameB x=true:=fun x hx=>h.2.2.2.2.2.2.2.1 x (List.mem_append_right _ hx)
theorem step_data {f:Fam} (hf:FamOk f) {rds:List Road} (hr:∀r ∈ rds,nameB r.one=true/\nameB r.other=true) {k:Nat} (hk:k < 8) {v:P} (h:StepOk f rds k v) (n:Nat):okP (n+6) v=true:=by
 obtain⟨a,wh,t,chs,sd,go,rfl,h1,h2,h3,h4,h5,h6,h7,h8,h9⟩:=h
 have hC:∀x ∈ f.cells.map Cel.name,strOk x:=fun x hx=>name_ok (hf.cs x hx)
 have hR:∀x ∈ f.rooms,strOk x:=fun x hx=>name_ok (hf.2.2.2.2.1 x hx)
 have e1:PyData.strOk (nm k 7)=true:=name_ok (nm_both 7 hk).1
 have e2:okP (n+5) (takeP t)=true:=by
  cases t with
  | none=>simp [takeP]
  | some tk=>
   obtain⟨⟨t1,⟨r,hr1,hr2,hr3⟩,t3,t4⟩,_⟩:=h4 tk rfl
   have s1:PyData.strOk tk.mark=true:=name_ok t1
   have s2:PyData.strOk tk.sender=true:=by rw [<- hr2];exact name_ok (hr r hr1).1
   have s3:PyData.strOk tk.cell=true:=by
    rcases t3 with z | z
    ·rw [z];decide +kernel
    ·exact hC _ z
   have s4:PyData.strOk tk.who=true:=by
    rcases t4 with z | z
    ·rw [z];decide +kernel
    ·exact name_ok (hf.ws _ z)
   simp [takeP,s1,s2,s3,s4]
 have e3:okP (n+5) (.lst (chs.map chP))=true:=okL fun x hx=>by
  obtain⟨ch,hch,rfl⟩:=List.mem_map.mp hx
  have:=h6 ch hch
  simp [chP,show PyData.strOk ch.1=true from hC _ this.1,small_data (known_ok hC t) this.2 (n+1)]
 have e4:okP (n+5) (.lst sd)=true:=okL fun x hx=>send_data (known_ok hC t) (h8 x hx) (n+1)
 rw [okP_tup]
 simp only [List.all_cons,List.all_nil,Bool.and_true,okP_str,e1,show PyData.strOk a=true from hR a h1,show PyData.strOk go=true from hR go h2,when_data hC h3 (n+1),e2,e3,e4]
structure Stps (rds:List Road) (f:Fam):Prop where
 ln:f.steps.length≤8
 ok:∀(k:Nat) v,f.steps[k]? = some v->StepOk f rds k v
theorem Stps.data {rds:List Road}{f:Fam} (h:Stps rds f) (hf:FamOk f) (hr:∀r ∈ rds,nameB r.one=true/\nameB r.other=true) (n:Nat):okP (n+7) (.lst f.steps)=true:=okL fun x hx=>by
 obtain⟨k,hk,e⟩:=List.mem_iff_getElem.mp hx
 have e2:f.steps[k]? = some x:=by rw [List.getElem?_eq_getElem hk,e]
 exact step_data hf hr (by have:=h.ln;lia) (h.ok k x e2) n
noncomputable def addS (f:Fam) (v:P):Fam:=⟨f.name,f.hands,f.rooms,f.cells,f.whos,f.steps++[v]⟩
theorem famsO_set:∀(i:Nat) (fs:List Fam) {k:Nat}{f:Fam} (v:P),fs[k]? = some f->(famsO i fs).set (2 * k) (.lst (f.steps.map .p++[.p v]))=famsO i (fs.set k (addS f v))
 | _,[],_,_,_,h=>by simp at h
 | i,g::r,0,f,v,h=>by
  simp at h;subst h
  show _::_::_=_
  simp [famsO,addS,famD]
 | i,g::r,k+1,f,v,h=>by
  have:=famsO_set (i+2) r (k:=k) (f:=f) v (by simpa using h)
  rw [show 2 * (k+1)=2 * k+1+1 by lia]
  show _::_::(famsO (i+2) r).set (2 * k) _=_::_::famsO (i+2) (r.set k (addS f v))
  rw [this]
theorem stoF_put {c:Int}{fs:List Fam}{k:Nat}{f:Fam} (v:P) (h:fs[k]? = some f):(stoF c fs).set (2+2 * k) (.lst (f.steps.map .p++[.p v]))=stoF c (fs.set k (addS f v)):=by
 rw [show 2+2 * k=2 * k+1+1 by lia]
 show cnt c::_::(famsO 2 fs).set (2 * k) _=cnt c::.lst (refsF (fs.set k (addS f v)).length)::_
 rw [famsO_set 2 fs v h,List.length_set]
theorem map_set_same {α β:Type}{g:α->β}{xs:List α}{k:Nat}{x y:α} (h:xs[k]? = some x) (e:g y=g x):(xs.set k y).map g=xs.map g:=by
 rw [List.map_set,e]
 have h2:(xs.map g)[k]? = some (g x):=by rw [List.getElem?_map,h];rfl
 obtain⟨hl,e2⟩:=List.getElem?_eq_some_iff.mp h2
 rw [<- e2];exact List.set_getElem_self hl
theorem mem_set_or {α:Type}{xs:List α}{k:Nat}{y z:α} (h:z ∈ xs.set k y):z ∈ xs\/z=y:=List.mem_or_eq_of_mem_set h
theorem Fams.put {kinds:Int}{fs:List Fam} (h:Fams kinds fs) {k:Nat}{f:Fam} (v:P) (hk:fs[k]? = some f):Fams kinds (fs.set k (addS f v)) where
 l1:=by rw [List.length_set];exact h.l1
 l2:=by rw [List.length_set];exact h.l2
 ok:=fun g hg=>by
  rcases mem_set_or hg with q | rfl
  ·exact h.ok g q
  ·exact (h.ok f (List.mem_of_getElem? hk):FamOk f)
 nms:=by rw [List.length_set,map_set_same (g:=Fam.name) hk (by rfl)];exact h.nms
 sum:=by rw [map_set_same (g:=Fam.hands) hk (by rfl)];exact h.sum
theorem stps_put {rds:List Road}{fs:List Fam} (h:∀g ∈ fs,Stps rds g) {k:Nat}{f:Fam}{v:P} (hk:fs[k]? = some f) (hl:f.steps.length < 8) (hv:StepOk f rds f.steps.length v):∀g ∈ fs.set k (addS f v),Stps rds g:=fun g hg=>by
 rcases mem_set_or hg with q | rfl
 ·exact h g q
 ·have hf:=h f (List.mem_of_getElem? hk)
  refine⟨by simp [addS];lia,fun j w hw=>?_⟩
  unfold addS at hw
  simp only at hw
  by_cases hj:j < f.steps.length
  ·rw [List.getElem?_append_left hj] at hw
   exact (hf.ok j w hw:StepOk f rds j w)
  ·rw [List.getElem?_append_right (by lia)] at hw
   have h0:j-f.steps.length=0:=by have:=(List.getElem?_eq_some_iff.mp hw).1;simp at this;lia
   rw [h0] at hw
   cases hw
   have:j=f.steps.length:=by lia
   subst this
   exact (hv:StepOk f rds f.steps.length v)
end My
namespace My
open PySem L2 Ev
noncomputable def stoW (c:Int) (fs:List Fam) (ws:List P):Sto:=stoF c fs++[.lst (ppD ws)]
theorem stoW_len (c:Int) (fs:List Fam) (ws:List P):(stoW c fs ws).length=2+2 * fs.length+1:=by unfold stoW;rw [List.length_append,stoF_len];rfl
theorem stoW_0 (c:Int) (fs:List Fam) (ws:List P):(stoW c fs ws)[0]? = some (cnt c):=rfl
theorem stoW_1 (c:Int) (fs:List Fam) (ws:List P):(stoW c fs ws)[1]? = some (.lst (refsF fs.length)):=rfl
theorem stoW_set (c c':Int) (fs:List Fam) (ws:List P):(stoW c fs ws).set 0 (cnt c')=stoW c' fs ws:=rfl
theorem stoW_fam {c:Int}{fs:List Fam}{ws:List P}{k:Nat}{f:Fam} (h:fs[k]? = some f):(stoW c fs ws)[3+2 * k]? = some (.lst (famD (2+2 * k) f)):=get_app (stoF_fam h)
theorem stoW_stp {c:Int}{fs:List Fam}{ws:List P}{k:Nat}{f:Fam} (h:fs[k]? = some f):(stoW c fs ws)[2+2 * k]? = some (.lst (ppD f.steps)):=get_app (stoF_stp h)
theorem stoW_wsh (c:Int) (fs:List Fam) (ws:List P):(stoW c fs ws)[2+2 * fs.length]? = some (.lst (ppD ws)):=by
 unfold stoW
 rw [List.getElem?_append_right (by rw [stoF_len];lia),stoF_len,Nat.sub_self];rfl
theorem stoW_low (c:Int) (fs:List Fam) (ws:List P) {n:Nat} (hn:2+2 * fs.length+1≤n):Low n (stoW c fs ws):=fun o ho=>by
 rcases List.mem_append.mp ho with q | q
 ·rcases List.mem_cons.mp q with rfl | q
  ·rfl
  rcases List.mem_cons.mp q with rfl | q
  ·exact refs_low (by lia)
  ·exact famsO_low 2 fs (by lia) o q
 ·rw [List.mem_singleton.mp q]
  show (ppD ws).all (lowD _)=true
  unfold ppD
  rw [List.all_map];exact List.all_eq_true.mpr fun _ _=>rfl
theorem stoW_put {c:Int}{fs:List Fam}{ws:List P}{k:Nat}{f:Fam} (v:P) (h:fs[k]? = some f):(stoW c fs ws).set (2+2 * k) (.lst (ppD f.steps++[.p v]))=stoW c (fs.set k (addS f v)) ws:=by
 unfold stoW
 have hk:=(List.getElem?_eq_some_iff.mp h).1
 rw [List.set_append_left _ _ (by rw [stoF_len];lia)]
 rw [show ppD f.steps=f.steps.map .p from rfl,stoF_put v h]
theorem lies_W {c:Int}{fs:List Fam}{ws:List P}{k:Nat}{f:Fam} (h:fs[k]? = some f):Lies (stoW c fs ws) c (3+2 * k) (2+2 * k) f:=⟨rfl,stoW_fam h,by lia⟩
theorem at5 {α:Type} (a b c d e f:α) (r:List α):L2.atI (a::b::c::d::e::f::r) 5=some f:=atI_nat' (by decide) rfl
noncomputable def nbR (rds:List Road):Prop:=∀r ∈ rds,nameB r.one=true/\nameB r.other=true
theorem step_turn {ψ:Str->GF} (ι:Str->GF) {ns:List Int} (hst:StepFn ψ ns) {c left:Int}{kinds:Int}{fs:List Fam}{ws:List P}{rds:List Road}{k:Nat}{f:Fam} (hF:Fams kinds fs) (hk:fs[k]? = some f) (hl:f.steps.length < 8) (hr:nbR rds) (hr8:rds.length≤8) (h0:0≤c) (h1:c < 19000) (a1 a9 a10:Option D) (N:D) :
  ∃(v:P) (c':Int),StepOk f rds f.steps.length v/\c≤c'/\c'≤c+15/\b_n_law_plan_L1 ψ ι [some (.p (scr ns)),a1,some (.ref 0),some (.ref 1),some (.p (.lst (rds.map roadP))),some (.p (.int left)),some N,some (.ref (3+2 * k)),some (.p (.int (f.steps.length:Int))),a9,a10] (stoW c fs ws) =
   some (.nx,[some (.p (scr ns)),a1,some (.ref 0),some (.ref 1),some (.p (.lst (rds.map roadP))),some (.p (.int (left-1))),some N,some (.ref (3+2 * k)),some (.p (.int (f.steps.length:Int))),a9,a10],stoW c' (fs.set k (addS f v)) ws):=by
 obtain⟨v,c',T,h2,h3,h4,e⟩:=hst (lies_W (ws:=ws) hk) (by rw [stoW_len];exact stoW_low c fs ws (by lia)) (hF.ok f (List.mem_of_getElem? hk)) hr hr8 hl h0 h1
 rw [stoW_set] at e
 refine⟨v,c',h2,h3,h4,?_⟩
 have g1:=stoW_fam (c:=c) (ws:=ws) hk
 have q5:L2.atI (famD (2+2 * k) f) 5=some (.ref (2+2 * k)):=at5 _ _ _ _ _ _ _
 have o1:∀c,ownL (.ref (2+2 * k)) (stoW c fs ws)=some (2+2 * k,ppD f.steps):=fun c=>by
  simp [ownL,stoW_stp (c:=c) (ws:=ws) hk]
 have tr:trunc (2+2 * fs.length+1) (stoW c' fs ws++[T])=stoW c' fs ws:=trunc_low (stoW_low c' fs ws (Nat.le_refl _)) (stoW_len ..)
 have sl:f.steps.length≤1000000:=by lia
 have pt:=stoW_put (c:=c') (ws:=ws) v hk
 have ln:=stoW_len c fs ws
 have o1a:=o1 c
 have o1b:=o1 c'
 clear o1
 generalize stoW c fs ws=S0 at *
 generalize stoW c' fs ws=S1 at *
 simp [b_n_law_plan_L1,g1,q5,o1a,e,ln,tr,o1b,sl,pt]
theorem plan_inner {ψ:Str->GF} (ι:Str->GF) {ns:List Int} (hst:StepFn ψ ns) {kinds:Int}{ws:List P}{rds:List Road}{k:Nat} (hr:nbR rds) (hr8:rds.length≤8) (a1 a9 a10:Option D) (N:D):∀(m:Nat) {fs:List Fam}{f:Fam}{c left:Int} (p8:Option D),Fams kinds fs->(∀g ∈ fs,Stps rds g)->fs[k]? = some f->f.steps.length+m≤8->0≤c->c+15 * m < 19000 ->
  ∃(fs':List Fam) (c':Int) (q8:Option D),Fams kinds fs'/\(∀g ∈ fs',Stps rds g)/\fs'.length=fs.length/\(∀k',k'≠k->fs'[k']? = fs[k']?)/\c≤c'/\c'≤c+15 * m/\forGo (gSet 8) (b_n_law_plan_L1 ψ ι) ((List.range' f.steps.length m).map fun i:Nat=>P.int (i:Int)) [some (.p (scr ns)),a1,some (.ref 0),some (.ref 1),some (.p (.lst (rds.map roadP))),some (.p (.int left)),some N,some (.ref (3+2 * k)),p8,a9,a10] (stoW c fs ws) =
   some (.nx,[some (.p (scr ns)),a1,some (.ref 0),some (.ref 1),some (.p (.lst (rds.map roadP))),some (.p (.int (left-m))),some N,some (.ref (3+2 * k)),q8,a9,a10],stoW c' fs' ws)
 | 0,fs,f,c,left,p8,hF,hS,hk,hl,h0,h1=>⟨fs,c,p8,hF,hS,rfl,fun _ _=>rfl,by lia,by lia,by simp [forGo]⟩
 | m+1,fs,f,c,left,p8,hF,hS,hk,hl,h0,h1=>by
  obtain⟨v,c1,h2,h3,h4,e1⟩:=step_turn ι hst (left:=left) (ws:=ws) hF hk (by lia) hr hr8 h0 (by lia) a1 a9 a10 N
  have hkl:=(List.getElem?_eq_some_iff.mp hk).1
  have hk2:(fs.set k (addS f v))[k]? = some (addS f v):=by rw [List.getElem?_set_self hkl]
  have hln:(addS f v).steps.length=f.steps.length+1:=by simp [addS]
  obtain⟨fs',c2,q8,b1,b2,b3,b4,b5,b6,e2⟩:=plan_inner ι hst (k:=k) (ws:=ws) hr hr8 a1 a9 a10 N m (fs:=fs.set k (addS f v)) (f:=addS f v) (c:=c1) (left:=left-1) (some (.p (.int (f.steps.length:Int)))) (hF.put v hk) (stps_put hS hk (by lia) h2) hk2 (by lia) (by lia) (by lia)
  refine⟨fs',c2,q8,b1,b2,by rw [b3,List.length_set],fun k' hne=>by rw [b4 k' hne,List.getElem?_set_ne (Ne.symm hne)],by lia,by lia,?_⟩
  rw [List.range'_succ,List.map_cons]
  refine (forGo_nx rfl e1).trans ?_
  rw [hln] at e2
  rw [e2,show left-1-(m:Int)=left-((m+1:Nat):Int) by lia]
theorem plan_outer {ψ:Str->GF} (ι:Str->GF) {ns:List Int} (hn:NextOk ψ ns) (hst:StepFn ψ ns) {kinds:Int}{ws:List P}{rds:List Road} (hr:nbR rds) (hr8:rds.length≤8) (a1 a9 a10:Option D) (N:D):∀(m i fuel:Nat) {fs:List Fam}{c left:Int} (p7 p8:Option D),Fams kinds fs->(∀g ∈ fs,Stps rds g)->(∀k f,i≤k->fs[k]? = some f->f.steps=[])->fs.length=i+m->m < fuel->0≤left->left≤9->0≤c->c+200 * m < 18000 ->
  ∃(fs':List Fam) (c' left':Int) (q7 q8:Option D),Fams kinds fs'/\(∀g ∈ fs',Stps rds g)/\fs'.length=fs.length/\c≤c'/\c'≤c+200 * m/\forD 1 7 (b_n_law_plan_L2 ψ ι) fuel i [some (.p (scr ns)),a1,some (.ref 0),some (.ref 1),some (.p (.lst (rds.map roadP))),some (.p (.int left)),some N,p7,p8,a9,a10] (stoW c fs ws) =
   some (.nx,[some (.p (scr ns)),a1,some (.ref 0),some (.ref 1),some (.p (.lst (rds.map roadP))),some (.p (.int left')),some N,q7,q8,a9,a10],stoW c' fs' ws)
 | m,i,0,fs,c,left,p7,p8,hF,hS,hE,hl,hm,hl0,hl9,h0,h1=>absurd hm (Nat.not_lt_zero _)
 | 0,i,fuel+1,fs,c,left,p7,p8,hF,hS,hE,hl,hm,hl0,hl9,h0,h1=>by
  refine⟨fs,c,left,p7,p8,hF,hS,rfl,by lia,by lia,?_⟩
  unfold forD
  rw [stoW_1]
  dsimp only
  rw [List.getElem?_eq_none (by simp [refsF];lia)]
 | m+1,i,fuel+1,fs,c,left,p7,p8,hF,hS,hE,hl,hm,hl0,hl9,h0,h1=>by
  have hi:i < fs.length:=by lia
  have hk:fs[i]? = some fs[i]:=List.getElem?_eq_getElem hi
  have hst0:=hE i _ (Nat.le_refl _) hk
  obtain⟨r,r0,_,e⟩:=hn (stoW_0 c fs ws) h0 (by lia)
  rw [stoW_set] at e
  obtain⟨M,hM⟩:∃M:Int,(if r % 9 < left then r % 9 else left)=M:=⟨_,rfl⟩
  have hM1:0≤M/\M≤8/\M≤left:=by subst hM;split <;> lia
  obtain⟨fs1,c1,q8,b1,b2,b3,b4,b5,b6,e1⟩:=plan_inner ι hst (ws:=ws) (k:=i) hr hr8 a1 a9 a10 N M.toNat (fs:=fs) (c:=c+1) (left:=left) p8 hF hS hk (by rw [hst0];simp;lia) (by lia) (by lia)
  obtain⟨fs2,c2,left2,r7,r8,d1,d2,d3,d4,d5,e2⟩:=plan_outer ι hn hst (ws:=ws) hr hr8 a1 a9 a10 N m (i+1) fuel (fs:=fs1) (c:=c1) (left:=left-M) (some (.ref (3+2 * i))) q8 b1 b2 (fun k f hki hf=>hE k f (by lia) (by rw [<- b4 k (by lia)];exact hf)) (by rw [b3];lia) (by lia) (by lia) (by lia) (by lia) (by lia)
  refine⟨fs2,c2,left2,r7,r8,d1,d2,by rw [d3,b3],by lia,by lia,?_⟩
  rw [hst0,show ([]:List P).length=0 from rfl,<- ints_r,show ((M.toNat:Nat):Int)=M by lia] at e1
  have hL2:b_n_law_plan_L2 ψ ι [some (.p (scr ns)),a1,some (.ref 0),some (.ref 1),some (.p (.lst (rds.map roadP))),some (.p (.int left)),some N,some (.ref (3+2 * i)),p8,a9,a10] (stoW c fs ws)=some (.nx,[some (.p (scr ns)),a1,some (.ref 0),some (.ref 1),some (.p (.lst (rds.map roadP))),some (.p (.int (left-M))),some N,some (.ref (3+2 * i)),q8,a9,a10],stoW c1 fs1 ws):=by
   have tr:trunc (2+2 * fs.length+1) (stoW (c+1) fs ws)=stoW (c+1) fs ws:=trunc_len (stoW_len ..)
   have ln:=stoW_len c fs ws
   have nM:M.natAbs < 1000000:=by lia
   generalize stoW c fs ws=S0 at *
   generalize stoW (c+1) fs ws=S1 at *
   simp [b_n_law_plan_L2,e,ln,tr,c_min,hM,nM,e1]
  unfold forD
  rw [stoW_1]
  dsimp only
  rw [refs_get hi]
  dsimp only
  rw [show ([some (D.p (scr ns)),a1,some (D.ref 0),some (D.ref 1),some (D.p (P.lst (rds.map roadP))),some (D.p (P.int left)),some N,p7,p8,a9,a10]:Lc).set 7 (some (D.ref (3+2 * i)))=[some (D.p (scr ns)),a1,some (D.ref 0),some (D.ref 1),some (D.p (P.lst (rds.map roadP))),some (D.p (P.int left)),some N,some (D.ref (3+2 * i)),p8,a9,a10] from rfl,hL2]
  exact e2
end My
namespace My
open PySem L2 Ev
noncomputable def WishOk (fs:List Fam) (w:P):Prop:=∃(kd:Str) (k j:Nat) (f:Fam),w=.tup [.str kd,.str f.name,.str (nm j 7)]/\(kd="weak"\/kd="strong")/\fs[k]? = some f/\j < f.steps.length
theorem pickN {n:Nat} (h:0 < n) (a:Int):∃k:Nat,k < n/\a % (n:Int)=(k:Int):=by
 have h1:=Int.emod_nonneg a (Int.ne_of_gt (show (0:Int) < n by lia))
 have h2:=Int.emod_lt_of_pos a (show (0:Int) < n by lia)
 exact⟨(a % (n:Int)).toNat,by lia,by lia⟩
theorem atI_get {α:Type}{xs:List α}{k:Nat}{x:α} (h:xs[k]? = some x):L2.atI xs (k:Int)=some x:=atI_nat' (by lia) (by simpa using h)
theorem wish_turn {ψ:Str->GF} (ι:Str->GF) {ns:List Int} (hn:NextOk ψ ns) {c:Int}{kinds:Int}{fs:List Fam}{ws:List P}{rds:List Road} (hF:Fams kinds fs) (hS:∀g ∈ fs,Stps rds g) (hr:nbR rds) (hw:∀w ∈ ws,WishOk fs w) (hwl:ws.length≤20) (h0:0≤c) (h1:c < 40000) (a1 a4 a5 p7 p8 p9 p10:Option D) :
  ∃(ws':List P) (q7 q9 q10:Option D),(∀w ∈ ws',WishOk fs w)/\ws'.length≤ws.length+1/\b_n_law_plan_L3 ψ ι [some (.p (scr ns)),a1,some (.ref 0),some (.ref 1),a4,a5,some (.ref (2+2 * fs.length)),p7,p8,p9,p10] (stoW c fs ws) =
   some (.nx,[some (.p (scr ns)),a1,some (.ref 0),some (.ref 1),a4,a5,some (.ref (2+2 * fs.length)),q7,p8,q9,q10],stoW (c+1) fs ws'):=by
 obtain⟨r,r0,_,e⟩:=hn (stoW_0 c fs ws) h0 (by lia)
 rw [stoW_set] at e
 obtain⟨k,hk,ek⟩:=pickN (n:=fs.length) (by have:=hF.l1;lia) r
 have hf:fs[k]? = some fs[k]:=List.getElem?_eq_getElem hk
 generalize fs[k]=f at hf
 have hfm:=List.mem_of_getElem? hf
 have tr:trunc (2+2 * fs.length+1) (stoW (c+1) fs ws)=stoW (c+1) fs ws:=trunc_len (stoW_len ..)
 have ln:=stoW_len c fs ws
 have g1:=stoW_1 (c+1) fs ws
 have rl:(refsF fs.length).length=fs.length:=by simp [refsF]
 have ra:L2.atI (refsF fs.length) (k:Int)=some (.ref (3+2 * k)):=atI_get (refs_get hk)
 have g2:=stoW_fam (c:=c+1) (ws:=ws) hf
 have g3:=stoW_stp (c:=c+1) (ws:=ws) hf
 have q5:L2.atI (famD (2+2 * k) f) 5=some (.ref (2+2 * k)):=at5 _ _ _ _ _ _ _
 have q0:L2.atI (famD (2+2 * k) f) 0=some (.p (.str f.name)):=rfl
 have sn:snap (stoW (c+1) fs ws) 9 (.ref (2+2 * k))=some (.lst f.steps):=by
  unfold snap
  rw [g3]
  show (mapO (snap (stoW (c+1) fs ws) 8) (f.steps.map .p)).map P.lst=_
  rw [mapO_ps];rfl
 have nn:neD (.lst f.steps) (.lst [])=some (!f.steps.isEmpty):=neD_nil ((hS f hfm).data (hF.ok f hfm) hr 13)
 have gn:gNe (.ref (2+2 * k)) (.p (.lst [])) (stoW (c+1) fs ws)=some (.bl (!f.steps.isEmpty)):=by
  unfold gNe
  rw [sn,snap_p]
  simp [nn]
 have o1:ownL (.ref (2+2 * fs.length)) (stoW (c+1) fs ws)=some (2+2 * fs.length,ppD ws):=own_last (stoF_len _ _)
 have o2:∀w:P,(stoW (c+1) fs ws).set (2+2 * fs.length) (.lst (ppD ws++[.p w]))=stoW (c+1) fs (ws++[w]):=fun w=>by
  unfold stoW
  rw [set_last (stoF_len _ _),ppD_app]
 have hl0:0 < fs.length:=by lia
 cases he:f.steps.isEmpty with
 | true=>
  refine⟨ws,some (.ref (3+2 * k)),some (.p (.int r)),p10,hw,by lia,?_⟩
  rw [he] at gn
  generalize stoW (c+1) fs ws=S1 at *
  generalize stoW c fs ws=S0 at *
  simp [b_n_law_plan_L3,e,ln,tr,lenD,g1,rl,hl0,ek,ra,g2,q5,gn]
 | false=>
  have hne:f.steps≠[]:=fun z=>by rw [z] at he;cases he
  have hsl:0 < f.steps.length:=List.length_pos_iff.mpr hne
  obtain⟨j,hj,ej⟩:=pickN (n:=f.steps.length) hsl (r / 4)
  have hv:f.steps[j]? = some f.steps[j]:=List.getElem?_eq_getElem hj
  generalize f.steps[j]=v at hv
  have hvo:=(hS f hfm).ok j v hv
  have v0:dIx v (.int 0)=some (.str (nm j 7)):=by
   obtain⟨a,wh,t,chs,sd,go,rfl,_⟩:=hvo
   rfl
  have va:L2.atI (ppD f.steps) (j:Int)=some (.p v):=atI_get (by unfold ppD;rw [List.getElem?_map,hv];rfl)
  obtain⟨z,hz,e3⟩:=at2 (P.str "weak") (.str "strong") (i:=r / 64 % 2) (by lia) (by lia)
  have:∃kd:Str,(kd="weak"\/kd="strong")/\z=.str kd:=by
   simp only [List.mem_cons,List.not_mem_nil,or_false] at hz
   rcases hz with rfl | rfl
   ·exact⟨_,.inl rfl,rfl⟩
   ·exact⟨_,.inr rfl,rfl⟩
  obtain⟨kd,hkd,rfl⟩:=this
  clear hz
  refine⟨ws++[.tup [.str kd,.str f.name,.str (nm j 7)]],some (.ref (3+2 * k)),some (.p (.int r)),some (.p (.str (nm j 7))),?_,by simp,?_⟩
  ·intro w hw1
   rcases List.mem_append.mp hw1 with q | q
   ·exact hw w q
   ·rw [List.mem_singleton.mp q];exact⟨kd,k,j,f,rfl,hkd,hf,hj⟩
  rw [he] at gn
  have wl:ws.length≤1000000:=by lia
  have sl:(ppD f.steps).length=f.steps.length:=ppD_len _
  generalize stoW (c+1) fs ws=S1 at *
  generalize stoW c fs ws=S0 at *
  simp [b_n_law_plan_L3,e,ln,tr,lenD,g1,rl,hl0,ek,ra,g2,g3,q5,q0,gn,hsl,ej,va,v0,e3,o1,o2,wl]
theorem wish_loop {ψ:Str->GF} (ι:Str->GF) {ns:List Int} (hn:NextOk ψ ns) {kinds:Int}{fs:List Fam}{rds:List Road} (hF:Fams kinds fs) (hS:∀g ∈ fs,Stps rds g) (hr:nbR rds) (a1 a4 a5:Option D):∀(xs:List P) {c:Int} (ws:List P) (p7 p8 p9 p10:Option D),(∀w ∈ ws,WishOk fs w)->ws.length+xs.length≤20->0≤c->c+xs.length < 40000 ->
  ∃(ws':List P) (c':Int) (q7 q8 q9 q10:Option D),(∀w ∈ ws',WishOk fs w)/\ws'.length≤ws.length+xs.length/\forGo (gSet 8) (b_n_law_plan_L3 ψ ι) xs [some (.p (scr ns)),a1,some (.ref 0),some (.ref 1),a4,a5,some (.ref (2+2 * fs.length)),p7,p8,p9,p10] (stoW c fs ws) =
   some (.nx,[some (.p (scr ns)),a1,some (.ref 0),some (.ref 1),a4,a5,some (.ref (2+2 * fs.length)),q7,q8,q9,q10],stoW c' fs ws')
 | [],c,ws,p7,p8,p9,p10,hw,hl,h0,h1=>⟨ws,c,p7,p8,p9,p10,hw,by simp,rfl⟩
 | x::xs,c,ws,p7,p8,p9,p10,hw,hl,h0,h1=>by
  simp only [List.length_cons] at hl h1
  obtain⟨ws1,q7,q9,q10,b1,b2,e1⟩:=wish_turn ι hn hF hS hr hw (by lia) h0 (by lia) a1 a4 a5 p7 (some (.p x)) p9 p10
  obtain⟨ws2,c2,r7,r8,r9,r10,d1,d2,e2⟩:=wish_loop ι hn hF hS hr a1 a4 a5 xs (c:=c+1) ws1 q7 (some (.p x)) q9 q10 b1 (by lia) (by lia) (by lia)
  exact⟨ws2,c2,r7,r8,r9,r10,d1,by simp;lia,(forGo_nx rfl e1).trans e2⟩
noncomputable def famP (f:Fam):P:=.tup [.str f.name,.int f.hands,.lst (sts f.rooms),.lst (f.cells.map celP),.lst (sts f.whos),.lst f.steps]
structure Fz (fs:List Fam) (ws:List P) (i:Nat) (S:Sto):Prop where
 rf:S[1]? = some (.lst (refsF fs.length))
 fm:∀(k:Nat) f,i≤k->fs[k]? = some f->S[3+2 * k]? = some (.lst (famD (2+2 * k) f))
 st:∀(k:Nat) f,i≤k->fs[k]? = some f->S[2+2 * k]? = some (.lst (ppD f.steps))
 wi:S[2+2 * fs.length]? = some (.lst (ppD ws))
theorem fz_step {fs:List Fam}{ws:List P}{i:Nat}{S:Sto} (h:Fz fs ws i S) {f:Fam} (hf:fs[i]? = some f):∃S',toP 9 (.ref (3+2 * i)) S=some (.lst [.str f.name,.int f.hands,.lst (sts f.rooms),.lst (f.cells.map celP),.lst (sts f.whos),.lst f.steps],S')/\Fz fs ws (i+1) S':=by
 have hi:=(List.getElem?_eq_some_iff.mp hf).1
 have e1:=h.fm i f (Nat.le_refl _) hf
 have e2:toP 8 (.ref (2+2 * i)) S=some (.lst f.steps,S.set (2+2 * i) (.fz (.lst f.steps))):=toP_lst (h.st i f (Nat.le_refl _) hf)
 refine⟨(S.set (2+2 * i) (.fz (.lst f.steps))).set (3+2 * i) (.fz (.lst [.str f.name,.int f.hands,.lst (sts f.rooms),.lst (f.cells.map celP),.lst (sts f.whos),.lst f.steps])),?_,?_⟩
 ·unfold toP
  rw [e1]
  simp [famD,mapS,e2]
 ·refine⟨?_,fun k g hk hg=>?_,fun k g hk hg=>?_,?_⟩
  ·rw [List.getElem?_set_ne (by lia),List.getElem?_set_ne (by lia)];exact h.rf
  ·rw [List.getElem?_set_ne (by lia),List.getElem?_set_ne (by lia)];exact h.fm k g (by lia) hg
  ·rw [List.getElem?_set_ne (by lia),List.getElem?_set_ne (by lia)];exact h.st k g (by lia) hg
  ·rw [List.getElem?_set_ne (by lia),List.getElem?_set_ne (by lia)];exact h.wi
theorem fz_comp {fs:List Fam}{ws:List P} (a0 a1 a2 a3 a4 a5 a6 a8 a9 a10:Option D):∀(m i fuel:Nat) {S:Sto} (q:Option D),Fz fs ws i S->fs.length=i+m->m < fuel ->
  ∃S',Fz fs ws fs.length S'/\compD 1 7 bYes (vCall c_tuple (vsCons (vE (eVar 7)) vsNil)) fuel i [a0,a1,a2,a3,a4,a5,a6,q,a8,a9,a10] S=some ((fs.map famP).drop i,S')
 | m,i,0,S,q,h,hl,hm=>absurd hm (Nat.not_lt_zero _)
 | 0,i,fuel+1,S,q,h,hl,hm=>by
  refine⟨S,by rw [show fs.length=i by lia];exact h,?_⟩
  unfold compD
  rw [h.rf]
  dsimp only
  rw [List.getElem?_eq_none (by simp [refsF];lia),List.drop_eq_nil_of_le (by simp;lia)]
 | m+1,i,fuel+1,S,q,h,hl,hm=>by
  have hi:i < fs.length:=by lia
  have hf:fs[i]? = some fs[i]:=List.getElem?_eq_getElem hi
  obtain⟨S1,e1,h1⟩:=fz_step h hf
  obtain⟨S2,h2,e2⟩:=fz_comp a0 a1 a2 a3 a4 a5 a6 a8 a9 a10 m (i+1) fuel (some (.ref (3+2 * i))) h1 (by lia) (by lia)
  refine⟨S2,h2,?_⟩
  unfold compD
  rw [h.rf]
  dsimp only
  rw [refs_get hi,List.drop_eq_getElem_cons (by simpa using hi),List.getElem_map]
  have e2':=e2
  generalize (fs.map famP).drop (i+1)=tl at *
  simp [e1,c_tuple,e2',famP]
end My
namespace My
open PySem L2 Ev
noncomputable def planP (fs:List Fam) (rds:List Road) (ws:List P):P:=.tup [.lst (fs.map famP),.lst (rds.map roadP),.lst ws]
structure Plan (fs:List Fam) (rds:List Road) (ws:List P):Prop where
 fms:∃kinds,Fams kinds fs
 stp:∀f ∈ fs,Stps rds f
 rok:Rds (fs.map Fam.name) rds
 rl:rds.length≤8
 wok:∀w ∈ ws,WishOk fs w
 wl:ws.length≤6
theorem Fams.names {kinds:Int}{fs:List Fam} (h:Fams kinds fs):(fs.map Fam.name).Nodup/\∀x ∈ fs.map Fam.name,nameB x=true:=by
 rw [h.nms]
 exact⟨nodup_nm _ (by have:=h.l2;lia),fun x hx=>(name_nm (by have:=h.l2;lia) hx).1⟩
theorem Rds.nb {Ns:List Str}{rds:List Road} (h:Rds Ns rds) (hN:∀x ∈ Ns,nameB x=true):nbR rds:=fun r hr=>⟨hN _ (h.ok r hr).1,hN _ (h.ok r hr).2.1⟩
theorem plan_ok {ψ:Str->GF} (ι:Str->GF) {ns:List Int} (hn:NextOk ψ ns) (hfi:FirstOk ψ ns) (hro:RoadsOk ψ ns) (hst:StepFn ψ ns) (cts:Int):∃fs rds ws,Plan fs rds ws/\pureOf (fnR 2 11 (b_n_law_plan ψ ι)) [scr ns,.int cts]=some (planP fs rds ws):=by
 obtain⟨fs,kinds,c1,hF,hE,h1,h2,e1⟩:=hfi (c:=0) cts (by lia) (by lia)
 have hnm:=hF.names
 obtain⟨rds,c2,hR,hR8,h3,h4,e2⟩:=hro (c:=c1) (fs:=fs) (fun z=>by have:=hF.l1;rw [z] at this;simp at this) hF.l2 (fun f hf=>name_ok (hnm.2 _ (List.mem_map_of_mem hf))) (by lia) (by lia)
 have hnb:=hR.nb hnm.2
 obtain⟨fs2,c3,left,q7,q8,hF2,hS2,hl2,h5,h6,e3⟩:=plan_outer ι hn hst (ws:=[]) (rds:=rds) hnb hR8 (some (.p (.int cts))) none none (.ref (2+2 * fs.length)) fs.length 0 1000 (fs:=fs) (c:=c2) (left:=9) none none hF (fun g hg=>⟨by rw [hE g hg];simp,fun k v h=>by rw [hE g hg] at h;simp at h⟩) (fun k f _ hf=>hE f (List.mem_of_getElem? hf)) (by lia) (by have:=hF.l2;lia) (by lia) (by lia) (by lia) (by have:=hF.l2;lia)
 obtain⟨r,r0,_,e4⟩:=hn (stoW_0 c3 fs2 []) (by lia) (by have:=hF.l2;lia)
 rw [stoW_set] at e4
 obtain⟨m,hm⟩:∃m,(r % 7).toNat=m:=⟨_,rfl⟩
 obtain⟨ws,c5,r7,r8,r9,r10,hW,hWl,e5⟩:=wish_loop ι hn hF2 hS2 hnb (some (.p (.int cts))) (some (.p (.lst (rds.map roadP)))) (some (.p (.int left))) (intsFrom 0 m) (c:=c3+1) [] q7 q8 none none (fun _ h=>by cases h) (by rw [ints_len];simp;lia) (by lia) (by rw [ints_len];have:=hF.l2;lia)
 rw [ints_len] at hWl
 rw [hl2] at e5
 have hfz:Fz fs2 ws 0 (stoW c5 fs2 ws):=⟨stoW_1 ..,fun k f _ h=>stoW_fam h,fun k f _ h=>stoW_stp h,stoW_wsh ..⟩
 obtain⟨S',hz,e6⟩:=fz_comp (some (.p (scr ns))) (some (.p (.int cts))) (some (.ref 0)) (some (.ref 1)) (some (.p (.lst (rds.map roadP)))) (some (.p (.int left))) (some (.ref (2+2 * fs.length))) r8 r9 r10 fs2.length 0 1000 none hfz (by lia) (by have:=hF2.l2;lia)
 rw [List.drop_zero] at e6
 have hwz:toP 9 (.ref (2+2 * fs.length)) S'=some (.lst ws,S'.set (2+2 * fs.length) (.fz (.lst ws))):=by
  have:=hz.wi
  rw [hl2] at this
  exact toP_lst this
 refine⟨fs2,rds,ws,⟨⟨kinds,hF2⟩,hS2,?_,hR8,hW,by simp at hWl;lia⟩,?_⟩
 ·have:fs2.map Fam.name=fs.map Fam.name:=by rw [hF2.nms,hl2,hF.nms]
  rw [this];exact hR
 have tp:toP 9 (.ref (2+2 * fs.length)) (stoF c2 fs++[.lst (rdD rds)])=some (.lst (rds.map roadP),stoF c2 fs++[.fz (.lst (rds.map roadP))]):=by
  have hg:(stoF c2 fs++[SO.lst (rdD rds)])[2+2 * fs.length]? = some (.lst ((rds.map roadP).map .p)):=by
   rw [List.getElem?_append_right (by rw [stoF_len];lia),stoF_len,Nat.sub_self]
   simp [rdD]
  rw [toP_lst hg,set_last (stoF_len _ _)]
 have tr1:trunc (2+2 * fs.length) (stoF c2 fs++[.fz (.lst (rds.map roadP))])=stoF c2 fs:=trunc_low (stoF_low _ _) (stoF_len _ _)
 have tr2:trunc (2+2 * fs2.length+1) (stoW (c3+1) fs2 [])=stoW (c3+1) fs2 []:=trunc_len (stoW_len ..)
 have nr:(r % 7).natAbs < 1000000:=by lia
 have hc0:[cnt 0]=[SO.lst [D.p (P.int 0)]]:=rfl
 rw [pureOf_fn]
 have main:b_n_law_plan ψ ι [some (.p (scr ns)),some (.p (.int cts)),none,none,none,none,none,none,none,none,none] []=some (.rt (.p (planP fs2 rds ws)),[some (.p (scr ns)),some (.p (.int cts)),some (.ref 0),some (.ref 1),some (.p (.lst (rds.map roadP))),some (.p (.int left)),some (.ref (2+2 * fs.length)),r7,r8,r9,r10],S'.set (2+2 * fs.length) (.fz (.lst ws))):=by
  unfold b_n_law_plan
  refine (seq_nx (L1:=[some (.p (scr ns)),some (.p (.int cts)),some (.ref 0),none,none,none,none,none,none,none,none]) (S1:=[cnt 0]) (by simp [cnt])).trans ?_
  refine (seq_nx (L1:=[some (.p (scr ns)),some (.p (.int cts)),some (.ref 0),some (.ref 1),none,none,none,none,none,none,none]) (S1:=stoF c1 fs) (by simp [e1])).trans ?_
  refine (seq_nx (L1:=[some (.p (scr ns)),some (.p (.int cts)),some (.ref 0),some (.ref 1),some (.p (.lst (rds.map roadP))),none,none,none,none,none,none]) (S1:=stoF c2 fs) (by simp [e2,tp,stoF_len,tr1])).trans ?_
  refine (seq_nx (L1:=[some (.p (scr ns)),some (.p (.int cts)),some (.ref 0),some (.ref 1),some (.p (.lst (rds.map roadP))),some (.p (.int 9)),none,none,none,none,none]) (S1:=stoF c2 fs) (by simp)).trans ?_
  refine (seq_nx (L1:=[some (.p (scr ns)),some (.p (.int cts)),some (.ref 0),some (.ref 1),some (.p (.lst (rds.map roadP))),some (.p (.int 9)),some (.ref (2+2 * fs.length)),none,none,none,none]) (S1:=stoW c2 fs []) (by simp [stoF_len,stoW,ppD])).trans ?_
  refine (seq_nx (L1:=[some (.p (scr ns)),some (.p (.int cts)),some (.ref 0),some (.ref 1),some (.p (.lst (rds.map roadP))),some (.p (.int left)),some (.ref (2+2 * fs.length)),q7,q8,none,none]) (S1:=stoW c3 fs2 []) (by simp [stoW_1,e3])).trans ?_
  refine (seq_nx (L1:=[some (.p (scr ns)),some (.p (.int cts)),some (.ref 0),some (.ref 1),some (.p (.lst (rds.map roadP))),some (.p (.int left)),some (.ref (2+2 * fs.length)),r7,r8,r9,r10]) (S1:=stoW c5 fs2 ws) (by simp [e4,stoW_len,tr2,nr,hm,e5])).trans ?_
  have g1:=stoW_1 c5 fs2 ws
  generalize stoW c5 fs2 ws=S5 at *
  simp [g1,upL,e6,hwz,planP]
 simp [main]
noncomputable def PlanOk (ψ:Str->GF) (ns:List Int):Prop:=∀cts:Int,∃fs rds ws,Plan fs rds ws/\pureOf (ψ "_law_plan") [scr ns,.int cts]=some (planP fs rds ws)
theorem plan_all (n:Nat) (ns:List Int):PlanOk (Psi Gv Att Tb (n+12)) ns:=fun cts=>by
 obtain⟨fs,rds,ws,h,e⟩:=plan_ok (ψ:=Psi Gv Att Tb (n+10+1)) (Psi Gv Att Tb (n+10)) (next_all (n+7) ns) (first_all (n+3) ns) (roads_all (n+5) ns) (step_all (n+1) ns) cts
 exact⟨fs,rds,ws,h,by rw [<- e];exact congrArg (fun g=>pureOf g [scr ns,.int cts]) (e_n_law_plan (n+10))⟩
end My
namespace My
open PySem L2 Ev
theorem bls_true {α:Type}:∀xs:List α,blsOf (xs.map fun _=>P.bl true)=some (xs.map fun _=>true)
 | []=>rfl
 | x::xs=>by simp [blsOf,bls_true xs]
theorem all_true {α:Type} (xs:List α):c_all [.lst (xs.map fun _=>P.bl true)]=some (.bl true):=by
 show (blsOf _).map _=_
 rw [bls_true]
 simp
theorem letter_in:∀i,i < 26->inP (.str ⟨#[97+i]⟩) (.str "abcdefghijklmnopqrstuvwxyz")=some true:=by decide +kernel
theorem letter_in' {c:Nat} (h1:97≤c) (h2:c≤122) (S:Sto):gIn (.p (.str ⟨#[c]⟩)) (.p (.str "abcdefghijklmnopqrstuvwxyz")) S=some (.bl true):=by
 have:=letter_in (c-97) (by lia)
 rw [show 97+(c-97)=c by lia] at this
 simp [gIn,inG,dKeys,this]
noncomputable def letsB (x:Str):Prop:=∀c ∈ x.cps.toList,97≤c/\c≤122
theorem name_lets {x:Str} (h:nameB x=true):letsB x:=by
 unfold nameB at h
 simp only [Bool.and_eq_true] at h
 intro c hc
 obtain⟨i,hi,e⟩:=List.mem_iff_getElem.mp hc
 have hi2:i < x.cps.size:=by simpa using hi
 have:=Array.all_eq_true.mp h.1.2 i hi2
 simp only [Bool.and_eq_true,decide_eq_true_eq] at this
 rw [<- e];simpa using this
theorem name_len {x:Str} (h:nameB x=true):1≤x.length/\x.length≤10:=by
 unfold nameB at h
 simp only [Bool.and_eq_true,decide_eq_true_eq] at h
 exact h.1.1
theorem name_not {x:Str} (h:nameB x=true):(([("or":Str),"and","not","true"]).any fun y=>decide (y=x))=false:=by
 unfold nameB at h
 simp only [Bool.and_eq_true,Bool.not_eq_true'] at h
 exact h.2
theorem made_comp {x:Str} (hx:letsB x) (a0 q:Option D):compGo (gSet 2) bYes (vOpE gIn (eVar 2) (eVar 1)) (signs x) [a0,some (.p (.str "abcdefghijklmnopqrstuvwxyz")),q] []=some (x.cps.toList.map fun _=>P.bl true,[]):=
 comp_map (f:=fun c:Nat=>P.str ⟨#[c]⟩) (g:=fun _=>P.bl true) (S:=[]) (tgt:=gSet 2) (e:=vOpE gIn (eVar 2) (eVar 1)) (fun q=>[a0,some (.p (.str "abcdefghijklmnopqrstuvwxyz")),q]) (fun _ _=>rfl) (xs:=x.cps.toList) (fun c hc=>by
  have:=letter_in' (hx c hc).1 (hx c hc).2 []
  simp [this]) q
theorem made_ok (n:Nat) {x:Str} (h:nameB x=true):pureOf (Psi Gv Att Tb (n+2) "is_made_of") [.str x,.str "abcdefghijklmnopqrstuvwxyz"]=some (.bl true):=by
 have hx:=name_lets h
 have h1:x.cps.all (fun c=>decide (c < 128))=true:=Array.all_eq_true.mpr fun i hi=>decide_eq_true (by
  have:=hx x.cps[i] (by simp)
  lia)
 have h2:(signs x).length≤1000000:=by
  have:=(name_len h).2
  unfold Str.length at this
  simp [signs];lia
 rw [e_n_is_made_of,pureOf_fn]
 have mc:=fun a0 q=>made_comp hx a0 q
 have at':=all_true x.cps.toList
 generalize (x.cps.toList.map fun _=>P.bl true)=ys at *
 simp only [b_n_is_made_of,List.map_cons,List.map_nil,List.length_cons,List.length_nil,List.cons_append,List.nil_append,Nat.reduceAdd,Nat.reduceSub,List.replicate_zero,if_true,sRet_ev,eV_ev,vCall_ev,vsCons_ev,vsNil_ev,vComp,itS_ev,vE_ev,eVar_ev,List.getElem?_cons_zero,bnd_some,toP_p,h1]
 simp [h2,upL,mc,at']
theorem inP_strs {x:Str}{K:List Str} (hx:strOk x) (hK:∀y ∈ K,strOk y):inP (.str x) (.lst (sts K))=some (K.any fun y=>decide (y=x))/\inP (.str x) (.tup (sts K))=some (K.any fun y=>decide (y=x)):=by
 have h1:((sts K).all (okP 19) && okP 19 (.str x))=true:=by
  rw [Bool.and_eq_true]
  refine⟨?_,by rw [okP_str];exact hx⟩
  unfold sts
  rw [List.all_map]
  exact List.all_eq_true.mpr fun y hy=>by
   show okP 19 (.str y)=true
   rw [okP_str];exact hK y hy
 have h2:((sts K).any fun y=>PyData.eqv (pd y) (pd (.str x)))=K.any fun y=>decide (y=x):=by
  unfold sts
  rw [List.any_map]
  exact congrArg (fun p=>K.any p) (funext fun y=>eqv_str y x)
 constructor
 ·show (if ((sts K).all (okP 19) && okP 19 (.str x))=true then some ((sts K).any fun y=>PyData.eqv (pd y) (pd (.str x))) else none)=_
  rw [if_pos h1,h2]
 ·show (if ((sts K).all (okP 19) && okP 19 (.str x))=true then some ((sts K).any fun y=>PyData.eqv (pd y) (pd (.str x))) else none)=_
  rw [if_pos h1,h2]
theorem any_mem {K:List Str}{x:Str}:(K.any fun y=>decide (y=x))=true↔x ∈ K:=by simp
theorem gIn_yes {x:Str}{K:List Str} (hK:∀y ∈ K,strOk y) (h:x ∈ K) (S:Sto):gIn (.p (.str x)) (.p (.lst (sts K))) S=some (.bl true):=by
 have:=(inP_strs (hK x h) hK).1
 rw [any_mem.mpr h] at this
 simp [gIn,inG,dKeys,this]
theorem gNotIn_yes {x:Str}{K:List Str} (hK:∀y ∈ K,strOk y) (h:x ∈ K) (S:Sto):gNotIn (.p (.str x)) (.p (.lst (sts K))) S=some (.bl false):=by
 have:=(inP_strs (hK x h) hK).1
 rw [any_mem.mpr h] at this
 simp [gNotIn,inG,dKeys,this]
theorem gIn_no {x:Str}{K:List Str} (hx:strOk x) (hK:∀y ∈ K,strOk y) (h:x ∉ K) (S:Sto):gIn (.p (.str x)) (.p (.lst (sts K))) S=some (.bl false):=by
 have:=(inP_strs hx hK).1
 have e:(K.any fun y=>decide (y=x))=false:=by
  cases q:K.any fun y=>decide (y=x) with
  | false=>rfl
  | true=>exact absurd (any_mem.mp q) h
 rw [e] at this
 simp [gIn,inG,dKeys,this]
theorem words_ok:∀y ∈ [("or":Str),"and","not","true"],strOk y:=by
 intro y hy
 simp only [List.mem_cons,List.not_mem_nil,or_false] at hy
 unfold strOk
 rcases hy with rfl | rfl | rfl | rfl <;> decide +kernel
theorem not_word {x:Str} (h:nameB x=true) (S:Sto):gNotIn (.p (.str x)) (.p (.tup [.str "or",.str "and",.str "not",.str "true"])) S=some (.bl true):=by
 have:inP (.str x) (.tup (sts [("or":Str),"and","not","true"]))=_:=(inP_strs (name_ok h) words_ok).2
 rw [name_not h] at this
 have e:inP (.str x) (.tup [.str "or",.str "and",.str "not",.str "true"])=some false:=this
 simp [gNotIn,inG,dKeys,e]
noncomputable def NameOk (ψ:Str->GF):Prop:=∀x:Str,nameB x=true->pureOf (ψ "is_name") [.str x]=some (.bl true)
theorem isname_all (n:Nat):NameOk (Psi Gv Att Tb (n+4)):=fun x h=>by
 have e1:pureOf (Psi Gv Att Tb (n+2+1) "is_made_of") [.str x,.str "abcdefghijklmnopqrstuvwxyz"]=some (.bl true):=made_ok (n+1) h
 have e2:=not_word h []
 have hl:=name_len h
 have l1:(1:Int)≤(x.length:Int):=by lia
 have l2:(x.length:Int)≤10:=by lia
 have l3:x.length≤1000000:=by lia
 have l4:1≤x.length:=hl.1
 have l5:x.length≤10:=hl.2
 rw [e_n_is_name,pureOf_fn]
 simp [b_n_is_name,lenD,lenP,l3,l1,l2,l4,l5,e1,e2]
noncomputable def NamesOk (ψ:Str->GF):Prop:=∀K:List Str,K.length≤4000->(∀x ∈ K,nameB x=true)->pureOf (ψ "are_names") [.lst (sts K)]=some (.bl true)
theorem names_all (n:Nat):NamesOk (Psi Gv Att Tb (n+6)):=fun K hl h=>by
 have e1:∀q,compGo (gSet 1) bYes (vCall (pureOf (Psi Gv Att Tb (n+4+1) "is_name")) (vsCons (vE (eVar 1)) vsNil)) (sts K) [some (.p (.lst (sts K))),q] []=some (K.map fun _=>P.bl true,[]):=
  comp_map (f:=P.str) (g:=fun _=>P.bl true) (S:=[]) (tgt:=gSet 1) (fun q=>[some (.p (.lst (sts K))),q]) (fun _ _=>rfl) (xs:=K) (fun x hx=>by
   have:=isname_all (n+1) x (h x hx)
   have e:pureOf (Psi Gv Att Tb (n+4+1) "is_name") [.str x]=some (.bl true):=this
   simp [e])
 have e2:=all_true K
 have l1:K.length≤1000000:=by lia
 rw [e_n_are_names,pureOf_fn]
 generalize (K.map fun _=>P.bl true)=ys at *
 simp [b_n_are_names,vComp,l1,upL,e1,e2]
theorem keys_sts (K:List Str):keysL (sts K)=some (K.map .inr):=by
 induction K with
 | nil=>rfl
 | cons x K ih=>
  show (keyOf (.str x)).bind (fun k=>(keysL (sts K)).map (k::·))=_
  rw [ih];rfl
theorem set_sts {K:List Str} (h:K.Nodup) (hl:K.length≤4000):setN (sts K)=some K.length:=by
 unfold setN
 rw [keys_sts]
 have:(K.map (Sum.inr:Str->Key)).Nodup:=List.pairwise_map.mpr (h.imp fun hne e=>hne (Sum.inr.inj e))
 dsimp only
 rw [if_pos ⟨this,by simpa using hl⟩]
 simp
noncomputable def UnlikeOk (ψ:Str->GF):Prop:=∀K:List Str,K.length≤4000->K.Nodup->(∀x ∈ K,nameB x=true)->pureOf (ψ "are_unlike_names") [.lst (sts K)]=some (.bl true)
theorem unlike_all (n:Nat):UnlikeOk (Psi Gv Att Tb (n+8)):=fun K hl hn h=>by
 have e1:pureOf (Psi Gv Att Tb (n+6+1) "are_names") [.lst (sts K)]=some (.bl true):=names_all (n+1) K hl h
 have e2:=set_sts hn hl
 rw [e_n_are_unlike_names,pureOf_fn]
 simp [b_n_are_unlike_names,e1,e2,lenD,lenP]
theorem cell_ok (n:Nat) {c:Cel} (h:CelOk c):pureOf (Psi Gv Att Tb (n+2) "is_cell") [celP c]=some (.bl true):=by
 obtain⟨h1,h2,h3⟩:=h
 have h4:0≤c.high-c.low:=by lia
 have h5:c.low≤c.high:=by lia
 rw [e_n_is_cell,pureOf_fn]
 simp [b_n_is_cell,celP,h1,h2,h3,h4,h5]
end My
namespace My
open PySem L2 Ev
theorem cname_comp {S:Sto} (cs:List Cel) (a0 a1 a2 a3 a4 a5 a6 a7 q:Option D):compGo (gSet 8) bYes (vOp dIx (vE (eVar 8)) (vC (.int 0))) (cs.map celP) [a0,a1,a2,a3,a4,a5,a6,a7,q] S=some (sts (cs.map Cel.name),S):=by
 have:=comp_map (f:=celP) (g:=fun c=>P.str c.name) (S:=S) (tgt:=gSet 8) (e:=vOp dIx (vE (eVar 8)) (vC (.int 0))) (fun q=>[a0,a1,a2,a3,a4,a5,a6,a7,q]) (fun _ _=>rfl) (xs:=cs) (fun c _=>by simp [celP]) q
 rw [this];simp [sts]
theorem StepOk.name {f:Fam}{rds:List Road}{k:Nat}{v:P} (h:StepOk f rds k v):dIx v (.int 0)=some (.str (nm k 7)):=by
 obtain⟨a,wh,t,chs,sd,go,rfl,_⟩:=h
 rfl
theorem snames {f:Fam}{rds:List Road} (h:Stps rds f) {j:Nat}{S:Sto} (Lf:Option D->Lc) (hT:∀q v,gSet j v (Lf q)=some (Lf (some (.p v)))) (hg:∀q,(Lf q)[j]? = some q) (q:Option D):compGo (gSet j) bYes (vOp dIx (vE (eVar j)) (vC (.int 0))) f.steps (Lf q) S=some (sts ((List.range f.steps.length).map (nm · 7)),S):=by
 have key:∀(xs:List P) (k:Nat),(∀i v,xs[i]? = some v->StepOk f rds (k+i) v)->∀q,compGo (gSet j) bYes (vOp dIx (vE (eVar j)) (vC (.int 0))) xs (Lf q) S=some (sts ((List.range' k xs.length).map (nm · 7)),S):=by
  intro xs
  induction xs with
  | nil=>intro k _ q;rfl
  | cons x xs ih=>
   intro k hx q
   have e0:=(hx 0 x rfl).name
   have e1:=ih (k+1) (fun i v hv=>by rw [show k+1+i=k+(i+1) by lia];exact hx (i+1) v (by simpa using hv)) (some (.p x))
   have g1:=hg (some (.p x))
   rw [List.length_cons,List.range'_succ,List.map_cons]
   rw [show k+0=k from rfl] at e0
   unfold compGo
   rw [hT]
   simp only [bYes_ev,bnd_some,if_true,vOp_ev,vE_ev,eVar_ev,g1,toP_p,vC_ev,e0,Option.map_some,e1]
   rfl
 have:=key f.steps 0 (fun i v hv=>by rw [Nat.zero_add];exact h.ok i v hv) q
 rw [this,<- List.range_eq_range']
theorem cells_all_comp {ψ:Str->GF} (hc:∀c,CelOk c->pureOf (ψ "is_cell") [celP c]=some (.bl true)) {cs:List Cel} (h:∀c ∈ cs,CelOk c) (a0 a1 a2 a3 a4 a5 a6 a7 q:Option D):compGo (gSet 8) bYes (vCall (pureOf (ψ "is_cell")) (vsCons (vE (eVar 8)) vsNil)) (cs.map celP) [a0,a1,a2,a3,a4,a5,a6,a7,q] []=some (cs.map fun _=>P.bl true,[]):=
 comp_map (f:=celP) (g:=fun _=>P.bl true) (S:=[]) (tgt:=gSet 8) (fun q=>[a0,a1,a2,a3,a4,a5,a6,a7,q]) (fun _ _=>rfl) (xs:=cs) (fun c hcm=>by simp [hc c (h c hcm)]) q
theorem family_body {ψ:Str->GF} (ι:Str->GF) (hu:UnlikeOk ψ) (hc:∀c,CelOk c->pureOf (ψ "is_cell") [celP c]=some (.bl true)) {f:Fam}{rds:List Road} (hf:FamOk f) (hs:Stps rds f):pureOf (fnR 1 8 (b_n_is_family ψ ι)) [famP f]=some (.bl true):=by
 obtain⟨f1,f2,f3,f4,f5,f6,f7,f8,f9,f10,f11⟩:=id hf
 have u1:=hu f.rooms (by lia) f4 f5
 have u2:=hu (f.cells.map Cel.name++f.whos) (by simp;lia) f7 f8
 have hsl:=hs.ln
 have u3:=hu ((List.range f.steps.length).map (nm · 7)) (by simp;lia) (nodup_nm _ hsl) (fun x hx=>(name_nm hsl hx).1)
 have cn:=fun a0 a1 a2 a3 a4 a5 a6 a7 q=>cname_comp (S:=[]) f.cells a0 a1 a2 a3 a4 a5 a6 a7 q
 have sn:=fun a0 a1 a2 a3 a4 a5 a6 a7 q=>snames hs (j:=8) (S:=[]) (fun q=>[a0,a1,a2,a3,a4,a5,a6,a7,q]) (fun _ _=>rfl) (fun _=>rfl) q
 have ca:=fun a0 a1 a2 a3 a4 a5 a6 a7 q=>cells_all_comp hc f10 a0 a1 a2 a3 a4 a5 a6 a7 q
 have at1:=all_true f.cells
 have it1:=gIn_no (x:="it") (K:=f.cells.map Cel.name) ko_it (fun x hx=>name_ok (hf.cs x hx)) f9 []
 have l1:¬f.hands < 1:=by lia
 have l2:(1:Int)≤(f.rooms.length:Int):=by lia
 have l3:(f.rooms.length:Int)≤8:=by lia
 have l4:¬(3:Int) < (f.cells.length:Int):=by lia
 have l5:¬(2:Int) < (f.whos.length:Int):=by lia
 have l6:¬(8:Int) < (f.steps.length:Int):=by lia
 have l7:f.cells.length≤1000000:=by lia
 have l8:f.steps.length≤1000000:=by lia
 have l9:f.cells.length+f.whos.length≤1000000:=by lia
 have sa:sts (f.cells.map Cel.name)++sts f.whos=sts (f.cells.map Cel.name++f.whos):=sts_app ..
 rw [pureOf_fn]
 simp only [List.map_cons,List.map_nil,List.length_cons,List.length_nil,List.cons_append,List.nil_append,Nat.reduceAdd,Nat.reduceSub,List.replicate_succ,List.replicate_zero,if_true]
 unfold b_n_is_family
 rw [seq_nx (L1:=[some (.p (famP f)),some (.p (.str f.name)),some (.p (.int f.hands)),some (.p (.lst (sts f.rooms))),some (.p (.lst (f.cells.map celP))),some (.p (.lst (sts f.whos))),some (.p (.lst f.steps)),none]) (S1:=[]) (by simp [famP])]
 rw [seq_nx (L1:=[some (.p (famP f)),some (.p (.str f.name)),some (.p (.int f.hands)),some (.p (.lst (sts f.rooms))),some (.p (.lst (f.cells.map celP))),some (.p (.lst (sts f.whos))),some (.p (.lst f.steps)),some (.p (.lst (sts (f.cells.map Cel.name))))]) (S1:=[]) (by simp [vComp,l7,upL,cn])]
 rw [seq_nx (L1:=[some (.p (famP f)),some (.p (.str f.name)),some (.p (.int f.hands)),some (.p (.lst (sts f.rooms))),some (.p (.lst (f.cells.map celP))),some (.p (.lst (sts f.whos))),some (.p (.lst f.steps)),some (.p (.lst (sts (f.cells.map Cel.name))))]) (S1:=[]) (by simp [l1,lenD,lenP,l2,l3])]
 rw [seq_nx (L1:=[some (.p (famP f)),some (.p (.str f.name)),some (.p (.int f.hands)),some (.p (.lst (sts f.rooms))),some (.p (.lst (f.cells.map celP))),some (.p (.lst (sts f.whos))),some (.p (.lst f.steps)),some (.p (.lst (sts (f.cells.map Cel.name))))]) (S1:=[]) (by simp [lenD,lenP,l4,l5,l6])]
 rw [seq_nx (L1:=[some (.p (famP f)),some (.p (.str f.name)),some (.p (.int f.hands)),some (.p (.lst (sts f.rooms))),some (.p (.lst (f.cells.map celP))),some (.p (.lst (sts f.whos))),some (.p (.lst f.steps)),some (.p (.lst (sts (f.cells.map Cel.name))))]) (S1:=[]) (by simp [u1,l9,sa,u2])]
 rw [seq_nx (L1:=[some (.p (famP f)),some (.p (.str f.name)),some (.p (.int f.hands)),some (.p (.lst (sts f.rooms))),some (.p (.lst (f.cells.map celP))),some (.p (.lst (sts f.whos))),some (.p (.lst f.steps)),some (.p (.lst (sts (f.cells.map Cel.name))))]) (S1:=[]) (by simp [it1,vComp,l8,upL,sn,u3])]
 generalize (f.cells.map fun _=>P.bl true)=ys at *
 simp [vComp,l7,upL,ca,at1]
noncomputable def FamilyOk (ψ:Str->GF) (rds:List Road):Prop:=∀f:Fam,FamOk f->Stps rds f->pureOf (ψ "is_family") [famP f]=some (.bl true)
theorem family_all (n:Nat) (rds:List Road):FamilyOk (Psi Gv Att Tb (n+10)) rds:=fun f hf hs=>by
 have e:=family_body (ψ:=Psi Gv Att Tb (n+8+1)) (Psi Gv Att Tb (n+8)) (unlike_all (n+1)) (fun c hc=>cell_ok (n+7) hc) hf hs
 rw [<- e];exact congrArg (fun g=>pureOf g [famP f]) (e_n_is_family (n+8))
theorem nums_sum (xs:List Int):c_sum [.lst (xs.map P.int)]=some (.int xs.sum):=by
 have h:∀xs:List Int,Ev.numsOf (xs.map P.int)=some xs:=by
  intro xs
  induction xs with
  | nil=>rfl
  | cons x xs ih=>simp [Ev.numsOf,ih]
 show (Ev.numsOf _).map _=_
 rw [h];rfl
theorem families_body {ψ:Str->GF} (ι:Str->GF) {rds:List Road} (hu:UnlikeOk ψ) (hfa:FamilyOk ψ rds) {kinds:Int}{fs:List Fam} (hF:Fams kinds fs) (hS:∀f ∈ fs,Stps rds f):pureOf (fnR 1 1 (b_n_are_families ψ ι)) [.lst (fs.map famP)]=some (.bl true):=by
 have hnm:=hF.names
 have u1:=hu (fs.map Fam.name) (by simp;have:=hF.l2;lia) hnm.1 hnm.2
 have c1:∀q,compGo (gSet 1) bYes (vOp dIx (vE (eVar 1)) (vC (.int 0))) (fs.map famP) [some (.p (.lst (fs.map famP))),q] []=some (sts (fs.map Fam.name),[]):=fun q=>by
  have:=comp_map (f:=famP) (g:=fun f=>P.str f.name) (S:=[]) (tgt:=gSet 1) (e:=vOp dIx (vE (eVar 1)) (vC (.int 0))) (fun q=>[some (.p (.lst (fs.map famP))),q]) (fun _ _=>rfl) (xs:=fs) (fun c _=>by simp [famP]) q
  rw [this];simp [sts]
 have c2:∀q,compGo (gSet 1) bYes (vCall (pureOf (ψ "is_family")) (vsCons (vE (eVar 1)) vsNil)) (fs.map famP) [some (.p (.lst (fs.map famP))),q] []=some (fs.map fun _=>P.bl true,[]):=fun q=>
  comp_map (f:=famP) (g:=fun _=>P.bl true) (S:=[]) (tgt:=gSet 1) (fun q=>[some (.p (.lst (fs.map famP))),q]) (fun _ _=>rfl) (xs:=fs) (fun f hf=>by simp [hfa f (hF.ok f hf) (hS f hf)]) q
 have c3:∀q,compGo (gSet 1) bYes (vOp dIx (vE (eVar 1)) (vC (.int 1))) (fs.map famP) [some (.p (.lst (fs.map famP))),q] []=some ((fs.map Fam.hands).map P.int,[]):=fun q=>by
  have:=comp_map (f:=famP) (g:=fun f=>P.int f.hands) (S:=[]) (tgt:=gSet 1) (e:=vOp dIx (vE (eVar 1)) (vC (.int 1))) (fun q=>[some (.p (.lst (fs.map famP))),q]) (fun _ _=>rfl) (xs:=fs) (fun c _=>by simp [famP]) q
  rw [this];simp
 have a1:=all_true fs
 have sm:=nums_sum (fs.map Fam.hands)
 have hs:=hF.sum
 have l1:(1:Int)≤(fs.length:Int):=by have:=hF.l1;lia
 have l2:(fs.length:Int)≤4:=by have:=hF.l2;lia
 have l3:fs.length≤1000000:=by have:=hF.l2;lia
 rw [pureOf_fn]
 have ln:(fs.map famP).length=fs.length:=by simp
 generalize (fs.map fun _=>P.bl true)=ys at *
 generalize ((fs.map Fam.hands).map P.int)=zs at *
 generalize (fs.map Fam.hands).sum=z at *
 generalize fs.map famP=fp at *
 simp [b_n_are_families,lenD,lenP,ln,l1,l2,vComp,l3,upL,c1,u1,c2,a1,c3,sm,hs]
noncomputable def FamiliesOk (ψ:Str->GF) (rds:List Road):Prop:=∀(kinds:Int) (fs:List Fam),Fams kinds fs->(∀f ∈ fs,Stps rds f)->pureOf (ψ "are_families") [.lst (fs.map famP)]=some (.bl true)
theorem families_all (n:Nat) (rds:List Road):FamiliesOk (Psi Gv Att Tb (n+12)) rds:=fun kinds fs hF hS=>by
 have e:=families_body (ψ:=Psi Gv Att Tb (n+10+1)) (Psi Gv Att Tb (n+10)) (unlike_all (n+3)) (family_all (n+1) rds) hF hS
 rw [<- e];exact congrArg (fun g=>pureOf g [.lst (fs.map famP)]) (e_n_are_families (n+10))
end My
namespace My
open PySem L2 Ev
@[simp] theorem ko_row:PyData.strOk ("row":Str)=true:=by decide +kernel
@[simp] theorem ko_heap:PyData.strOk ("heap":Str)=true:=by decide +kernel
theorem kind_in {k:Str} (h:k="row"\/k="heap") (S:Sto):gIn (.p (.str k)) (.p (.tup [.str "row",.str "heap"])) S=some (.bl true):=by
 have hk:k ∈ [("row":Str),"heap"]:=by simpa using h
 have hok:∀y ∈ [("row":Str),"heap"],strOk y:=by
  intro y hy
  simp only [List.mem_cons,List.not_mem_nil,or_false] at hy
  rcases hy with rfl | rfl <;> simp [strOk]
 have:inP (.str k) (.tup (sts [("row":Str),"heap"]))=_:=(inP_strs (hok k hk) hok).2
 rw [any_mem.mpr hk] at this
 have e:inP (.str k) (.tup [.str "row",.str "heap"])=some true:=this
 simp [gIn,inG,dKeys,e]
theorem road_ok (n:Nat) {Ns:List Str} (hN:∀x ∈ Ns,strOk x) {r:Road} (h:RoadOk Ns r):pureOf (Psi Gv Att Tb (n+2) "is_road") [roadP r,.lst (sts Ns)]=some (.bl true):=by
 obtain⟨h1,h2,h3,h4,h5⟩:=h
 have g1:=gIn_yes hN h1 []
 have g2:=gIn_yes hN h2 []
 have g3:=kind_in h3 []
 rw [e_n_is_road,pureOf_fn]
 simp [b_n_is_road,roadP,g1,g2,g3,h4,h5]
theorem keys_pairs {rds:List Road} (h:rds≠[]):keysL (rds.map pairP)=none:=by
 cases rds with
 | nil=>exact absurd rfl h
 | cons r rs=>rfl
theorem tups_pairs:∀rds:List Road,tupsL (rds.map pairP)=some (rds.map fun r=>[(.inr r.one:Key),.inr r.other])
 | []=>rfl
 | r::rs=>by
  show (tupK (pairP r)).bind (fun k=>(tupsL (rs.map pairP)).map (k::·))=_
  rw [tups_pairs rs];rfl
theorem set_pairs {rds:List Road} (h:(rds.map fun r=>(r.one,r.other)).Nodup) (hl:rds.length≤8):setN (rds.map pairP)=some rds.length:=by
 by_cases he:rds=[]
 ·subst he;rfl
 ·unfold setN
  rw [keys_pairs he,tups_pairs]
  have:(rds.map fun r=>[(.inr r.one:Key),.inr r.other]).Nodup:=by
   refine List.pairwise_map.mpr ((List.pairwise_map.mp h).imp fun hne e=>hne ?_)
   injection e with e1 e2
   injection e2 with e2 _
   rw [Sum.inr.inj e1,Sum.inr.inj e2]
  dsimp only
  rw [if_pos ⟨this,by simp;lia⟩]
  simp
theorem roads_chk {ψ:Str->GF} (ι:Str->GF) (hro:∀{Ns:List Str}{r:Road},(∀x ∈ Ns,strOk x)->RoadOk Ns r->pureOf (ψ "is_road") [roadP r,.lst (sts Ns)]=some (.bl true)) {fs:List Fam}{rds:List Road} (hfl:fs.length≤4) (hN:∀x ∈ fs.map Fam.name,strOk x) (hR:Rds (fs.map Fam.name) rds) (hl:rds.length≤8):pureOf (fnR 2 3 (b_n_are_roads ψ ι)) [.lst (rds.map roadP),.lst (fs.map famP)]=some (.bl true):=by
 have c1:∀a0 a1 a2 q,compGo (gSet 3) bYes (vOp dIx (vE (eVar 3)) (vC (.int 0))) (fs.map famP) [a0,a1,a2,q] []=some (sts (fs.map Fam.name),[]):=fun a0 a1 a2 q=>by
  have:=comp_map (f:=famP) (g:=fun f=>P.str f.name) (S:=[]) (tgt:=gSet 3) (e:=vOp dIx (vE (eVar 3)) (vC (.int 0))) (fun q=>[a0,a1,a2,q]) (fun _ _=>rfl) (xs:=fs) (fun c _=>by simp [famP]) q
  rw [this];simp [sts]
 have c2:∀a0 a1 q,compGo (gSet 3) bYes (vCall (pureOf (ψ "is_road")) (vsCons (vE (eVar 3)) (vsCons (vE (eVar 2)) vsNil))) (rds.map roadP) [a0,a1,some (.p (.lst (sts (fs.map Fam.name)))),q] []=some (rds.map fun _=>P.bl true,[]):=fun a0 a1 q=>
  comp_map (f:=roadP) (g:=fun _=>P.bl true) (S:=[]) (tgt:=gSet 3) (fun q=>[a0,a1,some (.p (.lst (sts (fs.map Fam.name)))),q]) (fun _ _=>rfl) (xs:=rds) (fun r hr=>by simp [hro hN (hR.ok r hr)]) q
 have c3:∀a0 a1 a2 q,compGo (gSet 3) bYes (vSl2 (vE (eVar 3)) oNone (oSome (vC (.int 2)))) (rds.map roadP) [a0,a1,a2,q] []=some (rds.map pairP,[]):=fun a0 a1 a2 q=>
  comp_map (f:=roadP) (g:=pairP) (S:=[]) (tgt:=gSet 3) (fun q=>[a0,a1,a2,q]) (fun _ _=>rfl) (xs:=rds) (fun r hr=>by
   have:dSl2 (roadP r) none (some 2)=some (pairP r):=rfl
   simp [oNone,oSome,this]) q
 have a1:=all_true rds
 have st:=set_pairs hR.nd hl
 have l1:fs.length≤1000000:=by lia
 have l2:rds.length≤1000000:=by lia
 have l3:¬(8:Int) < (rds.length:Int):=by lia
 have ln1:(fs.map famP).length=fs.length:=by simp
 have ln2:(rds.map roadP).length=rds.length:=by simp
 rw [pureOf_fn]
 generalize (rds.map fun _=>P.bl true)=ys at *
 generalize rds.map roadP=rp at *
 generalize fs.map famP=fp at *
 simp [b_n_are_roads,vComp,ln1,l1,upL,c1,lenD,lenP,ln2,l2,l3,c2,a1,c3,st]
noncomputable def RoadsChk (ψ:Str->GF):Prop:=∀{fs:List Fam}{rds:List Road},fs.length≤4->(∀x ∈ fs.map Fam.name,strOk x)->Rds (fs.map Fam.name) rds->rds.length≤8->pureOf (ψ "are_roads") [.lst (rds.map roadP),.lst (fs.map famP)]=some (.bl true)
theorem roadsc_all (n:Nat):RoadsChk (Psi Gv Att Tb (n+4)):=fun {fs rds} h1 h2 h3 h4=>by
 have e:=roads_chk (ψ:=Psi Gv Att Tb (n+2+1)) (Psi Gv Att Tb (n+2)) (fun hN hr=>road_ok (n+1) hN hr) h1 h2 h3 h4
 rw [<- e];exact congrArg (fun g=>pureOf g [.lst (rds.map roadP),.lst (fs.map famP)]) (e_n_are_roads (n+2))
theorem wkind_in {k:Str} (h:k="weak"\/k="strong") (S:Sto):gNotIn (.p (.str k)) (.p (.tup [.str "weak",.str "strong"])) S=some (.bl false):=by
 have hk:k ∈ [("weak":Str),"strong"]:=by simpa using h
 have hok:∀y ∈ [("weak":Str),"strong"],strOk y:=by
  intro y hy
  simp only [List.mem_cons,List.not_mem_nil,or_false] at hy
  unfold strOk
  rcases hy with rfl | rfl <;> decide +kernel
 have:inP (.str k) (.tup (sts [("weak":Str),"strong"]))=_:=(inP_strs (hok k hk) hok).2
 rw [any_mem.mpr hk] at this
 have e:inP (.str k) (.tup [.str "weak",.str "strong"])=some true:=this
 simp [gNotIn,inG,dKeys,e]
theorem wish_find (ψ ι:Str->GF) {rds:List Road}{j:Nat} (a0 a1 a2:Option D):∀{fs:List Fam}{f:Fam} (q5:Option D),(∀g ∈ fs,Stps rds g)->(fs.map Fam.name).Nodup->f ∈ fs->j < f.steps.length ->
  ∃L',forGo (gSet 5) (b_n_is_wish_L1 ψ ι) (fs.map famP) [a0,a1,a2,some (.p (.str f.name)),some (.p (.str (nm j 7))),q5] []=some (.rt (.p (.bl true)),L',[])
 | [],f,q5,_,_,h,_=>by cases h
 | g::fs,f,q5,hS,hnd,h,hj=>by
  by_cases he:g.name=f.name
  ·have hgf:g=f:=by
    rcases List.mem_cons.mp h with q | q
    ·exact q.symm
    ·have:=(List.nodup_cons.mp (by simpa using hnd:(g.name::fs.map Fam.name).Nodup)).1
     exact absurd (by rw [he];exact List.mem_map_of_mem q) this
   subst hgf
   have hs:=hS g List.mem_cons_self
   have sn:=fun a0 a1 a2 a3 a4 a5 q=>snames hs (j:=6) (S:=[]) (fun q=>[a0,a1,a2,a3,a4,a5,q]) (fun _ _=>rfl) (fun _=>rfl) q
   have l1:g.steps.length≤1000000:=by have:=hs.ln;lia
   have gi:=gIn_yes (K:=(List.range g.steps.length).map (nm · 7)) (fun x hx=>name_ok (name_nm hs.ln hx).1) (List.mem_map.mpr ⟨j,List.mem_range.mpr hj,rfl⟩) []
   have d5:dIx (famP g) (.int 5)=some (.lst g.steps):=by unfold famP;rw [dIx_tup];exact at5 _ _ _ _ _ _ _
   have d0:dIx (famP g) (.int 0)=some (.str g.name):=rfl
   refine⟨[a0,a1,a2,some (.p (.str g.name)),some (.p (.str (nm j 7))),some (.p (famP g))],forGo_rt rfl ?_⟩
   show b_n_is_wish_L1 ψ ι [a0,a1,a2,some (.p (.str g.name)),some (.p (.str (nm j 7))),some (.p (famP g))] []=_
   generalize famP g=gp at *
   simp [b_n_is_wish_L1,d0,d5,vComp,l1,upL,sn,gi]
  ·have hf:f ∈ fs:=by
    rcases List.mem_cons.mp h with q | q
    ·exact absurd (by rw [q]) he
    ·exact q
   obtain⟨L',e⟩:=wish_find ψ ι (rds:=rds) (j:=j) a0 a1 a2 (fs:=fs) (f:=f) (some (.p (famP g))) (fun x hx=>hS x (List.mem_cons_of_mem _ hx)) (List.nodup_cons.mp (by simpa using hnd:(g.name::fs.map Fam.name).Nodup)).2 hf hj
   refine⟨L',?_⟩
   rw [List.map_cons]
   refine (forGo_nx rfl ?_).trans e
   show b_n_is_wish_L1 ψ ι [a0,a1,a2,some (.p (.str f.name)),some (.p (.str (nm j 7))),some (.p (famP g))] []=_
   have d0:dIx (famP g) (.int 0)=some (.str g.name):=rfl
   generalize famP g=gp at *
   simp [b_n_is_wish_L1,d0,he]
theorem wish_ok (n:Nat) {fs:List Fam}{rds:List Road} (hS:∀g ∈ fs,Stps rds g) (hnd:(fs.map Fam.name).Nodup) {w:P} (h:WishOk fs w):pureOf (Psi Gv Att Tb (n+2) "is_wish") [w,.lst (fs.map famP)]=some (.bl true):=by
 obtain⟨kd,k,j,f,rfl,hkd,hf,hj⟩:=h
 have g1:=wkind_in hkd []
 obtain⟨L',e⟩:=wish_find (Psi Gv Att Tb (n+1)) (Psi Gv Att Tb n) (rds:=rds) (j:=j) (some (.p (.tup [.str kd,.str f.name,.str (nm j 7)]))) (some (.p (.lst (fs.map famP)))) (some (.p (.str kd))) none hS hnd (List.mem_of_getElem? hf) hj
 rw [e_n_is_wish,pureOf_fn]
 generalize fs.map famP=fp at *
 simp [b_n_is_wish,g1,e]
end My
namespace My
open PySem L2 Ev
noncomputable def atomP:P->Prop
 | .str _=>True
 | .int _=>True
 | _=>False
inductive Forest (K:List Str):Nat->List P->Prop
 | nil:Forest K 0 []
 | nm {w:Nat}{r:List P}{x:Str}:x ∈ K->Forest K w r->Forest K (w+1) (r++[.tup [.str "name",.str x]])
 | nd {w w1:Nat}{r as ts:List P}{s:Str}:s≠"name"->(∀a ∈ as,atomP a)->as.length≤5->Forest K w1 ts->Forest K w r->Forest K (w1+w+1) (r++[.tup (.str s::(as++ts))])
theorem Forest.append {K:List Str}{w1 w2:Nat}{a b:List P} (ha:Forest K w1 a) (hb:Forest K w2 b):Forest K (w1+w2) (a++b):=by
 induction hb with
 | nil=>simpa using ha
 | nm hx _ ih=>rw [<- List.append_assoc,show ∀w,w1+(w+1)=w1+w+1 from fun _=>rfl];exact .nm hx ih
 | @nd w w2 r as ts s hs hat hl ht _ _ ih=>
  rw [<- List.append_assoc,show w1+(w2+w+1)=w2+(w1+w)+1 by lia]
  exact .nd hs hat hl ht ih
theorem Forest.len {K:List Str}{w:Nat}{r:List P} (h:Forest K w r):r.length≤w:=by
 induction h with
 | nil=>simp
 | nm _ _ ih=>simp;lia
 | nd _ _ _ _ _ _ ih=>simp;lia
theorem Forest.tup {K:List Str}{w:Nat}{r:List P} (h:Forest K w r):∀t ∈ r,∃ys,t=.tup ys:=by
 induction h with
 | nil=>intro t ht;cases ht
 | nm _ _ ih=>
  intro t ht
  rcases List.mem_append.mp ht with q | q
  ·exact ih t q
  ·exact⟨_,List.mem_singleton.mp q⟩
 | nd _ _ _ _ _ _ ih=>
  intro t ht
  rcases List.mem_append.mp ht with q | q
  ·exact ih t q
  ·exact⟨_,List.mem_singleton.mp q⟩
theorem f_leaf {K:List Str}{v:P} (h:isLeaf K v):Forest K 1 [v]:=by
 rcases h with ⟨x,hx,rfl⟩ | ⟨i,rfl⟩
 ·exact .nm hx .nil
 ·exact Forest.nd (r:=[]) (as:=[.int i]) (ts:=[]) (s:="number") (by decide +kernel) (fun a ha=>by rw [List.mem_singleton.mp ha];trivial) (by simp) .nil .nil
theorem f_small {K:List Str}{v:P} (h:isSmall K v):∃w,w≤3/\Forest K w [v]:=by
 rcases h with h | ⟨o,a,b,ho,ha,hb,rfl⟩
 ·exact⟨1,by lia,f_leaf h⟩
 ·refine⟨_,?_,Forest.nd (r:=[]) (as:=[]) (ts:=[a,b]) (s:=o) (by rcases ho with rfl | rfl | rfl <;> decide +kernel) (fun a ha=>by cases ha) (by simp) ((f_leaf ha).append (f_leaf hb)) .nil⟩
  lia
theorem f_cmp {K:List Str}{v:P} (h:isCmp K v):∃w,w≤7/\Forest K w [v]:=by
 obtain⟨w,a,b,hw,ha,hb,rfl⟩:=h
 obtain⟨wa,la,fa⟩:=f_small ha
 obtain⟨wb,lb,fb⟩:=f_small hb
 refine⟨_,?_,Forest.nd (r:=[]) (as:=[.str w]) (ts:=[a,b]) (s:="is") (by decide +kernel) (fun a ha=>by rw [List.mem_singleton.mp ha];trivial) (by simp) (fa.append fb) .nil⟩
 lia
theorem f_when {K:List Str}{v:P} (h:isWhen K v):∃w,w≤15/\Forest K w [v]:=by
 rcases h with rfl | h | ⟨a,ha,rfl⟩ | ⟨o,a,b,ho,ha,hb,rfl⟩
 ·exact⟨_,by lia,Forest.nd (w:=0) (w1:=0) (r:=[]) (as:=[]) (ts:=[]) (s:="true") (by decide +kernel) (fun a ha=>by cases ha) (by simp) .nil .nil⟩
 ·obtain⟨w,lw,fw⟩:=f_cmp h
  exact⟨w,by lia,fw⟩
 ·obtain⟨w,lw,fw⟩:=f_cmp ha
  refine⟨_,?_,Forest.nd (r:=[]) (as:=[]) (ts:=[a]) (s:="not") (by decide +kernel) (fun a ha=>by cases ha) (by simp) fw .nil⟩
  lia
 ·obtain⟨wa,la,fa⟩:=f_cmp ha
  obtain⟨wb,lb,fb⟩:=f_cmp hb
  refine⟨_,?_,Forest.nd (r:=[]) (as:=[]) (ts:=[a,b]) (s:=o) (by rcases ho with rfl | rfl <;> decide +kernel) (fun a ha=>by cases ha) (by simp) (fa.append fb) .nil⟩
  lia
noncomputable def tupB (v:P):Bool:=isiP "tuple" v
theorem filt_as {as:List P} (h:∀a ∈ as,atomP a):as.filter tupB=[]:=by
 refine List.filter_eq_nil_iff.mpr fun a ha=>?_
 have:=h a ha
 cases a with
 | str _=>simp [tupB,isiP,tyN]
 | int _=>simp [tupB,isiP,tyN]
 | _=>exact this.elim
theorem filt_ts {ts:List P} (h:∀t ∈ ts,∃ys,t=.tup ys):ts.filter tupB=ts:=by
 refine List.filter_eq_self.mpr fun a ha=>?_
 obtain⟨ys,rfl⟩:=h a ha
 rfl
theorem tup_comp {S:Sto} (xs:List P) (a0 a1 a2 a3 q:Option D):compGo (gSet 4) (bT (eV (vIsi "tuple" (eVar 4)))) (vE (eVar 4)) xs [a0,a1,a2,a3,q] S=some (xs.filter tupB,S):=by
 have:=comp_filter (f:=id) (g:=id) (p:=tupB) (S:=S) (tgt:=gSet 4) (cd:=bT (eV (vIsi "tuple" (eVar 4)))) (e:=vE (eVar 4)) (fun q=>[a0,a1,a2,a3,q]) (fun _ _=>rfl) (xs:=xs) (fun v _=>⟨by simp [tupB],by simp⟩) q
 simpa using this
theorem ppD_last (r:List P) (t:P):(ppD (r++[t]))[(ppD (r++[t])).length-1]? = some (.p t):=by
 simp [ppD]
theorem ppD_drop (r:List P) (t:P):(ppD (r++[t])).dropLast=ppD r:=by
 simp [ppD]
theorem pop_ok (X:SO) (r:List P) (t:P) (a0 q:Option D):sSet 3 (ePop (eVar 2)) [a0,some (.ref 0),some (.ref 1),q] [X,.lst (ppD (r++[t]))]=some (.nx,[a0,some (.ref 0),some (.ref 1),some (.p t)],[X,.lst (ppD r)]):=by
 have o1:ownL (.ref 1) [X,.lst (ppD (r++[t]))]=some (1,ppD (r++[t])):=rfl
 have l1:=ppD_last r t
 have d1:=ppD_drop r t
 generalize ppD (r++[t])=ds at *
 simp [o1,l1,d1]
theorem nm_turn (ψ ι:Str->GF) (N:List Str) (hN:N.length≤5000) (r:List P) (x:Str) (a0 q:Option D):b_n_names_in_L1 ψ ι [a0,some (.ref 0),some (.ref 1),q] [.lst (ppD (sts N)),.lst (ppD (r++[.tup [.str "name",.str x]]))] =
  some (.nx,[a0,some (.ref 0),some (.ref 1),some (.p (.tup [.str "name",.str x]))],[.lst (ppD (sts (N++[x]))),.lst (ppD r)]):=by
 unfold b_n_names_in_L1
 refine (seq_nx (pop_ok ..)).trans ?_
 have o1:ownL (.ref 0) [.lst (ppD (sts N)),.lst (ppD r)]=some (0,ppD (sts N)):=rfl
 have l1:N.length≤1000000:=by lia
 have s1:ppD (sts (N++[x]))=ppD (sts N)++[.p (.str x)]:=by simp [sts,ppD]
 rw [s1]
 simp [o1,l1]
theorem nd_turn (ψ ι:Str->GF) (X:SO) (r as ts:List P) (s:Str) (hs:s≠"name") (has:∀a ∈ as,atomP a) (hal:as.length≤5) (hts:∀t ∈ ts,∃ys,t=.tup ys) (hl:r.length+ts.length≤5000) (a0 q:Option D):b_n_names_in_L1 ψ ι [a0,some (.ref 0),some (.ref 1),q] [X,.lst (ppD (r++[.tup (.str s::(as++ts))]))] =
  some (.nx,[a0,some (.ref 0),some (.ref 1),some (.p (.tup (.str s::(as++ts))))],[X,.lst (ppD (r++ts))]):=by
 unfold b_n_names_in_L1
 refine (seq_nx (pop_ok ..)).trans ?_
 have fl:(P.str s::(as++ts)).filter tupB=ts:=by
  rw [List.filter_cons_of_neg (by simp [tupB,isiP,tyN]),List.filter_append,filt_as has,filt_ts hts];rfl
 have tc:=fun a0 a1 a2 a3 q=>tup_comp (S:=[X,.lst (ppD r)]) (.str s::(as++ts)) a0 a1 a2 a3 q
 rw [fl] at tc
 have d0:dIx (.tup (.str s::(as++ts))) (.int 0)=some (.str s):=by simp
 have ln:(P.str s::(as++ts)).length≤1000000:=by simp;lia
 have o1:ownL (.ref 1) [X,.lst (ppD r)]=some (1,ppD r):=rfl
 have l2:r.length+ts.length≤1000000:=by lia
 have s1:ppD (r++ts)=ppD r++ts.map .p:=by simp [ppD]
 rw [s1]
 generalize P.str s::(as++ts)=ys at *
 simp [d0,hs,vComp,ln,upL,tc,o1,l2,-dIx_tup]
theorem names_loop (ψ ι:Str->GF) {K:List Str} (a0:Option D):∀(fuel w:Nat) {r:List P} (N:List Str) (q:Option D),Forest K w r->w < fuel->(∀x ∈ N,x ∈ K)->N.length+w≤1000 ->
  ∃(N':List Str) (q':Option D),(∀x ∈ N',x ∈ K)/\N'.length≤1000/\whileGo (bT (eVar 2)) (b_n_names_in_L1 ψ ι) fuel [a0,some (.ref 0),some (.ref 1),q] [.lst (ppD (sts N)),.lst (ppD r)]=some (.nx,[a0,some (.ref 0),some (.ref 1),q'],[.lst (ppD (sts N')),.lst []])
 | 0,w,r,N,q,h,hw,hN,hl=>absurd hw (Nat.not_lt_zero _)
 | fuel+1,w,r,N,q,h,hw,hN,hl=>by
  cases h with
  | nil=>exact⟨N,q,hN,by lia,whileGo_end (by simp [truD,ppD])⟩
  | @nm w r x hx hr=>
   obtain⟨N',q',a,b,e⟩:=names_loop ψ ι a0 fuel w (N++[x]) (some (.p (.tup [.str "name",.str x]))) hr (by lia) (fun y hy=>by
    rcases List.mem_append.mp hy with z | z
    ·exact hN y z
    ·rw [List.mem_singleton.mp z];exact hx) (by simp;lia)
   refine⟨N',q',a,b,(whileGo_nx ?_ (nm_turn ψ ι N (by lia) r x a0 q)).trans e⟩
   simp [truD]
  | @nd w w1 r as ts s hs has hal ht hr=>
   have hlt:=ht.len
   have hlr:=hr.len
   obtain⟨N',q',a,b,e⟩:=names_loop ψ ι a0 fuel (w+w1) N (some (.p (.tup (.str s::(as++ts))))) (hr.append ht) (by lia) hN (by lia)
   refine⟨N',q',a,b,(whileGo_nx ?_ (nd_turn ψ ι _ r as ts s hs has hal ht.tup (by lia) a0 q)).trans e⟩
   simp [truD]
theorem names_in_ok (n:Nat) {K:List Str}{w:Nat}{v:P} (h:Forest K w [v]) (hw:w≤20):∃N:List Str,(∀x ∈ N,x ∈ K)/\N.length≤1000/\pureOf (Psi Gv Att Tb (n+2) "names_in") [v]=some (.lst (sts N)):=by
 obtain⟨N,q,a,b,e⟩:=names_loop (Psi Gv Att Tb (n+1)) (Psi Gv Att Tb n) (some (.p v)) 1000 w [] none h (by lia) (fun _ h=>by cases h) (by simp;lia)
 refine⟨N,a,b,?_⟩
 have e':sWhile 1000 (bT (eVar 2)) (b_n_names_in_L1 (Psi Gv Att Tb (n+1)) (Psi Gv Att Tb n)) [some (.p v),some (.ref 0),some (.ref 1),none] [.lst [],.lst [.p v]]=some (.nx,[some (.p v),some (.ref 0),some (.ref 1),q],[.lst (ppD (sts N)),.lst []]):=e
 have tp:toP 9 (.ref 0) [.lst (ppD (sts N)),.lst []]=some (.lst (sts N),[.fz (.lst (sts N)),.lst []]):=toP_lst (vs:=sts N) rfl
 rw [e_n_names_in,pureOf_fn]
 simp [b_n_names_in,e',tp]
theorem among_ok (n:Nat) {N K:List Str} (h:∀x ∈ N,x ∈ K) (hl:N.length≤1000) (hK:∀x ∈ K,strOk x):pureOf (Psi Gv Att Tb (n+2) "are_among") [.lst (sts N),.lst (sts K)]=some (.bl true):=by
 have c1:∀a0 q,compGo (gSet 2) bYes (vOpE gIn (eVar 2) (eVar 1)) (sts N) [a0,some (.p (.lst (sts K))),q] []=some (N.map fun _=>P.bl true,[]):=fun a0 q=>
  comp_map (f:=P.str) (g:=fun _=>P.bl true) (S:=[]) (tgt:=gSet 2) (fun q=>[a0,some (.p (.lst (sts K))),q]) (fun _ _=>rfl) (xs:=N) (fun x hx=>by
   have:=gIn_yes hK (h x hx) []
   simp [this]) q
 have a1:=all_true N
 have l1:N.length≤1000000:=by lia
 rw [e_n_are_among,pureOf_fn]
 generalize (N.map fun _=>P.bl true)=ys at *
 simp [b_n_are_among,vComp,l1,upL,c1,a1]
end My
namespace My
open PySem L2 Ev
theorem bls_map {α:Type} (p:α->Bool):∀xs:List α,blsOf (xs.map fun x=>P.bl (p x))=some (xs.map p)
 | []=>rfl
 | x::xs=>by simp [blsOf,bls_map p xs]
theorem any_bls {α:Type}{p:α->Bool}{xs:List α} (h:∃x ∈ xs,p x=true):c_any [.lst (xs.map fun x=>P.bl (p x))]=some (.bl true):=by
 show (blsOf _).map _=_
 rw [bls_map]
 obtain⟨x,hx,hp⟩:=h
 have:(xs.map p).any id=true:=List.any_eq_true.mpr ⟨p x,List.mem_map_of_mem hx,hp⟩
 simp only [Option.map_some,this]
noncomputable def LeadsOk (ψ:Str->GF):Prop:=∀{rds:List Road}{a b:Str},rds.length≤8->LeadsP rds a b->pureOf (ψ "leads") [.lst (rds.map roadP),.str a,.str b]=some (.bl true)
theorem leads_all (n:Nat):LeadsOk (Psi Gv Att Tb (n+2)):=fun {rds a b} hl h=>by
 have c1:∀a0 q,compGo (gSet 3) bYes (vB (bAnd (bV (vOpE gEq (eV (vOp dIx (vE (eVar 3)) (vC (.int 0)))) (eVar 1))) (bV (vOpE gEq (eV (vOp dIx (vE (eVar 3)) (vC (.int 1)))) (eVar 2))))) (rds.map roadP) [a0,some (.p (.str a)),some (.p (.str b)),q] []=some (rds.map fun r=>P.bl (decide (r.one=a) && decide (r.other=b)),[]):=fun a0 q=>
  comp_map (f:=roadP) (g:=fun r=>P.bl (decide (r.one=a) && decide (r.other=b))) (S:=[]) (tgt:=gSet 3) (fun q=>[a0,some (.p (.str a)),some (.p (.str b)),q]) (fun _ _=>rfl) (xs:=rds) (fun r _=>by
   by_cases h1:r.one=a
   ·simp [roadP,h1]
   ·simp [roadP,h1]) q
 have a1:c_any [.lst (rds.map fun r=>P.bl (decide (r.one=a) && decide (r.other=b)))]=some (.bl true):=any_bls (by
  obtain⟨r,hr,h1,h2⟩:=h
  exact⟨r,hr,by simp [h1,h2]⟩)
 have l1:rds.length≤1000000:=by lia
 have ln:(rds.map roadP).length=rds.length:=by simp
 rw [e_n_leads,pureOf_fn]
 generalize (rds.map fun r=>P.bl (decide (r.one=a) && decide (r.other=b)))=ys at *
 generalize rds.map roadP=rp at *
 simp [b_n_leads,vComp,ln,l1,upL,c1,a1]
noncomputable def TakeFn (ψ:Str->GF):Prop:=∀{f:Fam}{rds:List Road}{t:Take},FamOk f->rds.length≤8->TakeOk f rds t->pureOf (ψ "is_take") [takeP (some t),famP f,.lst (sts (f.cells.map Cel.name)),.lst (rds.map roadP)]=some (.bl true)
theorem take_all (n:Nat):TakeFn (Psi Gv Att Tb (n+6)):=fun {f rds t} hf hl h=>by
 obtain⟨h1,h2,h3,h4⟩:=h
 have e1:pureOf (Psi Gv Att Tb (n+4+1) "is_name") [.str t.mark]=some (.bl true):=isname_all (n+1) _ h1
 have e2:pureOf (Psi Gv Att Tb (n+4+1) "leads") [.lst (rds.map roadP),.str t.sender,.str f.name]=some (.bl true):=leads_all (n+3) hl h2
 have d0:dIx (famP f) (.int 0)=some (.str f.name):=rfl
 have d4:dIx (famP f) (.int 4)=some (.lst (sts f.whos)):=by unfold famP;rw [dIx_tup];exact at4 _ _ _ _ _ _
 have i1:t.cell≠""->gIn (.p (.str t.cell)) (.p (.lst (sts (f.cells.map Cel.name)))) []=some (.bl true):=fun hne=>gIn_yes (fun x hx=>name_ok (hf.cs x hx)) (h3.resolve_left hne) []
 have i2:t.who≠""->gIn (.p (.str t.who)) (.p (.lst (sts f.whos))) []=some (.bl true):=fun hne=>gIn_yes (fun x hx=>name_ok (hf.ws x hx)) (h4.resolve_left hne) []
 rw [e_n_is_take,pureOf_fn]
 generalize rds.map roadP=rp at *
 generalize famP f=fp at *
 generalize P.lst (sts (f.cells.map Cel.name))=cl at *
 by_cases hc:t.cell=""
 ·by_cases hw:t.who=""
  ·simp [b_n_is_take,takeP,e1,e2,d0,d4,hc,hw]
  ·simp [b_n_is_take,takeP,e1,e2,d0,d4,hc,hw,i2 hw]
 ·by_cases hw:t.who=""
  ·simp [b_n_is_take,takeP,e1,e2,d0,d4,hc,hw,i1 hc]
  ·simp [b_n_is_take,takeP,e1,e2,d0,d4,hc,hw,i1 hc,i2 hw]
noncomputable def SumOk (ψ:Str->GF):Prop:=∀{K:List Str}{v:P},(∀x ∈ K,strOk x)->isSmall K v->∃N:List Str,pureOf (ψ "names_in") [v]=some (.lst (sts N))/\pureOf (ψ "are_among") [.lst (sts N),.lst (sts K)]=some (.bl true)
theorem sum_all (n:Nat):SumOk (Psi Gv Att Tb (n+2)):=fun {K v} hK h=>by
 obtain⟨w,hw,hf⟩:=f_small h
 obtain⟨N,a,b,e⟩:=names_in_ok n hf (by lia)
 exact⟨N,e,among_ok n a b hK⟩
theorem cond_all (n:Nat) {K:List Str}{v:P} (hK:∀x ∈ K,strOk x) (h:isWhen K v):∃N:List Str,pureOf (Psi Gv Att Tb (n+2) "names_in") [v]=some (.lst (sts N))/\pureOf (Psi Gv Att Tb (n+2) "are_among") [.lst (sts N),.lst (sts K)]=some (.bl true):=by
 obtain⟨w,hw,hf⟩:=f_when h
 obtain⟨N,a,b,e⟩:=names_in_ok n hf (by lia)
 exact⟨N,e,among_ok n a b hK⟩
theorem isNot_take (t:Option Take) (S:Sto):gIsNot (.p (takeP t)) (.p .non) S=some (.bl t.isSome):=by cases t <;> rfl
theorem is_take' (t:Option Take) (S:Sto):gIs (.p (takeP t)) (.p .non) S=some (.bl t.isNone):=by cases t <;> rfl
theorem changes_body {ψ:Str->GF} (ι:Str->GF) (hsm:SumOk ψ) (ham:∀{N K:List Str},(∀x ∈ N,x ∈ K)->N.length≤1000->(∀x ∈ K,strOk x)->pureOf (ψ "are_among") [.lst (sts N),.lst (sts K)]=some (.bl true)) {C K:List Str} (hC:∀x ∈ C,strOk x) (hK:∀x ∈ K,strOk x) (t:Option Take) (chs:List (Str×P)) (h1:∀ch ∈ chs,ch.1 ∈ C/\isSmall K ch.2) (hnd:(chs.map Prod.fst).Nodup) (hl:chs.length≤3) (ht:∀tk,t=some tk->strOk tk.cell/\∀ch ∈ chs,ch.1≠tk.cell) :
  pureOf (fnR 4 5 (b_n_are_changes ψ ι)) [.lst (chs.map chP),takeP t,.lst (sts C),.lst (sts K)]=some (.bl true):=by
 have c1:∀a0 a1 a2 a3 a4 q,compGo (gSet 5) bYes (vOp dIx (vE (eVar 5)) (vC (.int 0))) (chs.map chP) [a0,a1,a2,a3,a4,q] []=some (sts (chs.map Prod.fst),[]):=fun a0 a1 a2 a3 a4 q=>by
  have:=comp_map (f:=chP) (g:=fun ch=>P.str ch.1) (S:=[]) (tgt:=gSet 5) (e:=vOp dIx (vE (eVar 5)) (vC (.int 0))) (fun q=>[a0,a1,a2,a3,a4,q]) (fun _ _=>rfl) (xs:=chs) (fun c _=>by simp [chP]) q
  rw [this];simp [sts]
 have c2:∀a0 a1 a2 a4 q,compGo (gSet 5) bYes (vCall (pureOf (ψ "are_among")) (vsCons (vCall (pureOf (ψ "names_in")) (vsCons (vOp dIx (vE (eVar 5)) (vC (.int 1))) vsNil)) (vsCons (vE (eVar 3)) vsNil))) (chs.map chP) [a0,a1,a2,some (.p (.lst (sts K))),a4,q] []=some (chs.map fun _=>P.bl true,[]):=fun a0 a1 a2 a4 q=>
  comp_map (f:=chP) (g:=fun _=>P.bl true) (S:=[]) (tgt:=gSet 5) (fun q=>[a0,a1,a2,some (.p (.lst (sts K))),a4,q]) (fun _ _=>rfl) (xs:=chs) (fun ch hch=>by
   obtain⟨N,e1,e2⟩:=hsm hK (h1 ch hch).2
   simp [chP,e1,e2]) q
 have l0:chs.length≤1000000:=by lia
 have a1:=all_true chs
 have am:=ham (N:=chs.map Prod.fst) (K:=C) (fun x hx=>by obtain⟨ch,hch,rfl⟩:=List.mem_map.mp hx;exact (h1 ch hch).1) (by simp;lia) hC
 have st:=set_sts hnd (by simp;lia)
 have ln:(chs.map chP).length=chs.length:=by simp
 have stl:(chs.map Prod.fst).length=chs.length:=by simp
 rw [stl] at st
 have slen:(sts (chs.map Prod.fst)).length=chs.length:=by simp
 rw [pureOf_fn]
 have gt:=isNot_take t []
 cases t with
 | none=>
  generalize (chs.map fun _=>P.bl true)=ys at *
  generalize chs.map chP=cp at *
  generalize sts (chs.map Prod.fst)=cf at *
  simp [b_n_are_changes,vComp,ln,l0,upL,c1,am,st,lenD,lenP,slen,gt,c2,a1]
 | some tk=>
  obtain⟨hk1,hk2⟩:=ht tk rfl
  have d2:dIx (takeP (some tk)) (.int 2)=some (.str tk.cell):=rfl
  have gi:=gIn_no (x:=tk.cell) (K:=chs.map Prod.fst) hk1 (fun x hx=>by obtain⟨ch,hch,rfl⟩:=List.mem_map.mp hx;exact hC _ (h1 ch hch).1) (fun hx=>by obtain⟨ch,hch,e⟩:=List.mem_map.mp hx;exact hk2 ch hch e) []
  generalize takeP (some tk)=tp at *
  generalize (chs.map fun _=>P.bl true)=ys at *
  generalize chs.map chP=cp at *
  generalize sts (chs.map Prod.fst)=cf at *
  simp [b_n_are_changes,vComp,ln,l0,upL,c1,am,st,lenD,lenP,slen,gt,d2,gi,c2,a1]
theorem ways_ok:∀y ∈ [("who":Str),"all","any"],strOk y:=by
 intro y hy
 simp only [List.mem_cons,List.not_mem_nil,or_false] at hy
 unfold strOk
 rcases hy with rfl | rfl | rfl <;> decide +kernel
theorem way_in {k:Str} (h:k="who"\/k="all"\/k="any") (S:Sto):gNotIn (.p (.str k)) (.p (.tup [.str "who",.str "all",.str "any"])) S=some (.bl false):=by
 have hk:k ∈ [("who":Str),"all","any"]:=by simpa using h
 have:inP (.str k) (.tup (sts [("who":Str),"all","any"]))=_:=(inP_strs (ways_ok k hk) ways_ok).2
 rw [any_mem.mpr hk] at this
 have e:inP (.str k) (.tup [.str "who",.str "all",.str "any"])=some true:=this
 simp [gNotIn,inG,dKeys,e]
noncomputable def SendFn (ψ:Str->GF):Prop:=∀{f:Fam}{rds:List Road}{K:List Str}{v:P},FamOk f->rds.length≤8->(∀x ∈ K,strOk x)->SendOk f rds K v->pureOf (ψ "is_send") [v,famP f,.lst (sts K),.lst (rds.map roadP)]=some (.bl true)
theorem send_all (n:Nat):SendFn (Psi Gv Att Tb (n+6)):=fun {f rds K v} hf hl hK h=>by
 obtain⟨mk,am,way,tg,rfl,h1,h2,h3,h4⟩:=h
 have e1:pureOf (Psi Gv Att Tb (n+4+1) "is_name") [.str mk]=some (.bl true):=isname_all (n+1) _ h1
 obtain⟨N,e2,e3⟩:=sum_all (n+3) hK h2
 have e2':pureOf (Psi Gv Att Tb (n+4+1) "names_in") [am]=some (.lst (sts N)):=e2
 have e3':pureOf (Psi Gv Att Tb (n+4+1) "are_among") [.lst (sts N),.lst (sts K)]=some (.bl true):=e3
 have d0:dIx (famP f) (.int 0)=some (.str f.name):=rfl
 have d4:dIx (famP f) (.int 4)=some (.lst (sts f.whos)):=by unfold famP;rw [dIx_tup];exact at4 _ _ _ _ _ _
 have wi:=way_in (k:=way) (by rcases h4 with ⟨q,_⟩ | ⟨q | q,_⟩ <;> simp [q]) []
 rw [e_n_is_send,pureOf_fn]
 rcases h4 with ⟨rfl,h4⟩ | ⟨hw,h4⟩
 ·have gi:=gIn_yes (fun x hx=>name_ok (hf.ws x hx)) h4 []
  generalize rds.map roadP=rp at *
  generalize famP f=fp at *
  generalize P.lst (sts K)=kl at *
  generalize P.lst (sts f.whos)=wl at *
  simp [b_n_is_send,e1,wi,e2',e3',d4,gi]
 ·have e4:pureOf (Psi Gv Att Tb (n+4+1) "leads") [.lst (rds.map roadP),.str f.name,.str tg]=some (.bl true):=leads_all (n+3) hl h4
  have hne:¬way="who":=by rcases hw with rfl | rfl <;> decide +kernel
  generalize rds.map roadP=rp at *
  generalize famP f=fp at *
  generalize P.lst (sts K)=kl at *
  simp [b_n_is_send,e1,wi,e2',e3',hne,d0,e4]
end My
namespace My
open PySem L2 Ev
noncomputable def StepChk (ψ:Str->GF):Prop:=∀{f:Fam}{rds:List Road}{k:Nat}{v fsP:P},FamOk f->nbR rds->rds.length≤8->StepOk f rds k v->pureOf (ψ "is_step") [v,famP f,fsP,.lst (rds.map roadP)]=some (.bl true)
theorem step_chk_body {ψ:Str->GF} (ι:Str->GF) (hcd:∀{K:List Str}{v:P},(∀x ∈ K,strOk x)->isWhen K v->∃N:List Str,pureOf (ψ "names_in") [v]=some (.lst (sts N))/\pureOf (ψ "are_among") [.lst (sts N),.lst (sts K)]=some (.bl true)) (htk:TakeFn ψ) (hsd:SendFn ψ)
  (hch:∀{C K:List Str} (t:Option Take) (chs:List (Str×P)),(∀x ∈ C,strOk x)->(∀x ∈ K,strOk x)->(∀ch ∈ chs,ch.1 ∈ C/\isSmall K ch.2)->(chs.map Prod.fst).Nodup->chs.length≤3->(∀tk,t=some tk->strOk tk.cell/\∀ch ∈ chs,ch.1≠tk.cell)->pureOf (ψ "are_changes") [.lst (chs.map chP),takeP t,.lst (sts C),.lst (sts K)]=some (.bl true))
  {f:Fam}{rds:List Road}{k:Nat}{v fsP:P} (hf:FamOk f) (hr:nbR rds) (hl:rds.length≤8) (h:StepOk f rds k v):pureOf (fnR 4 14 (b_n_is_step ψ ι)) [v,famP f,fsP,.lst (rds.map roadP)]=some (.bl true):=by
 obtain⟨a,wh,t,chs,sd,go,rfl,h1,h2,h3,h4,h5,h6,h7,h8,h9⟩:=h
 have hC:∀x ∈ f.cells.map Cel.name,strOk x:=fun x hx=>name_ok (hf.cs x hx)
 have hR:∀x ∈ f.rooms,strOk x:=fun x hx=>name_ok (hf.2.2.2.2.1 x hx)
 obtain⟨N,e1,e2⟩:=hcd hC h3
 have g1:=gNotIn_yes hR h1 []
 have g2:=gNotIn_yes hR h2 []
 have hK:=known_ok hC t
 have e3:=hch t chs hC hK h6 h5 h7 (fun tk htk2=>by
  obtain⟨⟨_,_,q,_⟩,q2⟩:=h4 tk htk2
  refine⟨?_,q2⟩
  rcases q with z | z
  ·rw [z];unfold strOk;decide +kernel
  ·exact hC _ z)
 have cc:∀a0 a1 a2 a3 a4 a5 a6 a7 a8 a9 a10 a11 a12 a13 q,compGo (gSet 14) bYes (vOp dIx (vE (eVar 14)) (vC (.int 0))) (f.cells.map celP) [a0,a1,a2,a3,a4,a5,a6,a7,a8,a9,a10,a11,a12,a13,q] []=some (sts (f.cells.map Cel.name),[]):=fun a0 a1 a2 a3 a4 a5 a6 a7 a8 a9 a10 a11 a12 a13 q=>by
  have:=comp_map (f:=celP) (g:=fun c=>P.str c.name) (S:=[]) (tgt:=gSet 14) (e:=vOp dIx (vE (eVar 14)) (vC (.int 0))) (fun q=>[a0,a1,a2,a3,a4,a5,a6,a7,a8,a9,a10,a11,a12,a13,q]) (fun _ _=>rfl) (xs:=f.cells) (fun c _=>by simp [celP]) q
  rw [this];simp [sts]
 have sc:∀a0 a2 a4 a5 a6 a7 a8 a9 a10 a11 a12 q,compGo (gSet 14) bYes (vCall (pureOf (ψ "is_send")) (vsCons (vE (eVar 14)) (vsCons (vE (eVar 1)) (vsCons (vE (eVar 13)) (vsCons (vE (eVar 3)) vsNil))))) sd [a0,some (.p (famP f)),a2,some (.p (.lst (rds.map roadP))),a4,a5,a6,a7,a8,a9,a10,a11,a12,some (.p (.lst (sts (knownOf (f.cells.map Cel.name) t)))),q] []=some (sd.map fun _=>P.bl true,[]):=fun a0 a2 a4 a5 a6 a7 a8 a9 a10 a11 a12 q=>by
  have:=comp_map (f:=id) (g:=fun _=>P.bl true) (S:=[]) (tgt:=gSet 14) (e:=vCall (pureOf (ψ "is_send")) (vsCons (vE (eVar 14)) (vsCons (vE (eVar 1)) (vsCons (vE (eVar 13)) (vsCons (vE (eVar 3)) vsNil))))) (fun q=>[a0,some (.p (famP f)),a2,some (.p (.lst (rds.map roadP))),a4,a5,a6,a7,a8,a9,a10,a11,a12,some (.p (.lst (sts (knownOf (f.cells.map Cel.name) t)))),q]) (fun _ _=>rfl) (xs:=sd) (fun s hs=>by simp [hsd hf hl hK (h8 s hs)]) q
  simpa using this
 have at1:=all_true sd
 have d2:dIx (famP f) (.int 2)=some (.lst (sts f.rooms)):=rfl
 have d3:dIx (famP f) (.int 3)=some (.lst (f.cells.map celP)):=rfl
 have gn:=isNot_take t []
 have gi:=is_take' t []
 have l1:f.cells.length≤1000000:=by have:=hf.2.2.2.2.2.1;lia
 have l2:sd.length≤1000000:=by lia
 have l3:f.cells.length+1≤1000000:=by have:=hf.2.2.2.2.2.1;lia
 have ln:(f.cells.map celP).length=f.cells.length:=by simp
 have cln:(sts (f.cells.map Cel.name)).length=f.cells.length:=by simp
 have kn:knownOf (f.cells.map Cel.name) none=f.cells.map Cel.name:=rfl
 rw [pureOf_fn]
 cases t with
 | none=>
  rw [kn] at *
  generalize (sd.map fun _=>P.bl true)=ys at *
  generalize P.lst (chs.map chP)=cp at *
  generalize rds.map roadP=rp at *
  generalize f.cells.map celP=clp at *
  generalize famP f=fp at *
  generalize takeP none=tp at *
  generalize P.lst (sts f.rooms)=rl at *
  generalize sts (f.cells.map Cel.name)=cn at *
  simp [b_n_is_step,d2,d3,vComp,ln,l1,upL,cc,g1,g2,e1,e2,gn,gi,e3,l2,sc,at1]
 | some tk=>
  have e4:=htk hf hl (h4 tk rfl).1
  have it1:sts (f.cells.map Cel.name)++[P.str "it"]=sts (knownOf (f.cells.map Cel.name) (some tk)):=by simp [sts,knownOf]
  generalize (sd.map fun _=>P.bl true)=ys at *
  generalize P.lst (chs.map chP)=cp at *
  generalize rds.map roadP=rp at *
  generalize f.cells.map celP=clp at *
  generalize famP f=fp at *
  generalize takeP (some tk)=tp at *
  generalize P.lst (sts f.rooms)=rl at *
  generalize sts (f.cells.map Cel.name)=cn at *
  generalize sts (knownOf (f.cells.map Cel.name) (some tk))=kl at *
  simp [b_n_is_step,d2,d3,vComp,ln,l1,upL,cc,g1,g2,e1,e2,gn,gi,e4,cln,l3,it1,e3,l2,sc,at1]
theorem step_chk (n:Nat):StepChk (Psi Gv Att Tb (n+8)):=fun {f rds k v fsP} hf hr hl h=>by
 have e:=step_chk_body (ψ:=Psi Gv Att Tb (n+6+1)) (Psi Gv Att Tb (n+6)) (fun hK hw=>cond_all (n+5) hK hw) (take_all (n+1)) (send_all (n+1)) (fun {C K} t chs hC hK q1 q2 q3 q4=>by
  have e:=changes_body (ψ:=Psi Gv Att Tb (n+5+1)) (Psi Gv Att Tb (n+5)) (sum_all (n+4)) (fun a b c=>among_ok (n+4) a b c) hC hK t chs q1 q2 q3 q4
  rw [<- e];exact congrArg (fun g=>pureOf g [.lst (chs.map chP),takeP t,.lst (sts C),.lst (sts K)]) (e_n_are_changes (n+5))) (fsP:=fsP) hf hr hl h
 rw [<- e];exact congrArg (fun g=>pureOf g [v,famP f,fsP,.lst (rds.map roadP)]) (e_n_is_step (n+6))
theorem plan_loop {ψ:Str->GF} (ι:Str->GF) (hst:StepChk ψ) {rds:List Road} (hr:nbR rds) (hl:rds.length≤8) (a0 a3:Option D) (fsP:P):∀(gs:List Fam) (q4:Option D),(∀f ∈ gs,FamOk f/\Stps rds f) ->
  ∃q4',forGo (gSet 4) (b_n_is_plan_L1 ψ ι) (gs.map famP) [a0,some (.p fsP),some (.p (.lst (rds.map roadP))),a3,q4] []=some (.nx,[a0,some (.p fsP),some (.p (.lst (rds.map roadP))),a3,q4'],[])
 | [],q4,_=>⟨q4,rfl⟩
 | g::gs,q4,h=>by
  obtain⟨q4',e⟩:=plan_loop ι hst hr hl a0 a3 fsP gs (some (.p (famP g))) (fun f hf=>h f (List.mem_cons_of_mem _ hf))
  refine⟨q4',?_⟩
  obtain⟨hf,hs⟩:=h g List.mem_cons_self
  rw [List.map_cons]
  refine (forGo_nx rfl ?_).trans e
  show b_n_is_plan_L1 ψ ι [a0,some (.p fsP),some (.p (.lst (rds.map roadP))),a3,some (.p (famP g))] []=_
  have c1:∀q,compGo (gSet 5) bYes (vCall (pureOf (ψ "is_step")) (vsCons (vE (eVar 5)) (vsCons (vE (eVar 4)) (vsCons (vE (eVar 1)) (vsCons (vE (eVar 2)) vsNil))))) g.steps [a0,some (.p fsP),some (.p (.lst (rds.map roadP))),a3,some (.p (famP g)),q] []=some (g.steps.map fun _=>P.bl true,[]):=fun q=>by
   have:=comp_map (f:=id) (g:=fun _=>P.bl true) (S:=[]) (tgt:=gSet 5) (e:=vCall (pureOf (ψ "is_step")) (vsCons (vE (eVar 5)) (vsCons (vE (eVar 4)) (vsCons (vE (eVar 1)) (vsCons (vE (eVar 2)) vsNil))))) (fun q=>[a0,some (.p fsP),some (.p (.lst (rds.map roadP))),a3,some (.p (famP g)),q]) (fun _ _=>rfl) (xs:=g.steps) (fun s hs2=>by
    obtain⟨k,hk,e⟩:=List.mem_iff_getElem.mp hs2
    have so:=hs.ok k s (by rw [List.getElem?_eq_getElem hk,e])
    simp [hst (fsP:=fsP) hf hr hl so]) q
   simpa using this
  have a1:=all_true g.steps
  have l1:g.steps.length≤1000000:=by have:=hs.ln;lia
  have d5:dIx (famP g) (.int 5)=some (.lst g.steps):=by unfold famP;rw [dIx_tup];exact at5 _ _ _ _ _ _ _
  generalize (g.steps.map fun _=>P.bl true)=ys at *
  generalize rds.map roadP=rp at *
  generalize famP g=gp at *
  simp [b_n_is_plan_L1,d5,vComp,l1,upL,c1,a1]
theorem plan_chk_body {ψ:Str->GF} (ι:Str->GF) {fs:List Fam}{rds:List Road}{ws:List P} (hfa:FamiliesOk ψ rds) (hro:RoadsChk ψ) (hst:StepChk ψ) (hwi:∀{w:P},(∀g ∈ fs,Stps rds g)->(fs.map Fam.name).Nodup->WishOk fs w->pureOf (ψ "is_wish") [w,.lst (fs.map famP)]=some (.bl true)) (h:Plan fs rds ws):pureOf (fnR 1 5 (b_n_is_plan ψ ι)) [planP fs rds ws]=some (.bl true):=by
 obtain⟨kinds,hF⟩:=h.fms
 have hnm:=hF.names
 have e1:=hfa kinds fs hF h.stp
 have e2:=hro hF.l2 (fun x hx=>name_ok (hnm.2 x hx)) h.rok h.rl
 obtain⟨q4,e3⟩:=plan_loop ι hst (h.rok.nb hnm.2) h.rl (some (.p (planP fs rds ws))) (some (.p (.lst ws))) (.lst (fs.map famP)) fs none (fun f hf=>⟨hF.ok f hf,h.stp f hf⟩)
 have c1:∀a0 a2 a3 a4 q,compGo (gSet 5) bYes (vCall (pureOf (ψ "is_wish")) (vsCons (vE (eVar 5)) (vsCons (vE (eVar 1)) vsNil))) ws [a0,some (.p (.lst (fs.map famP))),a2,a3,a4,q] []=some (ws.map fun _=>P.bl true,[]):=fun a0 a2 a3 a4 q=>by
  have:=comp_map (f:=id) (g:=fun _=>P.bl true) (S:=[]) (tgt:=gSet 5) (e:=vCall (pureOf (ψ "is_wish")) (vsCons (vE (eVar 5)) (vsCons (vE (eVar 1)) vsNil))) (fun q=>[a0,some (.p (.lst (fs.map famP))),a2,a3,a4,q]) (fun _ _=>rfl) (xs:=ws) (fun w hw=>by simp [hwi h.stp hnm.1 (h.wok w hw)]) q
  simpa using this
 have a1:=all_true ws
 have l1:ws.length≤1000000:=by have:=h.wl;lia
 have l2:(ws.length:Int)≤6:=by have:=h.wl;lia
 have l3:ws.length≤6:=h.wl
 have un:∀L:Lc,gTupP [gSet 1,gSet 2,gSet 3] (planP fs rds ws) L=some (((L.set 1 (some (.p (.lst (fs.map famP))))).set 2 (some (.p (.lst (rds.map roadP))))).set 3 (some (.p (.lst ws)))):=fun L=>by simp [planP]
 rw [pureOf_fn]
 generalize (ws.map fun _=>P.bl true)=ys at *
 generalize planP fs rds ws=pp at *
 generalize rds.map roadP=rp at *
 generalize fs.map famP=fp at *
 simp [b_n_is_plan,un,e1,e2,e3,lenD,lenP,l2,l3,vComp,l1,upL,c1,a1]
theorem plan_chk (n:Nat) {fs:List Fam}{rds:List Road}{ws:List P} (h:Plan fs rds ws):pureOf (Psi Gv Att Tb (n+14) "is_plan") [planP fs rds ws]=some (.bl true):=by
 have e:=plan_chk_body (ψ:=Psi Gv Att Tb (n+12+1)) (Psi Gv Att Tb (n+12)) (families_all (n+1) rds) (roadsc_all (n+9)) (step_chk (n+5)) (fun hS hnd hw=>wish_ok (n+11) hS hnd hw) h
 rw [<- e];exact congrArg (fun g=>pureOf g [planP fs rds ws]) (e_n_is_plan (n+12))
theorem check_ok (n:Nat) {fs:List Fam}{rds:List Road}{ws:List P} (h:Plan fs rds ws):pureOf (Psi Gv Att Tb (n+16) "check_plan") [planP fs rds ws]=some .non:=by
 have e:pureOf (Psi Gv Att Tb (n+14+1) "is_plan") [planP fs rds ws]=some (.bl true):=plan_chk (n+1) h
 rw [e_n_check_plan,pureOf_fn]
 generalize planP fs rds ws=pp at *
 simp [b_n_check_plan,e]
end My
namespace My
open PySem L2 Ev
theorem at6 {α:Type} (a b c d e f g:α) (r:List α):L2.atI (a::b::c::d::e::f::g::r) 6=some g:=atI_nat' (by decide) rfl
theorem copy_step {f:Fam}{rds:List Road}{k:Nat}{v:P} (h:StepOk f rds k v) (a0 a1 a2 a3:Option D) (S:Sto):vOp dAdd2 (vSl2 (vE (eVar 4)) oNone (oSome (vC (.int 4)))) (vTup' (vsCons (vCall c_list (vsCons (vOp dIx (vE (eVar 4)) (vC (.int 4))) vsNil)) (vsCons (vCall c_list (vsCons (vOp dIx (vE (eVar 4)) (vC (.int 5))) vsNil)) (vsCons (vOp dIx (vE (eVar 4)) (vC (.int 6))) vsNil)))) [a0,a1,a2,a3,some (.p v)] S=some (v,S):=by
 obtain⟨a,wh,t,chs,sd,go,rfl,_⟩:=h
 have s1:dSl2 (.tup [.str (nm k 7),.str a,wh,takeP t,.lst (chs.map chP),.lst sd,.str go]) none (some 4)=some (.tup [.str (nm k 7),.str a,wh,takeP t]):=rfl
 have d4:dIx (.tup [.str (nm k 7),.str a,wh,takeP t,.lst (chs.map chP),.lst sd,.str go]) (.int 4)=some (.lst (chs.map chP)):=by rw [dIx_tup];exact at4 ..
 have d5:dIx (.tup [.str (nm k 7),.str a,wh,takeP t,.lst (chs.map chP),.lst sd,.str go]) (.int 5)=some (.lst sd):=by rw [dIx_tup];exact at5 ..
 have d6:dIx (.tup [.str (nm k 7),.str a,wh,takeP t,.lst (chs.map chP),.lst sd,.str go]) (.int 6)=some (.str go):=by rw [dIx_tup];exact at6 ..
 have ad:dAdd2 (.tup [.str (nm k 7),.str a,wh,takeP t]) (.tup [.lst (chs.map chP),.lst sd,.str go])=some (.tup [.str (nm k 7),.str a,wh,takeP t,.lst (chs.map chP),.lst sd,.str go]):=rfl
 generalize P.tup [.str (nm k 7),.str a,wh,takeP t,.lst (chs.map chP),.lst sd,.str go]=v at *
 simp [oNone,oSome,s1,d4,d5,d6,c_list,ad]
theorem copy_turn (ψ ι:Str->GF) {f:Fam}{rds:List Road} (hs:Stps rds f) (acc:List P) (hl:acc.length≤100) (a0 q3:Option D):∃q3',b_n_law_copy_L1 ψ ι [a0,some (.ref 0),some (.p (famP f)),q3] [.lst (ppD acc)]=some (.nx,[a0,some (.ref 0),some (.p (famP f)),q3'],[.lst (ppD (acc++[famP f]))]):=by
 refine⟨some (.p (.lst f.steps)),?_⟩
 have c1:∀a0 a1 a2 a3 q S,compGo (gSet 4) bYes (vOp dAdd2 (vSl2 (vE (eVar 4)) oNone (oSome (vC (.int 4)))) (vTup' (vsCons (vCall c_list (vsCons (vOp dIx (vE (eVar 4)) (vC (.int 4))) vsNil)) (vsCons (vCall c_list (vsCons (vOp dIx (vE (eVar 4)) (vC (.int 5))) vsNil)) (vsCons (vOp dIx (vE (eVar 4)) (vC (.int 6))) vsNil))))) f.steps [a0,a1,a2,a3,q] S=some (f.steps,S):=fun a0 a1 a2 a3 q S=>by
  have:=comp_map (f:=id) (g:=id) (S:=S) (tgt:=gSet 4) (e:=vOp dAdd2 (vSl2 (vE (eVar 4)) oNone (oSome (vC (.int 4)))) (vTup' (vsCons (vCall c_list (vsCons (vOp dIx (vE (eVar 4)) (vC (.int 4))) vsNil)) (vsCons (vCall c_list (vsCons (vOp dIx (vE (eVar 4)) (vC (.int 5))) vsNil)) (vsCons (vOp dIx (vE (eVar 4)) (vC (.int 6))) vsNil))))) (fun q=>[a0,a1,a2,a3,q]) (fun _ _=>rfl) (xs:=f.steps) (fun s hs2=>by
   obtain⟨k,hk,e⟩:=List.mem_iff_getElem.mp hs2
   exact copy_step (hs.ok k s (by rw [List.getElem?_eq_getElem hk,e])) a0 a1 a2 a3 S) q
  simpa using this
 have d5:dIx (famP f) (.int 5)=some (.lst f.steps):=by unfold famP;rw [dIx_tup];exact at5 ..
 have d4:dIx (famP f) (.int 4)=some (.lst (sts f.whos)):=by unfold famP;rw [dIx_tup];exact at4 ..
 have d3:dIx (famP f) (.int 3)=some (.lst (f.cells.map celP)):=rfl
 have d2:dIx (famP f) (.int 2)=some (.lst (sts f.rooms)):=rfl
 have d1:dIx (famP f) (.int 1)=some (.int f.hands):=rfl
 have d0:dIx (famP f) (.int 0)=some (.str f.name):=rfl
 have fe:famP f=.tup [.str f.name,.int f.hands,.lst (sts f.rooms),.lst (f.cells.map celP),.lst (sts f.whos),.lst f.steps]:=rfl
 have l1:f.steps.length≤1000000:=by have:=hs.ln;lia
 have l2:acc.length≤1000000:=by lia
 have o1:ownL (.ref 0) [.lst (ppD acc)]=some (0,ppD acc):=rfl
 rw [ppD_app]
 rw [show [SO.lst (ppD acc++[.p (famP f)])]=[SO.lst (ppD acc++[.p (.tup [.str f.name,.int f.hands,.lst (sts f.rooms),.lst (f.cells.map celP),.lst (sts f.whos),.lst f.steps])])] from rfl]
 generalize famP f=fp at d0 d1 d2 d3 d4 d5 ⊢
 clear fe
 simp [b_n_law_copy_L1,d5,vComp,l1,upL,c1,d0,d1,d2,d3,d4,c_list,o1,l2]
theorem copy_loop (ψ ι:Str->GF) {rds:List Road} (a0:Option D):∀(fs:List Fam) (acc:List P) (q2 q3:Option D),(∀f ∈ fs,Stps rds f)->acc.length+fs.length≤100 ->
  ∃q2' q3',forGo (gSet 2) (b_n_law_copy_L1 ψ ι) (fs.map famP) [a0,some (.ref 0),q2,q3] [.lst (ppD acc)]=some (.nx,[a0,some (.ref 0),q2',q3'],[.lst (ppD (acc++fs.map famP))])
 | [],acc,q2,q3,_,_=>⟨q2,q3,by simp [forGo]⟩
 | f::fs,acc,q2,q3,h,hl=>by
  simp only [List.length_cons] at hl
  obtain⟨q3',e1⟩:=copy_turn ψ ι (h f List.mem_cons_self) acc (by lia) a0 q3
  obtain⟨q2',q3'',e2⟩:=copy_loop ψ ι a0 fs (acc++[famP f]) (some (.p (famP f))) q3' (fun g hg=>h g (List.mem_cons_of_mem _ hg)) (by simp;lia)
  refine⟨q2',q3'',?_⟩
  rw [List.map_cons]
  refine (forGo_nx rfl e1).trans ?_
  rw [e2,List.append_assoc];rfl
theorem copy_ok (n:Nat) {fs:List Fam}{rds:List Road}{ws:List P} (h:Plan fs rds ws):pureOf (Psi Gv Att Tb (n+2) "_law_copy") [planP fs rds ws]=some (planP fs rds ws):=by
 obtain⟨kinds,hF⟩:=h.fms
 obtain⟨q2,q3,e1⟩:=copy_loop (Psi Gv Att Tb (n+1)) (Psi Gv Att Tb n) (rds:=rds) (some (.p (planP fs rds ws))) fs [] none none h.stp (by simp;have:=hF.l2;lia)
 have d0:dIx (planP fs rds ws) (.int 0)=some (.lst (fs.map famP)):=rfl
 have d1:dIx (planP fs rds ws) (.int 1)=some (.lst (rds.map roadP)):=rfl
 have d2:dIx (planP fs rds ws) (.int 2)=some (.lst ws):=rfl
 have tp:toP 9 (.ref 0) [.lst (ppD (fs.map famP))]=some (.lst (fs.map famP),[.fz (.lst (fs.map famP))]):=toP_lst (vs:=fs.map famP) rfl
 have pe:planP fs rds ws=.tup [.lst (fs.map famP),.lst (rds.map roadP),.lst ws]:=rfl
 rw [List.nil_append,show ppD []=[] from rfl] at e1
 rw [e_n_law_copy,pureOf_fn]
 rw [show some (planP fs rds ws)=some (P.tup [.lst (fs.map famP),.lst (rds.map roadP),.lst ws]) from rfl]
 generalize rds.map roadP=rp at *
 generalize fs.map famP=fp at *
 clear pe
 generalize planP fs rds ws=pp at *
 simp [b_n_law_copy,d0,d1,d2,e1,tp,c_list]
theorem plan_data {fs:List Fam}{rds:List Road}{ws:List P} (h:Plan fs rds ws):okP 20 (planP fs rds ws)=true:=by
 obtain⟨kinds,hF⟩:=h.fms
 have hnm:=hF.names
 have hnb:=h.rok.nb hnm.2
 have e1:okP 19 (.lst (fs.map famP))=true:=okL fun x hx=>by
  obtain⟨f,hf,rfl⟩:=List.mem_map.mp hx
  have ho:=hF.ok f hf
  have s1:PyData.strOk f.name=true:=name_ok (hnm.2 _ (List.mem_map_of_mem hf))
  have s2:okP 17 (.lst (sts f.rooms))=true:=strs_ok (fun x hx=>name_ok (ho.2.2.2.2.1 x hx)) 16
  have s3:okP 17 (.lst (sts f.whos))=true:=strs_ok (fun x hx=>name_ok (ho.ws x hx)) 16
  have s4:okP 17 (.lst f.steps)=true:=(h.stp f hf).data ho hnb 10
  have s5:okP 17 (.lst (f.cells.map celP))=true:=okL fun y hy=>by
   obtain⟨c,hc,rfl⟩:=List.mem_map.mp hy
   have:PyData.strOk c.name=true:=name_ok (ho.cs _ (List.mem_map_of_mem hc))
   simp [celP,this]
  unfold famP
  rw [okP_tup]
  simp only [List.all_cons,List.all_nil,Bool.and_true,okP_str,okP_int,s1,s2,s3,s4,s5]
 have e2:okP 19 (.lst (rds.map roadP))=true:=okL fun x hx=>by
  obtain⟨r,hr,rfl⟩:=List.mem_map.mp hx
  have s1:PyData.strOk r.one=true:=name_ok (hnb r hr).1
  have s2:PyData.strOk r.other=true:=name_ok (hnb r hr).2
  have s3:PyData.strOk r.kind=true:=by rcases (h.rok.ok r hr).2.2.1 with q | q <;> rw [q] <;> simp
  simp [roadP,s1,s2,s3]
 have e3:okP 19 (.lst ws)=true:=okL fun x hx=>by
  obtain⟨kd,k,j,f,rfl,hk,hf,hj⟩:=h.wok x hx
  have hfm:=List.mem_of_getElem? hf
  have s1:PyData.strOk f.name=true:=name_ok (hnm.2 _ (List.mem_map_of_mem hfm))
  have s2:PyData.strOk (nm j 7)=true:=name_ok (nm_both 7 (by have:=(h.stp f hfm).ln;lia)).1
  have s3:PyData.strOk kd=true:=by rcases hk with rfl | rfl <;> decide +kernel
  simp [s1,s2,s3]
 unfold planP
 rw [okP_tup]
 simp only [List.all_cons,List.all_nil,Bool.and_true,e1,e2,e3]
theorem law_val (n:Nat) (ns:List Int):pureOf (Psi Gv Att Tb (n+18) "law") [.ro (ns.map P.int)]=some (.bl true):=by
 obtain⟨c,r,r0,_,e1,e2⟩:=draw_ok (n+15) ns (k:=0) (p:=1) (by lia) (by lia) (by lia) (by lia)
 have e1':pureOf (Psi Gv Att Tb (n+16+1) "_law_at") [scr ns,.int 0]=some (.int c):=e1
 have e2':pureOf (Psi Gv Att Tb (n+16+1) "_law_mix") [.int c,.int 1]=some (.int r):=e2
 obtain⟨fs,rds,ws,h,e3⟩:=plan_all (n+5) ns r
 have e3':pureOf (Psi Gv Att Tb (n+16+1) "_law_plan") [scr ns,.int r]=some (planP fs rds ws):=e3
 have e4:pureOf (Psi Gv Att Tb (n+16+1) "_law_copy") [planP fs rds ws]=some (planP fs rds ws):=copy_ok (n+15) h
 have e5:pureOf (Psi Gv Att Tb (n+16+1) "check_plan") [planP fs rds ws]=some .non:=check_ok (n+1) h
 have e6:=eqD_self (plan_data h)
 rw [e_n_law,pureOf_fn]
 rw [show (P.ro (ns.map P.int))=scr ns from rfl]
 generalize planP fs rds ws=pp at *
 generalize scr ns=sc at *
 simp [b_n_law,e1',e2',e3',e4,e5,e6,gIs,isNon]
end My
namespace My
open PySem L2 Ev
theorem law_true {K:PySem.W.Frag}{H:Hp}{a:Addr}{ns:List Int} (hl:ns.length≤63) (hO:Only H) (hS:SqL K H a (ns.map V.int)):Ev.spR K (Ev.Psi My.Gv My.Att My.Tb 200 "law") [.ref a] H (fun v _=>v=.bl true) (fun _ _ _=>False):=law_of hO hS (law_val 182 ns)
end My
noncomputable def PySem.W.Fast.tw15777380924325892784:Unit:=()
noncomputable def PySem.W.Fast.tw2664232553698862421:Unit:=()
noncomputable def PySem.W.Fast.tw6550623806717860728:Unit:=()
noncomputable def PySem.W.Fast.tw10135066033160073111:Unit:=()
noncomputable def PySem.W.Fast.tw6644632851631081190:Unit:=()
noncomputable def PySem.W.Fast.tw977694639412201240:Unit:=()
noncomputable def PySem.W.Fast.tw12459020507624702899:Unit:=()
noncomputable def PySem.W.Fast.tw12775739622582166385:Unit:=()
noncomputable def PySem.W.Fast.tw7610524249219603487:Unit:=()
noncomputable def PySem.W.Fast.tw8006700137135926725:Unit:=()
noncomputable def PySem.W.Fast.tw14162781572376319064:Unit:=()
noncomputable def PySem.W.Fast.tw2948116184413881164:Unit:=()
noncomputable def PySem.W.Fast.tw15893831387259391376:Unit:=()
noncomputable def PySem.W.Fast.tw5292535908363041848:Unit:=()
noncomputable def PySem.W.Fast.tw13179387646342294085:Unit:=()
noncomputable def PySem.W.Fast.tw12771953416723954707:Unit:=()
noncomputable def PySem.W.Fast.tw8436810188885328527:Unit:=()
noncomputable def PySem.W.Fast.tw12413076991513609529:Unit:=()
noncomputable def PySem.W.Fast.tw13754231854642430775:Unit:=()
noncomputable def PySem.W.Fast.tw12411071612705134602:Unit:=()
noncomputable def PySem.W.Fast.tw12188100858617181846:Unit:=()
noncomputable def PySem.W.Fast.tw1890829508848543893:Unit:=()
noncomputable def PySem.W.Fast.tw2972083302055715201:Unit:=()
noncomputable def PySem.W.Fast.tw5261060470020025274:Unit:=()
noncomputable def PySem.W.Fast.tw1776933333106409920:Unit:=()
noncomputable def PySem.W.Fast.tw1879042719079266085:Unit:=()
noncomputable def PySem.W.Fast.tw12874853316326952448:Unit:=()
noncomputable def PySem.W.Fast.tw6698544564761717324:Unit:=()
noncomputable def PySem.W.Fast.tw14262622499799971286:Unit:=()
noncomputable def PySem.W.Fast.tw13164678273577677796:Unit:=()
noncomputable def PySem.W.Fast.tw972765143681971176:Unit:=()
noncomputable def PySem.W.Fast.tw10651447703384062691:Unit:=()
noncomputable def PySem.W.Fast.tw9547856748249099676:Unit:=()
noncomputable def PySem.W.Fast.tw12318139116968957550:Unit:=()
noncomputable def PySem.W.Fast.tw18204373134654994601:Unit:=()
noncomputable def PySem.W.Fast.tw10341397337161157436:Unit:=()
noncomputable def PySem.W.Fast.tw1507032972400244591:Unit:=()
noncomputable def PySem.W.Fast.tw15362247725331080854:Unit:=()
noncomputable def PySem.W.Fast.tw8204276935399665384:Unit:=()
noncomputable def PySem.W.Fast.tw10921131494292483443:Unit:=()
noncomputable def PySem.W.Fast.tw8237422318633874700:Unit:=()
noncomputable def PySem.W.Fast.tw7685455962040229811:Unit:=()
noncomputable def PySem.W.Fast.tw2229295862235668544:Unit:=()
noncomputable def PySem.W.Fast.tw16925609627788851972:Unit:=()
noncomputable def PySem.W.Fast.tw14871007379125756640:Unit:=()
noncomputable def PySem.W.Fast.tw13317184857209955813:Unit:=()
noncomputable def PySem.W.Fast.tw10045749463801744891:Unit:=()
noncomputable def PySem.W.Fast.tw13067299760550038798:Unit:=()
noncomputable def PySem.W.Fast.tw8749235237447596450:Unit:=()
noncomputable def PySem.W.Fast.tw16364097112214192969:Unit:=()
noncomputable def PySem.W.Fast.tw14769182449179221257:Unit:=()
noncomputable def PySem.W.Fast.tw13121394024571384893:Unit:=()
noncomputable def PySem.W.Fast.tw15853769449539285570:Unit:=()
noncomputable def PySem.W.Fast.tw11469505891247628865:Unit:=()
noncomputable def PySem.W.Fast.tw15914731661782168767:Unit:=()
noncomputable def PySem.W.Fast.tw13955358375098909374:Unit:=()
noncomputable def PySem.W.Fast.tw9896290237130791732:Unit:=()
noncomputable def PySem.W.Fast.tw1737792453319060296:Unit:=()
noncomputable def PySem.W.Fast.tw14364020869850986522:Unit:=()
noncomputable def PySem.W.Fast.tw123187634199176256:Unit:=()
noncomputable def PySem.W.Fast.tw1707826097945607428:Unit:=()
noncomputable def PySem.W.Fast.tw4973721556972943886:Unit:=()
noncomputable def PySem.W.Fast.tw13547386621038232575:Unit:=()
noncomputable def PySem.W.Fast.tw8810215515477063651:Unit:=()
noncomputable def PySem.W.Fast.tw1834237439510834311:Unit:=()
noncomputable def PySem.W.Fast.tw23800017072514859:Unit:=()
noncomputable def PySem.W.Fast.tw696560977138327640:Unit:=()
noncomputable def PySem.W.Fast.tw4438047452075955565:Unit:=()
noncomputable def PySem.W.Fast.tw11869803406199670410:Unit:=()
noncomputable def PySem.W.Fast.tw12315019291355584323:Unit:=()
noncomputable def PySem.W.Fast.tw14362944206322264957:Unit:=()
noncomputable def PySem.W.Fast.tw13712133023359435828:Unit:=()
noncomputable def PySem.W.Fast.tw12119474797633606797:Unit:=()
noncomputable def PySem.W.Fast.tw14836925742227735680:Unit:=()
noncomputable def PySem.W.Fast.tw16372675598235765454:Unit:=()
noncomputable def PySem.W.Fast.tw10906320829803758151:Unit:=()
noncomputable def PySem.W.Fast.tw2658038095663893321:Unit:=()
noncomputable def PySem.W.Fast.tw12101988027104552042:Unit:=()
noncomputable def PySem.W.Fast.tw9577405929575576869:Unit:=()
noncomputable def PySem.W.Fast.tw17913637277425922141:Unit:=()
noncomputable def PySem.W.Fast.tw17835415040642415161:Unit:=()
noncomputable def PySem.W.Fast.tw15193822756308209120:Unit:=()
noncomputable def PySem.W.Fast.tw15776626429086293935:Unit:=()
noncomputable def PySem.W.Fast.tw12360696049151642092:Unit:=()
noncomputable def PySem.W.Fast.tw16541392013066834745:Unit:=()
noncomputable def PySem.W.Fast.tw11449705824065575466:Unit:=()
noncomputable def PySem.W.Fast.tw13608261611658503725:Unit:=()
noncomputable def PySem.W.Fast.tw3177889872394748186:Unit:=()
noncomputable def PySem.W.Fast.tw9906001423759234823:Unit:=()
noncomputable def PySem.W.Fast.tw14397844446785477983:Unit:=()
noncomputable def PySem.W.Fast.tw8307270170170829700:Unit:=()
noncomputable def PySem.W.Fast.tw645643441857931590:Unit:=()
noncomputable def PySem.W.Fast.tw17217975864933064293:Unit:=()
noncomputable def PySem.W.Fast.tw8255824957939403544:Unit:=()
noncomputable def PySem.W.Fast.tw7719360030856439347:Unit:=()
noncomputable def PySem.W.Fast.tw17089449922175996661:Unit:=()
noncomputable def PySem.W.Fast.tw9624296859212918345:Unit:=()
noncomputable def PySem.W.Fast.tw7060072085443257731:Unit:=()
noncomputable def PySem.W.Fast.tw2116211935279517023:Unit:=()
noncomputable def PySem.W.Fast.tw15003356715206211993:Unit:=()
noncomputable def PySem.W.Fast.tw2119915259477280018:Unit:=()
noncomputable def PySem.W.Fast.tw14744368281949444430:Unit:=()
noncomputable def PySem.W.Fast.tw6330337499065955644:Unit:=()
noncomputable def PySem.W.Fast.tw17334914748238899122:Unit:=()
noncomputable def PySem.W.Fast.tw2338655086055689549:Unit:=()
noncomputable def PySem.W.Fast.tw11900794603391264653:Unit:=()
noncomputable def PySem.W.Fast.tw17419796723457498610:Unit:=()
noncomputable def PySem.W.Fast.tw13890294346637387654:Unit:=()
noncomputable def PySem.W.Fast.tw4521216050351797411:Unit:=()
noncomputable def PySem.W.Fast.tw7455357669717194272:Unit:=()
noncomputable def PySem.W.Fast.tw16629830658624231:Unit:=()
noncomputable def PySem.W.Fast.tw17539106228901586030:Unit:=()
noncomputable def PySem.W.Fast.tw3715915828901541421:Unit:=()
noncomputable def PySem.W.Fast.tw7215311533045387292:Unit:=()
noncomputable def PySem.W.Fast.tw15693791855312325444:Unit:=()
noncomputable def PySem.W.Fast.tw16351071596324141240:Unit:=()
noncomputable def PySem.W.Fast.tw17695484258509623076:Unit:=()
noncomputable def PySem.W.Fast.tw5039718272648136850:Unit:=()
noncomputable def PySem.W.Fast.tw16816855300812384832:Unit:=()
noncomputable def PySem.W.Fast.tw10523198692893942027:Unit:=()
noncomputable def PySem.W.Fast.tw18233147476117530148:Unit:=()
noncomputable def PySem.W.Fast.tw13849088667109819558:Unit:=()
noncomputable def PySem.W.Fast.tw3273546163879303726:Unit:=()
noncomputable def PySem.W.Fast.tw18074860088497453855:Unit:=()
noncomputable def PySem.W.Fast.tw14800644225631212442:Unit:=()
noncomputable def PySem.W.Fast.tw13086574047101619101:Unit:=()
noncomputable def PySem.W.Fast.tw5868692910739819435:Unit:=()
noncomputable def PySem.W.Fast.tw15041168882310636197:Unit:=()
noncomputable def PySem.W.Fast.tw9387936672809605485:Unit:=()
noncomputable def PySem.W.Fast.tw16060101663839627614:Unit:=()
noncomputable def PySem.W.Fast.tw8127528373916942585:Unit:=()
noncomputable def PySem.W.Fast.tw14551703681804247001:Unit:=()
noncomputable def PySem.W.Fast.tw11603392071224724458:Unit:=()
noncomputable def PySem.W.Fast.tw16568510355503336605:Unit:=()
noncomputable def PySem.W.Fast.tw7239791639409822800:Unit:=()
noncomputable def PySem.W.Fast.tw7312340601743885735:Unit:=()
noncomputable def PySem.W.Fast.tw13471911240460497319:Unit:=()
noncomputable def PySem.W.Fast.tw11243754427064645904:Unit:=()
noncomputable def PySem.W.Fast.tw3733097669832819479:Unit:=()
noncomputable def PySem.W.Fast.tw8951956364172686263:Unit:=()
noncomputable def PySem.W.Fast.tw11330427428994671923:Unit:=()
noncomputable def PySem.W.Fast.tw15354848999009007473:Unit:=()
open PySem PySem.W PyProof.Rows
set_option maxRecDepth 100000 in
set_option maxHeartbeats 0 in
theorem PySem.Challenge.cw_roadsall_k10_plans_let_by_holds : PySem.Challenge.rw_roadsall_k10_plans_let_by.Holds := by
 w_on;o_law;k_head;(case hw=>w_witness2)
 k_fill
 refine L2.walk_ofK (l:=PySem.Challenge.rw_roadsall_k10_plans_let_by) (n:=63) (k:=200) (x:="_law_script") (CX:=L2.CX0) (sp:=fun K=>Ev.spR K (Ev.Psi My.Gv My.Att My.Tb 200 "law")) rfl (by decide) rfl ⟨rfl,by decide,by decide⟩ (fun w h Y=>PySem.W.kIn_of Y) ?F ?S ?C
 case F=>
  intro w mg fa h KX G hmg
  have T:Ev.TOk w My.Gv My.Att My.Tb (L2.KOf KX) mg:=by
   dsimp only [L2.KOf]
   refine' My.all_mk KX G ?a0 ?l0 ?c0 ?k0 ?a1 ?l1 ?c1 ?k1 ?a2 ?l2 ?c2 ?k2 ?a3 ?l3 ?c3 ?k3 ?a4 ?l4 ?c4 ?k4 ?a5 ?l5 ?c5 ?k5 ?a6 ?l6 ?c6 ?k6 ?a7 ?l7 ?c7 ?k7 ?a8 ?l8 ?c8 ?k8 ?a9 ?l9 ?c9 ?k9 ?a10 ?l10 ?c10 ?k10 ?a11 ?l11 ?c11 ?k11 ?a12 ?l12 ?c12 ?k12 ?a13 ?l13 ?c13 ?k13 ?a14 ?l14 ?c14 ?k14 ?a15 ?l15 ?c15 ?k15 ?a16 ?l16 ?c16 ?k16 ?a17 ?l17 ?c17 ?k17 ?a18 ?l18 ?c18 ?k18 ?a19 ?l19 ?c19 ?k19 ?a20 ?l20 ?c20 ?k20 ?a21 ?l21 ?c21 ?k21 ?a22 ?l22 ?c22 ?k22 ?a23 ?l23 ?c23 ?k23 ?a24 ?l24 ?c24 ?k24 ?a25 ?l25 ?c25 ?k25 ?a26 ?l26 ?c26 ?k26 ?a27 ?l27 ?c27 ?k27 ?a28 ?l28 ?c28 ?k28 ?a29 ?l29 ?c29 ?k29 ?a30 ?l30 ?c30 ?k30 ?a31 ?l31 ?c31 ?k31 ?a32 ?l32 ?c32 ?k32 ?a33 ?l33 ?c33 ?k33 ?glb0 ?glb1 ?glb2 ?glb3 ?glb4 ?glb5 ?glb6 ?glb7 ?glb8 ?glb9 ?glb10 ?glb11 ?glt11 ?glb12 ?glt12 ?glb13 ?glb14 ?glt14 ?glb15 ?glt15 ?z
   (case a0=>k_is)
   (case l0=>k_is)
   (case c0=>k_is)
   (case k0=>k_is)
   (case a1=>k_is)
   (case l1=>k_is)
   (case c1=>k_is)
   (case k1=>k_is)
   (case a2=>k_is)
   (case l2=>k_is)
   (case c2=>k_is)
   (case k2=>k_is)
   (case a3=>k_is)
   (case l3=>k_is)
   (case c3=>k_is)
   (case k3=>k_is)
   (case a4=>k_is)
   (case l4=>k_is)
   (case c4=>k_is)
   (case k4=>k_is)
   (case a5=>k_is)
   (case l5=>k_is)
   (case c5=>k_is)
   (case k5=>k_is)
   (case a6=>k_is)
   (case l6=>k_is)
   (case c6=>k_is)
   (case k6=>k_is)
   (case a7=>k_is)
   (case l7=>k_is)
   (case c7=>k_is)
   (case k7=>k_is)
   (case a8=>k_is)
   (case l8=>k_is)
   (case c8=>k_is)
   (case k8=>k_is)
   (case a9=>k_is)
   (case l9=>k_is)
   (case c9=>k_is)
   (case k9=>k_is)
   (case a10=>k_is)
   (case l10=>k_is)
   (case c10=>k_is)
   (case k10=>k_is)
   (case a11=>k_is)
   (case l11=>k_is)
   (case c11=>k_is)
   (case k11=>k_is)
   (case a12=>k_is)
   (case l12=>k_is)
   (case c12=>k_is)
   (case k12=>k_is)
   (case a13=>k_is)
   (case l13=>k_is)
   (case c13=>k_is)
   (case k13=>k_is)
   (case a14=>k_is)
   (case l14=>k_is)
   (case c14=>k_is)
   (case k14=>k_is)
   (case a15=>k_is)
   (case l15=>k_is)
   (case c15=>k_is)
   (case k15=>k_is)
   (case a16=>k_is)
   (case l16=>k_is)
   (case c16=>k_is)
   (case k16=>k_is)
   (case a17=>k_is)
   (case l17=>k_is)
   (case c17=>k_is)
   (case k17=>k_is)
   (case a18=>k_is)
   (case l18=>k_is)
   (case c18=>k_is)
   (case k18=>k_is)
   (case a19=>k_is)
   (case l19=>k_is)
   (case c19=>k_is)
   (case k19=>k_is)
   (case a20=>k_is)
   (case l20=>k_is)
   (case c20=>k_is)
   (case k20=>k_is)
   (case a21=>k_is)
   (case l21=>k_is)
   (case c21=>k_is)
   (case k21=>k_is)
   (case a22=>k_is)
   (case l22=>k_is)
   (case c22=>k_is)
   (case k22=>k_is)
   (case a23=>k_is)
   (case l23=>k_is)
   (case c23=>k_is)
   (case k23=>k_is)
   (case a24=>k_is)
   (case l24=>k_is)
   (case c24=>k_is)
   (case k24=>k_is)
   (case a25=>k_is)
   (case l25=>k_is)
   (case c25=>k_is)
   (case k25=>k_is)
   (case a26=>k_is)
   (case l26=>k_is)
   (case c26=>k_is)
   (case k26=>k_is)
   (case a27=>k_is)
   (case l27=>k_is)
   (case c27=>k_is)
   (case k27=>k_is)
   (case a28=>k_is)
   (case l28=>k_is)
   (case c28=>k_is)
   (case k28=>k_is)
   (case a29=>k_is)
   (case l29=>k_is)
   (case c29=>k_is)
   (case k29=>k_is)
   (case a30=>k_is)
   (case l30=>k_is)
   (case c30=>k_is)
   (case k30=>k_is)
   (case a31=>k_is)
   (case l31=>k_is)
   (case c31=>k_is)
   (case k31=>k_is)
   (case a32=>k_is)
   (case l32=>k_is)
   (case c32=>k_is)
   (case k32=>k_is)
   (case a33=>k_is)
   (case l33=>k_is)
   (case c33=>k_is)
   (case k33=>k_is)
   (case glb0=>k_is)
   (case glb1=>k_is)
   (case glb2=>k_is)
   (case glb3=>k_is)
   (case glb4=>k_is)
   (case glb5=>k_is)
   (case glb6=>k_is)
   (case glb7=>k_is)
   (case glb8=>k_is)
   (case glb9=>k_is)
   (case glb10=>k_is)
   (case glb11=>k_is)
   (case glt11=>k_is)
   (case glb12=>k_is)
   (case glt12=>k_is)
   (case glb13=>k_is)
   (case glb14=>k_is)
   (case glt14=>k_is)
   (case glb15=>k_is)
   (case glt15=>k_is)
   case z=>
    intro x hx
    simp only [Ev.bltN,List.mem_cons,List.not_mem_nil,or_false] at hx
    rcases hx with rfl | rfl | rfl | rfl | rfl | rfl | rfl | rfl | rfl | rfl | rfl | rfl | rfl | rfl | rfl | rfl | rfl | rfl <;> k_is
  obtain⟨f,fd,h1⟩:=T.fn My.d_n_law (by simp [My.Tb])
  have e0:=hmg.symm.trans (h1.gl (by decide +kernel))
  cases e0
  refine⟨fd,?_,fun base kb nb=>(Ev.defs_ok T 200).1 My.d_n_law (by simp [My.Tb]) _ fd h1.fn⟩
  obtain⟨oc,od,kV,doc,pm,an,cdv,ct,osl,rfl,lk,hcd⟩:=h1.fn.ex
  exact fun s v=>.of_eq rfl
 case S=>exact fun w H a ns hl hO hS=>My.law_true hl hO hS
 case C=>exact fun _ _ _ _ z=>z
