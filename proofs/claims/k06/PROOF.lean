import PyProof.Rows.All
import Wide.All
import OpenK.AllK
import Wide.FinOn
import Lean
import PyProof.EqAt
import PyProof.EqKinds
import PyProof.TupleCall
import PySem.Challenge.RW_roadsall_k06_whole_texts_keep_their_trut
set_option Elab.async false
set_option linter.all false
set_option maxRecDepth 100000
set_option maxHeartbeats 4000000
set_option Elab.async false
set_option linter.all false
set_option maxRecDepth 100000
namespace L2
open PySem PySem.Spec PyProof.Rows
noncomputable abbrev Key:=Sum Int Str
noncomputable def keyIs:Key->Value->Bool
 | .inl k,v=>Value.isInt k v
 | .inr x,v=>Value.isStrOf x v
noncomputable def keyH (w:World):Key->Int
 | .inl k=>hashInt k
 | .inr x=>hashStr w x
theorem keyIs_shape:∀{k:Key}{v:Value},keyIs k v=true->(∃i t,k=Sum.inl i/\v=Value.int i t)\/(∃x t,k=Sum.inr x/\v=Value.str x t)
 | .inl i,v,h=>by
  obtain⟨t,e⟩:=Value.isInt_shape (k:=i) (v:=v) h
  exact .inl ⟨i,t,rfl,e⟩
 | .inr x,v,h=>by
  obtain⟨t,e⟩:=Value.isStrOf_shape (x:=x) (v:=v) h
  exact .inr ⟨x,t,rfl,e⟩
theorem keyIs_int (i:Int) (t:Tok):keyIs (.inl i) (.int i t)=true:=by simp [keyIs,Value.isInt]
theorem keyIs_str (x:Str) (t:Tok):keyIs (.inr x) (.str x t)=true:=by simp [keyIs,Value.isStrOf]
theorem key_ll (a b:Int):decide ((Sum.inl a:Key)=Sum.inl b)=(a == b):=by
 by_cases e:a=b
 ·subst e;simp
 ·have h:¬(Sum.inl a:Key)=Sum.inl b:=fun q=>e (Sum.inl.inj q)
  rw [decide_eq_false h]
  exact (beq_eq_false_iff_ne.mpr e).symm
theorem key_rr (a b:Str):decide ((Sum.inr a:Key)=Sum.inr b)=decide (a=b):=by
 by_cases e:a=b
 ·subst e;simp
 ·have h:¬(Sum.inr a:Key)=Sum.inr b:=fun q=>e (Sum.inr.inj q)
  rw [decide_eq_false h,decide_eq_false e]
theorem key_lr (a:Int) (b:Str):decide ((Sum.inl a:Key)=Sum.inr b)=false:=decide_eq_false (fun q=>nomatch q)
theorem key_rl (a:Str) (b:Int):decide ((Sum.inr a:Key)=Sum.inl b)=false:=decide_eq_false (fun q=>nomatch q)
noncomputable def mixKind (prog:Program) (w:World):PySem.KeyKind prog w Key where
 is:=keyIs
 hash:=keyH w
 inj:=fun v a b ha hb=>by
  rcases keyIs_shape ha with ⟨i,t,rfl,rfl⟩ | ⟨x,t,rfl,rfl⟩
  ·rcases keyIs_shape hb with ⟨j,u,rfl,e⟩ | ⟨y,u,rfl,e⟩
   ·injection e with e1 _;rw [e1]
   ·exact nomatch e
  ·rcases keyIs_shape hb with ⟨j,u,rfl,e⟩ | ⟨y,u,rfl,e⟩
   ·exact nomatch e
   ·injection e with e1 _;rw [e1]
 byValue:=fun k v h=>by
  rcases keyIs_shape h with ⟨i,t,rfl,rfl⟩ | ⟨x,t,rfl,rfl⟩ <;> rfl
 pyHash:=fun hv h=>by
  rcases keyIs_shape hv with ⟨i,t,rfl,rfl⟩ | ⟨x,t,rfl,rfl⟩
  ·exact wpAny_pyHash_int h
  ·exact wpAny_pyHash_str h
 eqBool:=fun hu hv h=>by
  rcases keyIs_shape hu with ⟨i,t,rfl,rfl⟩ | ⟨x,t,rfl,rfl⟩
  ·rcases keyIs_shape hv with ⟨j,u,rfl,rfl⟩ | ⟨y,u,rfl,rfl⟩
   ·rw [key_ll] at h;exact wpAny_eqBool_int h
   ·rw [key_lr] at h;exact SeqAt.EqAt.int_str i t y u _ _ _ _ h
  ·rcases keyIs_shape hv with ⟨j,u,rfl,rfl⟩ | ⟨y,u,rfl,rfl⟩
   ·rw [key_rl] at h;exact SeqAt.EqAt.str_int x t j u _ _ _ _ h
   ·rw [key_rr] at h;exact wpAny_eqBool_str h
 «strs»:=fun k x t v h=>by
  rcases keyIs_shape h with ⟨i,u,rfl,e⟩ | ⟨y,u,rfl,e⟩
  ·exact nomatch e
  ·injection e with e1 _
   subst e1
   cases v <;> rfl
theorem mixKind_int (prog:Program) (w:World) (i:Int) (t:Tok):(mixKind prog w).is (.inl i) (.int i t)=true:=keyIs_int i t
theorem mixKind_str (prog:Program) (w:World) (x:Str) (t:Tok):(mixKind prog w).is (.inr x) (.str x t)=true:=keyIs_str x t
end L2
namespace L2
open PySem PySem.Spec PyProof.Rows
inductive V where
 | non | bl (b:Bool) | int (i:Int) | str (x:Str) | byt (b:Array UInt8) | flt (b:UInt64) | ref (a:Addr) | ty (n:String)
 deriving DecidableEq
noncomputable def RelV:V->Value->Prop
 | .non,u=>u=Value.none
 | .bl b,u=>u=Value.bool b
 | .int i,u=>∃t,u=Value.int i t
 | .str x,u=>∃t,u=Value.str x t
 | .byt b,u=>∃t,u=Value.bytes b t
 | .flt b,u=>∃t,u=Value.float b t
 | .ref a,u=>u=Value.ref a
 | .ty n,u=>u=Value.type n
noncomputable abbrev Vals:List V->List Value->Prop:=Paired RelV
theorem Vals.length {xs:List V}{us:List Value} (r:Vals xs us):xs.length=us.length:=Paired.length r
theorem Vals.get:∀{xs:List V}{us:List Value}{i:Nat}{x:V},Vals xs us->xs[i]? = some x->∃u,us[i]? = some u/\RelV x u
 | _,_,_,_,.nil,e=>by simp at e
 | _,_,0,_,.cons r _,e=>by simp at e;subst e;exact⟨_,rfl,r⟩
 | _,_,i+1,x,.cons _ t,e=>by
  obtain⟨u,h1,h2⟩:=Vals.get (i:=i) (x:=x) t (by simpa using e)
  exact⟨u,by simpa using h1,h2⟩
theorem Vals.set {x:V}{u:Value} (r:RelV x u):∀{xs:List V}{us:List Value} (i:Nat),Vals xs us->Vals (xs.set i x) (us.set i u)
 | _,_,_,.nil=>.nil
 | _,_,0,.cons _ t=>.cons r t
 | _,_,i+1,.cons q t=>.cons q (Vals.set r i t)
theorem Vals.append:∀{xs ys:List V}{us ws:List Value},Vals xs us->Vals ys ws->Vals (xs++ys) (us++ws)
 | _,_,_,_,.nil,s=>s
 | _,_,_,_,.cons r t,s=>.cons r (Vals.append t s)
theorem Vals.take:∀{xs:List V}{us:List Value} (n:Nat),Vals xs us->Vals (xs.take n) (us.take n)
 | _,_,0,_=>.nil
 | _,_,_+1,.nil=>.nil
 | _,_,n+1,.cons r t=>.cons r (Vals.take n t)
theorem Vals.drop:∀{xs:List V}{us:List Value} (n:Nat),Vals xs us->Vals (xs.drop n) (us.drop n)
 | _,_,0,r=>r
 | _,_,_+1,.nil=>.nil
 | _,_,n+1,.cons _ t=>Vals.drop n t
theorem Vals.none_of:∀{xs:List V}{us:List Value}{i:Nat},Vals xs us->xs[i]? = none->us[i]? = none:=fun {xs us i} r e=>by
 have h1:=r.length
 have h2:xs.length≤i:=List.getElem?_eq_none_iff.mp e
 exact List.getElem?_eq_none_iff.mpr (by omega)
noncomputable def RelO:Option V->Option Value->Prop
 | some v,some u=>RelV v u
 | none,none=>True
 | _,_=>False
noncomputable def KV {κ:Type}:List (κ×V)->List (κ×Value)->Prop:=Paired fun (p:κ×V) (q:κ×Value)=>p.1=q.1/\RelV p.2 q.2
noncomputable def kV:Key->V
 | .inl i=>.int i
 | .inr x=>.str x
inductive HO where
 | lst (xs:List V)
 | tup (xs:List V)
 | dK (kvs:List (Key×V)) | dT (kvs:List (List Key×V))
 | set (S:Int->Bool) (n:Nat)
 | ins (C dx:Addr) (fs:List (Str×V))
 | own (x:Addr)
 | xd (fs:List (Str×V))
 | met (f x:Addr)
 | rng (lo hi:Int)
 | frz (o:Obj) (u:HO)
 | tbl (ps:Array Value)
 | ext (φ:Heap->Prop)
noncomputable abbrev Hp:=Addr->Option HO
noncomputable def upd (H:Hp) (a:Addr) (o:HO):Hp:=fun b=>if b=a then some o else H b
theorem upd_same {H:Hp}{a:Addr}{o:HO}:upd H a o a=some o:=by unfold upd;rw [if_pos rfl]
theorem upd_ne {H:Hp}{a b:Addr}{o:HO} (h:b≠a):upd H a o b=H b:=by unfold upd;rw [if_neg h]
theorem ne_of {H:Hp}{a b:Addr}{o u:HO} (h:H a=some o) (h':H b=some u) (d:o≠u):a≠b:=by
 intro e;subst e;rw [h] at h';exact d (Option.some.inj h')
theorem ne_of_none {H:Hp}{a b:Addr}{o:HO} (h:H a=some o) (h':H b=none):a≠b:=by
 intro e;subst e;rw [h] at h';cases h'
section
variable (P:Program) (w:World)
noncomputable def ObjOk (H:Hp) (h:Heap) (a:Addr):HO->Prop
 | .lst xs=>xs.length≤sizeLine/\∃(its:List Value) (n:Nat),Vals xs its/\h.get? a=some { cls:=.type "list",data:=.seq its.toArray n }
 | .tup xs=>xs.length≤sizeLine/\∃its:List Value,Vals xs its/\IsTup h a its.toArray
 | .dK kvs=>kvs.length≤sizeLine/\(a == sysModules)=false/\∃vs,KV kvs vs/\h.DictOf (mixKind P w) a vs
 | .dT kvs=>kvs.length≤sizeLine/\(a == sysModules)=false/\∃xs:List (List Key×Addr×Value),
   Paired (fun (p:List Key×V) (q:List Key×Addr×Value)=>p.1=q.1/\H q.2.1=some (.tup (p.1.map kV))/\RelV p.2 q.2.2) kvs xs /\
   ∃o es ep,h.get? a=some o/\o.ExactDict/\o.data=.dict es ep/\es.toList=xs.map (entryOfKey (tupleKind (mixKind P w)))/\(xs.map (·.1)).Nodup
 | .set S n=>h.SetOf (intKind P w) a S n
 | .ins C dx fs=>H dx=some (.own a)/\fs.length≤1000/\dx≠a/\h.get? a=some (PySem.W.instObj C dx) /\
   ∃mA,h.Ns1 dx mA/\(∀f,RelO (fs.lookup f) (mA f))/\PySem.Within mA (fs.map (·.1))
 | .own _=>∃o,h.get? a=some o
 | .xd fs=>∃mA,h.Ns1 a mA/\∀f,RelO (fs.lookup f) (mA f)
 | .rng lo hi=>∃t u v,h.get? a=some { cls:=.type "range",data:=.fields #[.int lo t,.int hi u,.int 1 v] }
 | .frz o u=>h.get? a=some o/\ObjOk H h a u
 | .tbl ps=>h.get? a=some { cls:=.none,data:=.fields ps }
 | .met f x=>h.get? a=some (PySem.W.methodObj (.ref f) (.ref x))
 | .ext φ=>φ h/\(∃o,h.get? a=some o)/\∀h1 h2:Heap,φ h1->(∀o,h1.get? a=some o->h2.get? a=some o)->φ h2
noncomputable def HOk (H:Hp) (h:Heap):Prop:=∀a o,H a=some o->ObjOk P w H h a o
end
section
variable {P:Program}{w:World}{H H':Hp}{h h':Heap}{a:Addr}{o:HO}
theorem ObjOk.lt (x:ObjOk P w H h a o):a < h.objs.size:=by
 cases o with
 | lst xs=>obtain⟨_,_,_,_,e⟩:=x;exact Heap.lt_size e
 | tup xs=>obtain⟨_,_,_,p⟩:=x;exact p.lt
 | dK kvs=>obtain⟨_,_,_,_,o,_,_,e,_⟩:=x;exact Heap.lt_size e
 | dT kvs=>obtain⟨_,_,_,_,o,_,_,e,_⟩:=x;exact Heap.lt_size e
 | set S n=>obtain⟨o,_,_,_,e,_⟩:=x;exact Heap.lt_size e
 | ins C dx fs=>obtain⟨_,_,_,e,_⟩:=x;exact Heap.lt_size e
 | own y=>obtain⟨_,e⟩:=x;exact Heap.lt_size e
 | xd fs=>obtain⟨_,⟨_,_,_,e,_⟩,_⟩:=x;exact Heap.lt_size e
 | rng lo hi=>obtain⟨_,_,_,e⟩:=x;exact Heap.lt_size e
 | frz ob u=>obtain⟨e,_⟩:=x;exact Heap.lt_size e
 | tbl ps=>exact Heap.lt_size (show h.get? a=some _ from x)
 | met f y=>exact Heap.lt_size (show h.get? a=some _ from x)
 | ext φ=>obtain⟨_,⟨_,e⟩,_⟩:=x;exact Heap.lt_size e
theorem Paired.mapP {α β:Type}{F G:α->β->Prop}:∀{l₁:List α}{l₂:List β},Paired F l₁ l₂->(∀a b,F a b->G a b)->Paired G l₁ l₂
 | _,_,.nil,_=>.nil
 | _,_,.cons r t,f=>.cons (f _ _ r) (Paired.mapP t f)
theorem Paired.imp' {α β:Type}{F G:α->β->Prop} (f:∀a b,F a b->G a b) {l₁:List α}{l₂:List β} (r:Paired F l₁ l₂):Paired G l₁ l₂:=Paired.mapP r f
theorem ObjOk.stay (x:ObjOk P w H h a o) (k:∀b u,(b=a\/H b=some (.own a))->h.get? b=some u->h'.get? b=some u)
  (ho:∀b,H b=some (.own a)->H' b=some (.own a)) (ht:∀b xs,H b=some (.tup xs)->H' b=some (.tup xs)):ObjOk P w H' h' a o:=by
 induction o with
 | lst xs=>obtain⟨z,its,n,r,e⟩:=x;exact⟨z,its,n,r,k _ _ (.inl rfl) e⟩
 | tup xs=>obtain⟨z,its,r,ob,e,c⟩:=x;exact⟨z,its,r,ob,k _ _ (.inl rfl) e,c⟩
 | dK kvs=>obtain⟨z,y,vs,r,ob,es,ep,e,c⟩:=x;exact⟨z,y,vs,r,ob,es,ep,k _ _ (.inl rfl) e,c⟩
 | dT kvs=>
  obtain⟨z,y,xs,r,ob,es,ep,e,c⟩:=x
  exact⟨z,y,xs,Paired.mapP r fun p q z=>⟨z.1,ht _ _ z.2.1,z.2.2⟩,ob,es,ep,k _ _ (.inl rfl) e,c⟩
 | set S n=>obtain⟨ob,es,ep,t,e,c⟩:=x;exact⟨ob,es,ep,t,k _ _ (.inl rfl) e,c⟩
 | ins C dx fs=>
  obtain⟨d,z,ne,e,mA,⟨od,es,ep,e2,c⟩,r⟩:=x
  exact⟨ho _ d,z,ne,k _ _ (.inl rfl) e,mA,⟨od,es,ep,k _ _ (.inr d) e2,c⟩,r⟩
 | own y=>obtain⟨ob,e⟩:=x;exact⟨ob,k _ _ (.inl rfl) e⟩
 | xd fs=>obtain⟨mA,⟨od,es,ep,e,c⟩,r⟩:=x;exact⟨mA,⟨od,es,ep,k _ _ (.inl rfl) e,c⟩,r⟩
 | rng lo hi=>obtain⟨t,u,v,e⟩:=x;exact⟨t,u,v,k _ _ (.inl rfl) e⟩
 | frz ob u ih=>obtain⟨e,q⟩:=x;exact⟨k _ _ (.inl rfl) e,ih q⟩
 | tbl ps=>
  have e:h.get? a=some { cls:=.none,data:=.fields ps }:=x
  show h'.get? a=some { cls:=.none,data:=.fields ps }
  exact k a _ (.inl rfl) e
 | met f y=>
  have e:h.get? a=some (PySem.W.methodObj (.ref f) (.ref y)):=x
  show h'.get? a=some (PySem.W.methodObj (.ref f) (.ref y))
  exact k a _ (.inl rfl) e
 | ext φ=>obtain⟨p,⟨o,e⟩,st⟩:=x;exact⟨st _ _ p fun o q=>k _ _ (.inl rfl) q,⟨o,k _ _ (.inl rfl) e⟩,st⟩
theorem HOk.lt (x:HOk P w H h) (e:H a=some o):a < h.objs.size:=(x a o e).lt
theorem HOk.fresh (x:HOk P w H h) (e:h.objs.size≤a):H a=none:=by
 cases q:H a with
 | none=>rfl
 | some u=>exact absurd (Nat.lt_of_lt_of_le (x.lt q) e) (Nat.lt_irrefl _)
theorem HOk.kept (x:HOk P w H h) (k:∀b u,h.get? b=some u->h'.get? b=some u):HOk P w H h':=fun a o e=>
 (x a o e).stay (fun b u _ q=>k b u q) (fun _ q=>q) fun _ _ q=>q
theorem HOk.laid (x:HOk P w H h) (k:∀b u,h.get? b=some u->h'.get? b=some u) (hp:h.objs.size≤a) (new:ObjOk P w (upd H a o) h' a o):HOk P w (upd H a o) h':=fun b u e=>by
 have hn:=x.fresh hp
 by_cases hb:b=a
 ·subst hb;rw [upd_same] at e;cases e;exact new
 ·rw [upd_ne hb] at e
  exact (x b u e).stay (fun c v _ q=>k c v q) (fun c q=>by rw [upd_ne (ne_of_none q hn)];exact q) fun c xs q=>by rw [upd_ne (ne_of_none q hn)];exact q
end
noncomputable def Rd (H:Hp) (a:Addr) (u:HO):Prop:=H a=some u\/∃o,H a=some (.frz o u)
theorem Rd.of {H:Hp}{a:Addr}{u:HO} (h:H a=some u):Rd H a u:=.inl h
theorem Rd.ok {P:Program}{w:World}{H:Hp}{h:Heap}{a:Addr}{u:HO} (r:Rd H a u) (x:HOk P w H h):ObjOk P w H h a u:=by
 rcases r with r | ⟨o,r⟩
 ·exact x a u r
 ·obtain⟨_,q⟩:=x a _ r
  exact q
noncomputable def Mut:Option HO->Prop
 | some (.lst _)=>True
 | some (.dK _)=>True
 | some (.dT _)=>True
 | some (.set _ _)=>True
 | some (.ins _ _ _)=>True
 | some (.ext _)=>True
 | _=>False
section
variable {P:Program}{w:World}{H:Hp}{h h':Heap}{x e:Addr}{o':HO}
theorem HOk.write (ok:HOk P w H h) (mu:Mut (H x)) (he:e=x\/H e=some (.own x)) (k:∀b u,b≠e->h.get? b=some u->h'.get? b=some u) (heo:∃u,h'.get? e=some u)
  (new:ObjOk P w (upd H x o') h' x o'):HOk P w (upd H x o') h':=fun b u q=>by
 have nown:∀c y,H c=some (.own y)->c≠x:=fun c y r z=>by subst z;rw [r] at mu;exact mu
 have ntup:∀c xs,H c=some (.tup xs)->c≠x:=fun c xs r z=>by subst z;rw [r] at mu;exact mu
 by_cases hb:b=x
 ·subst hb;rw [upd_same] at q;cases q;exact new
 ·rw [upd_ne hb] at q
  by_cases hbe:b=e
  ·have q':H b=some (.own x):=by
    rcases he with z | z
    ·exact absurd (hbe.trans z) hb
    ·rw [hbe];exact z
   rw [q] at q';cases q'
   obtain⟨v,hv⟩:=heo
   exact⟨v,by rw [hbe];exact hv⟩
  ·refine (ok b u q).stay (fun c v hc r=>k c v ?_ r) (fun c r=>by rw [upd_ne (nown c b r)];exact r) fun c xs r=>by rw [upd_ne (ntup c xs r)];exact r
   rcases hc with rfl | hc
   ·exact hbe
   ·rintro rfl
    rcases he with z | z
    ·exact nown c b hc z
    ·rw [hc] at z;cases z;exact hb rfl
end
structure Un (fs ex:List Addr) (H H':Hp) (h h':Heap):Prop where
 keep:∀b o,h.get? b=some o->H b=none->b ∉ fs->b ∉ ex->h'.get? b=some o
 slot:∀b o,h.get? b=some o->H b=none->b ∈ fs->b ∉ ex->∃sl,h'.get? b=some { o with slots:=sl }
 free:∀b o,h.get? b=some o->H b=none->b ∉ ex->H' b=none
 there:∀b o,h.get? b=some o->b ∉ ex->∃o',h'.get? b=some o'
 tups:∀b xs,H b=some (.tup xs)->H' b=some (.tup xs)
 frzs:∀b o u,H b=some (.frz o u)->H' b=some (.frz o u)
 tbls:∀b ps,H b=some (.tbl ps)->∃more,H' b=some (.tbl (ps++more))
section
variable {fs fs' ex ex':List Addr}{H H1 H2:Hp}{h h1 h2 h':Heap}{a x e:Addr}{o:HO}
theorem Un.any (u:Un fs ex H H1 h h1) {b:Addr}{ob:Obj} (q:h.get? b=some ob) (n:H b=none) (hx:b ∉ ex):∃sl,h1.get? b=some { ob with slots:=sl }:=by
 by_cases hb:b ∈ fs
 ·exact u.slot b ob q n hb hx
 ·exact⟨ob.slots,u.keep b ob q n hb hx⟩
theorem Un.trans (a:Un fs ex H H1 h h1) (b:Un fs ex H1 H2 h1 h2):Un fs ex H H2 h h2 where
 keep:=fun c ob q n hc hx=>b.keep c ob (a.keep c ob q n hc hx) (a.free c ob q n hx) hc hx
 slot:=fun c ob q n hc hx=>by
  obtain⟨sl,e1⟩:=a.slot c ob q n hc hx
  obtain⟨sl',e2⟩:=b.slot c _ e1 (a.free c ob q n hx) hc hx
  exact⟨sl',e2⟩
 free:=fun c ob q n hx=>by
  obtain⟨o',e1⟩:=a.there c ob q hx
  exact b.free c o' e1 (a.free c ob q n hx) hx
 there:=fun c ob q hx=>by
  obtain⟨o',e1⟩:=a.there c ob q hx
  exact b.there c o' e1 hx
 tups:=fun c xs q=>b.tups c xs (a.tups c xs q)
 frzs:=fun c ob xs q=>b.frzs c ob xs (a.frzs c ob xs q)
 tbls:=fun c ps q=>by
  obtain⟨m1,e1⟩:=a.tbls c ps q
  obtain⟨m2,e2⟩:=b.tbls c _ e1
  exact⟨m1++m2,by rw [e2,Array.append_assoc]⟩
theorem Un.kept (k:∀b u,h.get? b=some u->h'.get? b=some u):Un fs ex H H h h':=
 ⟨fun b ob q _ _ _=>k b ob q,fun b ob q _ _ _=>⟨ob.slots,k b ob q⟩,fun _ _ _ n _=>n,fun b ob q _=>⟨ob,k b ob q⟩,fun _ _ q=>q,fun _ _ _ q=>q,fun _ ps q=>⟨#[],by rw [q];simp⟩⟩
theorem Un.refl:Un fs ex H H h h:=Un.kept fun _ _ q=>q
theorem Un.laid (k:∀b u,h.get? b=some u->h'.get? b=some u) (hp:h.objs.size≤a) (hn:H a=none):Un fs ex H (upd H a o) h h' where
 keep:=fun b u q _ _ _=>k b u q
 slot:=fun b u q _ _ _=>⟨u.slots,k b u q⟩
 free:=fun b u q n _=>by rw [upd_ne (Nat.ne_of_lt (Nat.lt_of_lt_of_le (Heap.lt_size q) hp))];exact n
 there:=fun b u q _=>⟨u,k b u q⟩
 tups:=fun b xs q=>by rw [upd_ne (ne_of_none q hn)];exact q
 frzs:=fun b u xs q=>by rw [upd_ne (ne_of_none q hn)];exact q
 tbls:=fun b ps q=>⟨#[],by rw [upd_ne (ne_of_none q hn),q];simp⟩
theorem Un.write (mu:Mut (H x)) (he:e=x\/H e=some (.own x)) (k:∀b u,b≠e->h.get? b=some u->h'.get? b=some u) (heo:∃u,h'.get? e=some u):Un fs ex H (upd H x o) h h':=by
 have hx:∀b,H b=none->b≠x:=fun b n z=>by subst z;rw [n] at mu;exact mu
 have hb:∀b,H b=none->b≠e:=fun b n z=>by
  subst z
  rcases he with r | r
  ·exact hx b n r
  ·rw [n] at r;cases r
 have hm:∀b u,H b=some u->¬Mut (some u)->b≠x:=fun b u q nm z=>by subst z;rw [q] at mu;exact nm mu
 refine⟨fun b u q n _ _=>k b u (hb b n) q,fun b u q n _ _=>⟨u.slots,k b u (hb b n) q⟩,fun b u q n _=>by rw [upd_ne (hx b n)];exact n,fun b u q _=>?_,
  fun b xs q=>by rw [upd_ne (hm b _ q fun z=>z)];exact q,fun b u xs q=>by rw [upd_ne (hm b _ q fun z=>z)];exact q,fun b ps q=>⟨#[],by rw [upd_ne (hm b _ q fun z=>z),q];simp⟩⟩
 by_cases hbe:b=e
 ·subst hbe;exact heo
 ·exact⟨u,k b u hbe q⟩
theorem Un.mono (u:Un fs ex H H1 h h1) (hs:∀b ∈ fs,b ∈ fs') (hx:∀b ∈ ex,b ∈ ex'):Un fs' ex' H H1 h h1:=
 ⟨fun b ob q n hb he=>u.keep b ob q n (fun z=>hb (hs b z)) fun z=>he (hx b z),fun _ _ q n _ he=>u.any q n fun z=>he (hx _ z),fun b ob q n he=>u.free b ob q n fun z=>he (hx b z),fun b ob q he=>u.there b ob q fun z=>he (hx b z),u.tups,u.frzs,u.tbls⟩
end
noncomputable def trk (h:Heap) (H:Hp):List Addr:=(List.range h.objs.size).filter fun a=>(H a).isSome
noncomputable def hidT (h:Heap) (H:Hp):Heap:=PySem.W.hideAll h (trk h H)
theorem hidT_size (h:Heap) (H:Hp):(hidT h H).objs.size=h.objs.size:=PySem.W.hideAll_size _ _
theorem hidT_get {h:Heap}{H:Hp}{b:Addr}{o:Obj} (e:h.get? b=some o) (n:H b=none):(hidT h H).get? b=some o:=
 PySem.W.hideAll_get _ e fun hm=>by
  have q:(H b).isSome=true:=(List.mem_filter.mp hm).2
  rw [n] at q;simp at q
theorem of_hidT {h:Heap}{H:Hp}{b:Addr}{o:Obj} (e:(hidT h H).get? b=some o):h.get? b=some o/\H b=none:=by
 have e':h.get? b=some o:=PySem.W.of_hideAll (trk h H) e
 refine⟨e',?_⟩
 cases q:H b with
 | none=>rfl
 | some x=>
  have hm:b ∈ trk h H:=List.mem_filter.mpr ⟨List.mem_range.mpr (Heap.lt_size e'),by simp [q]⟩
  have z:(hidT h H).get? b=none:=PySem.W.hideAll_none (trk h H) hm
  rw [z] at e;cases e
noncomputable def allNews (g h:Heap) (L:Addr):List (Addr×Obj):=(List.range h.objs.size).filterMap fun a=>if a=L\/(g.get? a).isSome=true then none else (h.get? a).map fun o=>(a,o)
noncomputable def rest (g h:Heap) (L d:Addr):List (Addr×Obj):=(allNews g h L).filter fun p=>decide (p.1≠d)
end L2
namespace L2
open PySem PySem.Spec PyProof.Rows
structure Mod (K:PySem.W.Frag) (mg:Str->Option Value) (base:Heap):Prop where
 kin:K.In base
 glob:base.Ns mainGlobals mg
 blt:∃mb,base.Ns builtinsNs mb/\∀x:Str,x≠"__name__"->mb x=bootBuiltins x
 nolimit:base.NoLimit
structure Cx where
 prog:Program
 w:World
 K:PySem.W.Frag
 mg:Str->Option Value
 base:Heap
 A:Around
 N:List Str
 s₀:Shared
 H₀:Hp
 env:Env
 outer:List Env
 stack:List Env
 ex:List Addr
 fn:Str->Bool
 calm:Bool
 pn:List (Addr×Obj)
 xe:Value->Shared->Prop
noncomputable def frs (l:List Env):List Addr:=l.filterMap (·.frame)
noncomputable abbrev Cx.fs (X:Cx):List Addr:=frs X.outer
noncomputable def Vis (sc:Scope) (x:Str):Prop:=sc.names.lookup x=some .local\/sc.names.lookup x=some .cell\/sc.names.lookup x=some .free
noncomputable def Loc (sc:Scope) (x:Str):Prop:=sc.names.lookup x=some .local\/sc.names.lookup x=some .cell
noncomputable def Look (env:Env) (h:Heap) (m:Str->Option Value) (x:Str) (u:Value):Prop:=
 (env.kindOf x=some .local/\m x=some u)\/((env.kindOf x=some .cell\/env.kindOf x=some .free)/\∃c,env.cells.lookup x=some c/\h.IsCell c (some u))
structure Cx.Ok (X:Cx):Prop where
 mod:Mod X.K X.mg X.base
 kind:X.env.scope.kind=.function
 glob:X.env.globals=mainGlobals
 blt:X.env.builtins=builtinsNs
 above:X.s₀.heap.objs.size≤X.env.locals
 inj:∀x y c,X.env.cells.lookup x=some c->X.env.cells.lookup y=some c->x=y
 has:∀x,(X.env.kindOf x=some .cell\/X.env.kindOf x=some .free)->∃c,X.env.cells.lookup x=some c
 cab:∀x c,X.fn x=true->X.env.cells.lookup x=some c->X.s₀.heap.objs.size≤c
 hd:X.calm=true->X.A.handled=none
 frames:X.A.frames=some X.stack
 stk:X.stack=X.outer\/(X.stack=X.env::X.outer/\X.env.frame=some X.env.locals)
 exf:∀b ∈ X.ex,b≠X.env.locals/\∀x c,X.env.cells.lookup x=some c->c≠b
 bs:∀b o,X.base.get? b=some o->X.s₀.heap.get? b=some o/\X.H₀ b=none
 bsz:X.base.objs.size≤X.s₀.heap.objs.size
 noex:∀b o,X.base.get? b=some o->b ∉ X.ex
 exfs:∀b ∈ X.ex,b ∉ X.fs
 funs:X.s₀.heap.FunFrames X.base X.outer
 frf:∀b ∈ X.fs,X.H₀ b=none
structure Inv (X:Cx) (pins:List (Addr×Obj)) (σ:List (Option V)) (H:Hp) (s:Shared):Prop where
 ok:X.Ok
 os:s.os=X.s₀.os
 bare:AllBare s.gens
 base:Un X.fs X.ex X.H₀ H X.s₀.heap s.heap
 loc:∃m,s.heap.Ns X.env.locals m/\∀(i:Nat) (x:Str) (v:V),X.N[i]? = some x->σ[i]? = some (some v)->Vis X.env.scope x->∃u,RelV v u/\Look X.env s.heap m x u
 cell:∀x c,X.env.cells.lookup x=some c->∃v,s.heap.IsCell c v
 free:H X.env.locals=none
 freeC:∀x c,X.env.cells.lookup x=some c->H c=none
 pin:∀p ∈ X.pn++pins,s.heap.get? p.1=some p.2/\H p.1=none/\p.1≠X.env.locals/\p.1 ∉ X.fs/\∀v,p.2.data≠.cell v
 hok:HOk X.prog X.w H s.heap
 len:σ.length=X.N.length
section
variable {X:Cx}{pins:List (Addr×Obj)}{σ:List (Option V)}{H H':Hp}{s:Shared}{h':Heap}
theorem Cx.Ok.nofr (ok:X.Ok) {b:Addr}{o:Obj} (e:X.base.get? b=some o):b ∉ X.fs:=fun hb=>by
 have:=(ok.funs.mem hb).1
 rw [e] at this;cases this
theorem Inv.bs (I:Inv X pins σ H s):∀b o,X.base.get? b=some o->s.heap.get? b=some o/\H b=none:=fun b o e=>
 ⟨I.base.keep b o (I.ok.bs b o e).1 (I.ok.bs b o e).2 (I.ok.nofr e) (I.ok.noex b o e),I.base.free b o (I.ok.bs b o e).1 (I.ok.bs b o e).2 (I.ok.noex b o e)⟩
theorem Inv.bk (I:Inv X pins σ H s):∀b o,X.base.get? b=some o->s.heap.get? b=some o:=fun b o e=>(I.bs b o e).1
theorem Inv.mod (I:Inv X pins σ H s):Mod X.K X.mg X.base:=I.ok.mod
theorem Inv.kIn (I:Inv X pins σ H s):X.K.In s.heap:=I.ok.mod.kin.keeps I.bk
theorem Inv.nolimit (I:Inv X pins σ H s):s.heap.NoLimit:=I.ok.mod.nolimit.keeps I.bk
theorem Inv.fr (I:Inv X pins σ H s):∃m,Fr X.base X.env.locals s.heap m:=
 let ⟨m,hn,_⟩:=I.loc
 ⟨m,hn,I.bk,Nat.le_trans I.ok.bsz I.ok.above⟩
theorem Inv.lt (I:Inv X pins σ H s):X.env.locals < s.heap.objs.size:=let ⟨_,hn,_⟩:=I.loc;hn.lt
theorem Inv.sz (I:Inv X pins σ H s):X.s₀.heap.objs.size≤s.heap.objs.size:=Nat.le_trans I.ok.above (Nat.le_of_lt I.lt)
theorem Inv.nofs (I:Inv X pins σ H s) {a:Addr} (h:s.heap.objs.size≤a):a ∉ X.fs:=fun hb=>by
 obtain⟨_,o,ho,_⟩:=I.ok.funs.mem hb
 exact absurd (Nat.lt_of_lt_of_le (Heap.lt_size ho) (Nat.le_trans I.sz h)) (Nat.lt_irrefl _)
theorem Inv.cne (I:Inv X pins σ H s):∀x c,X.env.cells.lookup x=some c->c≠X.env.locals:=fun x c e z=>by
 obtain⟨v,o,ho,hd⟩:=I.cell x c e
 obtain⟨m,⟨o',es,ep,ho',hd',_⟩,_⟩:=I.loc
 rw [z,ho'] at ho;cases ho;rw [hd'] at hd;cases hd
theorem Inv.funs (I:Inv X pins σ H s):s.heap.FunFrames X.base X.outer:=by
 have all:∀(l:List Env),(∀b ∈ frs l,b ∈ X.fs)->X.s₀.heap.FunFrames X.base l->s.heap.FunFrames X.base l:=by
  intro l
  induction l with
  | nil=>intro _ _;trivial
  | cons env r ih=>
   intro hs hl
   obtain⟨hk,⟨L,o,hf,hn,ho,hd⟩,hr⟩:=hl
   have hL:L ∈ X.fs:=hs L (by unfold frs;rw [List.filterMap_cons,hf];exact List.mem_cons_self)
   obtain⟨sl,e⟩:=I.base.slot L o ho (I.ok.frf L hL) hL fun z=>I.ok.exfs L z hL
   exact⟨hk,⟨L,_,hf,hn,e,hd⟩,ih (fun b hb=>hs b (by unfold frs;rw [List.filterMap_cons,hf];exact List.mem_cons_of_mem _ hb)) hr⟩
 exact all X.outer (fun _ hb=>hb) I.ok.funs
theorem Inv.stack (I:Inv X pins σ H s):s.heap.FunFrames X.base X.stack:=by
 rcases I.ok.stk with e | ⟨e,hf⟩
 ·rw [e];exact I.funs
 ·rw [e]
  obtain⟨m,hn,_⟩:=I.loc
  refine .cons (by rw [I.ok.kind];decide) hf hn ?_ I.funs
  exact Heap.get?_none_of_le (Nat.le_trans I.ok.bsz I.ok.above)
theorem Inv.stkSub (I:Inv X pins σ H s):∀b ∈ frs X.stack,b ∈ X.env.locals::X.fs:=fun b hb=>by
 rcases I.ok.stk with e | ⟨e,hf⟩
 ·rw [e] at hb;exact List.mem_cons_of_mem _ hb
 ·rw [e] at hb
  unfold frs at hb
  rw [List.filterMap_cons,hf] at hb
  exact hb
theorem Inv.stkFree (I:Inv X pins σ H s):∀b ∈ frs X.stack,H b=none:=fun b hb=>by
 rcases List.mem_cons.mp (I.stkSub b hb) with e | hb
 ·rw [e];exact I.free
 ·obtain⟨_,o,ho,_⟩:=I.ok.funs.mem hb
  exact I.base.free b o ho (I.ok.frf b hb) fun z=>I.ok.exfs b z hb
theorem Inv.step {g':Array GenState}{t':Nat}{d':Drawn}{ch:List Addr} (I:Inv X pins σ H s)
  (hch:∀b ∈ ch,(b ∈ X.ex\/X.s₀.heap.objs.size≤b)/\b≠X.env.locals/\(∀x c,X.env.cells.lookup x=some c->c≠b)/\∀p ∈ X.pn++pins,p.1≠b)
  (keep:∀b o,b≠X.env.locals->b ∉ X.fs->b ∉ ch->s.heap.get? b=some o->H b=none->h'.get? b=some o)
  (slot:∀b o,b≠X.env.locals->b ∈ X.fs->b ∉ ch->s.heap.get? b=some o->H b=none->∃sl,h'.get? b=some { o with slots:=sl }) (free:∀b o,b ∉ ch->s.heap.get? b=some o->H b=none->H' b=none)
  (there:∀b o,b ∉ ch->s.heap.get? b=some o->∃o',h'.get? b=some o')
  (tups:∀b xs,H b=some (.tup xs)->H' b=some (.tup xs)) (frzs:∀b o u,H b=some (.frz o u)->H' b=some (.frz o u)) (tbls:∀b ps,H b=some (.tbl ps)->∃more,H' b=some (.tbl (ps++more)))
  (ns:∀m,s.heap.Ns X.env.locals m->h'.Ns X.env.locals m) (hok:HOk X.prog X.w H' h') (hg:AllBare g') :
  Inv X pins σ H' { s with heap:=h',gens:=g',drawn:=d',toks:=t' }:=by
 have neL:∀b o,X.s₀.heap.get? b=some o->b≠X.env.locals:=fun b o e=>Nat.ne_of_lt (Nat.lt_of_lt_of_le (Heap.lt_size e) I.ok.above)
 have neC:∀b o,X.s₀.heap.get? b=some o->b ∉ X.ex->b ∉ ch:=fun b o e hx hb=>by
  rcases (hch b hb).1 with z | z
  ·exact hx z
  ·exact absurd (Nat.lt_of_lt_of_le (Heap.lt_size e) z) (Nat.lt_irrefl _)
 have cellK:∀x c,X.env.cells.lookup x=some c->∀v,s.heap.IsCell c v->h'.IsCell c v:=fun x c e v hz=>by
  obtain⟨o,ho,hd⟩:=hz
  have nch:c ∉ ch:=fun z=>(hch c z).2.2.1 x c e rfl
  by_cases hc:c ∈ X.fs
  ·obtain⟨sl,q⟩:=slot c o (I.cne x c e) hc nch ho (I.freeC x c e)
   exact⟨_,q,hd⟩
  ·exact⟨o,keep c o (I.cne x c e) hc nch ho (I.freeC x c e),hd⟩
 refine⟨I.ok,I.os,hg,⟨fun b o e n hb hx=>?_,fun b o e n hb hx=>?_,fun b o e n hx=>?_,fun b o e hx=>?_,fun b xs e=>tups b xs (I.base.tups b xs e),fun b o xs e=>frzs b o xs (I.base.frzs b o xs e),fun b ps e=>?_⟩,?_,fun x c e=>?_,?_,fun x c e=>?_,fun p hp=>?_,hok,I.len⟩
 ·exact keep b o (neL b o e) hb (neC b o e hx) (I.base.keep b o e n hb hx) (I.base.free b o e n hx)
 ·obtain⟨sl,e1⟩:=I.base.slot b o e n hb hx
  obtain⟨sl',e2⟩:=slot b _ (neL b o e) hb (neC b o e hx) e1 (I.base.free b o e n hx)
  exact⟨sl',e2⟩
 ·obtain⟨o',e1⟩:=I.base.there b o e hx
  exact free b o' (neC b o e hx) e1 (I.base.free b o e n hx)
 ·obtain⟨o',e1⟩:=I.base.there b o e hx
  exact there b o' (neC b o e hx) e1
 ·obtain⟨m1,e1⟩:=I.base.tbls b ps e
  obtain⟨m2,e2⟩:=tbls b _ e1
  exact⟨m1++m2,by rw [e2,Array.append_assoc]⟩
 ·obtain⟨m,hn,hl⟩:=I.loc
  refine⟨m,ns m hn,fun i x v e1 e2 e3=>?_⟩
  obtain⟨u,r,l⟩:=hl i x v e1 e2 e3
  refine⟨u,r,?_⟩
  rcases l with l | ⟨k,c,e,z⟩
  ·exact .inl l
  ·exact .inr ⟨k,c,e,cellK x c e _ z⟩
 ·obtain⟨v,z⟩:=I.cell x c e
  exact⟨v,cellK x c e v z⟩
 ·obtain⟨m,⟨o,_,_,ho,_⟩,_⟩:=I.loc
  exact free _ o (fun z=>(hch _ z).2.1 rfl) ho I.free
 ·obtain⟨v,o,ho,hd⟩:=I.cell x c e
  exact free c o (fun z=>(hch c z).2.2.1 x c e rfl) ho (I.freeC x c e)
 ·obtain⟨e,n,ne,nf,d⟩:=I.pin p hp
  have nch:p.1 ∉ ch:=fun z=>(hch p.1 z).2.2.2 p hp rfl
  exact⟨keep p.1 p.2 ne nf nch e n,free p.1 p.2 nch e n,ne,nf,d⟩
theorem Inv.un {t':Nat} (I:Inv X pins σ H s) (u:Un X.fs [] H H' s.heap h') (hok:HOk X.prog X.w H' h'):Inv X pins σ H' { s with heap:=h',toks:=t' }:=by
 obtain⟨m,⟨o,es,ep,ho,r⟩,_⟩:=id I.loc
 obtain⟨sl,hL⟩:=u.any ho I.free (by simp)
 exact I.step (g':=s.gens) (d':=s.drawn) (ch:=[]) (fun _ z=>nomatch z) (fun b o _ hb _ e n=>u.keep b o e n hb (by simp)) (fun b o _ hb _ e n=>u.slot b o e n hb (by simp)) (fun b o _ e n=>u.free b o e n (by simp)) (fun b o _ e=>u.there b o e (by simp)) u.tups u.frzs u.tbls (fun m' hm=>by
  obtain⟨o',es',ep',ho',r'⟩:=hm
  rw [ho] at ho';cases ho'
  exact⟨_,es',ep',hL,r'⟩) hok I.bare
theorem Inv.call {g':Array GenState}{t':Nat}{d':Drawn}{ch:List Addr} (I:Inv X pins σ H s) (u:Un (frs X.stack) ch H H' s.heap h') (hok:HOk X.prog X.w H' h') (hg:AllBare g')
  (hch:∀b ∈ ch,(b ∈ X.ex\/X.s₀.heap.objs.size≤b)/\b≠X.env.locals/\(∀x c,X.env.cells.lookup x=some c->c≠b)/\∀p ∈ X.pn++pins,p.1≠b) :
  Inv X pins σ H' { s with heap:=h',gens:=g',drawn:=d',toks:=t' }:=by
 obtain⟨m,⟨o,es,ep,ho,r⟩,_⟩:=id I.loc
 obtain⟨sl,hL⟩:=u.any ho I.free fun z=>(hch _ z).2.1 rfl
 exact I.step (ch:=ch) hch (fun b o hL hb hc e n=>u.keep b o e n (fun z=>(List.mem_cons.mp (I.stkSub b z)).elim hL hb) hc) (fun b o _ _ hc e n=>u.any e n hc) (fun b o hc e n=>u.free b o e n hc) (fun b o hc e=>u.there b o e hc) u.tups u.frzs u.tbls (fun m' hm=>by
  obtain⟨o',es',ep',ho',r'⟩:=hm
  rw [ho] at ho';cases ho'
  exact⟨_,es',ep',hL,r'⟩) hok hg
theorem Inv.turned {t':Nat}{it:Addr} (I:Inv X pins σ H s) (k:∀b o,b≠it->s.heap.get? b=some o->h'.get? b=some o) (hn:H it=none) (hL:it≠X.env.locals)
  (h1:it ∈ X.ex\/X.s₀.heap.objs.size≤it) (h2:∀x c,X.env.cells.lookup x=some c->c≠it) (h3:∀p ∈ X.pn++pins,p.1≠it):Inv X pins σ H { s with heap:=h',toks:=t' }:=by
 have nit:∀b u,H b=some u->b≠it:=fun b u e z=>by rw [z,hn] at e;cases e
 refine I.step (g':=s.gens) (d':=s.drawn) (ch:=[it]) (fun b hb=>?_) (fun b o _ _ hc e _=>k b o (fun z=>hc (by simp [z])) e) (fun b o _ _ hc e _=>⟨o.slots,k b o (fun z=>hc (by simp [z])) e⟩) (fun _ _ _ _ n=>n)
  (fun b o hc e=>⟨o,k b o (fun z=>hc (by simp [z])) e⟩) (fun _ _ e=>e) (fun _ _ _ e=>e) (fun b ps e=>⟨#[],by rw [e];simp⟩) (fun m hm=>?_) (fun b u e=>?_) I.bare
 ·have e:b=it:=by simpa using hb
  subst e
  exact⟨h1,hL,h2,h3⟩
 ·obtain⟨o,es,ep,ho,r⟩:=hm
  exact⟨o,es,ep,k _ o (Ne.symm hL) ho,r⟩
 ·refine (I.hok b u e).stay (fun c v hc q=>k c v ?_ q) (fun _ q=>q) fun _ _ q=>q
  rcases hc with z | z
  ·rw [z];exact nit b u e
  ·exact nit c _ z
theorem Inv.tok (I:Inv X pins σ H s) (t:Nat):Inv X pins σ H { s with toks:=t }:=I.un (h':=s.heap) (t':=t) Un.refl I.hok
theorem Inv.kept {t':Nat} (I:Inv X pins σ H s) (k:∀b u,s.heap.get? b=some u->h'.get? b=some u):Inv X pins σ H { s with heap:=h',toks:=t' }:=I.un (Un.kept k) (I.hok.kept k)
theorem Inv.laid {a:Addr}{o:HO}{t':Nat} (I:Inv X pins σ H s) (k:∀b u,s.heap.get? b=some u->h'.get? b=some u) (hp:s.heap.objs.size≤a) (new:ObjOk X.prog X.w (upd H a o) h' a o) :
  Inv X pins σ (upd H a o) { s with heap:=h',toks:=t' }:=I.un (Un.laid k hp (I.hok.fresh hp)) (I.hok.laid k hp new)
theorem Inv.write {x e:Addr}{o:HO}{t':Nat} (I:Inv X pins σ H s) (mu:Mut (H x)) (he:e=x\/H e=some (.own x)) (k:∀b u,b≠e->s.heap.get? b=some u->h'.get? b=some u) (heo:∃u,h'.get? e=some u)
  (new:ObjOk X.prog X.w (upd H x o) h' x o):Inv X pins σ (upd H x o) { s with heap:=h',toks:=t' }:=I.un (Un.write mu he k heo) (I.hok.write mu he k heo new)
theorem Inv.pins_of {pins':List (Addr×Obj)} (I:Inv X pins σ H s) (h:∀p ∈ pins',s.heap.get? p.1=some p.2/\H p.1=none/\p.1≠X.env.locals/\p.1 ∉ X.fs/\∀v,p.2.data≠.cell v):Inv X pins' σ H s:=
 ⟨I.ok,I.os,I.bare,I.base,I.loc,I.cell,I.free,I.freeC,fun p hp=>(List.mem_append.mp hp).elim (fun z=>I.pin p (List.mem_append_left _ z)) (h p),I.hok,I.len⟩
theorem nodup_ix {N:List Str} (hN:N.Nodup) {i j:Nat}{x:Str} (a:N[i]? = some x) (b:N[j]? = some x):i=j:=by
 obtain⟨h1,e1⟩:=List.getElem?_eq_some_iff.mp a
 obtain⟨h2,e2⟩:=List.getElem?_eq_some_iff.mp b
 exact (List.getElem_inj hN).mp (e1.trans e2.symm)
theorem store_ok2 {M:Model}{A:Around}{E:Value->Shared->Prop}{i:Nat}{x:Str}{v:V}{u:Value}{Q:Unit->Shared->Prop} (I:Inv X pins σ H s) (hN:X.N.Nodup) (hi:X.N[i]? = some x) (hx:Loc X.env.scope x) (r:RelV v u)
  (h:∀s',Inv X pins (σ.set i (some v)) H s'->(∃a,Heap.SameBut a s.heap s'.heap/\(a=X.env.locals\/X.env.cells.lookup x=some a))->Q () s') (hf:X.fn x=true\/X.env.scope.names.lookup x=some .local:=by first | exact .inl rfl | exact .inr rfl | assumption):wpAny M A (storeName X.env x u) Q E s:=by
 obtain⟨m,hn,hl⟩:=id I.loc
 have hcls:(X.env.scope.kind == .class || (X.env.scope.kind == .module && X.env.locals != X.env.globals))=false:=by rw [I.ok.kind];rfl
 have hiσ:i < σ.length:=by rw [I.len];exact (List.getElem?_eq_some_iff.mp hi).1
 have cne:=I.cne
 have tracked:∀{a:Addr}{h':Heap},(∃o,s.heap.get? a=some o/\H a=none)->Heap.SameBut a s.heap h'->HOk X.prog X.w H h':=fun {a h'} ha hs b ob e=>by
  obtain⟨_,_,hfree⟩:=ha
  refine (I.hok b ob e).stay (fun c w' hc q=>(hs.2 c ?_).trans q) (fun _ q=>q) fun _ _ q=>q
  rintro rfl
  rcases hc with rfl | hc
  ·rw [hfree] at e;cases e
  ·rw [hfree] at hc;cases hc
 rcases hx with hk | hk
 ·refine wpAny_storeName_local hk hn (fun h' hn' hs=>?_) hcls
  obtain⟨oL,_,_,hoL,_⟩:=id hn
  refine h _ ⟨I.ok,I.os,I.bare,⟨fun b o e n hb hx=>?_,fun b o e n hb hx=>?_,I.base.free,fun b o e hx=>?_,I.base.tups,I.base.frzs,I.base.tbls⟩,⟨_,hn',fun j y v' e1 e2 e3=>?_⟩,fun y c e=>?_,I.free,I.freeC,fun p hp=>?_,tracked ⟨oL,hoL,I.free⟩ hs,by simpa using I.len⟩ ⟨_,hs,.inl rfl⟩
  ·exact (hs.2 b (Nat.ne_of_lt (Nat.lt_of_lt_of_le (Heap.lt_size e) I.ok.above))).trans (I.base.keep b o e n hb hx)
  ·obtain⟨sl,e1⟩:=I.base.slot b o e n hb hx
   exact⟨sl,(hs.2 b (Nat.ne_of_lt (Nat.lt_of_lt_of_le (Heap.lt_size e) I.ok.above))).trans e1⟩
  ·obtain⟨o',e1⟩:=I.base.there b o e hx
   exact⟨o',(hs.2 b (Nat.ne_of_lt (Nat.lt_of_lt_of_le (Heap.lt_size e) I.ok.above))).trans e1⟩
  ·by_cases hj:j=i
   ·subst hj
    rw [hi] at e1;cases e1
    rw [List.getElem?_set_self hiσ] at e2
    cases e2
    exact⟨u,r,.inl ⟨hk,by simp⟩⟩
   ·rw [List.getElem?_set_ne (Ne.symm hj)] at e2
    obtain⟨u',r',q⟩:=hl j y v' e1 e2 e3
    refine⟨u',r',?_⟩
    rcases q with ⟨k,e⟩ | ⟨k,c,e,z⟩
    ·refine .inl ⟨k,?_⟩
     have:y≠x:=fun e=>hj (nodup_ix hN e1 (e ▸ hi))
     simp [this,e]
    ·exact .inr ⟨k,c,e,z.sameBut hs (cne y c e)⟩
  ·obtain⟨w',z⟩:=I.cell y c e
   exact⟨w',z.sameBut hs (cne y c e)⟩
  ·obtain⟨e,n,ne,nf,d⟩:=I.pin p hp
   exact⟨(hs.2 p.1 ne).trans e,n,ne,nf,d⟩
 ·have hfn:X.fn x=true:=by
   rcases hf with z | z
   ·exact z
   ·rw [z] at hk;cases hk
  obtain⟨c,hc⟩:=I.ok.has x (.inl hk)
  obtain⟨w',z⟩:=I.cell x c hc
  refine wpAny_storeName_cell I.ok.kind hk hc z (fun h' hc' hs=>?_)
  obtain⟨oc,hoc,hocd⟩:=id z
  refine h { s with heap:=h' } ⟨I.ok,I.os,I.bare,⟨fun b o e n hb hx=>?_,fun b o e n hb hx=>?_,I.base.free,fun b o e hx=>?_,I.base.tups,I.base.frzs,I.base.tbls⟩,⟨m,hn.sameBut hs (Ne.symm (cne x c hc)),fun j y v' e1 e2 e3=>?_⟩,fun y c' e=>?_,I.free,I.freeC,fun p hp=>?_,tracked ⟨oc,hoc,I.freeC x c hc⟩ hs,by simpa using I.len⟩ ⟨c,hs,.inr hc⟩
  ·exact (hs.2 b (Nat.ne_of_lt (Nat.lt_of_lt_of_le (Heap.lt_size e) (I.ok.cab x c hfn hc)))).trans (I.base.keep b o e n hb hx)
  ·obtain⟨sl,e1⟩:=I.base.slot b o e n hb hx
   exact⟨sl,(hs.2 b (Nat.ne_of_lt (Nat.lt_of_lt_of_le (Heap.lt_size e) (I.ok.cab x c hfn hc)))).trans e1⟩
  ·obtain⟨o',e1⟩:=I.base.there b o e hx
   exact⟨o',(hs.2 b (Nat.ne_of_lt (Nat.lt_of_lt_of_le (Heap.lt_size e) (I.ok.cab x c hfn hc)))).trans e1⟩
  ·by_cases hj:j=i
   ·subst hj
    rw [hi] at e1;cases e1
    rw [List.getElem?_set_self hiσ] at e2
    cases e2
    exact⟨u,r,.inr ⟨.inl hk,c,hc,hc'⟩⟩
   ·rw [List.getElem?_set_ne (Ne.symm hj)] at e2
    obtain⟨u',r',q⟩:=hl j y v' e1 e2 e3
    refine⟨u',r',?_⟩
    rcases q with q | ⟨k,c',e,z'⟩
    ·exact .inl q
    ·refine .inr ⟨k,c',e,z'.sameBut hs ?_⟩
     rintro rfl
     exact hj (nodup_ix hN e1 (I.ok.inj _ _ _ e hc ▸ hi))
  ·by_cases hcc:c'=c
   ·subst hcc;exact⟨_,hc'⟩
   ·obtain⟨w2,z2⟩:=I.cell y c' e
    exact⟨w2,z2.sameBut hs hcc⟩
  ·obtain⟨e,n,ne,nf,d⟩:=I.pin p hp
   refine⟨(hs.2 p.1 ?_).trans e,n,ne,nf,d⟩
   intro q
   rw [q,hoc] at e
   have q':oc=p.2:=Option.some.inj e
   exact d w' (by rw [<- q'];exact hocd)
theorem store_ok {M:Model}{A:Around}{E:Value->Shared->Prop}{i:Nat}{x:Str}{v:V}{u:Value}{Q:Unit->Shared->Prop} (I:Inv X pins σ H s) (hN:X.N.Nodup) (hi:X.N[i]? = some x) (hx:Loc X.env.scope x) (r:RelV v u)
  (h:∀s',Inv X pins (σ.set i (some v)) H s'->Q () s') (hf:X.fn x=true\/X.env.scope.names.lookup x=some .local:=by first | exact .inl rfl | exact .inr rfl | assumption):wpAny M A (storeName X.env x u) Q E s:=
 store_ok2 I hN hi hx r (fun s' I' _=>h s' I') hf
theorem Inv.call' {s':Shared}{ch:List Addr} (I:Inv X pins σ H s) (ho:s'.os=s.os) (u:Un (frs X.stack) ch H H' s.heap s'.heap) (hok:HOk X.prog X.w H' s'.heap) (hg:AllBare s'.gens)
  (hch:∀b ∈ ch,(b ∈ X.ex\/X.s₀.heap.objs.size≤b)/\b≠X.env.locals/\(∀x c,X.env.cells.lookup x=some c->c≠b)/\∀p ∈ X.pn++pins,p.1≠b):Inv X pins σ H' s':=by
 obtain⟨h',g',d',t',o'⟩:=s'
 have e:o'=s.os:=ho
 subst e
 exact I.call (g':=g') (t':=t') (d':=d') u hok hg hch
end
noncomputable abbrev XK:=Value->Option Addr->Hp->Prop
noncomputable abbrev St:=List (Option V)
noncomputable abbrev VK:=V->Hp->Prop
noncomputable abbrev TE:=St->Hp->VK->Prop
noncomputable abbrev TT:=St->Hp->(Bool->Hp->Prop)->Prop
noncomputable abbrev TA:=St->Hp->(List V->Hp->Prop)->Prop
structure Ends where
 nx:St->Hp->Prop
 rt:VK
 bk:St->Hp->Prop:=fun _ _=>False
 ct:St->Hp->Prop:=fun _ _=>False
noncomputable abbrev TS:=Ends->St->Hp->Prop
noncomputable def EP (X:Cx) (pins:List (Addr×Obj)) (σ:St) (Q:VK) (u:Value) (s':Shared):Prop:=∃v H',Inv X pins σ H' s'/\RelV v u/\Q v H'
noncomputable def TP (X:Cx) (pins:List (Addr×Obj)) (σ:St) (Q:Bool->Hp->Prop) (b:Bool) (s':Shared):Prop:=∃H',Inv X pins σ H' s'/\Q b H'
noncomputable def AP (X:Cx) (pins:List (Addr×Obj)) (σ:St) (Q:List V->Hp->Prop) (us:List Value) (s':Shared):Prop:=∃vs H',Inv X pins σ H' s'/\Vals vs us/\Q vs H'
noncomputable def SP (X:Cx) (pins:List (Addr×Obj)) (D:Ends) (f:Flow) (s':Shared):Prop:=
 match f with
 | .next=>∃σ' H',Inv X pins σ' H' s'/\D.nx σ' H'
 | .brk=>∃σ' H',Inv X pins σ' H' s'/\D.bk σ' H'
 | .cont=>∃σ' H',Inv X pins σ' H' s'/\D.ct σ' H'
 | .ret u=>∃v σ' H',Inv X pins σ' H' s'/\RelV v u/\D.rt v H'
noncomputable def PE (X:Cx) (e:Expr) (t:TE):Prop:=
 ∀(pins:List (Addr×Obj)) (s:Shared) (σ:St) (H:Hp) (Q:VK),Inv X pins σ H s->t σ H Q->wpAny (model X.prog X.w) X.A (eval e X.env) (EP X pins σ Q) X.xe s
noncomputable def PT (X:Cx) (e:Expr) (t:TT):Prop:=
 ∀(pins:List (Addr×Obj)) (s:Shared) (σ:St) (H:Hp) (Q:Bool->Hp->Prop),Inv X pins σ H s->t σ H Q->wpAny (model X.prog X.w) X.A (isTrue e X.env (eval e X.env)) (TP X pins σ Q) X.xe s
noncomputable def PW (X:Cx) (e:Expr) (t:TT):Prop:=
 ∀(whole:Sem Value) (pins:List (Addr×Obj)) (s:Shared) (σ:St) (H:Hp) (Q:Bool->Hp->Prop),Inv X pins σ H s->t σ H Q->wpAny (model X.prog X.w) X.A (isTrue e X.env whole) (TP X pins σ Q) X.xe s
theorem PW.pt {X:Cx}{e:Expr}{t:TT} (h:PW X e t):PT X e t:=h _
noncomputable def PA (X:Cx) (es:List Expr) (t:TA):Prop:=
 ∀(pos:Pos) (pins:List (Addr×Obj)) (s:Shared) (σ:St) (H:Hp) (Q:List V->Hp->Prop),Inv X pins σ H s->t σ H Q->wpAny (model X.prog X.w) X.A (spliced (backTo pos (starEach es X.env))) (AP X pins σ Q) X.xe s
noncomputable def PS (X:Cx) (st:Stmt) (t:TS):Prop:=
 ∀(pins:List (Addr×Obj)) (s:Shared) (σ:St) (H:Hp) (D:Ends),Inv X pins σ H s->t D σ H->wpAny (model X.prog X.w) X.A (exec st X.env) (SP X pins D) X.xe s
noncomputable def PSs (X:Cx) (st:List Stmt) (t:TS):Prop:=
 ∀(pins:List (Addr×Obj)) (s:Shared) (σ:St) (H:Hp) (D:Ends),Inv X pins σ H s->t D σ H->wpAny (model X.prog X.w) X.A (execs st X.env) (SP X pins D) X.xe s
theorem thn {α:Type}{t:Sem α}{Q Q':α->Shared->Prop}{M:Model}{A:Around}{E:Value->Shared->Prop}{s:Shared} (h:wpAny M A t Q E s) (hQ:∀a s,Q a s->Q' a s):wpAny M A t Q' E s:=wpAny_mono h hQ fun _ _ x=>x
end L2
namespace L2
open PySem PySem.Spec PyProof.Rows
section
variable {X:Cx}
theorem bin {a b:Expr}{ta tb:TE} (ha:PE X a ta) (hb:PE X b tb) {pins:List (Addr×Obj)}{s:Shared}{σ:St}{H:Hp}{R:V->V->Hp->Prop} (I:Inv X pins σ H s) (h:ta σ H fun x H1=>tb σ H1 fun y H2=>R x y H2)
  {α:Type}{Q:α->Shared->Prop}{f:Value->Value->Sem α}
  (hf:∀v u s2 x y H2,Inv X pins σ H2 s2->RelV x v->RelV y u->R x y H2->wpAny (model X.prog X.w) X.A (f v u) Q X.xe s2) :
  wpAny (model X.prog X.w) X.A (eval a X.env) (fun v s₁=>wpAny (model X.prog X.w) X.A (eval b X.env) (fun u s₂=>wpAny (model X.prog X.w) X.A (f v u) Q X.xe s₂) X.xe s₁) X.xe s:=by
 refine thn (ha pins s σ H _ I h) fun v s1 hz=>?_
 obtain⟨x,H1,I1,r1,q1⟩:=hz
 refine thn (hb pins s1 σ H1 _ I1 q1) fun u s2 hz=>?_
 obtain⟨y,H2,I2,r2,q2⟩:=hz
 exact hf v u s2 x y H2 I2 r1 r2 q2
noncomputable def tVar (i:Nat):TE:=fun σ H Q=>∃v,σ[i]? = some (some v)/\Q v H
noncomputable def tC (v:V):TE:=fun _ H Q=>Q v H
theorem pe_var {i:Nat}{x:Str}{pos:Pos} (hN:X.N[i]? = some x) (hv:Vis X.env.scope x) (hd:(x == ("__debug__":Str))=false:=by decide) (hcd:(x == ("__classdict__":Str))=false:=by decide):PE X (.Name x pos) (tVar i):=by
 intro pins s σ H Q I h
 obtain⟨v,e,h⟩:=h
 obtain⟨m,hn,hl⟩:=I.loc
 obtain⟨u,r,l⟩:=hl i x v hN e hv
 have fin:EP X pins σ Q u s:=⟨v,H,I,r,h⟩
 rcases l with ⟨hk,hm⟩ | ⟨hk,c,hc,hcell⟩
 ·exact wpAny_Name (wpAny_loadName_local I.ok.kind hk hn hm fin) hd
 ·rcases hk with hk | hk
  ·exact wpAny_Name (wpAny_loadName_cell I.ok.kind hk hc hcell fin) hd
  ·exact wpAny_Name (wpAny_loadName_free I.ok.kind hk hc hcell fin hcd) hd
theorem pe_int {i j pos}:PE X (.Constant (.int i) j pos) (tC (.int i)):=fun _ _ _ H _ I h=>wpAny_Constant_int ⟨.int i,H,I.tok _,⟨_,rfl⟩,h⟩
theorem pe_bl {b j pos}:PE X (.Constant (.bool b) j pos) (tC (.bl b)):=fun _ _ _ H _ I h=>Constant_bool ⟨.bl b,H,I,rfl,h⟩
theorem pe_non {j pos}:PE X (.Constant .none j pos) (tC .non):=fun _ _ _ H _ I h=>Constant_none ⟨.non,H,I,rfl,h⟩
theorem pe_str {x j pos}:PE X (.Constant (.str x) j pos) (tC (.str x)):=fun _ _ _ H _ I h=>Calls.Constant_str ⟨.str x,H,I.tok _,⟨_,rfl⟩,h⟩
noncomputable def Gl (X:Cx) (x:Str):Prop:=X.env.kindOf x=some .globalImplicit
theorem ld_glob {E:Value->Shared->Prop}{pins:List (Addr×Obj)}{s:Shared}{σ:St}{H:Hp}{x:Str}{u:Value}{pos:Pos}{Q:Value->Shared->Prop} (I:Inv X pins σ H s) (hg:Gl X x) (hm:X.mg x=some u) (h:Q u s)
  (hd:(x == ("__debug__":Str))=false:=by decide):wpAny (model X.prog X.w) X.A (eval (.Name x pos) X.env) Q E s:=
 Calls.Name_function_global I.ok.kind hg (Calls.loadGlobal_global (by rw [I.ok.glob];exact I.mod.glob.keeps I.bk) hm h) hd
theorem ld_blt {E:Value->Shared->Prop}{pins:List (Addr×Obj)}{s:Shared}{σ:St}{H:Hp}{x:Str}{u:Value}{pos:Pos}{Q:Value->Shared->Prop} (I:Inv X pins σ H s) (hg:Gl X x) (hm:X.mg x=none) (hv:bootBuiltins x=some u) (h:Q u s)
  (hn:x≠"__name__":=by decide) (hd:(x == ("__debug__":Str))=false:=by decide):wpAny (model X.prog X.w) X.A (eval (.Name x pos) X.env) Q E s:=by
 obtain⟨mb,h1,h2⟩:=I.mod.blt
 exact Calls.Name_function_global I.ok.kind hg (Calls.loadGlobal_builtin (by rw [I.ok.glob];exact I.mod.glob.keeps I.bk) hm (by rw [I.ok.blt];exact h1.keeps I.bk) ((h2 x hn).trans hv) h) hd
theorem pe_glob {x:Str}{v:V}{u:Value}{pos:Pos} (hg:Gl X x) (hm:X.mg x=some u) (r:RelV v u) (hd:(x == ("__debug__":Str))=false:=by decide):PE X (.Name x pos) (tC v):=
 fun _ _ _ H _ I h=>ld_glob I hg hm ⟨v,H,I,r,h⟩ hd
theorem pe_bltn {x:Str}{v:V}{u:Value}{pos:Pos} (hg:Gl X x) (hm:X.mg x=none) (hv:bootBuiltins x=some u) (r:RelV v u) (hn:x≠"__name__":=by decide) (hd:(x == ("__debug__":Str))=false:=by decide):PE X (.Name x pos) (tC v):=
 fun _ _ _ H _ I h=>ld_blt I hg hm hv ⟨v,H,I,r,h⟩ hn hd
noncomputable def t2I (ta tb:TE) (k:Int->Int->Hp->Prop):St->Hp->Prop:=fun σ H=>ta σ H fun x H1=>tb σ H1 fun y H2=>∃i j,x=.int i/\y=.int j/\k i j H2
variable {a b:Expr}{ta tb:TE}{pos:Pos}
noncomputable def tCmp (p:Int->Int->Bool) (ta tb:TE):TE:=fun σ H Q=>t2I ta tb (fun i j H2=>Q (.bl (p i j)) H2) σ H
noncomputable abbrev tLt:TE->TE->TE:=tCmp fun i j=>decide (i < j)
noncomputable abbrev tLe:TE->TE->TE:=tCmp fun i j=>decide (i≤j)
noncomputable abbrev tGt:TE->TE->TE:=tCmp fun i j=>decide (j < i)
noncomputable abbrev tGe:TE->TE->TE:=tCmp fun i j=>decide (j≤i)
noncomputable abbrev tEqI:TE->TE->TE:=tCmp fun i j=>decide (i=j)
noncomputable abbrev tNeI:TE->TE->TE:=tCmp fun i j=>!decide (i=j)
variable {tA tB':TT}{rest:List Expr}
noncomputable def tAnd (t u:TT):TT:=fun σ H Q=>t σ H fun c H1=>if c=true then u σ H1 Q else Q false H1
noncomputable def tOr (t u:TT):TT:=fun σ H Q=>t σ H fun c H1=>if c=true then Q true H1 else u σ H1 Q
noncomputable def tNot (t:TT):TT:=fun σ H Q=>t σ H fun c H1=>Q (!c) H1
theorem pw_and1 (ha:PT X a tA):PW X (.BoolOp .And [a] pos) tA:=by
 intro wh pins s σ H Q I h
 refine isTrue_and (thn (ha pins s σ H Q I h) fun c s1 e=>?_)
 cases c with
 | true=>exact isTrue_and_nil e
 | false=>exact e
theorem pw_or1 (ha:PT X a tA):PW X (.BoolOp .Or [a] pos) tA:=by
 intro wh pins s σ H Q I h
 refine isTrue_or (thn (ha pins s σ H Q I h) fun c s1 e=>?_)
 cases c with
 | false=>exact isTrue_or_nil e
 | true=>exact e
theorem pw_and (ha:PT X a tA) (hb:PW X (.BoolOp .And (b::rest) pos) tB'):PW X (.BoolOp .And (a::b::rest) pos) (tAnd tA tB'):=by
 intro wh pins s σ H Q I h
 refine isTrue_and (thn (ha pins s σ H _ I h) fun c s1 hz=>?_)
 obtain⟨H1,I1,q1⟩:=hz
 cases c with
 | true=>exact hb wh pins s1 σ H1 Q I1 q1
 | false=>exact⟨H1,I1,q1⟩
theorem pw_or (ha:PT X a tA) (hb:PW X (.BoolOp .Or (b::rest) pos) tB'):PW X (.BoolOp .Or (a::b::rest) pos) (tOr tA tB'):=by
 intro wh pins s σ H Q I h
 refine isTrue_or (thn (ha pins s σ H _ I h) fun c s1 hz=>?_)
 obtain⟨H1,I1,q1⟩:=hz
 cases c with
 | true=>exact⟨H1,I1,q1⟩
 | false=>exact hb wh pins s1 σ H1 Q I1 q1
theorem pt_not (ha:PT X a tA):PT X (.UnaryOp .Not a pos) (tNot tA):=by
 intro pins s σ H Q I h
 exact isTrue_not (ha pins s σ H (fun c H1=>Q (!c) H1) I h)
noncomputable def tAndV (ta tb:TE):TE:=fun σ H Q=>ta σ H fun x H1=>∃c,x=.bl c/\if c=true then tb σ H1 Q else Q (.bl false) H1
noncomputable def tOrV (ta tb:TE):TE:=fun σ H Q=>ta σ H fun x H1=>∃c,x=.bl c/\if c=true then Q (.bl true) H1 else tb σ H1 Q
noncomputable def tNotV (ta:TE):TE:=fun σ H Q=>ta σ H fun x H1=>∃c,x=.bl c/\Q (.bl (!c)) H1
theorem pe_one {op}{t:TE} (h:PE X a t):PE X (.BoolOp op [a] pos) t:=fun pins s σ H Q I hw=>BoolOp_one (h pins s σ H Q I hw)
theorem pe_and (ha:PE X a ta) (hb:PE X (.BoolOp .And (b::rest) pos) tb):PE X (.BoolOp .And (a::b::rest) pos) (tAndV ta tb):=by
 intro pins s σ H Q I h
 refine BoolOp_and (thn (ha pins s σ H _ I h) fun v s1 hz=>?_)
 obtain⟨x,H1,I1,r1,q1⟩:=hz
 obtain⟨c,rfl,q1⟩:=q1
 cases r1
 refine wpAny_truthy_bool ?_
 cases c with
 | true=>exact hb pins s1 σ H1 Q I1 q1
 | false=>exact⟨.bl false,H1,I1,rfl,q1⟩
theorem pe_or (ha:PE X a ta) (hb:PE X (.BoolOp .Or (b::rest) pos) tb):PE X (.BoolOp .Or (a::b::rest) pos) (tOrV ta tb):=by
 intro pins s σ H Q I h
 refine BoolOp_or (thn (ha pins s σ H _ I h) fun v s1 hz=>?_)
 obtain⟨x,H1,I1,r1,q1⟩:=hz
 obtain⟨c,rfl,q1⟩:=q1
 cases r1
 refine wpAny_truthy_bool ?_
 cases c with
 | false=>exact hb pins s1 σ H1 Q I1 q1
 | true=>exact⟨.bl true,H1,I1,rfl,q1⟩
theorem pe_not (ha:PE X a ta):PE X (.UnaryOp .Not a pos) (tNotV ta):=by
 intro pins s σ H Q I h
 refine UnaryOp_ (thn (ha pins s σ H _ I h) fun v s1 hz=>?_)
 obtain⟨x,H1,I1,r1,q1⟩:=hz
 obtain⟨c,rfl,q1⟩:=q1
 cases r1
 exact not_of (wpAny_truthy_bool ⟨.bl (!c),H1,I1,rfl,q1⟩)
noncomputable def tIf (t:TT) (ta tb:TE):TE:=fun σ H Q=>t σ H fun c H1=>if c=true then ta σ H1 Q else tb σ H1 Q
theorem pe_ifExp {c:Expr} (hc:PT X c tA) (ha:PE X a ta) (hb:PE X b tb):PE X (.IfExp c a b pos) (tIf tA ta tb):=by
 intro pins s σ H Q I h
 refine wpAny_IfExp (thn (hc pins s σ H _ I h) fun d s1 hz=>?_)
 obtain⟨H1,I1,q1⟩:=hz
 cases d with
 | true=>exact ha pins s1 σ H1 Q I1 q1
 | false=>exact hb pins s1 σ H1 Q I1 q1
end
end L2
namespace L2
open PySem PySem.Spec PyProof.Rows
noncomputable def SqL (K:PySem.W.Frag) (H:Hp) (a:Addr) (xs:List V):Prop:=
 Rd H a (.lst xs) \/
  ∃(o:Obj) (its:Array Value) (n:Nat),K.lookup a=some o/\o.cls=.type "list"/\o.dict=none/\o.data=.seq its n/\its.size≤sizeLine/\Vals xs its.toList
noncomputable def SqT (K:PySem.W.Frag) (H:Hp) (a:Addr) (xs:List V):Prop:=
 Rd H a (.tup xs) \/
  ∃(o:Obj) (its:Array Value) (n:Nat),K.lookup a=some o/\o.cls=.type "tuple"/\o.data=.seq its n/\its.size≤sizeLine/\Vals xs its.toList
noncomputable def absV:Value->Option V
 | .none=>some .non
 | .bool b=>some (.bl b)
 | .int i _=>some (.int i)
 | .str x _=>some (.str x)
 | .bytes b _=>some (.byt b)
 | .float b _=>some (.flt b)
 | .ref a=>some (.ref a)
 | .type n=>some (.ty n)
 | _=>none
theorem RelV.abs {x:V}{u:Value} (r:RelV x u):absV u=some x:=by
 cases x with
 | non=>cases r;rfl
 | bl _=>cases r;rfl
 | int _=>obtain⟨t,rfl⟩:=r;rfl
 | str _=>obtain⟨t,rfl⟩:=r;rfl
 | byt _=>obtain⟨t,rfl⟩:=r;rfl
 | flt _=>obtain⟨t,rfl⟩:=r;rfl
 | ref _=>cases r;rfl
 | ty _=>cases r;rfl
theorem RelV.inj {x y:V}{u:Value} (r:RelV x u) (q:RelV y u):x=y:=Option.some.inj (r.abs.symm.trans q.abs)
theorem Vals.inj:∀{xs ys:List V}{us:List Value},Vals xs us->Vals ys us->xs=ys
 | _,_,_,.nil,.nil=>rfl
 | _,_,_,.cons r t,.cons r' t'=>by rw [r.inj r',Vals.inj t t']
section
variable {X:Cx}{pins:List (Addr×Obj)}{σ:St}{H:Hp}{s:Shared}{a:Addr}{xs ys:List V}
theorem SqL.of {K:PySem.W.Frag} (h:H a=some (.lst xs)):SqL K H a xs:=.inl (.inl h)
theorem SqT.of {K:PySem.W.Frag} (h:H a=some (.tup xs)):SqT K H a xs:=.inl (.inl h)
theorem Inv.list (I:Inv X pins σ H s) (h:SqL X.K H a xs):∃its:List Value,Vals xs its/\PlainL s.heap a its.toArray/\xs.length≤sizeLine:=by
 rcases h with h | ⟨o,its,n,hk,hc,hd,hs,hz,r⟩
 ·obtain⟨z,its,n,r,e⟩:=h.ok I.hok
  exact⟨its,r,⟨_,n,e,rfl,rfl,rfl⟩,z⟩
 ·refine⟨its.toList,r,⟨o,n,I.kIn a o hk,hc,hd,by simpa using hs⟩,?_⟩
  have e:=r.length
  simp only [Array.length_toList] at e
  omega
theorem Inv.tuple (I:Inv X pins σ H s) (h:SqT X.K H a xs):∃its:List Value,Vals xs its/\IsTup s.heap a its.toArray/\xs.length≤sizeLine:=by
 rcases h with h | ⟨o,its,n,hk,hc,hs,hz,r⟩
 ·obtain⟨z,its,r,p⟩:=h.ok I.hok
  exact⟨its,r,p,z⟩
 ·refine⟨its.toList,r,⟨o,I.kIn a o hk,hc,n,by simpa using hs⟩,?_⟩
  have e:=r.length
  simp only [Array.length_toList] at e
  omega
theorem Inv.list_inj (I:Inv X pins σ H s) (h:SqL X.K H a xs) (h':SqL X.K H a ys):xs=ys:=by
 obtain⟨its,r,⟨o,n,e,_,_,d⟩,_⟩:=I.list h
 obtain⟨its',r',⟨o',n',e',_,_,d'⟩,_⟩:=I.list h'
 rw [e] at e';cases e'
 rw [d] at d'
 injection d' with d1 _
 have:its=its':=by simpa using congrArg Array.toList d1
 subst this
 exact r.inj r'
theorem Inv.tuple_inj (I:Inv X pins σ H s) (h:SqT X.K H a xs) (h':SqT X.K H a ys):xs=ys:=by
 obtain⟨its,r,⟨o,e,_,n,d⟩,_⟩:=I.tuple h
 obtain⟨its',r',⟨o',e',_,n',d'⟩,_⟩:=I.tuple h'
 rw [e] at e';cases e'
 rw [d] at d'
 injection d' with d1 _
 have:its=its':=by simpa using congrArg Array.toList d1
 subst this
 exact r.inj r'
end
noncomputable abbrev Cx.wish (X:Cx) (E:Value->Shared->Prop):Cx:={ X with xe:=E }
noncomputable abbrev Cx.nox (X:Cx):Cx:=X.wish fun _ _=>False
theorem Cx.Ok.wish {X:Cx} (ok:X.Ok) (E:Value->Shared->Prop):(X.wish E).Ok:=
 ⟨ok.mod,ok.kind,ok.glob,ok.blt,ok.above,ok.inj,ok.has,ok.cab,ok.hd,ok.frames,ok.stk,ok.exf,ok.bs,ok.bsz,ok.noex,ok.exfs,ok.funs,ok.frf⟩
theorem Cx.Ok.unwish {X:Cx}{E:Value->Shared->Prop} (ok:(X.wish E).Ok):X.Ok:=
 ⟨ok.mod,ok.kind,ok.glob,ok.blt,ok.above,ok.inj,ok.has,ok.cab,ok.hd,ok.frames,ok.stk,ok.exf,ok.bs,ok.bsz,ok.noex,ok.exfs,ok.funs,ok.frf⟩
section
variable {X:Cx}{pins:List (Addr×Obj)}{σ:St}{H:Hp}{s:Shared}{E:Value->Shared->Prop}
theorem Inv.wish (I:Inv X pins σ H s) (E:Value->Shared->Prop):Inv (X.wish E) pins σ H s:=⟨I.ok.wish E,I.os,I.bare,I.base,I.loc,I.cell,I.free,I.freeC,I.pin,I.hok,I.len⟩
theorem Inv.unwish (I:Inv (X.wish E) pins σ H s):Inv X pins σ H s:=⟨I.ok.unwish,I.os,I.bare,I.base,I.loc,I.cell,I.free,I.freeC,I.pin,I.hok,I.len⟩
theorem SP.unwish {D:Ends}{f:Flow}{s':Shared} (h:SP (X.wish E) pins D f s'):SP X pins D f s':=by
 cases f with
 | next=>obtain⟨σ',H',I,q⟩:=h;exact⟨σ',H',I.unwish,q⟩
 | brk=>obtain⟨σ',H',I,q⟩:=h;exact⟨σ',H',I.unwish,q⟩
 | cont=>obtain⟨σ',H',I,q⟩:=h;exact⟨σ',H',I.unwish,q⟩
 | ret u=>obtain⟨v,σ',H',I,r,q⟩:=h;exact⟨v,σ',H',I.unwish,r,q⟩
theorem PE.nox {e:Expr}{t:TE} (h:PE X.nox e t):PE X e t:=fun pins s σ H Q I hw=>
 wpAny_mono (h pins s σ H Q (I.wish _) hw) (fun _ _ hz=>by obtain⟨v,H',I',r,q⟩:=hz;exact⟨v,H',I'.unwish,r,q⟩) fun _ _ z=>False.elim z
theorem PT.nox {e:Expr}{t:TT} (h:PT X.nox e t):PT X e t:=fun pins s σ H Q I hw=>
 wpAny_mono (h pins s σ H Q (I.wish _) hw) (fun _ _ hz=>by obtain⟨H',I',q⟩:=hz;exact⟨H',I'.unwish,q⟩) fun _ _ z=>False.elim z
theorem PSs.nox {st:List Stmt}{t:TS} (h:PSs X.nox st t):PSs X st t:=fun pins s σ H D I hw=>
 wpAny_mono (h pins s σ H D (I.wish _) hw) (fun _ _ q=>q.unwish) fun _ _ z=>False.elim z
end
section
variable {X:Cx}{st:Stmt}{rest:List Stmt}{t u:TS}{e:Expr}{te:TE}{pos:Pos}
noncomputable def tNext:TS:=fun D σ H=>D.nx σ H
noncomputable def tSeq (t u:TS):TS:=fun D σ H=>t { D with nx:=u D } σ H
theorem pss_nil:PSs X [] tNext:=fun _ _ σ H _ I h=>wpAny_execs_nil ⟨σ,H,I,h⟩
theorem pss_cons (h1:PS X st t) (h2:PSs X rest u):PSs X (st::rest) (tSeq t u):=by
 intro pins s σ H D I h
 refine wpAny_execs_cons (thn (h1 pins s σ H { D with nx:=u D } I h) fun f s1 q=>?_)
 cases f with
 | next=>
  obtain⟨σ',H',I',q⟩:=q
  exact h2 pins s1 σ' H' D I' q
 | ret v=>exact q
 | brk=>exact q
 | cont=>exact q
theorem pss_one (h1:PS X st t):PSs X [st] t:=by
 intro pins s σ H D I h
 refine wpAny_execs_cons (thn (h1 pins s σ H D I h) fun f s1 q=>?_)
 cases f with
 | next=>exact wpAny_execs_nil q
 | ret v=>exact q
 | brk=>exact q
 | cont=>exact q
noncomputable def tCont:TS:=fun D σ H=>D.ct σ H
theorem ps_continue:PS X (.Continue pos) tCont:=fun _ _ σ H _ I h=>wpAny_Continue ⟨σ,H,I,h⟩
theorem Inv.quiet {pins:List (Addr×Obj)}{σ:St}{H:Hp}{s:Shared} (I:Inv X pins σ H s):interactive X.env=false:=by simp [interactive,I.ok.kind]
noncomputable def tDrop (te:TE):TS:=fun D σ H=>te σ H fun _ H1=>D.nx σ H1
theorem ps_expr (he:PE X e te) (hs:swapsWith e none pos.line X.env=pure false:=by rfl):PS X (.Expr e pos) (tDrop te):=by
 intro pins s σ H D I h
 exact wpAny_Expr_any (thn (he pins s σ H _ I h) fun v s1 hz=>by obtain⟨x,H1,I1,r1,q1⟩:=hz;exact⟨σ,H1,I1,q1⟩) I.quiet hs
noncomputable def tRet (te:TE):TS:=fun D σ H=>te σ H D.rt
theorem ps_ret (he:PE X e te):PS X (.Return (some e) pos) (tRet te):=by
 intro pins s σ H D I h
 exact wpAny_Return_some (thn (he pins s σ H _ I h) fun v s1 hz=>by obtain⟨x,H1,I1,r1,q1⟩:=hz;exact⟨x,σ,H1,I1,r1,q1⟩)
noncomputable def tIfS (c:TT) (t u:TS):TS:=fun D σ H=>c σ H fun b H1=>if b=true then t D σ H1 else u D σ H1
theorem ps_if {c:Expr}{a b:List Stmt}{tc:TT} (hc:PT X c tc) (ha:PSs X a t) (hb:PSs X b u):PS X (.If c a b pos) (tIfS tc t u):=by
 intro pins s σ H D I h
 refine wpAny_If (thn (hc pins s σ H _ I h) fun d s1 hz=>?_)
 obtain⟨H1,I1,q1⟩:=hz
 cases d with
 | true=>exact ha pins s1 σ H1 D I1 q1
 | false=>exact hb pins s1 σ H1 D I1 q1
noncomputable def tNever:TS:=fun _ _ _=>False
theorem ps_never:PS X st tNever:=fun _ _ _ _ _ _ h=>h.elim
theorem pss_never {sts:List Stmt}:PSs X sts tNever:=fun _ _ _ _ _ _ h=>h.elim
end
noncomputable abbrev TG:=V->St->Hp->(St->Hp->Prop)->Prop
noncomputable abbrev TGs:=List V->St->Hp->(St->Hp->Prop)->Prop
noncomputable def PG (X:Cx) (target:Expr) (t:TG):Prop:=
 ∀(pins:List (Addr×Obj)) (s:Shared) (σ:St) (H:Hp) (v:V) (u:Value) (Q:St->Hp->Prop),Inv X pins σ H s->RelV v u->t v σ H Q ->
  wpAny (model X.prog X.w) X.A (assign target X.env u) (fun _ s'=>∃σ' H',Inv X pins σ' H' s'/\Q σ' H') X.xe s
noncomputable abbrev TSet:=V->V->V->Hp->(Hp->Prop)->Prop
noncomputable abbrev TIp:=V->V->Hp->VK->Prop
noncomputable def PIp (X:Cx) (op:Operator) (t:TIp):Prop:=
 ∀(pins:List (Addr×Obj)) (s:Shared) (σ:St) (H:Hp) (x y:V) (v u:Value) (Q:VK),Inv X pins σ H s->RelV x v->RelV y u->t x y H Q ->
  wpAny (model X.prog X.w) X.A (inplaceOp op v u) (EP X pins σ Q) X.xe s
section
variable {X:Cx}{pos:Pos}
noncomputable def gName (i:Nat):TG:=fun v σ H Q=>Q (σ.set i (some v)) H
theorem pg_name {i:Nat}{x:Str} (hN:X.N.Nodup) (hi:X.N[i]? = some x) (hx:Loc X.env.scope x) (hf:X.fn x=true\/X.env.scope.names.lookup x=some .local:=by first | exact .inl rfl | exact .inr rfl | assumption):PG X (.Name x pos) (gName i):=by
 intro pins s σ H v u Q I r h
 exact wpAny_assign_Name (store_ok I hN hi hx r (fun s' I'=>⟨_,H,I',h⟩) hf)
noncomputable def tAsg (te:TE) (g:TG):TS:=fun D σ H=>te σ H fun x H1=>g x σ H1 D.nx
theorem ps_set {i:Nat}{x:Str}{e:Expr}{te:TE}{pos':Pos} (hN:X.N.Nodup) (hi:X.N[i]? = some x) (hx:Loc X.env.scope x) (he:PE X e te) (hs:swapsWith e (some (.Name x pos')) pos.line X.env=pure false:=by rfl) (hf:X.fn x=true\/X.env.scope.names.lookup x=some .local:=by first | exact .inl rfl | exact .inr rfl | assumption) :
  PS X (.Assign [.Name x pos'] e pos) (tAsg te (gName i)):=by
 intro pins s σ H D I h
 refine wpAny_Assign_Name (thn (he pins s σ H _ I h) fun v s1 hz=>?_) hs
 obtain⟨y,H1,I1,r1,q1⟩:=hz
 exact store_ok I1 hN hi hx r1 (fun s2 I2=>⟨_,H1,I2,q1⟩) hf
noncomputable def tAug (i:Nat) (te:TE) (ti:TIp):TS:=fun D σ H=>∃x,σ[i]? = some (some x)/\te σ H fun y H1=>ti x y H1 fun z H2=>D.nx (σ.set i (some z)) H2
theorem ps_aug {i:Nat}{x:Str}{e:Expr}{te:TE}{op:Operator}{ti:TIp}{pos':Pos} (hN:X.N.Nodup) (hi:X.N[i]? = some x) (hx:Loc X.env.scope x) (he:PE X e te) (ho:PIp X op ti) (hf:X.fn x=true\/X.env.scope.names.lookup x=some .local:=by first | exact .inl rfl | exact .inr rfl | assumption) :
  PS X (.AugAssign (.Name x pos') op e pos) (tAug i te ti):=by
 intro pins s σ H D I h
 obtain⟨v,e1,h⟩:=h
 obtain⟨m,hn,hl⟩:=I.loc
 have vis:Vis X.env.scope x:=by rcases hx with k | k;exact .inl k;exact .inr (.inl k)
 obtain⟨u,r,l⟩:=hl i x v hi e1 vis
 refine wpAny_AugAssign_Name ?_
 have go:wpAny (model X.prog X.w) X.A (eval e X.env) (fun w s₂=>wpAny (model X.prog X.w) X.A (inplaceOp op u w) (fun r s₃=>wpAny (model X.prog X.w) X.A (storeName X.env x r) (fun _=>SP X pins D .next) X.xe s₃) X.xe s₂) X.xe s:=by
  refine thn (he pins s σ H _ I h) fun w s1 hz=>?_
  obtain⟨y,H1,I1,r1,q1⟩:=hz
  refine thn (ho pins s1 σ H1 v y u w _ I1 r r1 q1) fun z s2 hz=>?_
  obtain⟨zv,H2,I2,r2,q2⟩:=hz
  exact store_ok I2 hN hi hx r2 (fun s3 I3=>⟨_,H2,I3,q2⟩) hf
 rcases l with ⟨hk,hm⟩ | ⟨hk,c,hc,hcell⟩
 ·exact wpAny_loadName_local I.ok.kind hk hn hm go
 ·rcases hk with hk | hk
  ·exact wpAny_loadName_cell I.ok.kind hk hc hcell go
  ·rcases hx with k | k
   ·have:X.env.scope.names.lookup x=some .free:=hk
    rw [k] at this;cases this
   ·have:X.env.scope.names.lookup x=some .free:=hk
    rw [k] at this;cases this
noncomputable def ipI (f:Int->Int->Int):TIp:=fun x y H Q=>∃i j,x=.int i/\y=.int j/\Q (.int (f i j)) H
theorem ip_add:PIp X .Add (ipI fun i j=>i+j):=by
 intro pins s σ H x y v u Q I r1 r2 h
 obtain⟨i,j,e1,e2,q⟩:=h
 subst e1;subst e2
 obtain⟨t,rfl⟩:=r1
 obtain⟨t',rfl⟩:=r2
 exact iadd_int ⟨.int _,H,I.tok _,⟨_,rfl⟩,q⟩
end
section
variable {X:Cx}{pos:Pos}
noncomputable def tWhile (c:TT) (tb:TS):TS:=fun D σ H=>∃W:Nat->St->Hp->Prop,(∃m,W m σ H)/\∀m σ H,W m σ H ->
 c σ H fun b H1=>if b=true then ∃N:St->Hp->Prop,(∀σ' H',N σ' H'->∃m',m' < m/\W m' σ' H')/\tb { D with nx:=N,ct:=N,bk:=D.nx } σ H1 else D.nx σ H1
theorem ps_while {c:Expr}{body:List Stmt}{tc:TT}{tb:TS} (hp:PassesOwn (model X.prog X.w) X.A X.env X.xe) (hc:PT X c tc) (hb:PSs X body tb):PS X (.While c body [] pos) (tWhile tc tb):=by
 intro pins s σ H D I h
 obtain⟨W,⟨m0,w0⟩,turn⟩:=h
 refine wpAny_While (codeAny_whileLoop (fun n s'=>∃σ' H',Inv X pins σ' H' s'/\W n σ' H') ?_ m0 ⟨σ,H,I,w0⟩)
 rintro n s1 ⟨σ1,H1,I1,w1⟩
 refine wpAny_passesOwn hp (thn (hc pins s1 σ1 H1 _ I1 (turn n σ1 H1 w1)) fun b s2 hz=>?_)
 obtain⟨H2,I2,q2⟩:=hz
 cases b with
 | true=>
  obtain⟨N,hN,q2⟩:=q2
  rw [if_pos rfl]
  refine wpAny_passesOwn hp (thn (hb pins s2 σ1 H2 _ I2 q2) fun f s3 q3=>?_)
  cases f with
  | next=>
   obtain⟨σ3,H3,I3,n3⟩:=q3
   obtain⟨m',hm,w3⟩:=hN σ3 H3 n3
   exact⟨m',hm,σ3,H3,I3,w3⟩
  | cont=>
   obtain⟨σ3,H3,I3,n3⟩:=q3
   obtain⟨m',hm,w3⟩:=hN σ3 H3 n3
   exact⟨m',hm,σ3,H3,I3,w3⟩
  | brk=>exact q3
  | ret v=>exact q3
 | false=>
  rw [if_neg Bool.false_ne_true]
  exact wpAny_execs_nil ⟨σ1,H2,I2,q2⟩
end
structure It where
 go:Nat->Hp->Prop
 yld:Nat->Hp->V->Hp->Prop
 stop:Nat->Hp->Prop
noncomputable def FpOk (X:Cx) (pins:List (Addr×Obj)) (H:Hp) (b:Addr):Prop:=
 H b=none/\b≠X.env.locals/\b ∉ X.fs/\(b ∈ X.ex\/X.s₀.heap.objs.size≤b)/\(∀x c,X.env.cells.lookup x=some c->c≠b)/\∀p ∈ X.pn++pins,p.1≠b
theorem Inv.fpOk {X:Cx}{pins:List (Addr×Obj)}{σ:St}{H H':Hp}{s:Shared}{b:Addr} (I:Inv X pins σ H s) (hb:s.heap.objs.size≤b) (hn:H' b=none):FpOk X pins H' b:=by
 refine⟨hn,Nat.ne_of_gt (Nat.lt_of_lt_of_le I.lt hb),I.nofs hb,.inr (Nat.le_trans I.sz hb),fun x c e z=>?_,fun p hp z=>?_⟩
 ·obtain⟨v,q⟩:=I.cell x c e
  exact absurd (Nat.lt_of_lt_of_le q.lt (by rw [z];exact hb)) (Nat.lt_irrefl _)
 ·exact absurd (Nat.lt_of_lt_of_le (Heap.lt_size (I.pin p hp).1) (by rw [z];exact hb)) (Nat.lt_irrefl _)
structure Turn (P:Program) (w:World) (K:PySem.W.Frag) (tg:Expr) (J:It) (fp:List Addr) (it:Addr) (tn:Nat->Heap->Prop):Prop where
 mem:it ∈ fp
 obj:∀i h,tn i h->∀b ∈ fp,∃o,h.get? b=some o/\∀v,o.data≠.cell v
 keep:∀i h h',tn i h->(∀b ∈ fp,∀o,h.get? b=some o->h'.get? b=some o)->tn i h'
 item:∀(X:Cx),X.prog=P->X.w=w->X.K=K->X.calm=true->∀(i:Nat) (pins:List (Addr×Obj)) (s:Shared) (σ:St) (H:Hp) (E:Value->Shared->Prop),Inv X pins σ H s->(∀b ∈ fp,FpOk X pins H b)->tn i s.heap->J.go i H ->
  wpAny (model P w) X.A (pyNext (.ref it)) (fun r s1=>∃u,r=some u /\
   wpAny (model P w) X.A (letOwnedTupleGo tg (.ref it) u) (fun _ s2=>∃x H',Inv X pins σ H' s2/\RelV x u/\J.yld i H x H'/\tn (i+1) s2.heap/\∀b ∈ fp,H' b=none) E s1) E s
 done:∀(X:Cx),X.prog=P->X.w=w->X.K=K->X.calm=true->∀(i:Nat) (pins:List (Addr×Obj)) (s:Shared) (σ:St) (H:Hp) (E:Value->Shared->Prop),Inv X pins σ H s->(∀b ∈ fp,FpOk X pins H b)->tn i s.heap->J.stop i H ->
  wpAny (model P w) X.A (pyNext (.ref it)) (fun r s1=>r=none/\Inv X pins σ H s1) E s
 self:∀(A:Around) (i:Nat) (s:Shared) (Q:Value->Shared->Prop) (E:Value->Shared->Prop),tn i s.heap->Q (.ref it) s->wpAny (model P w) A (pyIter (.ref it)) Q E s
noncomputable abbrev TI:=St->Hp->(It->Hp->Prop)->Prop
noncomputable def PIE (X:Cx) (pins:List (Addr×Obj)) (σ:St) (tg:Expr) (R:It->Hp->Prop) (itv:Value) (s2:Shared):Prop:=
 ∃(it:Addr) (fp:List Addr) (tn:Nat->Heap->Prop) (J:It) (H':Hp),itv=.ref it/\Inv X pins σ H' s2/\Turn X.prog X.w X.K tg J fp it tn/\tn 0 s2.heap/\(∀b ∈ fp,FpOk X pins H' b)/\R J H'
noncomputable def PI (X:Cx) (tg iter:Expr) (wi:TI):Prop:=
 ∀(pins:List (Addr×Obj)) (s:Shared) (σ:St) (H:Hp) (R:It->Hp->Prop),Inv X pins σ H s->wi σ H R ->
  wpAny (model X.prog X.w) X.A (eval iter X.env) (fun v s1=>wpAny (model X.prog X.w) X.A (pyIter v) (PIE X pins σ tg R) X.xe s1) X.xe s
theorem go_of {M:Model}{A:Around}{E:Value->Shared->Prop}{s:Shared}{tg:Expr}{it:Addr}{u:Value}{o:Obj}{n:String}{vs:Array Value}{Q:Unit->Shared->Prop} (ho:s.heap.get? it=some o) (hc:o.cls=.type n) (hd:o.data=.fields vs)
    (hn:["enumerate","zip","dict_itemiterator","dict_reverseitemiterator","odict_iterator","itertools.zip_longest","itertools.pairwise"].contains n=false) (hQ:Q () s):wpAny M A (letOwnedTupleGo tg (.ref it) u) Q E s:=by
  unfold letOwnedTupleGo
  cases tg <;> first
    | exact wpAny_pure hQ
    | (cases u <;> first
        | exact wpAny_pure hQ
        | (refine wpAny_bind (wpAny_load ho ?_)
           rw [hc,hd]
           show wpAny M A (if (["enumerate","zip","dict_itemiterator","dict_reverseitemiterator","odict_iterator","itertools.zip_longest","itertools.pairwise"].contains n && vs[0]? == some (rawInt _))=true then _ else _) Q E s
           rw [if_neg (by intro h;rw [hn,Bool.false_and] at h;cases h)]
           exact wpAny_pure hQ))
noncomputable def Itl (K:PySem.W.Frag) (a:Addr):It:=
 ⟨fun i H=>∃xs x,SqL K H a xs/\xs[i]? = some x,fun i H x H'=>H'=H/\∀xs,SqL K H a xs->xs[i]? = some x,fun i H=>∃xs,SqL K H a xs/\xs.length≤i⟩
noncomputable def Itt (K:PySem.W.Frag) (a:Addr):It:=
 ⟨fun i H=>∃xs x,SqT K H a xs/\xs[i]? = some x,fun i H x H'=>H'=H/\∀xs,SqT K H a xs->xs[i]? = some x,fun i H=>∃xs,SqT K H a xs/\xs.length≤i⟩
noncomputable def Itr (lo:Int) (n:Nat):It:=⟨fun i _=>i < n,fun i H x H'=>H'=H/\x=.int (lo+i),fun i _=>n≤i⟩
theorem turn_list {P:Program}{w:World}{K:PySem.W.Frag}{tg:Expr} (a it:Addr):Turn P w K tg (Itl K a) [it] it (fun i h=>h.IsListIter it a i) where
 mem:=by simp
 obj:=fun i h st b hb=>by
  have e:b=it:=by simpa using hb
  subst e
  obtain⟨o,e,c,d⟩:=st
  exact⟨o,e,fun v z=>by rw [d] at z;cases z⟩
 keep:=fun i h h' st k=>st.at fun o e=>k it (by simp) o e
 item:=by
  intro X hP hw hK hc i pins s σ H E I hf st hg
  subst hP hw hK
  obtain⟨xs,x,hq,hx⟩:=hg
  obtain⟨its,rv,p,hz⟩:=I.list hq
  obtain⟨u,hu,ru⟩:=rv.get hx
  obtain⟨f0,f1,f2,f3,f4,f5⟩:=hf it (by simp)
  refine wpAny_pyNext_list_item st p.isList (x:=u) (by simpa using hu) fun h' st' sb=>?_
  have I1:Inv X pins σ H { s with heap:=h' }:=I.turned (t':=s.toks) (fun b o hb e=>(sb.2 b hb).trans e) f0 f1 f3 f4 f5
  obtain⟨o,e,c,d⟩:=id st'
  exact⟨u,rfl,go_of (s:={ s with heap:=h' }) e c d (by decide) ⟨x,H,I1,ru,⟨rfl,fun ys hy=>by rw [I.list_inj hy hq];exact hx⟩,st',fun b hb=>(hf b hb).1⟩⟩
 done:=by
  intro X hP hw hK hc i pins s σ H E I hf st hg
  subst hP hw hK
  obtain⟨xs,hq,hx⟩:=hg
  obtain⟨its,rv,p,hz⟩:=I.list hq
  obtain⟨f0,f1,f2,f3,f4,f5⟩:=hf it (by simp)
  have hl:=rv.length
  exact wpAny_pyNext_list_end (I.ok.hd hc) st p.isList (by simp;omega) fun h' eb=>⟨rfl,I.turned (t':=s.toks) (fun b o hb e=>eb b o hb e) f0 f1 f3 f4 f5⟩
 self:=fun _ _ _ _ _ st h=>wpAny_pyIter_listiter st h
theorem turn_tuple {P:Program}{w:World}{K:PySem.W.Frag}{tg:Expr} (a it:Addr):Turn P w K tg (Itt K a) [it] it (fun i h=>h.IsTupleIter it a i) where
 mem:=by simp
 obj:=fun i h st b hb=>by
  have e:b=it:=by simpa using hb
  subst e
  obtain⟨o,e,c,d⟩:=st
  exact⟨o,e,fun v z=>by rw [d] at z;cases z⟩
 keep:=fun i h h' st k=>st.at fun o e=>k it (by simp) o e
 item:=by
  intro X hP hw hK hc i pins s σ H E I hf st hg
  subst hP hw hK
  obtain⟨xs,x,hq,hx⟩:=hg
  obtain⟨its,rv,p,hz⟩:=I.tuple hq
  obtain⟨u,hu,ru⟩:=rv.get hx
  obtain⟨f0,f1,f2,f3,f4,f5⟩:=hf it (by simp)
  refine wpAny_pyNext_tuple_item st (show s.heap.IsTuple a its.toArray from p) (x:=u) (by simpa using hu) fun h' st' sb=>?_
  have I1:Inv X pins σ H { s with heap:=h' }:=I.turned (t':=s.toks) (fun b o hb e=>(sb.2 b hb).trans e) f0 f1 f3 f4 f5
  obtain⟨o,e,c,d⟩:=id st'
  exact⟨u,rfl,go_of (s:={ s with heap:=h' }) e c d (by decide) ⟨x,H,I1,ru,⟨rfl,fun ys hy=>by rw [I.tuple_inj hy hq];exact hx⟩,st',fun b hb=>(hf b hb).1⟩⟩
 done:=by
  intro X hP hw hK hc i pins s σ H E I hf st hg
  subst hP hw hK
  obtain⟨xs,hq,hx⟩:=hg
  obtain⟨its,rv,p,hz⟩:=I.tuple hq
  obtain⟨f0,f1,f2,f3,f4,f5⟩:=hf it (by simp)
  have hl:=rv.length
  exact wpAny_pyNext_tuple_end (I.ok.hd hc) st (show s.heap.IsTuple a its.toArray from p) (by simp;omega) fun h' eb=>⟨rfl,I.turned (t':=s.toks) (fun b o hb e=>eb b o hb e) f0 f1 f3 f4 f5⟩
 self:=fun _ _ _ _ _ st h=>wpAny_pyIter_tupleiter st h
theorem turn_range {P:Program}{w:World}{K:PySem.W.Frag}{tg:Expr} (it:Addr) (lo:Int) (n:Nat):Turn P w K tg (Itr lo n) [it] it (fun i h=>IsRangeIter h it (lo+(i:Nat) * 1) ((n:Int)-(i:Nat)) 1) where
 mem:=by simp
 obj:=fun i h st b hb=>by
  have e:b=it:=by simpa using hb
  subst e
  exact⟨_,st,fun v z=>by
   have z':Data.fields _=Data.cell v:=z
   cases z'⟩
 keep:=fun i h h' st k=>k it (by simp) _ st
 item:=by
  intro X hP hw hK hc i pins s σ H E I hf st hg
  subst hP hw hK
  obtain⟨f0,f1,f2,f3,f4,f5⟩:=hf it (by simp)
  have W:=Walks.range (prog:=X.prog) (w:=X.w) (I.ok.hd hc) it lo 1 n
  refine W.item i s _ _ hg st fun v h' tk hv st' kk=>?_
  obtain⟨t,rfl⟩:=hv
  have I1:Inv X pins σ H { s with heap:=h',toks:=tk }:=I.turned (fun b o hb e=>kk b o (by simpa using hb) e) f0 f1 f3 f4 f5
  refine⟨_,rfl,go_of (s:={ s with heap:=h',toks:=tk }) (n:="range_iterator") st' rfl rfl (by decide) ⟨.int (lo+i),H,I1,⟨t,?_⟩,⟨rfl,rfl⟩,st',fun b hb=>(hf b hb).1⟩⟩
  rw [Int.mul_one]
 done:=by
  intro X hP hw hK hc i pins s σ H E I hf st hg
  subst hP hw hK
  obtain⟨f0,f1,f2,f3,f4,f5⟩:=hf it (by simp)
  exact wpAny_pyNext_range_end (I.ok.hd hc) st (by have:n≤i:=hg;omega) fun h' eb=>⟨rfl,I.turned (t':=s.toks) (fun b o hb e=>eb b o hb e) f0 f1 f3 f4 f5⟩
 self:=fun _ _ _ _ _ st h=>wpAny_pyIter_rangeiter st h
end L2
namespace L2
open PySem PySem.Spec PyProof.Rows
section
variable {X:Cx}{tg:Expr}
theorem range_it {pins:List (Addr×Obj)}{σ:St}{H:Hp}{s:Shared}{R:It->Hp->Prop}{E:Value->Shared->Prop}{lo hi:Int}{t u v:Tok}{tk:Nat} (I:Inv X pins σ H s) (h1:-(2 ^ 62)≤lo) (h2:lo < 2 ^ 62) (h3:-(2 ^ 62)≤hi) (h4:hi < 2 ^ 62)
  (q:R (Itr lo (hi-lo).toNat) H):wpAny (model X.prog X.w) X.A (pyIter (.ref s.heap.objs.size)) (PIE X pins σ tg R) E { s with heap:=s.heap.push { cls:=.type "range",data:=.fields #[.int lo t,.int hi u,.int 1 v] },toks:=tk }:=by
 refine wpAny_pyIter_range (IsRange.new ..) (small_one h1 h2 h3 h4) ?_
 have I1:Inv X pins σ H { s with heap:=s.heap.push { cls:=.type "range",data:=.fields #[.int lo t,.int hi u,.int 1 v] },toks:=tk }:=I.kept fun b o e=>Heap.get?_push_of_some _ e
 refine⟨(s.heap.push { cls:=.type "range",data:=.fields #[.int lo t,.int hi u,.int 1 v] }).objs.size,[(s.heap.push { cls:=.type "range",data:=.fields #[.int lo t,.int hi u,.int 1 v] }).objs.size],_,_,H,rfl,
  I1.kept (t':=tk) fun b o e=>Heap.get?_push_of_some _ e,turn_range _ lo (hi-lo).toNat,?_,fun b hb=>?_,q⟩
 ·have e1:lo+((0:Nat):Int) * 1=lo:=by simp
  have e2:(((hi-lo).toNat:Nat):Int)-((0:Nat):Int)=Builtin.Range.rangeSize lo hi 1:=by rw [rangeSize_one];split <;> omega
  show IsRangeIter _ _ (lo+((0:Nat):Int) * 1) ((((hi-lo).toNat:Nat):Int)-((0:Nat):Int)) 1
  rw [e1,e2]
  exact Heap.get?_push_size _ rfl
 ·have e:b=(s.heap.push { cls:=.type "range",data:=.fields #[.int lo t,.int hi u,.int 1 v] }).objs.size:=by simpa using hb
  subst e
  exact I1.fpOk (Nat.le_refl _) (I1.hok.fresh (Nat.le_refl _))
noncomputable def iRng1 (ta:TA):TI:=fun σ H R=>ta σ H fun vs H1=>∃j:Int,vs=[.int j]/\-(2 ^ 62)≤j/\j < 2 ^ 62/\R (Itr 0 j.toNat) H1
theorem pi_range1 {a:Expr}{ta:TA}{p pos:Pos} (hg:Gl X "range") (hm:X.mg "range"=none) (ha:PA X [a] ta) (hs:starEach [a] X.env=[(false,eval a X.env)]:=by rfl):PI X tg (.Call (.Name "range" p) [a] [] pos) (iRng1 ta):=by
 intro pins s σ H R I h
 refine Call_ (ld_blt I hg hm boot_range (PyProof.Rows.callWith_type1 (thn (ha pos pins s σ H _ I h) fun us s1 hz=>?_) hs rfl))
 obtain⟨vs,H1,I1,r1,q1⟩:=hz
 obtain⟨j,e,q1,q2,q⟩:=q1
 subst e
 cases r1 with
 | cons r rr=>
  cases rr
  obtain⟨t,rfl⟩:=r
  exact call_range_1 (range_it I1 (by omega) (by omega) q1 q2 (by simpa using q))
noncomputable def tFor (wi:TI) (g:TG) (tb:TS):TS:=fun D σ H=>wi σ H fun J H1=>∃W:Nat->Nat->St->Hp->Prop,(∃m,W 0 m σ H1)/\∀i m σ H,W i m σ H ->
 (J.stop i H/\D.nx σ H)\/(J.go i H/\∃N:St->Hp->Prop,(∀σ' H',N σ' H'->∃m',m' < m/\W (i+1) m' σ' H')/\∀x H',J.yld i H x H'->g x σ H' fun σ2 H2=>tb { D with nx:=N,ct:=N,bk:=D.nx } σ2 H2)
noncomputable def pinsAt (fp:List Addr) (h:Heap):List (Addr×Obj):=fp.filterMap fun b=>(h.get? b).map fun o=>(b,o)
theorem mem_pinsAt {fp:List Addr}{h:Heap}{b:Addr}{o:Obj} (hb:b ∈ fp) (e:h.get? b=some o):(b,o) ∈ pinsAt fp h:=List.mem_filterMap.mpr ⟨b,hb,by rw [e];rfl⟩
theorem of_pinsAt {fp:List Addr}{h:Heap}{p:Addr×Obj} (hp:p ∈ pinsAt fp h):p.1 ∈ fp/\h.get? p.1=some p.2:=by
 obtain⟨b,hb,e⟩:=List.mem_filterMap.mp hp
 cases q:h.get? b with
 | none=>rw [q] at e;cases e
 | some o=>
  rw [q] at e
  have e':(b,o)=p:=Option.some.inj e
  subst e'
  exact⟨hb,q⟩
theorem Inv.pinned {pins:List (Addr×Obj)}{σ:St}{H:Hp}{s:Shared}{fp:List Addr} (I:Inv X pins σ H s) (hf:∀b ∈ fp,FpOk X pins H b) (ho:∀b ∈ fp,∃o,s.heap.get? b=some o/\∀v,o.data≠.cell v):Inv X (pins++pinsAt fp s.heap) σ H s:=
 I.pins_of fun p hp=>(List.mem_append.mp hp).elim (fun z=>I.pin p (List.mem_append_right _ z)) fun z=>by
  obtain⟨hb,e⟩:=of_pinsAt z
  obtain⟨f0,f1,f2,_⟩:=hf p.1 hb
  obtain⟨o,e',d⟩:=ho p.1 hb
  rw [e] at e';cases e'
  exact⟨e,f0,f1,f2,d⟩
theorem Inv.unpinned {pins pl:List (Addr×Obj)}{σ:St}{H:Hp}{s:Shared} (I:Inv X (pins++pl) σ H s):Inv X pins σ H s:=I.pins_of fun p hp=>I.pin p (List.mem_append_right _ (List.mem_append_left _ hp))
theorem ps_for {iter:Expr}{body:List Stmt}{wi:TI}{g:TG}{tb:TS}{pos:Pos} (hp:PassesOwn (model X.prog X.w) X.A X.env X.xe) (hc:X.calm=true) (hi:PI X tg iter wi) (hg:PG X tg g) (hb:PSs X body tb)
  (hs:∀x,foldedSetIterable iter X.env x=pure x:=by intro _;rfl):PS X (.For tg iter body [] pos) (tFor wi g tb):=by
 intro pins s σ H D I h
 refine wpAny_For (thn (hi pins s σ H _ I h) fun v s1 h1=>thn h1 fun itv s2 h2=>?_) hs
 obtain⟨it,fp,tn,J,H2,e,I2,T,st2,f2,W,⟨m0,w0⟩,turn⟩:=h2
 subst e
 have stat:∀{H':Hp},(∀b ∈ fp,H' b=none)->∀b ∈ fp,FpOk X pins H' b:=fun hn b hb=>⟨hn b hb,(f2 b hb).2⟩
 refine codeAny_forLoop_any (fun n s'=>∃i σ' H',Inv X pins σ' H' s'/\tn i s'.heap/\(∀b ∈ fp,H' b=none)/\W i n σ' H') ?_ m0 ⟨0,σ,H2,I2,st2,fun b hb=>(f2 b hb).1,w0⟩
 rintro n s3 ⟨i,σ3,H3,I3,st3,fr3,w3⟩
 rcases turn i n σ3 H3 w3 with ⟨stop,qn⟩ | ⟨go,N,hN,step⟩
 ·refine wpAny_passesOwn hp (thn (T.done X rfl rfl rfl hc i pins s3 σ3 H3 X.xe I3 (stat fr3) st3 stop) fun r s4 hz=>?_)
  obtain⟨hr,I4⟩:=hz
  subst hr
  exact wpAny_execs_nil ⟨σ3,H3,I4,qn⟩
 ·refine wpAny_passesOwn hp (thn (T.item X rfl rfl rfl hc i pins s3 σ3 H3 X.xe I3 (stat fr3) st3 go) fun r s4 hz=>?_)
  obtain⟨u,hr,h4⟩:=hz
  subst hr
  refine wpAny_passesOwn hp (thn h4 fun _ s5 hz=>?_)
  obtain⟨x,H5,I5,r5,y5,st5,fr5⟩:=hz
  have I5':=I5.pinned (stat fr5) (T.obj _ _ st5)
  refine wpAny_passesOwn hp (thn (hg _ s5 σ3 H5 x u _ I5' r5 (step x H5 y5)) fun _ s6 hz=>?_)
  obtain⟨σ6,H6,I6,q6⟩:=hz
  refine wpAny_passesOwn hp (thn (hb _ s6 σ6 H6 _ I6 q6) fun f s7 q7=>?_)
  have again:∀{σ7:St}{H7:Hp},Inv X (pins++pinsAt fp s5.heap) σ7 H7 s7->N σ7 H7->∃m,m < n/\∃i σ' H',Inv X pins σ' H' s7/\tn i s7.heap/\(∀b ∈ fp,H' b=none)/\W i m σ' H':=fun {σ7 H7} I7 n7=>by
   obtain⟨m',hm,w7⟩:=hN σ7 H7 n7
   refine⟨m',hm,i+1,σ7,H7,I7.unpinned,T.keep _ _ _ st5 fun b hb o e=>(I7.pin (b,o) (List.mem_append_right _ (List.mem_append_right _ (mem_pinsAt hb e)))).1,fun b hb=>?_,w7⟩
   obtain⟨o,e,d⟩:=T.obj _ _ st5 b hb
   exact (I7.pin (b,o) (List.mem_append_right _ (List.mem_append_right _ (mem_pinsAt hb e)))).2.1
  cases f with
  | next=>obtain⟨σ7,H7,I7,n7⟩:=q7;exact again I7 n7
  | cont=>obtain⟨σ7,H7,I7,n7⟩:=q7;exact again I7 n7
  | brk=>obtain⟨σ7,H7,I7,q7⟩:=q7;exact⟨σ7,H7,I7.unpinned,q7⟩
  | ret v=>obtain⟨x7,σ7,H7,I7,r7,q7⟩:=q7;exact⟨x7,σ7,H7,I7.unpinned,r7,q7⟩
end
end L2
namespace L2
open PySem PySem.Spec PyProof.Rows
noncomputable abbrev R2:=V->V->Hp->VK->Prop
noncomputable def OpR (X:Cx) (f:Value->Value->Sem Value) (r:R2):Prop:=
 ∀(pins:List (Addr×Obj)) (s:Shared) (σ:St) (H:Hp) (x y:V) (v u:Value) (Q:VK),Inv X pins σ H s->RelV x v->RelV y u->r x y H Q ->
  wpAny (model X.prog X.w) X.A (f v u) (EP X pins σ Q) X.xe s
noncomputable def UnR (X:Cx) (f:Value->Sem Value) (r:V->Hp->VK->Prop):Prop:=
 ∀(pins:List (Addr×Obj)) (s:Shared) (σ:St) (H:Hp) (x:V) (v:Value) (Q:VK),Inv X pins σ H s->RelV x v->r x H Q ->
  wpAny (model X.prog X.w) X.A (f v) (EP X pins σ Q) X.xe s
noncomputable def CallR (X:Cx) (f:Value) (r:List V->Hp->VK->Prop):Prop:=
 ∀(pins:List (Addr×Obj)) (s:Shared) (σ:St) (H:Hp) (xs:List V) (us:List Value) (Q:VK),Inv X pins σ H s->Vals xs us->r xs H Q ->
  wpAny (model X.prog X.w) X.A (call f us) (EP X pins σ Q) X.xe s
noncomputable def TruR (X:Cx) (r:V->Hp->(Bool->Hp->Prop)->Prop):Prop:=
 ∀(pins:List (Addr×Obj)) (s:Shared) (σ:St) (H:Hp) (x:V) (v:Value) (Q:Bool->Hp->Prop),Inv X pins σ H s->RelV x v->r x H Q ->
  wpAny (model X.prog X.w) X.A (truthy v) (TP X pins σ Q) X.xe s
noncomputable def tOp (r:R2) (ta tb:TE):TE:=fun σ H Q=>ta σ H fun x H1=>tb σ H1 fun y H2=>r x y H2 Q
noncomputable def tUn (r:V->Hp->VK->Prop) (ta:TE):TE:=fun σ H Q=>ta σ H fun x H1=>r x H1 Q
noncomputable def rI (C:Int->Int->Prop) (g:Int->Int->V):R2:=fun x y H Q=>∃i j,x=.int i/\y=.int j/\C i j/\Q (g i j) H
noncomputable def rI0 (g:Int->Int->V):R2:=fun x y H Q=>∃i j,x=.int i/\y=.int j/\Q (g i j) H
noncomputable def rU (g:Int->V):V->Hp->VK->Prop:=fun x H Q=>∃i,x=.int i/\Q (g i) H
section
variable {X:Cx}{a b c:Expr}{ta tb tc:TE}{pos:Pos}
theorem binT (ha:PE X a ta) (hb:PE X b tb) {pins:List (Addr×Obj)}{s:Shared}{σ:St}{H:Hp}{R:V->V->Hp->Prop} (I:Inv X pins σ H s)
  (h:ta σ H fun x H1=>tb σ H1 fun y H2=>R x y H2) {Q:Value->Shared->Prop}{f:Value->Value->Sem Value}
  (hf:∀v u s2 x y H2,Inv X pins σ H2 s2->RelV x v->RelV y u->R x y H2->wpAny (model X.prog X.w) X.A (f v u) Q X.xe s2) :
  wpAny (model X.prog X.w) X.A (eval a X.env) (fun v s₁=>wpAny (model X.prog X.w) X.A (eval b X.env) (fun u s₂=>wpAny (model X.prog X.w) X.A (f v u) Q X.xe s₂) X.xe s₁) X.xe s:=by
 refine thn (ha pins s σ H _ I h) fun v s1 hz=>?_
 obtain⟨x,H1,I1,r1,q1⟩:=hz
 refine thn (hb pins s1 σ H1 _ I1 q1) fun u s2 hz=>?_
 obtain⟨y,H2,I2,r2,q2⟩:=hz
 exact hf v u s2 x y H2 I2 r1 r2 q2
theorem pe_op {op:Operator}{r:R2} (ho:OpR X (binaryOp op) r) (ha:PE X a ta) (hb:PE X b tb):PE X (.BinOp a op b pos) (tOp r ta tb):=by
 intro pins s σ H Q I h
 exact wpAny_BinOp (binT ha hb I h fun v u s2 x y H2 I2 rx ry q=>ho pins s2 σ H2 x y v u Q I2 rx ry q)
theorem pe_un {op:UnaryOp}{r:V->Hp->VK->Prop} (ho:UnR X (unaryOp op) r) (ha:PE X a ta):PE X (.UnaryOp op a pos) (tUn r ta):=by
 intro pins s σ H Q I h
 exact UnaryOp_ (thn (ha pins s σ H _ I h) fun v s1 hz=>by obtain⟨x,H1,I1,r1,q1⟩:=hz;exact ho pins s1 σ H1 x v Q I1 r1 q1)
theorem opI {f:Value->Value->Sem Value}{C:Int->Int->Prop}{g:Int->Int->Int}
  (rule:∀(i j:Int) (t u:Tok) (s:Shared) (Q:Value->Shared->Prop) (E:Value->Shared->Prop),C i j->Q (.int (g i j) s.toks) { s with toks:=s.toks+1 }->wpAny (model X.prog X.w) X.A (f (.int i t) (.int j u)) Q E s) :
  OpR X f (rI C fun i j=>.int (g i j)):=by
 intro pins s σ H x y v u Q I rx ry h
 obtain⟨i,j,rfl,rfl,hc,q⟩:=h
 obtain⟨t,rfl⟩:=rx
 obtain⟨t',rfl⟩:=ry
 exact rule i j t t' s _ _ hc ⟨.int (g i j),H,I.tok _,⟨_,rfl⟩,q⟩
theorem opI0 {f:Value->Value->Sem Value}{g:Int->Int->Int}
  (rule:∀(i j:Int) (t u:Tok) (s:Shared) (Q:Value->Shared->Prop) (E:Value->Shared->Prop),Q (.int (g i j) s.toks) { s with toks:=s.toks+1 }->wpAny (model X.prog X.w) X.A (f (.int i t) (.int j u)) Q E s) :
  OpR X f (rI0 fun i j=>.int (g i j)):=by
 intro pins s σ H x y v u Q I rx ry h
 obtain⟨i,j,rfl,rfl,q⟩:=h
 obtain⟨t,rfl⟩:=rx
 obtain⟨t',rfl⟩:=ry
 exact rule i j t t' s _ _ ⟨.int (g i j),H,I.tok _,⟨_,rfl⟩,q⟩
theorem opB0 {f:Value->Value->Sem Value}{g:Int->Int->Bool}
  (rule:∀(i j:Int) (t u:Tok) (s:Shared) (Q:Value->Shared->Prop) (E:Value->Shared->Prop),Q (.bool (g i j)) s->wpAny (model X.prog X.w) X.A (f (.int i t) (.int j u)) Q E s) :
  OpR X f (rI0 fun i j=>.bl (g i j)):=by
 intro pins s σ H x y v u Q I rx ry h
 obtain⟨i,j,rfl,rfl,q⟩:=h
 obtain⟨t,rfl⟩:=rx
 obtain⟨t',rfl⟩:=ry
 exact rule i j t t' s _ _ ⟨.bl (g i j),H,I,rfl,q⟩
noncomputable def CPow (i j:Int):Prop:=0≤j/\j≤1000000/\i.natAbs < 2 ^ 64
noncomputable def CMul (i j:Int):Prop:=(-(2 ^ 64) < i/\i < 2 ^ 64)\/(-(2 ^ 64) < j/\j < 2 ^ 64)
theorem CMul.ok {i j:Int} (h:CMul i j):IntMulOk i j:=by
 rcases h with ⟨h1,h2⟩ | ⟨h1,h2⟩
 ·exact .of_left (intBits_le_64 h1 h2)
 ·exact .of_right (intBits_le_64 h1 h2)
theorem op_add:OpR X (binaryOp .Add) (rI0 fun i j=>.int (i+j)):=opI0 fun _ _ _ _ _ _ _ q=>add_int q
theorem op_sub:OpR X (binaryOp .Sub) (rI0 fun i j=>.int (i-j)):=opI0 fun _ _ _ _ _ _ _ q=>sub_int q
theorem op_mod:OpR X (binaryOp .Mod) (rI (fun _ j=>0 < j) fun i j=>.int (i % j)):=opI fun i j _ _ _ _ _ hc q=>by
 have h1:(0:Int) < j:=hc
 exact mod_int' (by omega) (by rw [Int.fmod_eq_emod_of_nonneg i (by omega)];exact q)
theorem op_pow:OpR X (binaryOp .Pow) (rI CPow fun i j=>.int (i ^ j.toNat)):=opI fun _ _ _ _ _ _ _ hc q=>pow_int_small hc.1 hc.2.1 hc.2.2 q
theorem unI {f:Value->Sem Value}{g:Int->Int}
  (rule:∀(i:Int) (t:Tok) (s:Shared) (Q:Value->Shared->Prop) (E:Value->Shared->Prop),Q (.int (g i) s.toks) { s with toks:=s.toks+1 }->wpAny (model X.prog X.w) X.A (f (.int i t)) Q E s) :
  UnR X f (rU fun i=>.int (g i)):=by
 intro pins s σ H x v Q I rx h
 obtain⟨i,rfl,q⟩:=h
 obtain⟨t,rfl⟩:=rx
 exact rule i t s _ _ ⟨.int (g i),H,I.tok _,⟨_,rfl⟩,q⟩
theorem un_neg:UnR X (unaryOp .USub) (rU fun i=>.int (-i)):=unI fun _ _ _ _ _ q=>neg_int q
end
noncomputable def scal:V->V->Bool
 | .non,.non=>true | .non,.int _=>true | .int _,.non=>true | .non,.bl _=>true | .bl _,.non=>true | .non,.str _=>true | .str _,.non=>true
 | .int _,.int _=>true | .bl _,.bl _=>true | .str _,.str _=>true | .byt _,.byt _=>true
 | .int _,.str _=>true | .str _,.int _=>true | .bl _,.str _=>true | .str _,.bl _=>true
 | _,_=>false
noncomputable def rEq:R2:=fun x y H Q=>scal x y=true/\Q (.bl (decide (x=y))) H
noncomputable def rNe:R2:=fun x y H Q=>scal x y=true/\Q (.bl (!decide (x=y))) H
theorem dec_int {i j:Int}:decide (V.int i=V.int j)=(i == j):=by
 rw [Bool.eq_iff_iff]
 simp
theorem dec_bl {i j:Bool}:decide (V.bl i=V.bl j)=(i == j):=by
 rw [Bool.eq_iff_iff]
 simp
theorem dec_str {i j:Str}:decide (V.str i=V.str j)=(i == j):=by
 rw [Bool.eq_iff_iff]
 simp
theorem dec_byt {i j:Array UInt8}:decide (V.byt i=V.byt j)=(i.toList == j.toList):=by
 rw [Bool.eq_iff_iff]
 cases i
 cases j
 simp
section
variable {X:Cx}{a b c:Expr}{ta tb tc:TE}{pos:Pos}
theorem fin_bl {pins:List (Addr×Obj)}{σ:St}{H:Hp}{s:Shared}{Q:VK}{k k':Bool} (I:Inv X pins σ H s) (q:Q (.bl k) H) (e:k=k'):EP X pins σ Q (.bool k') s:=by
 subst e
 exact⟨.bl k,H,I,rfl,q⟩
theorem op_eq:OpR X (compareOp .Eq) rEq:=by
 intro pins s σ H x y v u Q I rx ry h
 obtain⟨hs,q⟩:=h
 cases x with
 | non=>
  cases rx
  cases y with
  | non=>cases ry;exact PySem.EqNone.eq_none_none (fin_bl I q (by simp))
  | bl j=>cases ry;exact PySem.EqNone.eq_none_bool (fin_bl I q (by simp))
  | int j=>obtain⟨t',rfl⟩:=ry;exact PySem.EqNone.eq_none_int (fin_bl I q (by simp))
  | str j=>obtain⟨t',rfl⟩:=ry;exact PySem.EqNone.eq_none_str (fin_bl I q (by simp))
  | _=>exact absurd (show false=true from hs) Bool.false_ne_true
 | bl i=>
  cases rx
  cases y with
  | non=>cases ry;exact PySem.EqNone.eq_bool_none (fin_bl I q (by simp))
  | bl j=>cases ry;exact eq_bool (fin_bl I q dec_bl)
  | str j=>obtain⟨t',rfl⟩:=ry;exact PySem.EqMixed.eq_bool_str (fin_bl I q (by simp))
  | _=>exact absurd (show false=true from hs) Bool.false_ne_true
 | int i=>
  obtain⟨t,rfl⟩:=rx
  cases y with
  | non=>cases ry;exact PySem.EqNone.eq_int_none (fin_bl I q (by simp))
  | int j=>obtain⟨t',rfl⟩:=ry;exact eq_int (fin_bl I q dec_int)
  | str j=>obtain⟨t',rfl⟩:=ry;exact PySem.EqMixed.eq_int_str (fin_bl I q (by simp))
  | _=>exact absurd (show false=true from hs) Bool.false_ne_true
 | str i=>
  obtain⟨t,rfl⟩:=rx
  cases y with
  | non=>cases ry;exact PySem.EqNone.eq_str_none (fin_bl I q (by simp))
  | bl j=>cases ry;exact PySem.EqMixed.eq_str_bool (fin_bl I q (by simp))
  | int j=>obtain⟨t',rfl⟩:=ry;exact PySem.EqMixed.eq_str_int (fin_bl I q (by simp))
  | str j=>obtain⟨t',rfl⟩:=ry;exact eq_str (fin_bl I q dec_str)
  | _=>exact absurd (show false=true from hs) Bool.false_ne_true
 | byt i=>
  obtain⟨t,rfl⟩:=rx
  cases y with
  | byt j=>obtain⟨t',rfl⟩:=ry;exact PySem.W.eq_bytes (fin_bl I q dec_byt)
  | _=>exact absurd (show false=true from hs) Bool.false_ne_true
 | _=>cases y <;> exact absurd (show false=true from hs) Bool.false_ne_true
theorem op_ne:OpR X (compareOp .NotEq) rNe:=by
 intro pins s σ H x y v u Q I rx ry h
 obtain⟨hs,q⟩:=h
 cases x with
 | non=>
  cases rx
  cases y with
  | non=>cases ry;exact PySem.EqNone.ne_none_none (fin_bl I q (by simp))
  | bl j=>cases ry;exact PySem.EqNone.ne_none_bool (fin_bl I q (by simp))
  | int j=>obtain⟨t',rfl⟩:=ry;exact PySem.EqNone.ne_none_int (fin_bl I q (by simp))
  | str j=>obtain⟨t',rfl⟩:=ry;exact PySem.EqNone.ne_none_str (fin_bl I q (by simp))
  | _=>exact absurd (show false=true from hs) Bool.false_ne_true
 | bl i=>
  cases rx
  cases y with
  | non=>cases ry;exact PySem.EqNone.ne_bool_none (fin_bl I q (by simp))
  | bl j=>cases ry;exact ne_bool (fin_bl I q (congrArg not dec_bl))
  | str j=>obtain⟨t',rfl⟩:=ry;exact PySem.EqMixed.ne_bool_str (fin_bl I q (by simp))
  | _=>exact absurd (show false=true from hs) Bool.false_ne_true
 | int i=>
  obtain⟨t,rfl⟩:=rx
  cases y with
  | non=>cases ry;exact PySem.EqNone.ne_int_none (fin_bl I q (by simp))
  | int j=>obtain⟨t',rfl⟩:=ry;exact ne_int (fin_bl I q (congrArg not dec_int))
  | str j=>obtain⟨t',rfl⟩:=ry;exact PySem.EqMixed.ne_int_str (fin_bl I q (by simp))
  | _=>exact absurd (show false=true from hs) Bool.false_ne_true
 | str i=>
  obtain⟨t,rfl⟩:=rx
  cases y with
  | non=>cases ry;exact PySem.EqNone.ne_str_none (fin_bl I q (by simp))
  | bl j=>cases ry;exact PySem.EqMixed.ne_str_bool (fin_bl I q (by simp))
  | int j=>obtain⟨t',rfl⟩:=ry;exact PySem.EqMixed.ne_str_int (fin_bl I q (by simp))
  | str j=>obtain⟨t',rfl⟩:=ry;exact ne_str (fin_bl I q (congrArg not dec_str))
  | _=>exact absurd (show false=true from hs) Bool.false_ne_true
 | byt i=>
  obtain⟨t,rfl⟩:=rx
  cases y with
  | byt j=>obtain⟨t',rfl⟩:=ry;exact PySem.W.ne_bytes (fin_bl I q (congrArg not dec_byt))
  | _=>exact absurd (show false=true from hs) Bool.false_ne_true
 | _=>cases y <;> exact absurd (show false=true from hs) Bool.false_ne_true
theorem op_lt:OpR X (compareOp .Lt) (rI0 fun i j=>.bl (decide (i < j))):=opB0 fun _ _ _ _ _ _ _ q=>lt_int q
theorem op_le:OpR X (compareOp .LtE) (rI0 fun i j=>.bl (decide (i≤j))):=opB0 fun _ _ _ _ _ _ _ q=>le_int q
theorem op_gt:OpR X (compareOp .Gt) (rI0 fun i j=>.bl (decide (j < i))):=opB0 fun _ _ _ _ _ _ _ q=>gt_int q
theorem op_ge:OpR X (compareOp .GtE) (rI0 fun i j=>.bl (decide (j≤i))):=opB0 fun _ _ _ _ _ _ _ q=>ge_int q
theorem op_in_str:OpR X (compareOp .In) (fun x y H Q=>∃i j,x=.str i/\y=.str j/\Q (.bl (!(Builtin.Str.occurrences j i 0 j.length 1).isEmpty)) H):=by
 intro pins s σ H x y v u Q I rx ry h
 obtain⟨i,j,rfl,rfl,q⟩:=h
 obtain⟨t,rfl⟩:=rx
 obtain⟨t',rfl⟩:=ry
 exact in_str (fin_bl I q rfl)
theorem op_notin_str:OpR X (compareOp .NotIn) (fun x y H Q=>∃i j,x=.str i/\y=.str j/\Q (.bl (!(!(Builtin.Str.occurrences j i 0 j.length 1).isEmpty))) H):=by
 intro pins s σ H x y v u Q I rx ry h
 obtain⟨i,j,rfl,rfl,q⟩:=h
 obtain⟨t,rfl⟩:=rx
 obtain⟨t',rfl⟩:=ry
 exact notIn_str (fin_bl I q rfl)
theorem OpR.or {f:Value->Value->Sem Value}{r r':R2} (h:OpR X f r) (h':OpR X f r'):OpR X f (fun x y H Q=>r x y H Q\/r' x y H Q):=by
 intro pins s σ H x y v u Q I rx ry q
 rcases q with q | q
 ·exact h pins s σ H x y v u Q I rx ry q
 ·exact h' pins s σ H x y v u Q I rx ry q
theorem nomark (b:Expr) {op:CmpOp} (h:op≠.In:=by decide) (h2:op≠.NotIn:=by decide):behindInMarks op b=false:=by
 have e1:(op == CmpOp.In)=false:=by cases op <;> first | rfl | exact absurd rfl h
 have e2:(op == CmpOp.NotIn)=false:=by cases op <;> first | rfl | exact absurd rfl h2
 cases b <;> simp [behindInMarks,e1,e2]
theorem pe_cmpR {op:CmpOp}{r:R2} (ho:OpR X (compareOp op) r) (ha:PE X a ta) (hb:PE X b tb) (hm:behindInMarks op b=false):PE X (.Compare a [op] [b] pos) (tOp r ta tb):=by
 intro pins s σ H Q I h
 exact wpAny_Compare1 (binT ha hb I h fun v u s2 x y H2 I2 rx ry q=>ho pins s2 σ H2 x y v u Q I2 rx ry q) hm
noncomputable def tTest (t:TE):TT:=fun σ H Q=>t σ H fun x H'=>∃k,x=.bl k/\Q k H'
theorem pt_cmpR {op:CmpOp}{r:R2} (ho:OpR X (compareOp op) r) (ha:PE X a ta) (hb:PE X b tb) (hm:behindInMarks op b=false):PT X (.Compare a [op] [b] pos) (tTest (tOp r ta tb)):=by
 intro pins s σ H Q I h
 refine wpAny_isTrue_Compare1 (thn (ha pins s σ H _ I h) fun v s1 ⟨x,H1,I1,r1,q1⟩=>thn (hb pins s1 σ H1 _ I1 q1) fun u s2 ⟨y,H2,I2,r2,q2⟩=>
  thn (ho pins s2 σ H2 x y v u _ I2 r1 r2 q2) fun c s3 ⟨z,H3,I3,r3,k,e,q3⟩=>?_) hm
 subst e
 cases r3
 exact wpAny_truthy_bool ⟨H3,I3,q3⟩
noncomputable def TruV (K:PySem.W.Frag) (x:V) (H:Hp) (k:Bool):Prop:=
 match x with
 | .non=>k=false
 | .bl b=>k=b
 | .int i=>k=(i != 0)
 | .str y=>y.length≤sizeLine/\k=((y.length:Int) != 0)
 | .byt y=>y.size≤sizeLine/\k=((y.size:Int) != 0)
 | .ref p=>(∃xs,SqL K H p xs/\k=!xs.isEmpty)\/(∃xs,SqT K H p xs/\k=!xs.isEmpty)\/∃kvs,H p=some (.dK kvs)/\k=!kvs.isEmpty
 | _=>False
theorem isEmpty_kv {κ:Type}{kvs:List (κ×V)}{vs:List (κ×Value)} (r:KV kvs vs):(!vs.isEmpty)=!kvs.isEmpty:=by
 cases r <;> rfl
theorem isEmpty_of {xs:List V}{its:List Value} (r:Vals xs its):(!its.toArray.isEmpty)=!xs.isEmpty:=by
 cases r <;> simp
theorem line63:(sizeLine:Nat) < 2 ^ 63:=by rw [sizeLine_eq];decide
theorem tru_ok:TruR X (fun x H Q=>∃k,TruV X.K x H k/\Q k H):=by
 intro pins s σ H x v Q I rx h
 obtain⟨k,e,q⟩:=h
 have hl:=line63
 have hs:sizeLine=16777216:=sizeLine_eq
 cases x with
 | non=>
  cases rx
  have e':k=false:=e
  subst e'
  exact truthy_none ⟨H,I,q⟩
 | bl b=>
  cases rx
  have e':k=b:=e
  subst e'
  exact wpAny_truthy_bool ⟨H,I,q⟩
 | int i=>
  obtain⟨t,rfl⟩:=rx
  have e':k=(i != 0):=e
  subst e'
  exact PySem.P.truthy_int ⟨H,I,q⟩
 | str y=>
  obtain⟨t,rfl⟩:=rx
  obtain⟨hy,e'⟩:y.length≤sizeLine/\k=((y.length:Int) != 0):=e
  subst e'
  exact PySem.P.truthy_str (by omega) ⟨H,I.tok _,q⟩
 | byt y=>
  obtain⟨t,rfl⟩:=rx
  obtain⟨hy,e'⟩:y.size≤sizeLine/\k=((y.size:Int) != 0):=e
  subst e'
  exact PySem.W.truthy_bytes (by omega) ⟨H,I.tok _,q⟩
 | ref p=>
  cases rx
  have e':(∃xs,SqL X.K H p xs/\k=!xs.isEmpty)\/(∃xs,SqT X.K H p xs/\k=!xs.isEmpty)\/∃kvs,H p=some (.dK kvs)/\k=!kvs.isEmpty:=e
  rcases e' with ⟨xs,hx,e'⟩ | ⟨xs,hx,e'⟩ | ⟨kvs,hx,e'⟩
  ·subst e'
   obtain⟨its,r,pl,hz⟩:=I.list hx
   have hlen:=r.length
   exact wpAny_truthy_list pl.isList (by simp only [List.size_toArray];omega) ⟨H,I.tok _,by rw [isEmpty_of r];exact q⟩
  ·subst e'
   obtain⟨its,r,pl,hz⟩:=I.tuple hx
   have hlen:=r.length
   exact truthy_tuple pl (by simp only [List.size_toArray];omega) ⟨H,I.tok _,by rw [isEmpty_of r];exact q⟩
  ·subst e'
   obtain⟨hz,hS,vs,r,m⟩:kvs.length≤sizeLine/\(p == sysModules)=false/\∃vs,KV kvs vs/\s.heap.DictOf (mixKind X.prog X.w) p vs:=I.hok p _ hx
   have hlen:kvs.length=vs.length:=Paired.length r
   exact wpAny_truthy_dict hS m (by omega) ⟨H,I.tok _,by rw [isEmpty_kv r];exact q⟩
 | _=>exact (show False from e).elim
theorem pt_truth (ha:PE X a ta) (he:∀whole,isTrue a X.env whole=(do let v <- whole;standAt a.pos;holding [v] (truthy v))) :
  PT X a (fun σ H Q=>ta σ H fun x H'=>∃k,TruV X.K x H' k/\Q k H'):=by
 intro pins s σ H Q I h
 exact isTrue_plain (thn (ha pins s σ H _ I h) fun v s1 hz=>by obtain⟨x,H1,I1,r1,q1⟩:=hz;exact tru_ok pins s1 σ H1 x v Q I1 r1 q1) (he _)
theorem op_add_str:OpR X (binaryOp .Add) (fun x y H Q=>∃i j,x=.str i/\y=.str j/\i.length+j.length≤sizeLine/\Q (.str (i++j)) H):=by
 intro pins s σ H x y v u Q I rx ry h
 obtain⟨i,j,rfl,rfl,hz,q⟩:=h
 obtain⟨t,rfl⟩:=rx
 obtain⟨t',rfl⟩:=ry
 exact add_str (fun t' tk=>⟨.str (i++j),H,I.tok _,⟨_,rfl⟩,q⟩) hz
theorem vals1 {x:V}{us:List Value} (r:Vals [x] us):∃u,us=[u]/\RelV x u:=by
 cases r with
 | cons r1 r2=>cases r2;exact⟨_,rfl,r1⟩
theorem vals2 {x y:V}{us:List Value} (r:Vals [x,y] us):∃u w',us=[u,w']/\RelV x u/\RelV y w':=by
 cases r with
 | cons r1 r2=>
  cases r2 with
  | cons r3 r4=>cases r4;exact⟨_,_,rfl,r1,r3⟩
theorem call_max2 (hc:X.calm=true):CallR X (.builtin "max") (fun xs H Q=>∃i j,xs=[.int i,.int j]/\Q (.int (if j > i then j else i)) H):=by
 intro pins s σ H xs us Q I r h
 obtain⟨i,j,rfl,q⟩:=h
 obtain⟨u,w',rfl,⟨t,rfl⟩,⟨t',rfl⟩⟩:=vals2 r
 refine max_two_ints (I.ok.hd hc) fun h' tk k=>⟨_,H,I.kept k,?_,q⟩
 by_cases hj:j > i
 ·rw [if_pos hj,if_pos hj];exact⟨_,rfl⟩
 ·rw [if_neg hj,if_neg hj];exact⟨_,rfl⟩
theorem call_min2 (hc:X.calm=true):CallR X (.builtin "min") (fun xs H Q=>∃i j,xs=[.int i,.int j]/\Q (.int (if j < i then j else i)) H):=by
 intro pins s σ H xs us Q I r h
 obtain⟨i,j,rfl,q⟩:=h
 obtain⟨u,w',rfl,⟨t,rfl⟩,⟨t',rfl⟩⟩:=vals2 r
 refine min_two_ints (I.ok.hd hc) fun h' tk k=>⟨_,H,I.kept k,?_,q⟩
 by_cases hj:j < i
 ·rw [if_pos hj,if_pos hj];exact⟨_,rfl⟩
 ·rw [if_neg hj,if_neg hj];exact⟨_,rfl⟩
theorem call_int1:CallR X (.type "int") (fun xs H Q=>(∃i,xs=[.int i]/\Q (.int i) H)\/∃k,xs=[.bl k]/\Q (.int (if k then 1 else 0)) H):=by
 intro pins s σ H xs us Q I r h
 rcases h with ⟨i,rfl,q⟩ | ⟨k,rfl,q⟩
 ·obtain⟨u,rfl,t,rfl⟩:=vals1 r
  exact call_int_int ⟨.int i,H,I,⟨_,rfl⟩,q⟩
 ·obtain⟨u,rfl,r1⟩:=vals1 r
  cases r1
  exact call_int_bool ⟨.int (if k then 1 else 0),H,I.tok _,⟨_,rfl⟩,q⟩
theorem call_str_int:CallR X (.type "str") (fun xs H Q=>∃i,xs=[.int i]/\i.natAbs.log2 < 1920/\Q (.str (toString i)) H):=by
 intro pins s σ H xs us Q I r h
 obtain⟨i,rfl,hz,q⟩:=h
 obtain⟨u,rfl,t,rfl⟩:=vals1 r
 exact PySem.P.str_of_int hz ⟨.str _,H,I.tok _,⟨_,rfl⟩,q⟩
end
end L2
namespace L2
open PySem PySem.Spec PyProof.Rows
structure ObjM (h:Heap) (x dx C:Addr) (mA:Str->Option Value):Prop where
 obj:h.get? x=some (PySem.W.instObj C dx)
 ns:h.Ns1 dx mA
 ne:dx≠x
theorem lookIn_ns {h:Heap}{dx:Addr}{mA:Str->Option Value} (n:h.Ns1 dx mA):∃od,h.get? dx=some od/\∀name,PySem.W.lookIn name od=some (mA name):=by
 obtain⟨o,es,ep,ho,hd,hk,_,hm⟩:=n
 refine⟨o,ho,fun name=>?_⟩
 have e:=hm name
 unfold nsFind findBy at e
 rw [<- Array.find?_toList] at e
 unfold PySem.W.lookIn
 rw [hd]
 dsimp only
 split
 ·rename_i y q
  rw [q] at e
  exact congrArg some e
 ·rename_i q
  rw [q] at e
  have a:es.toList.any (·.refKey)=false:=by
   rw [List.any_eq_false]
   intro y hy
   obtain⟨z,t,hkey⟩:=hk y (Array.mem_toList_iff.mp hy)
   simp [DictEntry.refKey,hkey]
  have a':¬es.toList.any (·.refKey)=true:=by rw [a];exact Bool.false_ne_true
  rw [if_neg a']
  exact congrArg some e
theorem ObjM.look {h:Heap}{x dx C:Addr}{mA:Str->Option Value} (I:ObjM h x dx C mA):∃od,PySem.W.InstAt h x (PySem.W.instObj C dx) C (some od)/\∀name,PySem.W.lookIn name od=some (mA name):=
 let ⟨od,ho,hl⟩:=lookIn_ns I.ns
 ⟨od,⟨I.obj,rfl,rfl,ho⟩,hl⟩
section
variable {prog:Program}{w:World}{A:Around}{E:Value->Shared->Prop}{s:Shared}{K:PySem.W.Frag}{x dx C f:Addr}{mA:Str->Option Value}{name:Str}{v:Value}
theorem get_map {expr:Bool}{Q:Value->Shared->Prop} (X:K.In s.heap) (I:ObjM s.heap x dx C mA) (hg:PySem.W.plainGet K C name=true) (hh:PySem.W.hasDictIn K C=true)
  (ha:PySem.W.findIn K (.ref C) name=some none) (hv:mA name=some v) (hv':PySem.W.handedIn v=true) (h:Q v { s with toks:=s.toks+1 }) :
  wpAny (model prog w) A (getAttr (.ref x) name expr) Q E s:=by
 obtain⟨od,J,hl⟩:=I.look
 exact PySem.W.get_value X J (PySem.W.plainGet_of hg).1 (PySem.W.findObj_own hh ha rfl (by rw [hl,hv])) hv' h
theorem get_meth {pl:Sem Bool}{Q:Value×List Value->Shared->Prop} (X:K.In s.heap) (I:ObjM s.heap x dx C mA) (hg:PySem.W.plainGet K C name=true)
  (hf:PySem.W.findIn K (.ref C) name=some (some (.ref f))) (ht:PySem.W.isFn K (.ref f)=true) (hv:mA name=none) (h:Q (.ref f,[.ref x]) s) :
  wpAny (model prog w) A (getMethod (.ref x) name pl) Q E s:=by
 obtain⟨od,J,hl⟩:=I.look
 exact PySem.W.method_fn X J (PySem.W.plainGet_of hg).1 (PySem.W.plainGet_of hg).2 hf (beq_iff_eq.mp ht) (by show (PySem.W.lookIn name od).map (·.isSome)=some false;rw [hl,hv];rfl) h
theorem set_map {ns:List Str}{Q:Unit->Shared->Prop} (X:K.In s.heap) (I:ObjM s.heap x dx C mA)
  (hs:PySem.W.findIn K (.ref C) "__setattr__"=some (some (.builtin "object.__setattr__"))) (hp:PySem.W.plainOver K C=true) (ht:PySem.W.takerIn K C name=some none) (hh:PySem.W.hasDictIn K C=true)
  (hw:PySem.Within mA ns) (hsz:ns.length≤sizeLine)
  (h:∀h',ObjM h' x dx C (fun y=>if y=name then some v else mA y)->Heap.SameBut dx s.heap h'->Q () { s with heap:=h',toks:=s.toks+2 }) :
  wpAny (model prog w) A (setAttr (.ref x) name v) Q E s:=by
 obtain⟨od,J,hl⟩:=I.look
 refine PySem.W.set_plain X J hs (PySem.W.osa_open (s:={ s with toks:=s.toks+1 }) (r:=none) X J hp ht fun b=>?_)
 obtain⟨cd,hc,hd'⟩:=PySem.W.any_some hh
 have hx:s.heap.get? x=some ⟨.ref C,some dx,.plain,#[]⟩:=I.obj
 refine wpAny_bind (wpAny_pure (wpAny_bind (wpAny_bind (wpAny_loadPart hx (wpAny_bind (PySem.W.Looks.here (s:={ s with toks:=s.toks+1 }) (PySem.W.looks_clsIn X hc) ?_))))))
 rw [hd']
 refine wpAny_pure (a:=some dx) (wpAny_bind (wpAny_pure (wpAny_bind ?_)))
 refine wpAny_nsSet1 (s:={ s with toks:=s.toks+1 }) I.ns fun h' hn2 hs2=>?_
 obtain⟨oD,esD,epD,hoD,hdD,hcD⟩:=hn2.count (PySem.Within.cons name v hw)
 refine wpAny_bind (wpAny_lookBehind hoD (by rw [hdD];exact pastItsLine_dict (Nat.le_trans hcD (by rw [List.length_cons];omega))) ?_)
 exact wpAny_pure (h _ ⟨(hs2.2 _ (Ne.symm I.ne)).trans I.obj,hn2,I.ne⟩ hs2)
theorem make_map {R:Result->Shared->Prop}{vs:List Value}{kw:List (Str×Value)} (X:K.In s.heap) (hm:PySem.W.makesIn K C=true)
  (hi:PySem.W.findIn K (.ref C) "__init__"=some (some (.ref f))) (hf:PySem.W.typeIn K (.ref f)=some (.type "function"))
  (h:codeAny (model prog w) (A.under (.builtin "type.__call__" ⟨.ref C::vs,kw⟩)) (.call (.ref f) ⟨.ref (s.heap.objs.size+1)::vs,kw⟩) (PySem.W.InitBack (s.heap.objs.size+1) R)
   { s with heap:=(s.heap.push PySem.W.emptyDict).push (PySem.W.instObj C s.heap.objs.size) }) :
  codeAny (model prog w) A (.call (.ref C) ⟨vs,kw⟩) R s:=by
 obtain⟨hh,g,d,t,os⟩:=s
 exact PySem.W.make_core (PySem.W.makes_of X hm) (PySem.W.looks_findIn X hi) (fun self=>PySem.W.bind_fn X self hf) (.inl rfl) h
end
noncomputable def putF (f:Str) (v:V):List (Str×V)->List (Str×V)
 | []=>[(f,v)]
 | (g,x)::r=>if g=f then (g,v)::r else (g,x)::putF f v r
theorem lookup_putF (f g:Str) (v:V):∀fs:List (Str×V),(putF f v fs).lookup g=if g=f then some v else fs.lookup g
 | []=>by
  show List.lookup g [(f,v)]=_
  by_cases h:g=f
  ·have hb:(g == f)=true:=beq_iff_eq.mpr h
   simp only [List.lookup,hb,if_pos h]
  ·have hb:(g == f)=false:=beq_eq_false_iff_ne.mpr h
   simp only [List.lookup,hb,if_neg h]
 | (k,x)::r=>by
  have ih:=lookup_putF f g v r
  rw [show putF f v ((k,x)::r)=(if k=f then (k,v)::r else (k,x)::putF f v r) from rfl]
  by_cases hk:k=f
  ·rw [if_pos hk]
   by_cases h:g=k
   ·have hb:(g == k)=true:=beq_iff_eq.mpr h
    simp only [List.lookup,hb,if_pos (h.trans hk)]
   ·have hb:(g == k)=false:=beq_eq_false_iff_ne.mpr h
    simp only [List.lookup,hb,if_neg (fun e:g=f=>h (e.trans hk.symm))]
  ·rw [if_neg hk]
   by_cases h:g=k
   ·have hb:(g == k)=true:=beq_iff_eq.mpr h
    simp only [List.lookup,hb,if_neg (fun e:g=f=>hk (h.symm.trans e))]
   ·have hb:(g == k)=false:=beq_eq_false_iff_ne.mpr h
    simp only [List.lookup,hb]
    exact ih
theorem keys_putF (f:Str) (v:V):∀fs:List (Str×V),f ∈ (putF f v fs).map (·.1)/\∀g,g ∈ fs.map (·.1)->g ∈ (putF f v fs).map (·.1)
 | []=>⟨by simp [putF],fun g h=>by simp at h⟩
 | (k,x)::r=>by
  obtain⟨i1,i2⟩:=keys_putF f v r
  rw [show putF f v ((k,x)::r)=(if k=f then (k,v)::r else (k,x)::putF f v r) from rfl]
  by_cases hk:k=f
  ·rw [if_pos hk]
   subst hk
   exact⟨by simp,fun g h=>by simpa using h⟩
  ·rw [if_neg hk]
   refine⟨?_,fun g h=>?_⟩
   ·rw [List.map_cons]
    exact List.mem_cons_of_mem _ i1
   ·rw [List.map_cons] at h ⊢
    rcases List.mem_cons.mp h with e | e
    ·exact List.mem_cons.mpr (.inl e)
    ·exact List.mem_cons_of_mem _ (i2 g e)
theorem length_putF (f:Str) (v:V):∀fs:List (Str×V),(putF f v fs).length≤fs.length+1
 | []=>by simp [putF]
 | (k,x)::r=>by
  have ih:=length_putF f v r
  rw [show putF f v ((k,x)::r)=(if k=f then (k,v)::r else (k,x)::putF f v r) from rfl]
  by_cases hk:k=f
  ·rw [if_pos hk,List.length_cons,List.length_cons];omega
  ·rw [if_neg hk,List.length_cons,List.length_cons];omega
theorem RelO.some_of {v:V}{o:Option Value} (r:RelO (some v) o):∃u,o=some u/\RelV v u:=by
 cases o with
 | none=>exact (show False from r).elim
 | some u=>exact⟨u,rfl,r⟩
theorem RelO.none_of {o:Option Value} (r:RelO none o):o=none:=by
 cases o with
 | none=>rfl
 | some u=>exact (show False from r).elim
theorem handed_of {v:V}{u:Value} (r:RelV v u):PySem.W.handedIn u=true:=by
 cases v with
 | non=>cases (show u=Value.none from r);rfl
 | bl b=>cases (show u=Value.bool b from r);rfl
 | int i=>obtain⟨t,e⟩:=(show ∃t,u=Value.int i t from r);cases e;rfl
 | str x=>obtain⟨t,e⟩:=(show ∃t,u=Value.str x t from r);cases e;rfl
 | byt b=>obtain⟨t,e⟩:=(show ∃t,u=Value.bytes b t from r);cases e;rfl
 | flt b=>obtain⟨t,e⟩:=(show ∃t,u=Value.float b t from r);cases e;rfl
 | ref a=>cases (show u=Value.ref a from r);rfl
 | ty n=>cases (show u=Value.type n from r);rfl
section
variable {P:Program}{w:World}{H H':Hp}{h h':Heap}{a C dx:Addr}{fs fs':List (Str×V)}
theorem ins_get (hok:HOk P w H h) (e:H a=some (.ins C dx fs)):∃mA,ObjM h a dx C mA/\(∀f,RelO (fs.lookup f) (mA f))/\PySem.Within mA (fs.map (·.1))/\fs.length≤1000/\H dx=some (.own a):=by
 obtain⟨d,z,ne,ob,mA,n,r,q⟩:=(show ObjOk P w H h a (.ins C dx fs) from hok a _ e)
 exact⟨mA,⟨ob,n,ne⟩,r,q,z,d⟩
end
structure Cls (K:PySem.W.Frag) (C:Addr):Prop where
 pg:PySem.W.plainGet K C Str.empty=true
 hd:PySem.W.hasDictIn K C=true
 po:PySem.W.plainOver K C=true
 sa:PySem.W.findIn K (.ref C) "__setattr__"=some (some (.builtin "object.__setattr__"))
theorem Cls.get {K:PySem.W.Frag}{C:Addr} (c:Cls K C) (f:Str):PySem.W.plainGet K C f=true:=c.pg
noncomputable def NoAttr (K:PySem.W.Frag) (C:Addr) (f:Str):Prop:=PySem.W.findIn K (.ref C) f=some none
theorem NoAttr.taker {K:PySem.W.Frag}{C:Addr}{f:Str} (n:NoAttr K C f):PySem.W.takerIn K C f=some none:=by
 unfold PySem.W.takerIn
 rw [show PySem.W.findIn K (.ref C) f=some none from n]
 rfl
structure Con (K:PySem.W.Frag) (C:Addr) (f:Str) (v:V) (u:Value):Prop where
 at_:PySem.W.findIn K (.ref C) f=some (some u)
 rel:RelV v u
 get:PySem.W.specialIn K u "__get__"=some none
 cp:PySem.W.copiedNames.contains f=false
structure Meth (K:PySem.W.Frag) (C:Addr) (m:Str) (f:Addr):Prop where
 at_:PySem.W.findIn K (.ref C) m=some (some (.ref f))
 fn:PySem.W.isFn K (.ref f)=true
 kp:PySem.W.keepIn K (.ref f)=true
section
variable {X:Cx}{pins:List (Addr×Obj)}{σ:St}{H:Hp}{s:Shared}{a C dx:Addr}{fs:List (Str×V)}{f:Str}{v:V}{A:Around}{E:Value->Shared->Prop}
theorem getattr_ok {b:Bool}{Q:Value->Shared->Prop} (I:Inv X pins σ H s) (e:H a=some (.ins C dx fs)) (c:Cls X.K C) (n:NoAttr X.K C f) (l:fs.lookup f=some v)
  (h:∀u s',Inv X pins σ H s'->RelV v u->Q u s'):wpAny (model X.prog X.w) A (getAttr (.ref a) f b) Q E s:=by
 obtain⟨mA,O,r,_,_,_⟩:=ins_get I.hok e
 obtain⟨u,hu,ru⟩:=RelO.some_of (v:=v) (o:=mA f) (by rw [<- l];exact r f)
 exact get_map I.kIn O (c.get f) c.hd n hu (handed_of ru) (h u _ (I.tok _) ru)
theorem getmeth_ok {m:Str}{g:Addr}{pl:Sem Bool}{Q:Value×List Value->Shared->Prop} (I:Inv X pins σ H s) (e:H a=some (.ins C dx fs)) (c:Cls X.K C) (k:Meth X.K C m g) (l:fs.lookup m=none)
  (h:Q (.ref g,[.ref a]) s):wpAny (model X.prog X.w) A (getMethod (.ref a) m pl) Q E s:=by
 obtain⟨mA,O,r,_,_,_⟩:=ins_get I.hok e
 have hn:mA m=none:=RelO.none_of (by rw [<- l];exact r m)
 exact get_meth I.kIn O (c.get m) k.at_ k.fn hn h
theorem setattr_ok {y:V}{u:Value}{Q:Unit->Shared->Prop} (I:Inv X pins σ H s) (e:H a=some (.ins C dx fs)) (c:Cls X.K C) (n:NoAttr X.K C f) (hl:fs.length < 1000) (ry:RelV y u)
  (h:∀s',Inv X pins σ (upd H a (.ins C dx (putF f y fs))) s'->Q () s'):wpAny (model X.prog X.w) A (setAttr (.ref a) f u) Q E s:=by
 obtain⟨mA,O,r,wi,_,ho⟩:=ins_get I.hok e
 have hz:(fs.map (·.1)).length≤sizeLine:=by rw [List.length_map,sizeLine_eq];omega
 refine set_map I.kIn O c.sa c.po n.taker c.hd wi hz fun h' O' sb=>h _ ?_
 have hd:∃o,h'.get? dx=some o:=let ⟨o,_,_,e',_⟩:=O'.ns;⟨o,e'⟩
 refine I.write (x:=a) (e:=dx) (by rw [e];exact True.intro) (.inr ho) (fun b q hb z=>(sb.2 b hb).trans z) hd ?_
 refine⟨by rw [upd_ne O.ne];exact ho,?_,O.ne,O'.obj,_,O'.ns,fun g=>?_,fun g hg=>?_⟩
 ·have:=length_putF f y fs;omega
 ·show RelO ((putF f y fs).lookup g) (if g=f then some u else mA g)
  rw [lookup_putF]
  by_cases q:g=f
  ·rw [if_pos q,if_pos q];exact ry
  ·rw [if_neg q,if_neg q];exact r g
 ·by_cases q:g=f
  ·rw [q];exact (keys_putF f y fs).1
  ·refine (keys_putF f y fs).2 g (wi g fun z=>hg ?_)
   show (if g=f then some u else mA g)=none
   rw [if_neg q];exact z
theorem Inv.made (I:Inv X pins σ H s):Inv X pins σ (upd (upd H s.heap.objs.size (.own (s.heap.objs.size+1))) (s.heap.objs.size+1) (.ins C s.heap.objs.size []))
  { s with heap:=(s.heap.push PySem.W.emptyDict).push (PySem.W.instObj C s.heap.objs.size) }:=by
 have e1:(s.heap.push PySem.W.emptyDict).get? s.heap.objs.size=some PySem.W.emptyDict:=Heap.get?_push_size s.heap rfl
 have e2:((s.heap.push PySem.W.emptyDict).push (PySem.W.instObj C s.heap.objs.size)).get? (s.heap.objs.size+1)=some (PySem.W.instObj C s.heap.objs.size):=by
  have:=Heap.get?_push_size (s.heap.push PySem.W.emptyDict) (o:=PySem.W.instObj C s.heap.objs.size) rfl
  rwa [Heap.size_push] at this
 have e3:(s.heap.push PySem.W.emptyDict).Ns s.heap.objs.size (fun _=>none):=⟨PySem.W.emptyDict,#[],_,e1,rfl,(fun e he=>absurd he (by simp)),fun _=>rfl⟩
 have I1:=I.laid (a:=s.heap.objs.size) (o:=.own (s.heap.objs.size+1)) (h':=s.heap.push PySem.W.emptyDict) (t':=s.toks) (fun b u q=>Heap.get?_push_of_some _ q) (Nat.le_refl _) ⟨_,e1⟩
 refine I1.laid (a:=s.heap.objs.size+1) (o:=.ins C s.heap.objs.size []) (t':=s.toks) (fun b u q=>Heap.get?_push_of_some _ q) (Nat.le_of_eq (Heap.size_push _ _)) ?_
 have ne:s.heap.objs.size≠s.heap.objs.size+1:=Nat.ne_of_lt (Nat.lt_succ_self _)
 refine⟨by rw [upd_ne ne,upd_same],Nat.zero_le _,ne,e2,fun _=>none,(Heap.Ns1.of_empty e3).at fun o q=>Heap.get?_push_of_some _ q,fun _=>True.intro,fun y hy=>absurd rfl hy⟩
theorem attr_of {prog:Program}{w:World}{env:Env}{e:Expr}{f:Str}{pos:Pos}{s:Shared}{Q:Value->Shared->Prop} (hb:attributeBase e f env (eval e env)=eval e env)
  (h:wpAny (model prog w) A (eval e env) (fun o s₁=>wpAny (model prog w) A (getAttr o f true) Q E s₁) E s):wpAny (model prog w) A (eval (.Attribute e f pos) env) Q E s:=
 Attribute_any_ h (by rw [arm_eval_Attribute,hb])
end
noncomputable def tFld (K:PySem.W.Frag) (ta:TE) (f:Str):TE:=fun σ H Q=>ta σ H fun x H1=>∃a C dx fs v,x=.ref a/\H1 a=some (.ins C dx fs)/\Cls K C/\NoAttr K C f/\fs.lookup f=some v/\Q v H1
noncomputable def sFld (K:PySem.W.Frag) (ta tv:TE) (f:Str):TS:=fun D σ H=>tv σ H fun y H1=>ta σ H1 fun x H2=>∃a C dx fs,x=.ref a/\H2 a=some (.ins C dx fs)/\Cls K C/\NoAttr K C f/\fs.length < 1000 /\
 D.nx σ (upd H2 a (.ins C dx (putF f y fs)))
noncomputable def InOp (X:Cx) (op:Operator) (rd:V->V->Hp->VK->Prop):Prop:=
 ∀(pins:List (Addr×Obj)) (s:Shared) (σ:St) (H:Hp) (x y:V) (u v:Value) (Q:VK),Inv X pins σ H s->RelV x u->RelV y v->rd x y H Q->wpAny (model X.prog X.w) X.A (inplaceOp op u v) (EP X pins σ Q) X.xe s
noncomputable def sFldAug (K:PySem.W.Frag) (ta tv:TE) (rd:V->V->Hp->VK->Prop) (f:Str):TS:=fun D σ H=>ta σ H fun x H1=>∃a C dx fs v,x=.ref a/\H1 a=some (.ins C dx fs)/\Cls K C/\NoAttr K C f/\fs.lookup f=some v /\
 tv σ H1 fun y H2=>rd v y H2 fun z H3=>∃dx' fs',H3 a=some (.ins C dx' fs')/\fs'.length < 1000/\D.nx σ (upd H3 a (.ins C dx' (putF f z fs')))
section
variable {X:Cx}{o e value:Expr}{f:Str}{pos pos' tpos:Pos}{ta tv:TE}
theorem pe_fld (he:PE X e ta) (hb:attributeBase e f X.env (eval e X.env)=eval e X.env):PE X (.Attribute e f pos) (tFld X.K ta f):=by
 intro pins s σ H Q I h
 refine attr_of hb (thn (he pins s σ H _ I h) fun u s1 hz=>?_)
 obtain⟨x,H1,I1,rx,a,C,dx,fs,v,ex,ea,c,n,l,q⟩:=hz
 subst ex
 obtain rfl:u=Value.ref a:=rx
 exact getattr_ok I1 ea c n l fun u' s2 I2 ru=>⟨v,H1,I2,ru,q⟩
theorem ps_fld (ha:PE X o ta) (hv:PE X value tv) (hs:swapsWith value (some (.Attribute o f pos')) pos.line X.env=pure false):PS X (.Assign [.Attribute o f pos'] value pos) (sFld X.K ta tv f):=by
 intro pins s σ H D I h
 refine plainObj_wpAny_Assign_Attribute (thn (hv pins s σ H _ I h) fun u s1 ⟨y,H1,I1,ry,q⟩=>thn (ha pins s1 σ H1 _ I1 q) fun ov s2 hz=>?_) hs
 obtain⟨x,H2,I2,rx,a,C,dx,fs,ex,ea,c,n,l,q2⟩:=hz
 subst ex
 obtain rfl:ov=Value.ref a:=rx
 exact setattr_ok I2 ea c n l ry fun s3 I3=>⟨σ,_,I3,q2⟩
theorem ps_fldaug {op:Operator}{rd:V->V->Hp->VK->Prop} (ha:PE X o ta) (hv:PE X value tv) (hop:InOp X op rd):PS X (.AugAssign (.Attribute o f tpos) op value pos) (sFldAug X.K ta tv rd f):=by
 intro pins s σ H D I h
 refine wpAny_AugAssign_AttributeAny (thn (ha pins s σ H _ I h) fun ov s1 hz=>?_)
 obtain⟨x,H1,I1,rx,a,C,dx,fs,v,ex,ea,c,n,l,q⟩:=hz
 subst ex
 obtain rfl:ov=Value.ref a:=rx
 refine getattr_ok I1 ea c n l fun u s2 I2 ru=>thn (hv pins s2 σ H1 _ I2 q) fun w3 s3 ⟨y,H2,I3,ry,q3⟩=>thn (hop pins s3 σ H2 v y u w3 _ I3 ru ry q3) fun w4 s4 hz=>?_
 obtain⟨z,H3,I4,rz,dx',fs',ea',l',q4⟩:=hz
 exact setattr_ok I4 ea' c n l' rz fun s5 I5=>⟨σ,_,I5,q4⟩
noncomputable def rAdd:V->V->Hp->VK->Prop:=fun x y H Q=>∃i j,x=.int i/\y=.int j/\Q (.int (i+j)) H
theorem in_add:InOp X .Add rAdd:=by
 rintro pins s σ H x y u v Q I rx ry ⟨i,j,rfl,rfl,q⟩
 obtain⟨t,rfl⟩:=(show ∃t,u=Value.int i t from rx)
 obtain⟨t',rfl⟩:=(show ∃t',v=Value.int j t' from ry)
 exact PyProof.Rows.iadd_int ⟨.int (i+j),H,I.tok _,⟨_,rfl⟩,q⟩
end
section
variable {X:Cx}{pins:List (Addr×Obj)}{σ:St}{H:Hp}{s:Shared}{A:Around}{E:Value->Shared->Prop}{Q:Value->Shared->Prop}{c:Value}{b:Bool}
inductive TyOf (K:PySem.W.Frag) (H:Hp):V->Value->Prop where
 | non:TyOf K H .non (.type "NoneType")
 | bl (x:Bool):TyOf K H (.bl x) (.type "bool")
 | int (i:Int):TyOf K H (.int i) (.type "int")
 | str (x:Str):TyOf K H (.str x) (.type "str")
 | flt (x:UInt64):TyOf K H (.flt x) (.type "float")
 | lst {a:Addr}{xs:List V} (e:H a=some (.lst xs)):TyOf K H (.ref a) (.type "list")
 | frz {a:Addr}{o:Obj}{xs:List V} (e:H a=some (.frz o (.lst xs))):TyOf K H (.ref a) (.type "list")
 | tup {a:Addr}{xs:List V} (e:H a=some (.tup xs)):TyOf K H (.ref a) (.type "tuple")
 | dK {a:Addr}{kvs:List (Key×V)} (e:H a=some (.dK kvs)):TyOf K H (.ref a) (.type "dict")
 | dT {a:Addr}{kvs:List (List Key×V)} (e:H a=some (.dT kvs)):TyOf K H (.ref a) (.type "dict")
 | ins {a C dx:Addr}{fs:List (Str×V)} (e:H a=some (.ins C dx fs)) (cl:Cls K C) (ha:PySem.W.findIn K (.ref C) "__class__"=some (some (.builtin "object.__class__")))
   (hn:PySem.W.specialIn K (.builtin "object.__class__") "__get__"=some (some (.builtin "getset_descriptor.__get__"))) (htk:PySem.W.takesIn K (.builtin "object.__class__")=some true)
   (hm:PySem.W.mroIn K C (.type "object")=some true):TyOf K H (.ref a) (.ref C)
theorem isinst_ok {x:V}{u t:Value} (I:Inv X pins σ H s) (rx:RelV x u) (ty:TyOf X.K H x t) (e:PySem.W.kitOne X.K t c=some b) (h:∀tk,Q (.bool b) { s with toks:=tk }) :
  wpAny (model X.prog X.w) A (call (.builtin "isinstance") [u,c]) Q E s:=by
 cases ty with
 | non=>cases (show u=Value.none from rx);exact PySem.W.kia_one PySem.W.kitx_none I.kIn True.intro e (fun z=>nomatch z) h
 | bl y=>cases (show u=Value.bool y from rx);exact PySem.W.kia_one PySem.W.kitx_bool I.kIn True.intro e (fun z=>nomatch z) h
 | int i=>obtain⟨t,q⟩:=(show ∃t,u=Value.int i t from rx);cases q;exact PySem.W.kia_one PySem.W.kitx_int I.kIn True.intro e (fun z=>nomatch z) h
 | str y=>obtain⟨t,q⟩:=(show ∃t,u=Value.str y t from rx);cases q;exact PySem.W.kia_one PySem.W.kitx_str I.kIn True.intro e (fun z=>nomatch z) h
 | flt y=>obtain⟨t,q⟩:=(show ∃t,u=Value.float y t from rx);cases q;exact PySem.W.kia_one PySem.W.kitx_float I.kIn True.intro e (fun z=>nomatch z) h
 | @lst a xs ea=>
  cases (show u=Value.ref a from rx)
  obtain⟨_,_,n,_,h1⟩:=(show ObjOk X.prog X.w H s.heap a (.lst xs) from I.hok a _ ea)
  exact PySem.W.kia_one PySem.W.kitx_list I.kIn ⟨_,h1,rfl⟩ e (fun z=>nomatch z) h
 | @frz a ob xs ea=>
  cases (show u=Value.ref a from rx)
  obtain⟨_,_,_,n,_,h1⟩:=(show ObjOk X.prog X.w H s.heap a (.frz ob (.lst xs)) from I.hok a _ ea)
  exact PySem.W.kia_one PySem.W.kitx_list I.kIn ⟨_,h1,rfl⟩ e (fun z=>nomatch z) h
 | @tup a xs ea=>
  cases (show u=Value.ref a from rx)
  obtain⟨_,_,_,p⟩:=(show ObjOk X.prog X.w H s.heap a (.tup xs) from I.hok a _ ea)
  obtain⟨o,h1,h2,_⟩:=p
  exact PySem.W.kia_one PySem.W.kitx_tuple I.kIn ⟨o,h1,h2⟩ e (fun z=>nomatch z) h
 | @dK a kvs ea=>
  cases (show u=Value.ref a from rx)
  obtain⟨_,_,vs,_,p⟩:=(show ObjOk X.prog X.w H s.heap a (.dK kvs) from I.hok a _ ea)
  obtain⟨o,es,ep,h1,h2,_⟩:=p
  exact PySem.W.kia_one PySem.W.kitx_dict I.kIn ⟨o,h1,h2.1⟩ e (fun z=>nomatch z) h
 | @dT a kvs ea=>
  cases (show u=Value.ref a from rx)
  obtain⟨_,_,xs,_,o,es,ep,h1,h2,_⟩:=(show ObjOk X.prog X.w H s.heap a (.dT kvs) from I.hok a _ ea)
  exact PySem.W.kia_one PySem.W.kitx_dict I.kIn ⟨o,h1,h2.1⟩ e (fun z=>nomatch z) h
 | @ins a C dx fs ea cl ha hn htk hm=>
  cases (show u=Value.ref a from rx)
  obtain⟨mA,O,_⟩:=ins_get I.hok ea
  obtain⟨od,J,_⟩:=O.look
  exact PySem.W.kia_one (PySem.W.kitx_own (cl.get _) cl.hd ha hn htk hm) I.kIn J e (fun z=>nomatch z) h
end
end L2
namespace L2
open PySem PySem.Spec PyProof.Rows
structure Room (k:Nat) (A:Around):Prop where
 hd:A.handled=none
 dp:A.depth+3 * k+5 < recursionLimit
 un:A.units+16 * k+200 < cLine
theorem Room.mono {j k:Nat}{A:Around} (r:Room k A) (h:j≤k):Room j A:=⟨r.hd,by have:=r.dp;omega,by have:=r.un;omega⟩
theorem Room.deeper {k:Nat}{A:Around} (r:Room (k+1) A) (env:Env):Room k (A.deeper env):=
 ⟨r.hd,by have:=r.dp;show A.depth+1+3 * k+5 < _;omega,by have:=r.un;show A.units+3+16 * k+200 < _;omega⟩
theorem Room.in1 {k:Nat}{A:Around} (r:Room (k+1) A):Room k A.in1:=
 ⟨r.hd,by have:=r.dp;show A.depth+3 * k+5 < _;omega,by have:=r.un;show A.units+1+16 * k+200 < _;omega⟩
theorem make_depth {A:Around}{C:Addr}{us:List Value}{kw:List (Str×Value)}:(A.under (.builtin "type.__call__" ⟨.ref C::us,kw⟩)).depth=A.depth+1:=by
 first | rfl | simp [Around.under,Code.weight,Code.isCreation,Code.isGuard,Code.isCaller,Code.frames,Code.isFrame,guardIds]
theorem make_units {A:Around}{C:Addr}{us:List Value}{kw:List (Str×Value)}:(A.under (.builtin "type.__call__" ⟨.ref C::us,kw⟩)).units=A.units+1:=by
 first | rfl | simp [Around.under,Code.cUnits,Code.frames,Code.isFrame]
theorem Room.make {k:Nat}{A:Around} (r:Room (k+1) A) (C:Addr) (us:List Value) (kw:List (Str×Value)):Room k (A.under (.builtin "type.__call__" ⟨.ref C::us,kw⟩)):=
 ⟨r.hd,by have:=r.dp;rw [make_depth];omega,by have:=r.un;rw [make_units];omega⟩
theorem Room.depth {k:Nat}{A:Around} (r:Room k A):A.depth < recursionLimit:=by have:=r.dp;omega
theorem Room.units {k:Nat}{A:Around} (r:Room k A):A.units+64 < cLine:=by have:=r.un;omega
noncomputable def tNil:TA:=fun _ H Q=>Q [] H
noncomputable def tCons (ta:TE) (tr:TA):TA:=fun σ H Q=>ta σ H fun x H1=>tr σ H1 fun xs H2=>Q (x::xs) H2
section
variable {X:Cx}{e:Expr}{es:List Expr}{te:TE}{t:TA}{pos:Pos}
theorem pa_nil:PA X [] tNil:=fun _ _ _ _ H Q I h=>Calls.spliced_nil ⟨[],H,I,.nil,h⟩
theorem pa_cons (ha:PE X e te) (hr:PA X es t) (hs:starEach (e::es) X.env=(false,eval e X.env)::starEach es X.env:=by rfl):PA X (e::es) (tCons te t):=by
 intro pos pins s σ H Q I h
 rw [hs]
 show wpAny _ _ (spliced ((false,eval e X.env)::backTo pos (starEach es X.env))) _ _ s
 refine Calls.spliced_cons (thn (ha pins s σ H _ I h) fun u s1 hz=>?_)
 obtain⟨x,H1,I1,r1,q1⟩:=hz
 exact thn (hr pos pins s1 σ H1 _ I1 q1) fun us s2 hz=>by obtain⟨xs,H2,I2,r2,q2⟩:=hz;exact⟨x::xs,H2,I2,.cons r1 r2,q2⟩
noncomputable def tTup (t:TA):TE:=fun σ H Q=>t σ H fun xs H1=>xs.length≤sizeLine/\∀p,H1 p=none->Q (.ref p) (upd H1 p (.tup xs))
noncomputable def tLst (t:TA):TE:=fun σ H Q=>t σ H fun xs H1=>xs.length≤sizeLine/\∀p,H1 p=none->Q (.ref p) (upd H1 p (.lst xs))
theorem pe_tup {x1} (h:PA X es t):PE X (.Tuple es x1 pos) (tTup t):=by
 intro pins s σ H Q I hq
 refine wpAny_Tuple_spliced (thn (h pos pins s σ H _ I hq) fun us s1 hz=>?_)
 obtain⟨xs,H1,I1,r,z,q⟩:=hz
 refine⟨by rw [<- r.length];exact z,?_⟩
 have hf:H1 s1.heap.objs.size=none:=I1.hok.fresh (Nat.le_refl _)
 refine⟨.ref s1.heap.objs.size,upd H1 s1.heap.objs.size (.tup xs),I1.laid (t':=s1.toks) (fun b u e=>Heap.get?_push_of_some _ e) (Nat.le_refl _) ?_,rfl,q _ hf⟩
 exact⟨z,us,r,⟨_,Heap.get?_push_size _ rfl,rfl,_,rfl⟩⟩
theorem pe_lst (h:PA X es t):PE X (.List es pos) (tLst t):=by
 intro pins s σ H Q I hq
 refine wpAny_List_spliced (thn (h pos pins s σ H _ I hq) fun us s1 hz=>?_)
 obtain⟨xs,H1,I1,r,z,q⟩:=hz
 refine⟨by rw [<- r.length];exact z,?_⟩
 have hf:H1 s1.heap.objs.size=none:=I1.hok.fresh (Nat.le_refl _)
 refine⟨.ref s1.heap.objs.size,upd H1 s1.heap.objs.size (.lst xs),I1.laid (t':=s1.toks) (fun b u e=>Heap.get?_push_of_some _ e) (Nat.le_refl _) ?_,rfl,q _ hf⟩
 exact⟨z,us,0,r,Heap.get?_push_size _ rfl⟩
end
noncomputable abbrev Sp:=List V->Hp->VK->XK->Prop
noncomputable abbrev CXT:=List Env->Hp->Shared->XK->Value->Shared->Prop
structure Env0 (P:Program) (w:World) (K:PySem.W.Frag) (mg:Str->Option Value) (base:Heap) (A:Around) (outer:List Env) (s:Shared) (H:Hp):Prop where
 frames:A.frames=some outer
 mod:Mod K mg base
 bs:∀b o,base.get? b=some o->s.heap.get? b=some o/\H b=none
 bsz:base.objs.size≤s.heap.objs.size
 funs:s.heap.FunFrames base outer
 frf:∀b ∈ frs outer,H b=none
 hok:HOk P w H s.heap
 bare:AllBare s.gens
noncomputable def CE (outer:List Env) (P:Program) (w:World) (H:Hp) (s:Shared) (Q:VK) (u:Value) (s':Shared):Prop:=
 ∃v H',s'.os=s.os/\AllBare s'.gens/\Un (frs outer) [] H H' s.heap s'.heap/\HOk P w H' s'.heap/\RelV v u/\Q v H'
noncomputable def CR (CX:CXT) (outer:List Env) (P:Program) (w:World) (H:Hp) (s:Shared) (Q:VK) (E:XK) (r:Result) (s':Shared):Prop:=
 match r with
 | .ok (.ret u)=>CE outer P w H s Q u s'
 | .ok _=>False
 | .error e=>CX outer H s E e s'
structure FnOk (P:Program) (w:World) (K:PySem.W.Frag) (mg:Str->Option Value) (base:Heap) (CX:CXT) (k:Nat) (f:Addr) (fd:FuncData) (ps:List Str) (sp:Sp):Prop where
 len:∀vs H Q E,sp vs H Q E->vs.length=ps.length
 run:∀(A:Around) (outer:List Env) (s:Shared) (H:Hp) (args:Args) (us:List Value) (vs:List V) (Q:VK) (E:XK),Room k A->Env0 P w K mg base A outer s H->BindsTo s fd args (ps.zip us)->Vals vs us->sp vs H Q E ->
  codeAny (model P w) A (.call (.ref f) args) (CR CX outer P w H s Q E) s
theorem FnOk.mono {P:Program}{w:World}{K:PySem.W.Frag}{mg:Str->Option Value}{base:Heap}{CX:CXT}{j k:Nat}{f:Addr}{fd:FuncData}{ps:List Str}{sp:Sp} (F:FnOk P w K mg base CX j f fd ps sp) (h:j≤k) :
  FnOk P w K mg base CX k f fd ps sp:=⟨F.len,fun A outer s H args us vs Q E hr=>F.run A outer s H args us vs Q E (hr.mono h)⟩
theorem FnOk.imp {P:Program}{w:World}{K:PySem.W.Frag}{mg:Str->Option Value}{base:Heap}{CX:CXT}{k:Nat}{f:Addr}{fd:FuncData}{ps:List Str}{sp sp':Sp} (F:FnOk P w K mg base CX k f fd ps sp)
  (h:∀vs H Q E,sp' vs H Q E->sp vs H Q E):FnOk P w K mg base CX k f fd ps sp':=
 ⟨fun vs H Q E q=>F.len vs H Q E (h _ _ _ _ q),fun A outer s H args us vs Q E hr he hb hv hs=>F.run A outer s H args us vs Q E hr he hb hv (h _ _ _ _ hs)⟩
theorem Env0.make {P:Program}{w:World}{K:PySem.W.Frag}{mg:Str->Option Value}{base:Heap}{A:Around}{outer:List Env}{s:Shared}{H:Hp} (e:Env0 P w K mg base A outer s H) (C:Addr) (us:List Value) (kw:List (Str×Value)) :
  Env0 P w K mg base (A.under (.builtin "type.__call__" ⟨.ref C::us,kw⟩)) outer s H:=⟨by first | exact e.frames | (simpa [Around.under,Code.envs,Code.isFrame,pushEnvs] using e.frames),e.mod,e.bs,e.bsz,e.funs,e.frf,e.hok,e.bare⟩
theorem Env0.in1 {P:Program}{w:World}{K:PySem.W.Frag}{mg:Str->Option Value}{base:Heap}{A:Around}{outer:List Env}{s:Shared}{H:Hp} (e:Env0 P w K mg base A outer s H) :
  Env0 P w K mg base A.in1 outer s H:=⟨e.frames,e.mod,e.bs,e.bsz,e.funs,e.frf,e.hok,e.bare⟩
section
variable {X:Cx}{pins:List (Addr×Obj)}{σ:St}{H:Hp}{s s':Shared}
theorem Inv.env0 (I:Inv X pins σ H s):Env0 X.prog X.w X.K X.mg X.base X.A X.stack s H:=
 ⟨I.ok.frames,I.ok.mod,I.bs,Nat.le_trans I.ok.bsz I.sz,I.stack,I.stkFree,I.hok,I.bare⟩
theorem Inv.after {Q:VK}{u:Value} (I:Inv X pins σ H s) (h:CE X.stack X.prog X.w H s Q u s'):EP X pins σ Q u s':=by
 obtain⟨v,H',os,bare,un,hok,r,q⟩:=h
 obtain⟨hh,g,d,t,os'⟩:=s'
 obtain rfl:os'=s.os:=os
 exact⟨v,H',I.call (h':=hh) (g':=g) (d':=d) (t':=t) (ch:=[]) un hok bare (fun b z=>absurd z (by simp)),r,q⟩
end
noncomputable def tCall (sp:Sp) (dvs:List V) (E:XK) (t:TA):TE:=fun σ H Q=>t σ H fun vs H1=>sp (vs++dvs) H1 Q E
noncomputable def tMeth (C:Addr) (m:Str) (sp:Sp) (dvs:List V) (E:XK) (ta:TE) (t:TA):TE:=fun σ H Q=>ta σ H fun x H1=>∃a dx fs,x=.ref a/\H1 a=some (.ins C dx fs)/\fs.lookup m=none /\
 t σ H1 fun vs H2=>sp (x::(vs++dvs)) H2 Q E
noncomputable def tMake (C:Addr) (sp:Sp) (dvs:List V) (E:XK) (t:TA):TE:=fun σ H Q=>t σ H fun vs H1=>∀x dx,H1 x=none->H1 dx=none->dx≠x ->
 sp (.ref x::(vs++dvs)) (upd (upd H1 dx (.own x)) x (.ins C dx [])) (fun v H2=>v=.non/\Q (.ref x) H2) E
noncomputable def Binds (K:PySem.W.Frag) (fd:FuncData) (ps:List Str) (ds:List Value):Prop:=
 ∀(s:Shared) (us:List Value),K.In s.heap->(us++ds).length=ps.length->BindsTo s fd ⟨us,[]⟩ (ps.zip (us++ds))
theorem Binds.all {K:PySem.W.Frag}{fd:FuncData}{ps:List Str} (h:∀us:List Value,us.length=ps.length->bindArgs fd ⟨us,[]⟩=pure (ps.zip us)):Binds K fd ps []:=fun s us _ hl=>by
 rw [List.append_nil] at hl ⊢
 exact .of_eq (h us hl)
noncomputable def Passes (CX:CXT) (X:Cx) (E:XK):Prop:=∀(pins:List (Addr×Obj)) (σ:St) (H:Hp) (s:Shared) (e:Value) (s':Shared),Inv X pins σ H s->CX X.stack H s E e s'->X.xe e s'
section
variable {X:Cx}{CX:CXT}{k:Nat}{f C:Addr}{fd:FuncData}{ps:List Str}{sp:Sp}{dvs:List V}{ds:List Value}{E:XK}{x m:Str}{p pos apos:Pos}{e o:Expr}{es:List Expr}{ta:TE}{t:TA}
theorem run_fn {pins:List (Addr×Obj)}{σ:St}{H:Hp}{s:Shared}{Q:VK}{us:List Value}{vs:List V} (F:FnOk X.prog X.w X.K X.mg X.base CX k f fd ps sp) (hr:Room k X.A) (hb:Binds X.K fd ps ds) (hd:Vals dvs ds) (hx:Passes CX X E)
  (I:Inv X pins σ H s) (r:Vals vs us) (h:sp (vs++dvs) H Q E):wpAny (model X.prog X.w) X.A (call (.ref f) us) (EP X pins σ Q) X.xe s:=by
 have r2:Vals (vs++dvs) (us++ds):=r.append hd
 have hl:(us++ds).length=ps.length:=by rw [<- r2.length];exact F.len _ _ _ _ h
 refine wpAny_call (codeAny_mono (F.run X.A X.stack s H ⟨us,[]⟩ (us++ds) (vs++dvs) Q E hr I.env0 (hb s us I.kIn hl) r2 h) fun r s' hq=>?_)
 cases r with
 | error e=>exact hx pins σ H s e s' I hq
 | ok fl=>
  cases fl with
  | ret u=>exact I.after hq
  | next=>exact False.elim hq
  | brk=>exact False.elim hq
  | cont=>exact False.elim hq
theorem pe_call (F:FnOk X.prog X.w X.K X.mg X.base CX k f fd ps sp) (hr:Room k X.A) (hg:Gl X x) (hm:X.mg x=some (.ref f)) (hk:PySem.W.keepIn X.K (.ref f)=true) (hb:Binds X.K fd ps ds) (hd:Vals dvs ds) (hx:Passes CX X E)
  (ha:PA X (e::es) t) (hdb:(x == ("__debug__":Str))=false:=by decide) (he:starEach (e::es) X.env=(false,eval e X.env)::starEach es X.env:=by rfl) (hpl:(backTo pos (starEach es X.env)).any (·.1)=false:=by rfl) :
  PE X (.Call (.Name x p) (e::es) [] pos) (tCall sp dvs E t):=by
 intro pins s σ H Q I h
 refine wpAny_Call_Name_kw (ld_glob I hg hm ?_ hdb)
 refine PySem.W.callWith_K (h₀:=X.base) I.ok.mod.kin hk (thn (ha pos pins s σ H _ I h) fun us s1 hz=>?_) he hpl
 obtain⟨vs,H1,I1,r,q⟩:=hz
 refine⟨I1.kIn,?_⟩
 exact run_fn F hr hb hd hx I1 r q
theorem pe_meth {pl:Sem Bool} (he:PE X o ta) (c:Cls X.K C) (hm:Meth X.K C m f) (F:FnOk X.prog X.w X.K X.mg X.base CX k f fd ps sp) (hr:Room k X.A) (hb:Binds X.K fd ps ds) (hd:Vals dvs ds) (hx:Passes CX X E) (ha:PA X (e::es) t)
  (hst:starEach (e::es) X.env=(false,eval e X.env)::starEach es X.env:=by rfl) (hpl:(backTo pos (starEach es X.env)).any (·.1)=false:=by rfl)
  (ht:eval (.Call (.Attribute o m apos) (e::es) [] pos) X.env=(do
   let ov <- eval o X.env
   standAt apos.atName
   let (f,first) <- holding [ov] (getMethod ov m pl)
   callWith pos f first (backTo pos (starEach (e::es) X.env)) (backToKw pos (keywordEach [] X.env))):=by rfl) :
  PE X (.Call (.Attribute o m apos) (e::es) [] pos) (tMeth C m sp dvs E ta t):=by
 intro pins s σ H Q I h
 refine PySem.W.methodCall_KW (pl:=pl) (thn (he pins s σ H _ I h) fun u s1 hz=>?_) ht
 obtain⟨x,H1,I1,rx,a,dx,fs,ex,ea,l,q⟩:=hz
 subst ex
 obtain rfl:u=Value.ref a:=rx
 refine getmeth_ok I1 ea c hm l ?_
 refine PySem.W.callWith_K (first:=[.ref a]) (h₀:=X.base) I.ok.mod.kin hm.kp (thn (ha pos pins s1 σ H1 _ I1 q) fun us s2 hz=>?_) hst hpl
 obtain⟨vs,H2,I2,r,q2⟩:=hz
 refine⟨I2.kIn,?_⟩
 exact run_fn (us:=.ref a::us) (vs:=.ref a::vs) F hr hb hd hx I2 (.cons rfl r) q2
theorem pe_meth0 {pl:Sem Bool} (he:PE X o ta) (c:Cls X.K C) (hm:Meth X.K C m f) (F:FnOk X.prog X.w X.K X.mg X.base CX k f fd ps sp) (hr:Room k X.A) (hb:Binds X.K fd ps ds) (hd:Vals dvs ds) (hx:Passes CX X E)
  (ht:eval (.Call (.Attribute o m apos) [] [] pos) X.env=(do
   let ov <- eval o X.env
   standAt apos.atName
   let (f,first) <- holding [ov] (getMethod ov m pl)
   callWith pos f first (backTo pos (starEach [] X.env)) (backToKw pos (keywordEach [] X.env))):=by rfl) :
  PE X (.Call (.Attribute o m apos) [] [] pos) (tMeth C m sp dvs E ta tNil):=by
 intro pins s σ H Q I h
 refine PySem.W.methodCall_KW (pl:=pl) (thn (he pins s σ H _ I h) fun u s1 hz=>?_) ht
 obtain⟨x,H1,I1,rx,a,dx,fs,ex,ea,l,q⟩:=hz
 subst ex
 obtain rfl:u=Value.ref a:=rx
 refine getmeth_ok I1 ea c hm l ?_
 exact PySem.W.callWith_K0 (first:=[.ref a]) I1.kIn hm.kp (run_fn (us:=[.ref a]) (vs:=[.ref a]) F hr hb hd hx I1 (.cons rfl .nil) q)
structure Mk (K:PySem.W.Frag) (C f:Addr):Prop where
 makes:PySem.W.makesIn K C=true
 init:PySem.W.findIn K (.ref C) "__init__"=some (some (.ref f))
 fn:PySem.W.isFn K (.ref f)=true
 kp:PySem.W.keepIn K (.ref C)=true
theorem run_make {pins:List (Addr×Obj)}{σ:St}{H:Hp}{s:Shared}{Q:VK}{us:List Value}{vs:List V} (M:Mk X.K C f) (F:FnOk X.prog X.w X.K X.mg X.base CX k f fd ps sp) (hr:Room (k+1) X.A) (hb:Binds X.K fd ps ds) (hd:Vals dvs ds)
  (hx:Passes CX X E) (I:Inv X pins σ H s) (r:Vals vs us)
  (h:∀x dx,H x=none->H dx=none->dx≠x->sp (.ref x::(vs++dvs)) (upd (upd H dx (.own x)) x (.ins C dx [])) (fun v H2=>v=.non/\Q (.ref x) H2) E) :
  wpAny (model X.prog X.w) X.A (call (.ref C) us) (EP X pins σ Q) X.xe s:=by
 have hq:=h (s.heap.objs.size+1) s.heap.objs.size (I.hok.fresh (Nat.le_succ _)) (I.hok.fresh (Nat.le_refl _)) (Nat.ne_of_lt (Nat.lt_succ_self _))
 have I2:=Inv.made (C:=C) I
 have r2:Vals (V.ref (s.heap.objs.size+1)::(vs++dvs)) (Value.ref (s.heap.objs.size+1)::(us++ds)):=.cons rfl (r.append hd)
 have hl:(Value.ref (s.heap.objs.size+1)::us++ds).length=ps.length:=by
  have e:=r2.length
  rw [F.len _ _ _ _ hq] at e
  exact e.symm
 refine wpAny_call (make_map (f:=f) I.kIn M.makes M.init (beq_iff_eq.mp M.fn) (codeAny_mono (F.run _ X.stack _ _ ⟨Value.ref (s.heap.objs.size+1)::us,[]⟩ (Value.ref (s.heap.objs.size+1)::(us++ds)) _ _ E (hr.make C us [])
  (I2.env0.make C us []) (hb _ (Value.ref (s.heap.objs.size+1)::us) I2.kIn hl) r2 hq) fun r s' hq'=>?_))
 cases r with
 | error e=>exact hx pins σ _ _ e s' I2 hq'
 | ok fl=>
  cases fl with
  | ret u=>
   obtain⟨v,H',I3,rv,ev,q3⟩:=I2.after hq'
   subst ev
   exact⟨rv,⟨V.ref (s.heap.objs.size+1),H',I3,rfl,q3⟩⟩
  | next=>exact False.elim hq'
  | brk=>exact False.elim hq'
  | cont=>exact False.elim hq'
theorem pe_make (M:Mk X.K C f) (F:FnOk X.prog X.w X.K X.mg X.base CX k f fd ps sp) (hr:Room (k+1) X.A) (hg:Gl X x) (hm:X.mg x=some (.ref C)) (hb:Binds X.K fd ps ds) (hd:Vals dvs ds) (hx:Passes CX X E)
  (ha:PA X (e::es) t) (hdb:(x == ("__debug__":Str))=false:=by decide) (he:starEach (e::es) X.env=(false,eval e X.env)::starEach es X.env:=by rfl) (hpl:(backTo pos (starEach es X.env)).any (·.1)=false:=by rfl) :
  PE X (.Call (.Name x p) (e::es) [] pos) (tMake C sp dvs E t):=by
 intro pins s σ H Q I h
 refine wpAny_Call_Name_kw (ld_glob I hg hm ?_ hdb)
 refine PySem.W.callWith_K (h₀:=X.base) I.ok.mod.kin M.kp (thn (ha pos pins s σ H _ I h) fun us s1 hz=>?_) he hpl
 obtain⟨vs,H1,I1,r,q⟩:=hz
 refine⟨I1.kIn,?_⟩
 exact run_make M F hr hb hd hx I1 r q
end
section
variable {X:Cx}{CX:CXT}{k:Nat}{f C:Addr}{fd:FuncData}{ps ks:List Str}{sp:Sp}{E:XK}{x m:Str}{p pos apos kpos:Pos}{e o:Expr}{es:List Expr}{kws:List Keyword}{te ta:TE}{t tk:TA}{nm:Option Str}
structure KBinds (K:PySem.W.Frag) (fd:FuncData) (ps ks:List Str) (g:List Value->List Value->List Value) (gV:List V->List V->List V):Prop where
 to:∀(s:Shared) (us ws:List Value),K.In s.heap->(g us ws).length=ps.length->BindsTo s fd ⟨us,ks.zip ws⟩ (ps.zip (g us ws))
 rel:∀{vs:List V}{us:List Value}{zs:List V}{ws:List Value},Vals vs us->Vals zs ws->Vals (gV vs zs) (g us ws)
variable {g:List Value->List Value->List Value}{gV:List V->List V->List V}
end
structure FnScope (N P:List Str) (sc:Scope):Prop where
 kind:sc.kind=.function
 co:sc.isCoroutine=false
 gen:sc.isGenerator=false
 nd:N.Nodup
 pre:N.take P.length=P
 par:∀x ∈ P,sc.names.lookup x=some .local\/sc.names.lookup x=some .cell
 nofree:∀y ∈ sc.names,y.2≠.free
theorem bindL_out {kindOf:Str->Option NameKind}{x:Str}:∀{binds:List (Str×Value)}{m:Str->Option Value},(∀v,(x,v) ∉ binds)->bindL kindOf binds m x=m x
 | [],_,_=>rfl
 | (n,v)::r,m,h=>by
  unfold bindL
  rw [bindL_out fun w hw=>h w (List.mem_cons_of_mem _ hw)]
  split
  ·have:x≠n:=by rintro rfl;exact h v List.mem_cons_self
   simp [this]
  ·rfl
theorem bindC_out {kindOf:Str->Option NameKind}{x:Str}:∀{binds:List (Str×Value)}{m:Str->Option Value},(∀v,(x,v) ∉ binds)->bindC kindOf binds m x=m x
 | [],_,_=>rfl
 | (n,v)::r,m,h=>by
  unfold bindC
  rw [bindC_out fun w hw=>h w (List.mem_cons_of_mem _ hw)]
  split
  ·rfl
  ·have:x≠n:=by rintro rfl;exact h v List.mem_cons_self
   simp [this]
theorem bindL_get {kindOf:Str->Option NameKind}{x:Str}{v:Value}:∀{P:List Str}{vs:List Value}{i:Nat}{m:Str->Option Value},P.Nodup->P[i]? = some x->vs[i]? = some v->kindOf x=some .local ->
  bindL kindOf (P.zip vs) m x=some v
 | [],_,_,_,_,h,_,_=>by simp at h
 | _::_,[],_,_,_,_,h,_=>by simp at h
 | p::P,w::vs,0,m,nd,h1,h2,hk=>by
  simp at h1 h2;subst h1;subst h2
  show bindL kindOf ((p,w)::P.zip vs) m p=_
  unfold bindL
  rw [bindL_out fun v hv=>(List.nodup_cons.mp nd).1 (List.of_mem_zip hv).1,if_pos hk]
  simp
 | p::P,w::vs,i+1,m,nd,h1,h2,hk=>by
  show bindL kindOf ((p,w)::P.zip vs) m x=_
  unfold bindL
  exact bindL_get (i:=i) (List.nodup_cons.mp nd).2 (by simpa using h1) (by simpa using h2) hk
theorem bindC_get {kindOf:Str->Option NameKind}{x:Str}{v:Value}:∀{P:List Str}{vs:List Value}{i:Nat}{m:Str->Option Value},P.Nodup->P[i]? = some x->vs[i]? = some v->kindOf x≠some .local ->
  bindC kindOf (P.zip vs) m x=some v
 | [],_,_,_,_,h,_,_=>by simp at h
 | _::_,[],_,_,_,_,h,_=>by simp at h
 | p::P,w::vs,0,m,nd,h1,h2,hk=>by
  simp at h1 h2;subst h1;subst h2
  show bindC kindOf ((p,w)::P.zip vs) m p=_
  unfold bindC
  rw [bindC_out fun v hv=>(List.nodup_cons.mp nd).1 (List.of_mem_zip hv).1,if_neg hk]
  simp
 | p::P,w::vs,i+1,m,nd,h1,h2,hk=>by
  show bindC kindOf ((p,w)::P.zip vs) m x=_
  unfold bindC
  exact bindC_get (i:=i) (List.nodup_cons.mp nd).2 (by simpa using h1) (by simpa using h2) hk
noncomputable def start (N:List Str) (vs:List V):St:=vs.map some++List.replicate (N.length-vs.length) none
noncomputable def cxOf (CX:CXT) (P:Program) (w:World) (K:PySem.W.Frag) (mg:Str->Option Value) (base:Heap) (N:List Str) (qual:Str) (scope:Scope) (f:Addr) (cd:Value) (A:Around) (outer:List Env) (s:Shared) (H:Hp) (E:XK):Cx where
 prog:=P
 w:=w
 K:=K
 mg:=mg
 base:=base
 A:=A.deeper (envOfC qual scope s.heap.objs.size f cd)
 N:=N
 s₀:=s
 H₀:=H
 env:=envOfC qual scope s.heap.objs.size f cd
 outer:=outer
 stack:=envOfC qual scope s.heap.objs.size f cd::outer
 ex:=[]
 calm:=true
 fn:=fun _=>true
 pn:=[]
 xe:=fun e s'=>wpAny (model P w) (A.deeper (envOfC qual scope s.heap.objs.size f cd)) (leaving (envOfC qual scope s.heap.objs.size f cd) e) (fun _ s''=>CX outer H s E e s'') (fun e' s''=>CX outer H s E e' s'') s'
theorem cell_has {sc:Scope}{n:Nat}{x:Str} (h:sc.names.lookup x=some .cell):∃c,(cellsFrom n sc.names []).lookup x=some c:=by
 have q:=PySem.W.cellsFrom_some sc.names n [] (.inl h)
 exact Option.isSome_iff_exists.mp q
theorem inv_start {CX:CXT}{P:Program}{w:World}{K:PySem.W.Frag}{mg:Str->Option Value}{base:Heap}{N ps:List Str}{qual:Str}{scope:Scope}{f:Addr}{cd:Value}{A:Around}{outer:List Env}{s s1:Shared}{H:Hp}{E:XK}{us:List Value}{vs:List V}
  (S:FnScope N ps scope) (hd:A.handled=none) (e0:Env0 P w K mg base A outer s H) (hl:vs.length=ps.length) (r:Vals vs us)
  (x:InCallC s s.heap.objs.size (bindL (envOfC qual scope s.heap.objs.size f cd).kindOf (ps.zip us) fun _=>none) (cellsFrom (s.heap.objs.size+1) scope.names []) (bindC (envOfC qual scope s.heap.objs.size f cd).kindOf (ps.zip us) fun _=>none) s1) :
  Inv (cxOf CX P w K mg base N qual scope f cd A outer s H E) [] (start N vs) H s1:=by
 have hpl:ps.length≤N.length:=by have:=congrArg List.length S.pre;rw [List.length_take] at this;omega
 obtain⟨h1,tk,rfl,hk⟩:=x.done
 have noA:∀b:Addr,b ∉ (cxOf CX P w K mg base N qual scope f cd A outer s H E).ex:=fun b z=>absurd (show b ∈ ([]:List Addr) from z) (by simp)
 refine⟨⟨e0.mod,S.kind,rfl,rfl,Nat.le_refl _,fun y z c h1 h2=>?_,fun y hy=>?_,fun y c _ h=>?_,fun _=>hd,Around.frames_deeper e0.frames,.inr ⟨rfl,rfl⟩,fun b z=>absurd z (noA b),e0.bs,e0.bsz,fun b _ _=>noA b,fun b z=>absurd z (noA b),e0.funs,e0.frf⟩,
  rfl,e0.bare,Un.kept hk,⟨_,x.toInCall.ns,fun i y v h1 h2 h3=>?_⟩,fun y c h=>⟨_,x.cell y c h⟩,e0.hok.fresh (Nat.le_refl _),fun y c h=>?_,fun p hp=>absurd (show p ∈ ([]:List (Addr×Obj)) from hp) (by simp),e0.hok.kept hk,?_⟩
 ·exact name_of_addr x.apart (PySem.mem_of_lookup h1) (PySem.mem_of_lookup h2)
 ·have hy:scope.names.lookup y=some .cell\/scope.names.lookup y=some .free:=hy
  rcases hy with hy | hy
  ·exact cell_has hy
  ·exact absurd rfl (S.nofree _ (PySem.mem_of_lookup hy))
 ·exact Nat.le_of_lt (x.above y c (PySem.mem_of_lookup h))
 ·have hi:i < vs.length:=by
   unfold start at h2
   by_cases hi:i < vs.length
   ·exact hi
   ·rw [List.getElem?_append_right (by simpa using hi)] at h2
    rw [List.getElem?_replicate] at h2
    split at h2 <;> cases h2
  have ha:vs[i]? = some v:=by
   unfold start at h2
   rw [List.getElem?_append_left (by simpa using hi),List.getElem?_map] at h2
   cases e:vs[i]? with
   | none=>rw [e] at h2;cases h2
   | some a=>rw [e] at h2;cases h2;rfl
  obtain⟨u,hu,rv⟩:=r.get ha
  have hp:ps[i]? = some y:=by
   rw [<- S.pre,List.getElem?_take_of_lt (by omega)];exact h1
  have ndP:ps.Nodup:=by rw [<- S.pre];exact S.nd.sublist (List.take_sublist _ _)
  refine⟨u,rv,?_⟩
  rcases S.par y (List.mem_of_getElem? hp) with k | k
  ·exact .inl ⟨k,bindL_get ndP hp hu k⟩
  ·obtain⟨c,e⟩:=cell_has (n:=s.heap.objs.size+1) k
   refine .inr ⟨.inl k,c,e,?_⟩
   have q:=x.cell y c e
   rw [bindC_get ndP hp hu (by show scope.names.lookup y≠_;rw [k];decide)] at q
   exact q
 ·exact e0.hok.fresh (Nat.le_of_lt (x.above y c (PySem.mem_of_lookup h)))
 ·unfold start
  show _=N.length
  rw [List.length_append,List.length_map,List.length_replicate]
  omega
theorem fn_of {CX:CXT}{P:Program}{w:World}{K:PySem.W.Frag}{mg:Str->Option Value}{base:Heap}{k:Nat}{f:Addr}{name qual:Str}{params:Arguments}{body:List Stmt}{scope:Scope}{dV kV doc pm cdv ct oc:Value}{an od:Option Addr}
  {osl:Array (Option Value)}{N ps:List Str}{sp:Sp} (lk:K.lookup f=some ⟨oc,od,.func (PySem.W.fnOf name qual params body scope dV kV doc pm an cdv ct),osl⟩) (hcd:PySem.W.codeIn K cdv qual=true) (S:FnScope N ps scope)
  (len:∀vs H Q E,sp vs H Q E->vs.length=ps.length)
  (hbody:∀(A:Around) (outer:List Env) (s:Shared) (H:Hp) (vs:List V) (Q:VK) (E:XK),Room k (A.deeper (envOfC qual scope s.heap.objs.size f cdv))->sp vs H Q E ->
   ∃t,PSs (cxOf CX P w K mg base N qual scope f cdv A outer s H E) body t/\t { nx:=fun _ H'=>Q .non H',rt:=Q } (start N vs) H) :
  FnOk P w K mg base CX (k+1) f (PySem.W.fnOf name qual params body scope dV kV doc pm an cdv ct) ps sp:=by
 refine⟨len,fun A outer s H args us vs Q E hr e0 hb r hsp=>?_⟩
 have hl:=len _ _ _ _ hsp
 have KX:K.In s.heap:=e0.mod.kin.keeps fun b o e=>(e0.bs b o e).1
 have lim:s.heap.NoLimit:=e0.mod.nolimit.keeps fun b o e=>(e0.bs b o e).1
 have hkind:∀y ∈ ps.zip us,scope.names.lookup y.1=some .local\/(scope.names.lookup y.1=some .cell/\((cellsFrom (s.heap.objs.size+1) scope.names []).lookup y.1).isSome=true):=fun ⟨n,v⟩ hy=>by
  rcases S.par n (List.of_mem_zip hy).1 with q | q
  ·exact .inl q
  ·exact .inr ⟨q,PySem.W.cellsFrom_some _ _ _ (.inl q)⟩
 refine codeAny_call_function hr.depth (KX _ _ lk) rfl S.co S.gen rfl (PySem.W.codeRec_of KX hcd) (hb _ _ _ _ ?_)
 refine wpAny_newFunctionEnv_cells S.kind hkind fun env he s1 x=>?_
 subst he
 refine⟨lim.keeps x.toInCall.keep,codeAny_func ?_⟩
 obtain⟨t,ht,hq⟩:=hbody A outer s H vs Q E (hr.deeper _) hsp
 have I:Inv (cxOf CX P w K mg base N qual scope f cdv A outer s H E) [] (start N vs) H s1:=inv_start S hr.hd e0 hl r x
 refine wpAny_mono (ht [] s1 (start N vs) H _ I hq) (fun fl s' hs=>?_) fun e s' hs=>hs
 have fin:∀{σ':St}{H':Hp}{v:V}{u:Value},Inv (cxOf CX P w K mg base N qual scope f cdv A outer s H E) [] σ' H' s'->RelV v u->Q v H'->CE outer P w H s Q u s':=
  fun {σ' H' v u} J rv q=>⟨v,H',J.os,J.bare,J.base,J.hok,rv,q⟩
 cases fl with
 | ret u=>
  obtain⟨v,σ',H',J,rv,q⟩:=hs
  exact fin J rv q
 | next=>
  obtain⟨σ',H',J,q⟩:=hs
  exact fin (v:=V.non) (u:=Value.none) J rfl q
 | brk=>
  obtain⟨_,_,_,q⟩:=hs
  exact False.elim q
 | cont=>
  obtain⟨_,_,_,q⟩:=hs
  exact False.elim q
end L2
namespace L2
open PySem PySem.Spec PyProof.Rows
section
variable {X:Cx}{x:Str}{p pos:Pos}{e:Expr}{es:List Expr}{t:TA}{id T:String}{r:List V->Hp->VK->Prop}
noncomputable def tCB (r:List V->Hp->VK->Prop) (t:TA):TE:=fun σ H Q=>t σ H fun vs H1=>r vs H1 Q
theorem pe_callB (hc:CallR X (.builtin id) r) (hg:Gl X x) (hm:X.mg x=none) (hv:bootBuiltins x=some (.builtin id)) (ha:PA X (e::es) t) (hn:x≠"__name__":=by decide) (hdb:(x == ("__debug__":Str))=false:=by decide)
  (he:starEach (e::es) X.env=(false,eval e X.env)::starEach es X.env:=by rfl) (hpl:(backTo pos (starEach es X.env)).any (·.1)=false:=by rfl):PE X (.Call (.Name x p) (e::es) [] pos) (tCB r t):=by
 intro pins s σ H Q I h
 refine wpAny_Call_Name_kw (ld_blt I hg hm hv ?_ hn hdb)
 exact PyProof.Rows.callWith_builtin1 (thn (ha pos pins s σ H _ I h) fun us s1 hz=>by obtain⟨vs,H1,I1,r1,q1⟩:=hz;exact hc pins s1 σ H1 vs us Q I1 r1 q1) he hpl
theorem pe_callTy (hc:CallR X (.type T) r) (hg:Gl X x) (hm:X.mg x=none) (hv:bootBuiltins x=some (.type T)) (ha:PA X (e::es) t) (hn:x≠"__name__":=by decide) (hdb:(x == ("__debug__":Str))=false:=by decide)
  (he:starEach (e::es) X.env=(false,eval e X.env)::starEach es X.env:=by rfl) (hpl:(backTo pos (starEach es X.env)).any (·.1)=false:=by rfl):PE X (.Call (.Name x p) (e::es) [] pos) (tCB r t):=by
 intro pins s σ H Q I h
 refine wpAny_Call_Name_kw (ld_blt I hg hm hv ?_ hn hdb)
 exact PyProof.Rows.callWith_type1 (thn (ha pos pins s σ H _ I h) fun us s1 hz=>by obtain⟨vs,H1,I1,r1,q1⟩:=hz;exact hc pins s1 σ H1 vs us Q I1 r1 q1) he hpl
end
end L2
namespace HT
open PySem PyProof.Rows
section
open PySem.SeqAt
open PySem.AutoSeq1 (wpAny_loadPart')
open PySem.MeetsSeq PySem.MeetsSeq2 PySem.MeetsSeq3
end
section
variable {prog:Program}{w:World}{A:Around}{E:Value->Shared->Prop}{s:Shared}
theorem cat_tup {t b:Addr}{vs ws:List Value}{Q:Value->Shared->Prop} (ht:IsTup s.heap t vs.toArray) (hb:IsTup s.heap b ws.toArray) (hv:vs≠[])
  (h1:ws=[]->Q (.ref t) s) (h2:ws≠[]->Q (.ref s.heap.objs.size) { s with heap:=s.heap.push { cls:=.type "tuple",data:=.seq (vs++ws).toArray } })
  (hsz:vs.length+ws.length≤sizeLine):wpAny (model prog w) A (binaryOp .Add (.ref t) (.ref b)) Q E s:=by
 obtain⟨⟨cls,dd,data,sl⟩,ho,hc,n,hd⟩:=id ht
 obtain⟨⟨cls2,dd2,data2,sl2⟩,ho2,hc2,n2,hd2⟩:=id hb
 simp only at hc hd hc2 hd2
 subst hc hd hc2 hd2
 have e:vs.toArray++ws.toArray=(vs++ws).toArray:=by simp
 by_cases hw:ws=[]
 ·exact concat_meets ⟨_,ho,rfl⟩ ⟨_,ho2,rfl⟩ noFill_tuple_add seq_tuple_add PySem.F.slot_tuple_add PySem.F.entry_tuple_add (PySem.F.args_tuple_add_2 _ _)
   (tuple_addW1 t b vs.toArray ws.toArray n n2 dd dd2 sl sl2 (by simpa using hv) (by simp [hw])) ⟨ho,ho2,h1 hw⟩
 ·refine concat_meets ⟨_,ho,rfl⟩ ⟨_,ho2,rfl⟩ noFill_tuple_add seq_tuple_add PySem.F.slot_tuple_add PySem.F.entry_tuple_add (PySem.F.args_tuple_add_2 _ _)
   (tuple_addW2 t b vs.toArray ws.toArray n n2 dd dd2 sl sl2 (by simpa using hv) (by simpa using hw) (by rw [List.size_toArray,List.size_toArray];exact hsz)) ⟨ho,ho2,?_⟩
  rw [e]
  exact h2 hw
noncomputable def sIx (n d:Nat):Option Int->Nat
 | none=>d
 | some v=>if v < 0 then (v+(n:Int)).toNat else min v.toNat n
theorem sIx_le (n d:Nat) (hd:d≤n) (o:Option Int):sIx n d o≤n:=by
 cases o with
 | none=>exact hd
 | some v=>
  show (if v < 0 then (v+(n:Int)).toNat else min v.toNat n)≤n
  by_cases hv:v < 0
  ·rw [if_pos hv];omega
  ·rw [if_neg hv];exact Nat.min_le_right _ _
theorem clip_eq (v:Int) (n d:Nat):(if v < 0 then max (v+(n:Int)) 0 else min v (n:Int))=((sIx n d (some v):Nat):Int):=by
 show (if v < 0 then max (v+(n:Int)) 0 else min v (n:Int))=(((if v < 0 then (v+(n:Int)).toNat else min v.toNat n):Nat):Int)
 by_cases hv:v < 0
 ·simp only [if_pos hv];omega
 ·simp only [if_neg hv];omega
theorem adjust_gen (lo hi:Option Int) (n:Nat):Builtin.Slice.sliceAdjust lo hi 1 (n:Int)=(((sIx n 0 lo:Nat):Int),((sIx n n hi:Nat):Int)):=by
 have h1:¬((1:Int) < 0):=by omega
 unfold Builtin.Slice.sliceAdjust
 simp only [h1,if_false]
 refine Prod.ext ?_ ?_
 ·cases lo with
  | none=>rfl
  | some v=>exact clip_eq v n 0
 ·cases hi with
  | none=>rfl
  | some v=>exact clip_eq v n n
theorem places_gen (i j:Nat):Builtin.Slice.slicePlaces (i:Int) (j:Int) 1=j-i:=by
 unfold Builtin.Slice.slicePlaces
 have h1:(1:Int) > 0:=by omega
 simp only [h1,if_true,Int.ediv_one]
 split <;> omega
theorem slicePart_ {v:Value}{o:Option Int}{Q:Option Int->Shared->Prop} (p:IsPart v o) (h:Q o s):wpAny (model prog w) A (Builtin.Slice.slicePartIndex v) Q E s:=by
 cases p with
 | none=>exact slicePart_none h
 | int i t=>exact slicePart_int h
theorem sliceApplied_gen {sl:Addr}{vl vu:Value}{lo hi:Option Int}{n:Nat}{Q:Int×Int×Nat->Shared->Prop} (hs:s.heap.IsSliceOf sl vl vu .none) (pl:IsPart vl lo) (pu:IsPart vu hi)
  (h:Q (((sIx n 0 lo:Nat):Int),1,sIx n n hi-sIx n 0 lo) s):wpAny (model prog w) A (Builtin.Slice.sliceApplied (.ref sl) (pure (n:Int))) Q E s:=by
 obtain⟨os,hos,hcs,hds⟩:=id hs
 unfold Builtin.Slice.sliceApplied Builtin.Slice.sliceFields
 refine wpAny_bind (wpAny_bind (wpAny_field hos hds (x:=vl) rfl (wpAny_bind (wpAny_field hos hds (x:=vu) rfl (wpAny_bind (wpAny_field hos hds (x:=.none) rfl (wpAny_pure ?_)))))))
 refine wpAny_bind (slicePart_none ?_)
 show wpAny _ _ (if ((1:Int) == 0)=true then _ else _) _ _ s
 rw [if_neg (by decide)]
 refine wpAny_bind (slicePart_ pl (wpAny_bind (slicePart_ pu (wpAny_bind (wpAny_pure ?_)))))
 show wpAny _ _ (match Builtin.Slice.sliceAdjust lo hi 1 (n:Int) with | (lo,hi)=>pure (lo,(1:Int),Builtin.Slice.slicePlaces lo hi 1)) _ _ s
 rw [adjust_gen lo hi n]
 show wpAny _ _ (pure (((sIx n 0 lo:Nat):Int),(1:Int),Builtin.Slice.slicePlaces ((sIx n 0 lo:Nat):Int) ((sIx n n hi:Nat):Int) 1)) _ _ s
 rw [places_gen]
 exact wpAny_pure h
theorem pick_gen (xs:Array Value) (i k:Nat):((List.range k).filterMap fun (m:Nat)=>xs[((i:Int)+(m:Int) * 1).toNat]?).toArray=((xs.toList.drop i).take k).toArray:=by
 have e:(fun (m:Nat)=>xs[((i:Int)+(m:Int) * 1).toNat]?)=fun m=>xs[i+m]?:=by
  funext m
  have:((i:Int)+(m:Int) * 1).toNat=i+m:=by omega
  rw [this]
 rw [e]
 have:=pick_run xs i k
 rw [List.filterMap_map] at this
 have e2:((fun x=>xs[x]?) ∘ fun x=>i+x)=fun m=>xs[i+m]?:=rfl
 rw [e2] at this
 rw [this]
theorem getItem_tuple_cut {t sl:Addr}{items:Array Value}{vl vu:Value}{lo hi:Option Int}{Q:Value->Shared->Prop} (ht:IsTup s.heap t items) (hs:s.heap.IsSliceOf sl vl vu .none) (pl:IsPart vl lo) (pu:IsPart vu hi)
  (hw:¬(sIx items.size 0 lo=0/\sIx items.size items.size hi=items.size))
  (h:Q (.ref s.heap.objs.size) { s with heap:=s.heap.push { cls:=.type "tuple",data:=.seq ((items.toList.drop (sIx items.size 0 lo)).take (sIx items.size items.size hi-sIx items.size 0 lo)).toArray } })
  (hsz:items.size≤sizeLine):wpAny (model prog w) A (getItem (.ref t) (.ref sl)) Q E s:=by
 have htake:sizeOk (.seq ((items.toList.drop (sIx items.size 0 lo)).take (sIx items.size items.size hi-sIx items.size 0 lo)).toArray):=by
  show ((items.toList.drop (sIx items.size 0 lo)).take (sIx items.size items.size hi-sIx items.size 0 lo)).toArray.size≤sizeLine
  rw [List.size_toArray,List.length_take,List.length_drop,Array.length_toList]
  omega
 have hj:sIx items.size items.size hi≤items.size:=sIx_le _ _ (Nat.le_refl _) hi
 obtain⟨os,hos,hcs,hds⟩:=id hs
 have hTs:s.TypeIs (.ref sl) "slice":=⟨os,hos,hcs⟩
 unfold getItem
 try with_reducible refine wpAny_holding ?_
 first | refine wpAny_bind (wpAny_pure ?_) | skip
 refine wpAny_bind (wpAny_sequenceKey ht.typeIs (by decide) ?_)
 refine wpAny_bind (wpAny_callSpecial?_slot (name:=Str.ofString "__getitem__") ht.typeIs PyProof.Rows.slot_tuple_getitem
  (wpAny_call_entry PyProof.Rows.slot_tuple_getitem ht.typeIs entry_tuple_getitem ?_ (args_tuple_getitem _ _)))
 show wpAny _ _ (Builtin.Tuple.tupleItemsOf (.ref t) >>= _) _ _ s
 refine wpAny_bind (tupleItemsOf_ ht ?_)
 refine wpAny_bind (wpAny_typeOf hTs ?_)
 rw [if_pos (by decide)]
 refine wpAny_bind (sliceApplied_gen hs pl pu ?_)
 have hno:¬((((sIx items.size 0 lo:Nat):Int) == 0 && (1:Int) == 1 && (sIx items.size items.size hi-sIx items.size 0 lo) == items.size)=true):=by
  intro q
  rw [Bool.and_eq_true,Bool.and_eq_true] at q
  have q1:((sIx items.size 0 lo:Nat):Int)=0:=eq_of_beq q.1.1
  have q2:sIx items.size items.size hi-sIx items.size 0 lo=items.size:=eq_of_beq q.2
  exact hw ⟨by omega,by omega⟩
 show wpAny _ _ (if (((sIx items.size 0 lo:Nat):Int) == 0 && (1:Int) == 1 && (sIx items.size items.size hi-sIx items.size 0 lo) == items.size)=true then _ else _) _ _ s
 rw [if_neg hno,pick_gen]
 first
  | exact wpAny_bind (m:=Builtin.Tuple.tupleExact _) (wpAny_newObj_type (wpAny_pure ⟨_,rfl,wpAny_pure h⟩) htake)
  | exact wpAny_bind (m:=Builtin.Tuple.tupleExact _) (wpAny_newObj_type (wpAny_bind (wpAny_pure (wpAny_pure ⟨_,rfl,wpAny_pure h⟩))) htake)
  | exact wpAny_bind (wpAny_bind (m:=Builtin.Tuple.tupleExact _) (wpAny_newObj_type (wpAny_pure (wpAny_pure ⟨_,rfl,wpAny_pure h⟩)) htake))
  | exact wpAny_bind (wpAny_bind (m:=Builtin.Tuple.tupleExact _) (wpAny_newObj_type (wpAny_pure ⟨_,rfl,wpAny_pure h⟩) htake))
end
end HT
namespace L2
open PySem PySem.Spec PyProof.Rows
noncomputable abbrev TO:=St->Hp->(Option Int->Hp->Prop)->Prop
noncomputable def PO (X:Cx) (e:Option Expr) (t:TO):Prop:=
 ∀(pins:List (Addr×Obj)) (s:Shared) (σ:St) (H:Hp) (Q:Option Int->Hp->Prop),Inv X pins σ H s->t σ H Q ->
  wpAny (model X.prog X.w) X.A (evalPart e X.env) (fun u s'=>∃o H',Inv X pins σ H' s'/\IsPart u o/\Q o H') X.xe s
noncomputable def tNoPart:TO:=fun _ H Q=>Q none H
noncomputable def tPart (t:TE):TO:=fun σ H Q=>t σ H fun x H1=>∃i,x=.int i/\Q (some i) H1
section
variable {X:Cx}{e:Expr}{te:TE}{lo hi:Option Expr}{tl th:TO}{pos p2:Pos}
theorem po_none:PO X none tNoPart:=by
 intro pins s σ H Q I h
 rw [evalPart_none]
 exact wpAny_pure ⟨none,H,I,.none,h⟩
theorem po_some (h:PE X e te):PO X (some e) (tPart te):=by
 intro pins s σ H Q I hw
 rw [evalPart_some]
 refine thn (h pins s σ H _ I hw) fun u s1 hz=>?_
 obtain⟨x,H1,I1,r1,q1⟩:=hz
 obtain⟨i,rfl,q⟩:=q1
 obtain⟨t,rfl⟩:=r1
 exact⟨some i,H1,I1,.int i t,q⟩
noncomputable def SlR (X:Cx) (r:V->Option Int->Option Int->Hp->VK->Prop):Prop:=
 ∀(pins:List (Addr×Obj)) (s:Shared) (σ:St) (H:Hp) (x:V) (v vl vu:Value) (lo hi:Option Int) (sl:Addr) (Q:VK),Inv X pins σ H s->RelV x v->s.heap.IsSliceOf sl vl vu .none->IsPart vl lo->IsPart vu hi->r x lo hi H Q ->
  ∃T id,typeLookup (.type T) "__getitem__"=pure (some (.builtin id))/\s.TypeIs v T/\wpAny (model X.prog X.w) X.A (getItem v (.ref sl)) (EP X pins σ Q) X.xe s
theorem SlR.or {r r':V->Option Int->Option Int->Hp->VK->Prop} (h:SlR X r) (h':SlR X r'):SlR X (fun x lo hi H Q=>r x lo hi H Q\/r' x lo hi H Q):=by
 intro pins s σ H x v vl vu lo hi sl Q I rx hs pl pu q
 rcases q with q | q
 ·exact h pins s σ H x v vl vu lo hi sl Q I rx hs pl pu q
 ·exact h' pins s σ H x v vl vu lo hi sl Q I rx hs pl pu q
noncomputable def tSl (r:V->Option Int->Option Int->Hp->VK->Prop) (te:TE) (tl th:TO):TE:=fun σ H Q=>te σ H fun x H1=>tl σ H1 fun l H2=>th σ H2 fun u H3=>r x l u H3 Q
theorem pe_slice {r:V->Option Int->Option Int->Hp->VK->Prop} (hr:SlR X r) (he:PE X e te) (hl:PO X lo tl) (hu:PO X hi th):PE X (.Subscript e (.Slice lo hi none p2) pos) (tSl r te tl th):=by
 intro pins s σ H Q I h
 refine Subscript_ (thn (he pins s σ H _ I h) fun v s1 hz=>?_)
 obtain⟨x,H1,I1,r1,q1⟩:=hz
 refine wpAny_Slice (thn (hl pins s1 σ H1 _ I1 q1) fun vl s2 ⟨l,H2,I2,pl,q2⟩=>thn (hu pins s2 σ H2 _ I2 q2) fun vu s3 hz=>?_)
 obtain⟨u,H3,I3,pu,q3⟩:=hz
 rw [evalPart_none]
 refine wpAny_pure ?_
 have I4:Inv X pins σ H3 { s3 with heap:=s3.heap.push { cls:=.type "slice",data:=.fields #[vl,vu,.none] } }:=I3.kept (t':=s3.toks) fun b ob q=>Heap.get?_push_of_some _ q
 obtain⟨T,id,hT,ht,hg⟩:=hr pins { s3 with heap:=s3.heap.push { cls:=.type "slice",data:=.fields #[vl,vu,.none] } } σ H3 x v vl vu l u s3.heap.objs.size Q I4 r1 (Heap.IsSliceOf.new ..) pl pu q3
 show wpAny (model X.prog X.w) X.A (subscriptTail e (.Slice lo hi none p2) v (.ref s3.heap.objs.size)) (EP X pins σ Q) X.xe { s3 with heap:=s3.heap.push { cls:=.type "slice",data:=.fields #[vl,vu,.none] } }
 exact tail_any (ops:=[.ref s3.heap.objs.size,v]) ht hT hg (by with_unfolding_all rfl)
noncomputable def cutV (xs:List V) (lo hi:Option Int):List V:=(xs.drop (HT.sIx xs.length 0 lo)).take (HT.sIx xs.length xs.length hi-HT.sIx xs.length 0 lo)
theorem cutV_length (xs:List V) (lo hi:Option Int):(cutV xs lo hi).length≤xs.length:=by
 unfold cutV
 rw [List.length_take,List.length_drop]
 omega
noncomputable def rSlT (K:PySem.W.Frag):V->Option Int->Option Int->Hp->VK->Prop:=fun x lo hi H Q=>∃a xs,x=.ref a/\SqT K H a xs /\
 ¬(HT.sIx xs.length 0 lo=0/\HT.sIx xs.length xs.length hi=xs.length)/\∀p,H p=none->Q (.ref p) (upd H p (.tup (cutV xs lo hi)))
theorem sl_tup:SlR X (rSlT X.K):=by
 intro pins s σ H x v vl vu lo hi sl Q I rx hs pl pu h
 obtain⟨a,xs,rfl,hx,hw,q⟩:=h
 cases rx
 obtain⟨its,r,ht,hz⟩:=I.tuple hx
 have hlen:its.toArray.size=xs.length:=by rw [List.size_toArray];exact r.length.symm
 refine⟨"tuple",_,PyProof.Rows.slot_tuple_getitem.lookup,ht.typeIs,?_⟩
 refine HT.getItem_tuple_cut ht hs pl pu (by rw [hlen];exact hw) ?_ (by rw [hlen];exact hz)
 rw [hlen]
 refine⟨.ref s.heap.objs.size,_,I.laid (t':=s.toks) (o:=.tup (cutV xs lo hi)) (fun b ob q=>Heap.get?_push_of_some _ q) (Nat.le_refl _) ?_,rfl,q _ (I.hok.fresh (Nat.le_refl _))⟩
 exact⟨Nat.le_trans (cutV_length xs lo hi) hz,_,(r.drop (HT.sIx xs.length 0 lo)).take (HT.sIx xs.length xs.length hi-HT.sIx xs.length 0 lo),IsTup.new _ _⟩
noncomputable def rCatT (K:PySem.W.Frag):R2:=fun x y H Q=>∃a b xs ys,x=.ref a/\y=.ref b/\SqT K H a xs/\SqT K H b ys/\xs≠[]/\xs.length+ys.length≤sizeLine /\
 (ys=[]->Q (.ref a) H)/\(ys≠[]->∀p,H p=none->Q (.ref p) (upd H p (.tup (xs++ys))))
theorem Vals.nil_iff {xs:List V}{us:List Value} (r:Vals xs us):us=[]↔xs=[]:=by
 cases r with
 | nil=>simp
 | cons _ _=>simp
theorem op_catT:OpR X (binaryOp .Add) (rCatT X.K):=by
 intro pins s σ H x y v u Q I rx ry h
 obtain⟨a,b,xs,ys,rfl,rfl,ha,hb,hx,hz,q1,q2⟩:=h
 cases rx
 cases ry
 obtain⟨its,r1,p1,_⟩:=I.tuple ha
 obtain⟨its2,r2,p2,_⟩:=I.tuple hb
 refine HT.cat_tup p1 p2 (fun z=>hx (r1.nil_iff.mp z)) (fun z=>⟨.ref a,H,I,rfl,q1 (r2.nil_iff.mp z)⟩) (fun z=>?_) (by rw [<- r1.length,<- r2.length];exact hz)
 refine⟨.ref s.heap.objs.size,_,I.laid (t':=s.toks) (o:=.tup (xs++ys)) (fun b ob q=>Heap.get?_push_of_some _ q) (Nat.le_refl _) ?_,rfl,q2 (fun w=>z (r2.nil_iff.mpr w)) _ (I.hok.fresh (Nat.le_refl _))⟩
 exact⟨by rw [List.length_append];exact hz,_,r1.append r2,IsTup.new _ _⟩
end
end L2
namespace L2
open PySem PySem.Spec PyProof.Rows
noncomputable def ixN (n:Nat) (i:Int):Option Nat:=if 0≤i then (if i < n then some i.toNat else none) else if -(n:Int)≤i then some (i+n).toNat else none
noncomputable def atI {α:Type} (xs:List α) (i:Int):Option α:=(ixN xs.length i).bind fun j=>xs[j]?
theorem ixN_seq {n:Nat}{i:Int}{j:Nat} (h:ixN n i=some j):seqIndex? i n=some j/\j < n/\-(n:Int)≤i/\i < n:=by
 unfold ixN at h
 by_cases h0:0≤i
 ·rw [if_pos h0] at h
  by_cases h1:i < n
  ·rw [if_pos h1] at h
   have e:i.toNat=j:=Option.some.inj h
   exact⟨by rw [seqIndex_of h0 h1,e],by omega,by omega,h1⟩
  ·rw [if_neg h1] at h;cases h
 ·rw [if_neg h0] at h
  by_cases h1:-(n:Int)≤i
  ·rw [if_pos h1] at h
   have e:(i+n).toNat=j:=Option.some.inj h
   exact⟨by rw [seqIndex_neg (by omega) h1,e],by omega,h1,by omega⟩
  ·rw [if_neg h1] at h;cases h
theorem atI_get {α:Type}{xs:List α}{i:Int}{v:α} (h:atI xs i=some v):∃j,seqIndex? i xs.length=some j/\xs[j]? = some v/\j < xs.length/\-(xs.length:Int)≤i/\i < xs.length:=by
 unfold atI at h
 cases e:ixN xs.length i with
 | none=>rw [e] at h;cases h
 | some j=>
  rw [e] at h
  obtain⟨h1,h2,h3,h4⟩:=ixN_seq e
  exact⟨j,h1,h,h2,h3,h4⟩
theorem atI_last {α:Type} (xs:List α) (v:α):atI (xs++[v]) (-1)=some v:=by
 have hl:(xs++[v]).length=xs.length+1:=by simp
 have e:ixN (xs++[v]).length (-1)=some xs.length:=by
  unfold ixN
  rw [hl,if_neg (by decide),if_pos (by omega)]
  congr 1
  omega
 unfold atI
 rw [e]
 show (xs++[v])[xs.length]? = some v
 simp
noncomputable def PlainIx (b:Expr):Prop:=∀o i,subscripted b false o i=operate [o,i] (getItem o i)
noncomputable def IxR (X:Cx) (r:R2):Prop:=
 ∀(value slice:Expr) (pins:List (Addr×Obj)) (s:Shared) (σ:St) (H:Hp) (x y:V) (v u:Value) (Q:VK),Inv X pins σ H s->RelV x v->RelV y u->r x y H Q ->
  subscripted slice false v u=operate [v,u] (getItem v u)->wpAny (model X.prog X.w) X.A (subscriptTail value slice v u) (EP X pins σ Q) X.xe s
noncomputable def MtR (X:Cx) (id:String) (r:V->List V->Hp->VK->Prop):Prop:=
 ∀(pins:List (Addr×Obj)) (s:Shared) (σ:St) (H:Hp) (x:V) (xs:List V) (v:Value) (us:List Value) (Q:VK),Inv X pins σ H s->RelV x v->Vals xs us->r x xs H Q ->
  wpAny (model X.prog X.w) X.A (call (.builtin id) (v::us)) (EP X pins σ Q) X.xe s
section
variable {X:Cx}{a b:Expr}{ta tb:TE}{pos:Pos}
theorem IxR.or {r r':R2} (h:IxR X r) (h':IxR X r'):IxR X (fun x y H Q=>r x y H Q\/r' x y H Q):=by
 intro value slice pins s σ H x y v u Q I rx ry q hs
 rcases q with q | q
 ·exact h value slice pins s σ H x y v u Q I rx ry q hs
 ·exact h' value slice pins s σ H x y v u Q I rx ry q hs
theorem MtR.or {id:String}{r r':V->List V->Hp->VK->Prop} (h:MtR X id r) (h':MtR X id r'):MtR X id (fun x xs H Q=>r x xs H Q\/r' x xs H Q):=by
 intro pins s σ H x xs v us Q I rx rs q
 rcases q with q | q
 ·exact h pins s σ H x xs v us Q I rx rs q
 ·exact h' pins s σ H x xs v us Q I rx rs q
theorem pe_ix {r:R2} (hr:IxR X r) (ha:PE X a ta) (hb:PE X b tb) (hs:PlainIx b):PE X (.Subscript a b pos) (tOp r ta tb):=by
 intro pins s σ H Q I h
 exact Subscript_ (binT ha hb I h fun v u s2 x y H2 I2 rx ry q=>hr a b pins s2 σ H2 x y v u Q I2 rx ry q (hs _ _))
noncomputable def rIxL (K:PySem.W.Frag):R2:=fun x y H Q=>∃p xs i v,x=.ref p/\y=.int i/\SqL K H p xs/\atI xs i=some v/\Q v H
noncomputable def rIxT (K:PySem.W.Frag):R2:=fun x y H Q=>∃p xs i v,x=.ref p/\y=.int i/\SqT K H p xs/\atI xs i=some v/\Q v H
noncomputable def rIxS:R2:=fun x y H Q=>∃z i c,x=.str z/\y=.int i/\z.length≤sizeLine/\atI z.cps.toList i=some c/\Q (.str ⟨#[c]⟩) H
theorem ix_list:IxR X (rIxL X.K):=by
 intro value slice pins s σ H x y v u Q I rx ry h hs
 obtain⟨p,xs,i,z,rfl,rfl,hq,he,q⟩:=h
 cases rx
 obtain⟨t,rfl⟩:=ry
 obtain⟨its,r,pl,hz⟩:=I.list hq
 obtain⟨j,h1,h2,h3,h4,h5⟩:=atI_get he
 obtain⟨w,ew,rw'⟩:=r.get h2
 have hl:=r.length
 have hn:=line63
 have fin:EP X pins σ Q w s:=⟨z,H,I,rw',q⟩
 by_cases h0:0≤i
 ·have hj:i.toNat=j:=by
   rw [seqIndex_of h0 h5] at h1
   exact Option.some.inj h1
  exact item_listR pl.isList h0 (by omega) (by rw [hj];simpa using ew) fin hs
 ·have hj:(i+(its.toArray.size:Int)).toNat=j:=by
   rw [seqIndex_neg (by omega) h4] at h1
   rw [List.size_toArray,<- hl]
   exact Option.some.inj h1
  exact subscriptTail_builtinR (x:=w) pl.isList.typeIs slot_list_getitem.lookup
   (wpAny_getItem_list_neg (Q:=fun r s'=>r=w/\EP X pins σ Q r s') pl.isList (by omega) (by rw [List.size_toArray] <;> omega) (by omega) (by rw [hj];simpa using ew) ⟨rfl,fin⟩) hs
theorem ix_tup:IxR X (rIxT X.K):=by
 intro value slice pins s σ H x y v u Q I rx ry h hs
 obtain⟨p,xs,i,z,rfl,rfl,hq,he,q⟩:=h
 cases rx
 obtain⟨t,rfl⟩:=ry
 obtain⟨its,r,pl,hz⟩:=I.tuple hq
 obtain⟨j,h1,h2,h3,h4,h5⟩:=atI_get he
 obtain⟨w,ew,rw'⟩:=r.get h2
 have hl:=r.length
 have hn:=line63
 have fin:EP X pins σ Q w s:=⟨z,H,I,rw',q⟩
 exact subscriptTail_builtinR (x:=w) pl.typeIs slot_tuple_getitem.lookup
  (getItem_tuple (j:=j) (Q:=fun r s'=>r=w/\EP X pins σ Q r s') pl (by omega) (by omega) (by rw [List.size_toArray,<- hl];exact h1) (by simpa using ew) ⟨rfl,fin⟩) hs
theorem ix_str:IxR X rIxS:=by
 intro value slice pins s σ H x y v u Q I rx ry h hs
 obtain⟨z,i,c,rfl,rfl,hz,he,q⟩:=h
 obtain⟨t,rfl⟩:=rx
 obtain⟨t',rfl⟩:=ry
 obtain⟨j,h1,h2,h3,h4,h5⟩:=atI_get he
 have hl:z.cps.toList.length=z.length:=by simp [Str.length]
 rw [hl] at h1 h4 h5
 have hn:=line63
 exact tail_any (typeIs_str s z t) slot_str_getitem.lookup (getItem_str (c:=c) (by
  have e1:decide (i < -(2 ^ 63:Int))=false:=decide_eq_false (by omega)
  have e2:decide (i ≥ 2 ^ 63)=false:=decide_eq_false (by omega)
  rw [e1,e2,Bool.or_false]) (by rw [h1];simpa using h2) ⟨.str ⟨#[c]⟩,H,I.tok _,⟨_,rfl⟩,q⟩) hs
theorem Inv.lst {pins:List (Addr×Obj)}{σ:St}{H:Hp}{s:Shared}{p:Addr}{xs:List V} (I:Inv X pins σ H s) (h:H p=some (.lst xs)) :
  ∃(its:List Value) (n:Nat),Vals xs its/\s.heap.get? p=some { cls:=.type "list",data:=.seq its.toArray n }/\xs.length≤sizeLine:=by
 obtain⟨z,its,n,r,e⟩:=I.hok p _ h
 exact⟨its,n,r,e,z⟩
theorem slice_bounds (lo hi:Option Int) (n:Nat):(sliceBounds lo hi none n).1=((HT.sIx n 0 lo:Nat):Int)/\(sliceBounds lo hi none n).2.1=((HT.sIx n n hi:Nat):Int)/\(sliceBounds lo hi none n).2.2=1:=by
 refine⟨?_,?_,rfl⟩
 ·cases lo with
  | none=>simp [sliceBounds,HT.sIx]
  | some i=>
   simp only [sliceBounds,HT.sIx,Option.getD_none,show (1:Int) > 0 by decide,if_true]
   by_cases h:i < 0
   ·simp only [h,if_true] <;> omega
   ·simp only [h,if_false] <;> omega
 ·cases hi with
  | none=>simp [sliceBounds,HT.sIx]
  | some i=>
   simp only [sliceBounds,HT.sIx,Option.getD_none,show (1:Int) > 0 by decide,if_true]
   by_cases h:i < 0
   ·simp only [h,if_true] <;> omega
   ·simp only [h,if_false] <;> omega
theorem slicePick_cut (its:List Value) (lo hi:Option Int):slicePick its.toArray lo hi none=((its.drop (HT.sIx its.length 0 lo)).take (HT.sIx its.length its.length hi-HT.sIx its.length 0 lo)).toArray:=by
 obtain⟨h1,h2,h3⟩:=slice_bounds lo hi its.toArray.size
 unfold slicePick
 rw [h1,h2,h3]
 simp only [sliceRange_one,pick_run,List.size_toArray] <;> rfl
noncomputable def rSlL (K:PySem.W.Frag):V->Option Int->Option Int->Hp->VK->Prop:=fun x lo hi H Q=>∃a xs,x=.ref a/\SqL K H a xs/\∀p,H p=none->Q (.ref p) (upd H p (.lst (cutV xs lo hi)))
theorem sl_list:SlR X (rSlL X.K):=by
 intro pins s σ H x v vl vu lo hi sl Q I rx hs pl pu h
 obtain⟨a,xs,rfl,hx,q⟩:=h
 cases rx
 obtain⟨its,r,ht,hz⟩:=I.list hx
 have hlen:=r.length
 refine⟨"list",_,slot_list_getitem.lookup,ht.isList.typeIs,?_⟩
 refine wpAny_getItem_list_slice ht.isList hs pl pu .none (by simp) ?_ (by rw [List.size_toArray] <;> omega)
 rw [slicePick_cut,<- hlen]
 refine⟨.ref s.heap.objs.size,_,I.laid (t':=s.toks) (o:=.lst (cutV xs lo hi)) (fun b ob q=>Heap.get?_push_of_some _ q) (Nat.le_refl _) ?_,rfl,q _ (I.hok.fresh (Nat.le_refl _))⟩
 exact⟨Nat.le_trans (cutV_length xs lo hi) hz,_,0,(r.drop (HT.sIx xs.length 0 lo)).take (HT.sIx xs.length xs.length hi-HT.sIx xs.length 0 lo),Heap.get?_push_size _ rfl⟩
theorem call_len_seq:CallR X (.builtin "len") (fun xs H Q=>∃p ys,xs=[.ref p]/\(SqL X.K H p ys\/SqT X.K H p ys)/\Q (.int ys.length) H):=by
 intro pins s σ H xs us Q I r h
 obtain⟨p,ys,rfl,hq,q⟩:=h
 obtain⟨u,rfl,rx⟩:=vals1 r
 cases rx
 have hn:=line63
 rcases hq with hq | hq
 ·obtain⟨its,r',pl,hz⟩:=I.list hq
  have hlen:=r'.length
  exact Calls.call_len_list pl.isList (by simp only [List.size_toArray] <;> omega) ⟨.int ys.length,H,I.tok _,⟨s.toks+1,by rw [List.size_toArray,hlen]⟩,q⟩
 ·obtain⟨its,r',pl,hz⟩:=I.tuple hq
  have hlen:=r'.length
  exact len_tuple pl (by simp only [List.size_toArray] <;> omega) ⟨.int ys.length,H,I.tok _,⟨s.toks+1,by rw [List.size_toArray,hlen]⟩,q⟩
theorem call_len_str:CallR X (.builtin "len") (fun xs H Q=>∃z,xs=[.str z]/\z.length≤sizeLine/\Q (.int z.length) H):=by
 intro pins s σ H xs us Q I r h
 obtain⟨z,rfl,hz,q⟩:=h
 obtain⟨u,rfl,t,rfl⟩:=vals1 r
 have hn:=line63
 exact len_str (by omega) ⟨.int z.length,H,I.tok _,⟨_,rfl⟩,q⟩
theorem CallR.or {f:Value}{r r':List V->Hp->VK->Prop} (h:CallR X f r) (h':CallR X f r'):CallR X f (fun xs H Q=>r xs H Q\/r' xs H Q):=by
 intro pins s σ H xs us Q I rs q
 rcases q with q | q
 ·exact h pins s σ H xs us Q I rs q
 ·exact h' pins s σ H xs us Q I rs q
noncomputable def tyV (K:PySem.W.Frag) (T:String) (x:V) (H:Hp):Prop:=match x with
 | .str _=>T="str"
 | .int _=>T="int"
 | .ref p=>(T="list"/\∃xs,SqL K H p xs)\/(T="tuple"/\∃o,K.lookup p=some o/\o.cls=.type "tuple"/\o.dict=none) \/
   (T="dict"/\((∃kvs,H p=some (.dK kvs))\/∃kvs,H p=some (.dT kvs)))\/(T="set"/\∃S n,H p=some (.set S n))
 | _=>False
theorem tyV_is {pins:List (Addr×Obj)}{σ:St}{H:Hp}{s:Shared}{T:String}{x:V}{v:Value} (I:Inv X pins σ H s) (r:RelV x v) (ty:tyV X.K T x H) :
  s.TypeIs v T/\∀a,v=.ref a->∃ob,s.heap.get? a=some ob/\ob.dict=none:=by
 cases x with
 | str z=>
  obtain⟨t,rfl⟩:=r
  cases (show T="str" from ty)
  exact⟨typeIs_str s z t,fun _ e=>nomatch e⟩
 | int i=>
  obtain⟨t,rfl⟩:=r
  cases (show T="int" from ty)
  exact⟨typeIs_int s i t,fun _ e=>nomatch e⟩
 | ref p=>
  cases r
  rcases ty with ⟨rfl,xs,hq⟩ | ⟨rfl,o,hk,hc,hd⟩ | ⟨rfl,hk⟩ | ⟨rfl,S,n,hk⟩
  ·obtain⟨its,_,pl,_⟩:=I.list hq
   refine⟨pl.isList.typeIs,fun a e=>?_⟩
   cases e
   obtain⟨o,n,e,c,hd,_⟩:=pl
   exact⟨o,e,hd⟩
  ·refine⟨⟨o,I.kIn p o hk,hc⟩,fun a e=>?_⟩
   cases e
   exact⟨o,I.kIn _ o hk,hd⟩
  ·have z:∃o,s.heap.get? p=some o/\o.ExactDict:=by
    rcases hk with ⟨kvs,hk⟩ | ⟨kvs,hk⟩
    ·obtain⟨_,_,_,_,o,_,_,e,ex,_⟩:=I.hok p _ hk
     exact⟨o,e,ex⟩
    ·obtain⟨_,_,_,_,o,_,_,e,ex,_⟩:=I.hok p _ hk
     exact⟨o,e,ex⟩
   obtain⟨o,e,ex⟩:=z
   refine⟨⟨o,e,ex.1⟩,fun a e2=>?_⟩
   cases e2
   exact⟨o,e,ex.2.1⟩
  ·obtain⟨o,_,_,_,e,ex,_⟩:=I.hok p _ hk
   refine⟨⟨o,e,ex.1⟩,fun a e2=>?_⟩
   cases e2
   exact⟨o,e,ex.2.1⟩
 | _=>exact False.elim ty
noncomputable def tBM0 (K:PySem.W.Frag) (T:String) (r:V->List V->Hp->VK->Prop) (to:TE):TE:=fun σ H Q=>to σ H fun x H1=>tyV K T x H1/\r x [] H1 Q
noncomputable def tBM (K:PySem.W.Frag) (T:String) (r:V->List V->Hp->VK->Prop) (to:TE) (t:TA):TE:=fun σ H Q=>to σ H fun x H1=>tyV K T x H1/\t σ H1 fun xs H2=>r x xs H2 Q
variable {o e:Expr}{es:List Expr}{to:TE}{t:TA}{name:Str}{apos cpos:Pos}{T id:String}{r:V->List V->Hp->VK->Prop}
theorem pe_bm0 (pa:PlainAttrs T) (slot:Slot T name id) (hty:typeOf (.builtin id)=pure (.type "method_descriptor")) (hm:MtR X id r) (ho:PE X o to)
  (hbase:attributeBase o name X.env (eval o X.env)=eval o X.env:=by rfl) (hline:(apos.endLine == cpos.line)=true:=by rfl):PE X (.Call (.Attribute o name apos) [] [] cpos) (tBM0 X.K T r to):=by
 intro pins s σ H Q I h
 refine wpAny_Call_method0_late hbase hline (thn (ho pins s σ H _ I h) fun v s1 hz=>?_)
 obtain⟨x,H1,I1,r1,ty,q1⟩:=hz
 obtain⟨h1,h2⟩:=tyV_is I1 r1 ty
 exact⟨T,id,pa,slot,hty,h1,h2,Calls.callWith_builtin rfl (PySem.evalArgs_none (hm pins s1 σ H1 x [] v [] Q I1 r1 .nil q1))⟩
theorem pe_bm (pa:PlainAttrs T) (slot:Slot T name id) (hty:typeOf (.builtin id)=pure (.type "method_descriptor")) (hm:MtR X id r) (ho:PE X o to) (ha:PA X (e::es) t)
  (hbase:attributeBase o name X.env (eval o X.env)=eval o X.env:=by rfl)
  (hfew:((backTo cpos (starEach (e::es) X.env)).all (fun x=>!x.1) && (backToKw cpos (keywordEach [] X.env)).all (fun x=>x.1.isSome)
   && decide ((e::es).length+([]:List Keyword).length+(if ([]:List Keyword).isEmpty then 0 else 1) < 30))=true:=by rfl)
  (hline:(apos.endLine == cpos.line)=true:=by rfl) (hs:starEach (e::es) X.env=(false,eval e X.env)::starEach es X.env:=by rfl) (hplain:(backTo cpos (starEach es X.env)).any (·.1)=false:=by rfl) :
  PE X (.Call (.Attribute o name apos) (e::es) [] cpos) (tBM X.K T r to t):=by
 intro pins s σ H Q I h
 refine wpAny_Call_method_late hbase hfew hline rfl (thn (ho pins s σ H _ I h) fun v s1 hz=>?_)
 obtain⟨x,H1,I1,r1,ty,q1⟩:=hz
 obtain⟨h1,h2⟩:=tyV_is I1 r1 ty
 refine⟨T,id,pa,slot,hty,h1,h2,?_⟩
 have hA:=ha cpos pins s1 σ H1 _ I1 q1
 rw [hs] at hA ⊢
 refine Calls.callWith_builtin (by show (false || (backTo cpos (starEach es X.env)).any (·.1))=false;rw [hplain] <;> rfl) (Calls.evalArgs_plain ?_)
 exact thn hA fun us s2 hz=>by obtain⟨vs,H2,I2,r2,q2⟩:=hz;exact hm pins s2 σ H2 x vs v us Q I2 r1 r2 q2
end
end L2
namespace L2
open PySem PySem.Spec PyProof.Rows
noncomputable def MtM (X:Cx) (id:String) (r:V->List V->Hp->VK->Prop):Prop:=
 ∀(pins:List (Addr×Obj)) (s:Shared) (σ:St) (H:Hp) (x:V) (xs:List V) (v:Value) (us:List Value) (Q:VK),Inv X pins σ H s->RelV x v->Vals xs us->r x xs H Q ->
  wpAny (model X.prog X.w) X.A (call (.builtin id) (v::us)) (EP X pins σ Q) X.xe s
theorem Vals.one:∀{x:V}{us:List Value},Vals [x] us->∃u,us=[u]/\RelV x u
 | _,_,.cons r .nil=>⟨_,rfl,r⟩
theorem Vals.two {x y:V}{us:List Value} (h:Vals [x,y] us):∃u v,us=[u,v]/\RelV x u/\RelV y v:=by
 cases h with
 | cons r t=>
  cases t with
  | cons q t=>
   cases t
   exact⟨_,_,rfl,r,q⟩
theorem Vals.zero:∀{us:List Value},Vals [] us->us=[]
 | _,.nil=>rfl
theorem Vals.dropLast {xs:List V}{us:List Value} (h:Vals xs us):Vals xs.dropLast us.dropLast:=by
 induction h with
 | nil=>exact .nil
 | cons r t ih=>
  cases t with
  | nil=>exact .nil
  | cons q t'=>exact .cons r ih
theorem Vals.eraseIdx:∀{xs:List V}{us:List Value} (i:Nat),Vals xs us->Vals (xs.eraseIdx i) (us.eraseIdx i)
 | _,_,_,.nil=>.nil
 | _,_,0,.cons _ t=>t
 | _,_,i+1,.cons r t=>.cons r (Vals.eraseIdx i t)
theorem Vals.reverse {xs:List V}{us:List Value} (h:Vals xs us):Vals xs.reverse us.reverse:=by
 induction h with
 | nil=>exact .nil
 | cons r t ih=>rw [List.reverse_cons,List.reverse_cons];exact Vals.append ih (.cons r .nil)
theorem Vals.rep {xs:List V}{us:List Value} (h:Vals xs us):∀k:Nat,Vals (List.replicate k xs).flatten (List.replicate k us).flatten
 | 0=>.nil
 | k+1=>by
  rw [List.replicate_succ,List.replicate_succ,List.flatten_cons,List.flatten_cons]
  exact Vals.append h (Vals.rep h k)
theorem erase_last {α:Type} (l:List α):l.eraseIdx (l.length-1)=l.dropLast:=by
 induction l with
 | nil=>rfl
 | cons a r ih=>
  cases r with
  | nil=>rfl
  | cons b r=>
   have e:(a::b::r).length-1=((b::r).length-1)+1:=by
    have h1:(a::b::r).length=r.length+2:=rfl
    have h2:(b::r).length=r.length+1:=rfl
    omega
   rw [e,List.eraseIdx_cons_succ,ih]
   all_goals rfl
section
variable {X:Cx}{pins:List (Addr×Obj)}{σ:St}{H:Hp}{s:Shared}{l b:Addr}{xs ys zs:List V}
theorem Inv.lset {its its':List Value}{n:Nat}{f:Array Value->Array Value}{t':Nat} (I:Inv X pins σ H s) (hH:H l=some (.lst xs))
  (e:s.heap.get? l=some { cls:=.type "list",data:=.seq its.toArray n }) (hf:f its.toArray=its'.toArray) (hv:Vals ys its') (hz:ys.length≤sizeLine) :
  Inv X pins σ (upd H l (.lst ys)) { s with heap:=s.heap.update l (Obj.mapSeq f),toks:=t' }:=by
 have q:=PySem.IsL.update e f
 rw [hf] at q
 refine I.write (x:=l) (e:=l) (by rw [hH];exact trivial) (.inl rfl) (fun b' u hb hu=>(Heap.get?_update_other s.heap (Obj.mapSeq f) (Ne.symm hb)).trans hu) ⟨_,q⟩ ?_
 exact⟨hz,its',_,hv,q⟩
theorem Inv.lnew {its:List Value}{t':Nat} (I:Inv X pins σ H s) (hv:Vals ys its) (hz:ys.length≤sizeLine) :
  Inv X pins σ (upd H s.heap.objs.size (.lst ys)) { s with heap:=s.heap.push { cls:=.type "list",data:=.seq its.toArray },toks:=t' }:=
 I.laid (fun _ _ q=>Heap.get?_push_of_some _ q) (Nat.le_refl _) ⟨hz,its,0,hv,Heap.get?_push_size _ rfl⟩
theorem Inv.fresh (I:Inv X pins σ H s):H s.heap.objs.size=none:=I.hok.fresh (Nat.le_refl _)
theorem Inv.lstM (I:Inv X pins σ H s) (hH:H l=some (.lst xs)):xs.length≤sizeLine/\∃(its:List Value) (n:Nat),Vals xs its/\xs.length=its.length/\s.heap.get? l=some { cls:=.type "list",data:=.seq its.toArray n }:=by
 obtain⟨z,its,n,r,e⟩:=I.hok l _ hH
 exact⟨z,its,n,r,r.length,e⟩
end
section
variable {X:Cx}
noncomputable def rAppend:V->List V->Hp->VK->Prop:=fun x vs H Q=>∃l xs y,x=.ref l/\vs=[y]/\H l=some (.lst xs)/\xs.length < sizeLine/\Q .non (upd H l (.lst (xs++[y])))
theorem mt_append:MtM X "list.append" rAppend:=by
 intro pins s σ H x vs v us Q I rx rv h
 obtain⟨l,xs,y,rfl,rfl,hH,hz,q⟩:=h
 cases rx
 obtain⟨u,rfl,ru⟩:=rv.one
 obtain⟨z,its,n,r,hl,e⟩:=I.lstM hH
 refine call_meets F.slot_list_append ⟨_,e,rfl⟩ F.entry_list_append (F.args_list_append_2 _ _) (PySem.list_append l its.toArray n u (by rw [List.size_toArray];omega)) ⟨e,?_⟩
 refine⟨.non,_,I.lset (its':=its++[u]) hH e (by simp) (r.append (.cons ru .nil)) ?_,rfl,q⟩
 rw [List.length_append,List.length_singleton]
 omega
noncomputable def rPop:V->List V->Hp->VK->Prop:=fun x vs H Q=>∃l xs y,x=.ref l/\vs=[]/\H l=some (.lst xs)/\xs[xs.length-1]? = some y/\Q y (upd H l (.lst xs.dropLast))
theorem mt_pop:MtM X "list.pop" rPop:=by
 intro pins s σ H x vs v us Q I rx rv h
 obtain⟨l,xs,y,rfl,rfl,hH,hy,q⟩:=h
 cases rx
 have hus:=rv.zero
 subst hus
 obtain⟨z,its,n,r,hl,e⟩:=I.lstM hH
 obtain⟨u,hu,ru⟩:=r.get hy
 have hy':its.toArray[its.toArray.size-1]? = some u:=by
  show its.toArray[its.length-1]? = some u
  rw [<- Array.getElem?_toList,<- hl]
  exact hu
 refine call_meets F.slot_list_pop ⟨_,e,rfl⟩ F.entry_list_pop (F.args_list_pop_1 _) (MeetsSeq.list_pop_last l its.toArray n u hy' (by rw [List.size_toArray];omega)) ⟨e,?_⟩
 refine⟨y,_,I.lset (its':=its.dropLast) hH e ?_ r.dropLast ?_,ru,q⟩
 ·show its.toArray.eraseIdxIfInBounds (its.toArray.size-1)=its.dropLast.toArray
  rw [List.size_toArray,List.eraseIdxIfInBounds_toArray,erase_last]
 ·rw [List.length_dropLast]
  omega
noncomputable def rCat:R2:=fun x y H Q=>∃l b xs zs,x=.ref l/\y=.ref b/\H l=some (.lst xs)/\H b=some (.lst zs)/\xs.length+zs.length≤sizeLine/\∀p,H p=none->Q (.ref p) (upd H p (.lst (xs++zs)))
theorem op_cat:OpR X (binaryOp .Add) rCat:=by
 intro pins s σ H x y v u Q I rx ry h
 obtain⟨l,b,xs,zs,rfl,rfl,hH,hB,hz,q⟩:=h
 cases rx
 cases ry
 obtain⟨z,its,n,r,hl,e⟩:=I.lstM hH
 obtain⟨z2,its2,n2,r2,hl2,e2⟩:=I.lstM hB
 refine PySem.P.add_list e e2 ?_ (by rw [List.size_toArray,List.size_toArray];omega)
 have ea:its.toArray++its2.toArray=(its++its2).toArray:=by simp
 rw [ea]
 exact⟨.ref _,_,I.lnew (t':=s.toks) (r.append r2) (by rw [List.length_append];omega),rfl,q _ I.fresh⟩
end
section
variable {prog:Program}{w:World}{A:Around}{E:Value->Shared->Prop}{s:Shared}
end
section
variable {X:Cx}
end
end L2
namespace L2
open PySem PySem.Spec PyProof.Rows
section
variable {κ:Type} [DecidableEq κ]
noncomputable def valV (kvs:List (κ×V)) (k:κ):Option V:=(kvs.find? fun kv=>decide (kv.1=k)).map (·.2)
noncomputable def putK (kvs:List (κ×V)) (k:κ) (v:V):List (κ×V):=
 if (kvs.any fun kv=>decide (kv.1=k))=true then kvs.map (fun kv=>if kv.1=k then (kv.1,v) else kv) else kvs++[(k,v)]
noncomputable def dropK (kvs:List (κ×V)) (k:κ):List (κ×V):=kvs.filter fun kv=>decide (kv.1≠k)
theorem valV_pos {p:κ×V}{r:List (κ×V)}{k:κ} (e:p.1=k):valV (p::r) k=some p.2:=by simp [valV,List.find?_cons,e]
theorem valV_neg {p:κ×V}{r:List (κ×V)}{k:κ} (e:¬p.1=k):valV (p::r) k=valV r k:=by simp [valV,List.find?_cons,e]
theorem valV_any (k:κ):∀kvs:List (κ×V),(kvs.any fun kv=>decide (kv.1=k))=(valV kvs k).isSome
 | []=>rfl
 | p::r=>by
  rw [List.any_cons]
  by_cases e:p.1=k
  ·simp only [valV_pos e,decide_eq_true e,Bool.true_or,Option.isSome_some]
  ·rw [valV_neg e,decide_eq_false e,Bool.false_or];exact valV_any k r
theorem length_putK (kvs:List (κ×V)) (k:κ) (v:V):(putK kvs k v).length≤kvs.length+1:=by
 unfold putK
 split
 ·rw [List.length_map];omega
 ·rw [List.length_append,List.length_cons,List.length_nil];omega
theorem putK_new {kvs:List (κ×V)}{k:κ} (v:V) (h:valV kvs k=none):putK kvs k v=kvs++[(k,v)]:=by
 unfold putK
 rw [valV_any,h]
 exact if_neg (by decide)
theorem RelO.isSome_eq {o:Option V}{u:Option Value} (r:RelO o u):o.isSome=u.isSome:=by
 cases o with
 | none=>cases u with
  | none=>rfl
  | some _=>exact (show False from r).elim
 | some _=>cases u with
  | none=>exact (show False from r).elim
  | some _=>rfl
theorem RelO.getD {o:Option V}{u:Option Value}{d:V}{d':Value} (r:RelO o u) (rd:RelV d d'):RelV (o.getD d) (u.getD d'):=by
 cases o with
 | none=>cases u with
  | none=>exact rd
  | some _=>exact (show False from r).elim
 | some _=>cases u with
  | none=>exact (show False from r).elim
  | some _=>exact r
theorem KV.val {kvs:List (κ×V)}{vs:List (κ×Value)} (r:KV kvs vs) (k:κ):RelO (valV kvs k) (valueAt vs k):=by
 unfold KV at r
 induction r with
 | nil=>exact True.intro
 | @cons p q ps qs h t ih=>
  obtain⟨h1,h2⟩:=h
  by_cases e:p.1=k
  ·have e':q.1=k:=h1.symm.trans e
   have b:valueAt (q::qs) k=some q.2:=by simp [valueAt,List.find?_cons,e']
   rw [valV_pos e,b];exact h2
  ·have e':¬q.1=k:=fun z=>e (h1.trans z)
   have b:valueAt (q::qs) k=valueAt qs k:=by simp [valueAt,List.find?_cons,e']
   rw [valV_neg e,b];exact ih
theorem KV.any {kvs:List (κ×V)}{vs:List (κ×Value)} (r:KV kvs vs) (k:κ):(kvs.any fun kv=>decide (kv.1=k))=vs.any fun kv=>decide (kv.1=k):=by
 unfold KV at r
 induction r with
 | nil=>rfl
 | cons h t ih=>rw [List.any_cons,List.any_cons,ih,h.1]
theorem KV.repl {kvs:List (κ×V)}{vs:List (κ×Value)} (r:KV kvs vs) (k:κ) {y:V}{u:Value} (ry:RelV y u) :
  KV (kvs.map fun kv=>if kv.1=k then (kv.1,y) else kv) (vs.map fun kv=>if kv.1=k then (kv.1,u) else kv):=by
 unfold KV at r ⊢
 induction r with
 | nil=>exact .nil
 | @cons p q ps qs h t ih=>
  rw [List.map_cons,List.map_cons]
  refine .cons ?_ ih
  obtain⟨h1,h2⟩:=h
  by_cases e:p.1=k
  ·rw [if_pos e,if_pos (h1.symm.trans e)];exact⟨h1,ry⟩
  ·rw [if_neg e,if_neg (fun z=>e (h1.trans z))];exact⟨h1,h2⟩
theorem KV.put {kvs:List (κ×V)}{vs:List (κ×Value)} (r:KV kvs vs) (k:κ) {y:V}{u:Value} (ry:RelV y u):KV (putK kvs k y) (stored vs k u):=by
 unfold putK stored
 rw [r.any k]
 by_cases e:(vs.any fun kv=>decide (kv.1=k))=true
 ·rw [if_pos e,if_pos e];exact r.repl k ry
 ·rw [if_neg e,if_neg e];exact Paired.snoc r ⟨rfl,ry⟩
theorem KV.drop {kvs:List (κ×V)}{vs:List (κ×Value)} (r:KV kvs vs) (k:κ):KV (dropK kvs k) (without vs k):=by
 unfold KV at r ⊢
 unfold dropK without
 induction r with
 | nil=>exact .nil
 | @cons p q ps qs h t ih=>
  obtain⟨h1,h2⟩:=h
  rw [List.filter_cons,List.filter_cons]
  by_cases e:p.1=k
  ·have a:¬decide (p.1≠k)=true:=by simp [e]
   have b:¬decide (q.1≠k)=true:=by simp [h1.symm.trans e]
   rw [if_neg a,if_neg b];exact ih
  ·have e':¬q.1=k:=fun z=>e (h1.trans z)
   have a:decide (p.1≠k)=true:=by simp [e]
   have b:decide (q.1≠k)=true:=by simp [e']
   rw [if_pos a,if_pos b];exact .cons ⟨h1,h2⟩ ih
theorem KV.keys {kvs:List (κ×V)}{vs:List (κ×Value)} (r:KV kvs vs):kvs.map (·.1)=vs.map (·.1):=by
 unfold KV at r
 induction r with
 | nil=>rfl
 | cons h t ih=>rw [List.map_cons,List.map_cons,ih,h.1]
theorem KV.length {kvs:List (κ×V)}{vs:List (κ×Value)} (r:KV kvs vs):kvs.length=vs.length:=Paired.length r
end
theorem kV_is {P:Program}{w:World}{k:Key}{u:Value} (r:RelV (kV k) u):(mixKind P w).is k u=true:=by
 cases k with
 | inl i=>obtain⟨t,e⟩:=(show ∃t,u=Value.int i t from r);subst e;exact mixKind_int P w i t
 | inr x=>obtain⟨t,e⟩:=(show ∃t,u=Value.str x t from r);subst e;exact mixKind_str P w x t
theorem items_are {P:Program}{w:World}:∀{ks:List Key}{us:List Value},Vals (ks.map kV) us->ItemsAre (mixKind P w) ks us
 | [],_,r=>by rw [List.map_nil] at r;cases r;exact .nil
 | k::ks,_,r=>by
  rw [List.map_cons] at r
  cases r with
  | cons h t=>exact .cons (kV_is h) (items_are t)
noncomputable abbrev KT (H:Hp):List (List Key×V)->List (List Key×Addr×Value)->Prop:=Paired fun p q=>p.1=q.1/\H q.2.1=some (.tup (p.1.map kV))/\RelV p.2 q.2.2
theorem KT.val {H:Hp}{kvs:List (List Key×V)}{xs:List (List Key×Addr×Value)} (r:KT H kvs xs) (k:List Key):RelO (valV kvs k) ((atKey xs k).map (·.2)):=by
 induction r with
 | nil=>exact True.intro
 | @cons p q ps qs h t ih=>
  obtain⟨h1,_,h2⟩:=h
  by_cases e:p.1=k
  ·have e':q.1=k:=h1.symm.trans e
   have b:atKey (q::qs) k=some q.2:=by simp [atKey,List.find?_cons,e']
   rw [valV_pos e,b];exact h2
  ·have e':¬q.1=k:=fun z=>e (h1.trans z)
   have b:atKey (q::qs) k=atKey qs k:=by simp [atKey,List.find?_cons,e']
   rw [valV_neg e,b];exact ih
theorem KT.repl {H:Hp}{kvs:List (List Key×V)}{xs:List (List Key×Addr×Value)} (r:KT H kvs xs) (k:List Key) {y:V}{u:Value} (ry:RelV y u) :
  KT H (kvs.map fun kv=>if kv.1=k then (kv.1,y) else kv) (xs.map (putAt k u)):=by
 induction r with
 | nil=>exact .nil
 | @cons p q ps qs h t ih=>
  rw [List.map_cons,List.map_cons]
  refine .cons ?_ ih
  obtain⟨h1,h2,h3⟩:=h
  unfold putAt
  by_cases e:p.1=k
  ·rw [if_pos e,if_pos (h1.symm.trans e)];exact⟨h1,h2,ry⟩
  ·rw [if_neg e,if_neg (fun z=>e (h1.trans z))];exact⟨h1,h2,h3⟩
theorem KT.put {H:Hp}{kvs:List (List Key×V)}{xs:List (List Key×Addr×Value)} (r:KT H kvs xs) (k:List Key) {b:Addr}{y:V}{u:Value} (hb:H b=some (.tup (k.map kV))) (ry:RelV y u) :
  KT H (putK kvs k y) (storedH xs k b u):=by
 have e:(kvs.any fun kv=>decide (kv.1=k))=(atKey xs k).isSome:=by
  rw [valV_any,(r.val k).isSome_eq,Option.isSome_map]
 unfold putK storedH
 rw [e]
 by_cases q:(atKey xs k).isSome=true
 ·rw [if_pos q,if_pos q];exact r.repl k ry
 ·rw [if_neg q,if_neg q];exact Paired.snoc r ⟨rfl,hb,ry⟩
theorem KT.keeps {H H':Hp}{kvs:List (List Key×V)}{xs:List (List Key×Addr×Value)} (r:KT H kvs xs) (ht:∀b ys,H b=some (.tup ys)->H' b=some (.tup ys)):KT H' kvs xs:=
 Paired.mapP r fun _ _ z=>⟨z.1,ht _ _ z.2.1,z.2.2⟩
section
variable {P:Program}{w:World}{H:Hp}{h:Heap}{a:Addr}
theorem rd_of {u:HO} (ok:HOk P w H h) (e:Rd H a u):ObjOk P w H h a u:=e.ok ok
theorem dk_rd {kvs:List (Key×V)} (ok:HOk P w H h) (e:Rd H a (.dK kvs)):kvs.length≤sizeLine/\(a == sysModules)=false/\∃vs,KV kvs vs/\h.DictOf (mixKind P w) a vs:=
 show ObjOk P w H h a (.dK kvs) from rd_of ok e
theorem dk_of {kvs:List (Key×V)} (ok:HOk P w H h) (e:H a=some (.dK kvs)):kvs.length≤sizeLine/\(a == sysModules)=false/\∃vs,KV kvs vs/\h.DictOf (mixKind P w) a vs:=dk_rd ok (.inl e)
theorem key_of {ks:List Key} (ok:HOk P w H h) (e:H a=some (.tup (ks.map kV))):(tupleKind (mixKind P w)).is h ks a:=by
 obtain⟨_,its,r,o,h1,h2,n,h3⟩:=(show ObjOk P w H h a (.tup (ks.map kV)) from ok a _ e)
 exact⟨o,its.toArray,n,h1,h2,h3,by simpa using items_are r⟩
theorem dt_rd {kvs:List (List Key×V)} (ok:HOk P w H h) (e:Rd H a (.dT kvs)):kvs.length≤sizeLine/\(a == sysModules)=false /\
  ∃xs,KT H kvs xs/\h.DictOfH (tupleKind (mixKind P w)) a xs:=by
 obtain⟨z,y,xs,r,o,es,ep,h1,h2,h3,h4,h5⟩:=(show ObjOk P w H h a (.dT kvs) from rd_of ok e)
 refine⟨z,y,xs,r,o,es,ep,h1,h2,h3,h4,fun x hx=>?_,h5⟩
 have all:∀{l:List (List Key×V)}{m:List (List Key×Addr×Value)},KT H l m->∀x ∈ m,(tupleKind (mixKind P w)).is h x.1 x.2.1:=by
  intro l m q
  induction q with
  | nil=>intro x hx;exact nomatch hx
  | @cons p q ps qs hq t ih=>
   intro x hx
   rcases List.mem_cons.mp hx with e | hx
   ·subst e
    exact key_of ok (by rw [<- hq.1];exact hq.2.1)
   ·exact ih x hx
 exact all r x hx
theorem dt_of {kvs:List (List Key×V)} (ok:HOk P w H h) (e:H a=some (.dT kvs)):kvs.length≤sizeLine/\(a == sysModules)=false /\
  ∃xs,KT H kvs xs/\h.DictOfH (tupleKind (mixKind P w)) a xs:=dt_rd ok (.inl e)
end
noncomputable def DGet (H:Hp) (a:Addr) (y:V) (r:Option V):Prop:=
 (∃kvs k,Rd H a (.dK kvs)/\y=kV k/\r=valV kvs k)\/∃kvs k b,Rd H a (.dT kvs)/\y=.ref b/\H b=some (.tup (k.map kV))/\r=valV kvs k
noncomputable def DPut (H:Hp) (a:Addr) (y v:V) (H':Hp):Prop:=
 (∃kvs k,H a=some (.dK kvs)/\y=kV k/\kvs.length < sizeLine/\H'=upd H a (.dK (putK kvs k v))) \/
 ∃kvs k b,H a=some (.dT kvs)/\y=.ref b/\H b=some (.tup (k.map kV))/\kvs.length < sizeLine/\H'=upd H a (.dT (putK kvs k v))
theorem DGet.k {H:Hp}{a:Addr}{kvs:List (Key×V)}{k:Key} (e:H a=some (.dK kvs)):DGet H a (kV k) (valV kvs k):=.inl ⟨kvs,k,.inl e,rfl,rfl⟩
theorem DGet.t {H:Hp}{a b:Addr}{kvs:List (List Key×V)}{k:List Key} (e:H a=some (.dT kvs)) (eb:H b=some (.tup (k.map kV))):DGet H a (.ref b) (valV kvs k):=.inr ⟨kvs,k,b,.inl e,rfl,eb,rfl⟩
theorem DPut.k {H:Hp}{a:Addr}{kvs:List (Key×V)}{k:Key}{v:V} (e:H a=some (.dK kvs)) (hl:kvs.length < sizeLine):DPut H a (kV k) v (upd H a (.dK (putK kvs k v))):=.inl ⟨kvs,k,e,rfl,hl,rfl⟩
theorem DPut.t {H:Hp}{a b:Addr}{kvs:List (List Key×V)}{k:List Key}{v:V} (e:H a=some (.dT kvs)) (eb:H b=some (.tup (k.map kV))) (hl:kvs.length < sizeLine) :
  DPut H a (.ref b) v (upd H a (.dT (putK kvs k v))):=.inr ⟨kvs,k,b,e,rfl,eb,hl,rfl⟩
section
variable {X:Cx}{pins:List (Addr×Obj)}{σ:St}{H:Hp}{s:Shared}{a:Addr}{y v:V}{u r:Value}{o:Option V}{A:Around}{E:Value->Shared->Prop}
theorem Inv.big (I:Inv X pins σ H s):sysModules < s.heap.objs.size:=by
 have h:mainGlobals < s.heap.objs.size:=(I.mod.glob.keeps I.bk).lt
 exact Nat.lt_trans (by decide) h
theorem d_getItem {Q:Value->Shared->Prop} (hu:A.units+1 < cLine) (I:Inv X pins σ H s) (g:DGet H a y (some v)) (ry:RelV y u) (h:∀w' s',Inv X pins σ H s'->RelV v w'->Q w' s') :
  wpAny (model X.prog X.w) A (getItem (.ref a) u) Q E s:=by
 rcases g with ⟨kvs,k,e,ey,l⟩ | ⟨kvs,k,b,e,ey,eb,l⟩
 ·subst ey
  obtain⟨z,hd,vs,rel,dd⟩:=dk_rd I.hok e
  obtain⟨w',hw,rw'⟩:=RelO.some_of (v:=v) (o:=valueAt vs k) (by rw [l];exact rel.val k)
  exact wpAny_getItem_of (kV_is ry) dd.mapOf hw (h w' _ (I.tok _) rw')
 ·subst ey
  cases (show u=Value.ref b from ry)
  obtain⟨z,hd,xs,rel,dd⟩:=dt_rd I.hok e
  obtain⟨w',hw,rw'⟩:=RelO.some_of (v:=v) (o:=(atKey xs k).map (·.2)) (by rw [l];exact rel.val k)
  obtain⟨p,hp,hp2⟩:=Option.map_eq_some_iff.mp hw
  refine wpAny_getItem_heap (tupleKind_room_in1 hu) (key_of I.hok eb) dd hp ?_
  rw [hp2]
  exact h w' _ (I.tok _) rw'
theorem d_in {Q:Value->Shared->Prop} (hu:A.units+1 < cLine) (I:Inv X pins σ H s) (g:DGet H a y o) (ry:RelV y u) (h:∀s',Inv X pins σ H s'->Q (.bool o.isSome) s') :
  wpAny (model X.prog X.w) A (compareOp .In u (.ref a)) Q E s:=by
 rcases g with ⟨kvs,k,e,ey,l⟩ | ⟨kvs,k,b,e,ey,eb,l⟩
 ·subst ey
  obtain⟨z,hd,vs,rel,dd⟩:=dk_rd I.hok e
  refine wpAny_in_of (kV_is ry) hd dd.mapOf ?_
  rw [<- (rel.val k).isSome_eq,<- l]
  exact h _ (I.tok _)
 ·subst ey
  cases (show u=Value.ref b from ry)
  obtain⟨z,hd,xs,rel,dd⟩:=dt_rd I.hok e
  refine wpAny_in_heap (tupleKind_room_in1 hu) (key_of I.hok eb) hd dd ?_
  have q:=(rel.val k).isSome_eq
  rw [Option.isSome_map] at q
  rw [<- q,<- l]
  exact h _ (I.tok _)
theorem d_notIn {Q:Value->Shared->Prop} (hu:A.units+1 < cLine) (I:Inv X pins σ H s) (g:DGet H a y o) (ry:RelV y u) (h:∀s',Inv X pins σ H s'->Q (.bool (!o.isSome)) s') :
  wpAny (model X.prog X.w) A (compareOp .NotIn u (.ref a)) Q E s:=by
 rcases g with ⟨kvs,k,e,ey,l⟩ | ⟨kvs,k,b,e,ey,eb,l⟩
 ·subst ey
  obtain⟨z,hd,vs,rel,dd⟩:=dk_rd I.hok e
  refine wpAny_notIn_of (kV_is ry) hd dd.mapOf ?_
  rw [<- (rel.val k).isSome_eq,<- l]
  exact h _ (I.tok _)
 ·subst ey
  cases (show u=Value.ref b from ry)
  obtain⟨z,hd,xs,rel,dd⟩:=dt_rd I.hok e
  refine wpAny_notIn_heap (tupleKind_room_in1 hu) (key_of I.hok eb) hd dd ?_
  have q:=(rel.val k).isSome_eq
  rw [Option.isSome_map] at q
  rw [<- q,<- l]
  exact h _ (I.tok _)
theorem d_write {h':Heap}{t':Nat}{ob:HO} (I:Inv X pins σ H s) (mu:Mut (H a)) (hs:Heap.SameBut a s.heap h') (he:∃q,h'.get? a=some q) (new:ObjOk X.prog X.w (upd H a ob) h' a ob) :
  Inv X pins σ (upd H a ob) { s with heap:=h',toks:=t' }:=
 I.write (x:=a) (e:=a) mu (.inl rfl) (fun b q hb z=>(hs.2 b hb).trans z) he new
theorem dk_new {P:Program}{w:World}{H':Hp}{h':Heap}{kvs:List (Key×V)}{vs:List (Key×Value)} (z:kvs.length≤sizeLine) (hd:(a == sysModules)=false) (rel:KV kvs vs) (dd:h'.DictOf (mixKind P w) a vs) :
  ObjOk P w H' h' a (.dK kvs):=⟨z,hd,vs,rel,dd⟩
theorem d_setItem {H':Hp}{Q:Unit->Shared->Prop} (hu:A.units+1 < cLine) (I:Inv X pins σ H s) (g:DPut H a y v H') (ry:RelV y u) (rv:RelV v r) (h:∀s',Inv X pins σ H' s'->Q () s') :
  wpAny (model X.prog X.w) A (setItem (.ref a) u r) Q E s:=by
 rcases g with ⟨kvs,k,e,ey,l,eH⟩ | ⟨kvs,k,b,e,ey,eb,l,eH⟩
 ·subst ey eH
  obtain⟨z,hd,vs,rel,dd⟩:=dk_of I.hok e
  have hz:vs.length≤sizeLine:=by rw [<- rel.length];exact z
  have hl:(putK kvs k v).length≤sizeLine:=by have:=length_putK kvs k v;omega
  refine wpAny_setItem_pairs (hsz:=hz) (kV_is ry) dd fun h' dd' hs=>h _ ?_
  have he:∃q,h'.get? a=some q:=let ⟨q,_,_,hq,_⟩:=dd';⟨q,hq⟩
  exact d_write I (by rw [e];exact True.intro) hs he (dk_new hl hd (rel.put k rv) dd')
 ·subst ey eH
  cases (show u=Value.ref b from ry)
  obtain⟨z,hd,xs,rel,dd⟩:=dt_of I.hok e
  have hz:xs.length≤sizeLine:=by rw [<- Paired.length rel];exact z
  have hl:(putK kvs k v).length≤sizeLine:=by have:=length_putK kvs k v;omega
  refine wpAny_setItem_heap (hsz:=hz) (tupleKind_room_in1 hu) (key_of I.hok eb) dd fun h' dd' hs=>h _ ?_
  obtain⟨q,es,ep,hq,h2,h3,h4,_,h5⟩:=dd'
  refine d_write I (by rw [e];exact True.intro) hs ⟨q,hq⟩ ⟨hl,hd,_,(rel.put k eb rv).keeps fun c ys ec=>?_,q,es,ep,hq,h2,h3,h4,h5⟩
  rw [upd_ne (ne_of ec e (fun z=>nomatch z))]
  exact ec
end
section
variable {X:Cx}{pins:List (Addr×Obj)}{σ:St}{H:Hp}{s:Shared}{a:Addr}{kvs:List (Key×V)}{k:Key}{u:Value}{A:Around}{E:Value->Shared->Prop}
end
noncomputable def sDPut (td ty tv:TE):TS:=fun D σ H=>tv σ H fun v H1=>td σ H1 fun x H2=>ty σ H2 fun y H3=>∃a H4,x=.ref a/\DPut H3 a y v H4/\D.nx σ H4
section
variable {X:Cx}{o i e value:Expr}{pos pos' tpos:Pos}{td ty tv:TE}
theorem ps_dput (hu:X.A.units+1 < cLine) (ho:PE X o td) (hi:PE X i ty) (hv:PE X value tv) (hs:swapsWith value (some (.Subscript o i pos')) pos.line X.env=pure false) :
  PS X (.Assign [.Subscript o i pos'] value pos) (sDPut td ty tv):=by
 intro pins s σ H D I h
 refine wpAny_Assign_Subscript (thn (hv pins s σ H _ I h) fun r s1 ⟨v,H1,I1,rv,q1⟩=>thn (ho pins s1 σ H1 _ I1 q1) fun u s2 ⟨x,H2,I2,rx,q2⟩=>thn (hi pins s2 σ H2 _ I2 q2) fun iv s3 hz=>?_) hs
 obtain⟨y,H3,I3,ry,a,H4,ex,g,q3⟩:=hz
 subst ex
 obtain rfl:u=Value.ref a:=rx
 exact d_setItem hu I3 g ry rv fun s4 I4=>⟨σ,H4,I4,q3⟩
end
theorem dk_empty {P:Program}{w:World}{H:Hp} (h:Heap) (hb:sysModules < h.objs.size):ObjOk P w H (h.push { cls:=.type "dict",data:=.dict #[] }) h.objs.size (.dK []):=
 ⟨Nat.zero_le _,beq_eq_false_iff_ne.mpr (Ne.symm (Nat.ne_of_lt hb)),[],.nil,Heap.DictOf.new h⟩
noncomputable def tDNewK:TE:=fun _ H Q=>∀p,H p=none->Q (.ref p) (upd H p (.dK []))
section
variable {X:Cx}{pos:Pos}
theorem pe_dnewK:PE X (.Dict [] [] pos) tDNewK:=fun pins s σ H Q I h=>
 wpAny_Dict_empty ⟨.ref s.heap.objs.size,_,I.laid (a:=s.heap.objs.size) (o:=.dK []) (t':=s.toks) (fun _ _ q=>Heap.get?_push_of_some _ q) (Nat.le_refl _) (dk_empty s.heap I.big),rfl,h _ (I.hok.fresh (Nat.le_refl _))⟩
end
noncomputable def tPairs:List (TE×TE)->St->Hp->(List (V×V)->Hp->Prop)->Prop
 | [],_,H,Q=>Q [] H
 | (tk,tv)::r,σ,H,Q=>tk σ H fun x H1=>tv σ H1 fun y H2=>tPairs r σ H2 fun ps H3=>Q ((x,y)::ps) H3
noncomputable abbrev VV:List (V×V)->List (Value×Value)->Prop:=Paired fun p q=>RelV p.1 q.1/\RelV p.2 q.2
noncomputable def PPs (X:Cx) (pos:Pos) (keys:List (Option Expr)) (values:List Expr) (trs:List (TE×TE)):Prop:=
 ∀(pins:List (Addr×Obj)) (s:Shared) (σ:St) (H:Hp) (Q:List (V×V)->Hp->Prop),Inv X pins σ H s->tPairs trs σ H Q ->
  wpAny (model X.prog X.w) X.A (evalPairs (pairTrees keys values X.env pos)) (fun vs s'=>∃ps H',Inv X pins σ H' s'/\VV ps vs/\Q ps H') X.xe s
theorem pps_nil {X:Cx}{pos:Pos}:PPs X pos [] [] []:=fun pins s σ H Q I h=>pairTrees_nil_walk ⟨[],H,I,.nil,h⟩
theorem pps_cons {X:Cx}{pos:Pos}{k v:Expr}{ks:List (Option Expr)}{vs:List Expr}{tk tv:TE}{trs:List (TE×TE)} (hk:PE X k tk) (hv:PE X v tv) (hr:PPs X pos ks vs trs) :
  PPs X pos (some k::ks) (v::vs) ((tk,tv)::trs):=fun pins s σ H Q I h=>
 pairTrees_cons_walk (thn (hk pins s σ H _ I h) fun u s1 ⟨x,H1,I1,rx,q1⟩=>thn (hv pins s1 σ H1 _ I1 q1) fun w2 s2 ⟨y,H2,I2,ry,q2⟩=>
  thn (hr pins s2 σ H2 _ I2 q2) fun ws s3 ⟨ps,H3,I3,rel,q3⟩=>⟨(x,y)::ps,H3,I3,.cons ⟨rx,ry⟩ rel,q3⟩)
noncomputable def mergeK (kvs more:List (Key×V)):List (Key×V):=more.foldl (fun acc kv=>putK acc kv.1 kv.2) kvs
theorem KV.merge:∀{more:List (Key×V)}{rs:List (Key×Value)}{kvs:List (Key×V)}{vs:List (Key×Value)},KV more rs->KV kvs vs->KV (mergeK kvs more) (merged vs rs):=by
 intro more rs kvs vs r
 unfold KV at r
 induction r generalizing kvs vs with
 | nil=>intro q;exact q
 | @cons p q ps qs h t ih=>
  intro r0
  have e:KV (putK kvs p.1 p.2) (stored vs q.1 q.2):=by
   have:=r0.put p.1 h.2
   rw [<- h.1];exact this
  exact ih e
theorem length_mergeK:∀(more kvs:List (Key×V)),(mergeK kvs more).length≤kvs.length+more.length
 | [],kvs=>by show kvs.length≤kvs.length+0;omega
 | p::r,kvs=>by
  have h1:=length_mergeK r (putK kvs p.1 p.2)
  have h2:=length_putK kvs p.1 p.2
  show (mergeK (putK kvs p.1 p.2) r).length≤_
  rw [List.length_cons];omega
theorem carries_of {P:Program}{w:World}:∀{kvs:List (Key×V)}{ws:List (Value×Value)},VV (kvs.map fun kv=>(kV kv.1,kv.2)) ws->∃rs,Carries (mixKind P w) ws rs/\KV kvs rs
 | [],_,r=>by rw [List.map_nil] at r;cases r;exact⟨[],True.intro,.nil⟩
 | p::kvs,_,r=>by
  rw [List.map_cons] at r
  cases r with
  | @cons a b as bs h t=>
   obtain⟨rs,c,q⟩:=carries_of (P:=P) (w:=w) t
   obtain⟨b1,b2⟩:=b
   exact⟨(p.1,b2)::rs,⟨kV_is h.1,rfl,c⟩,.cons ⟨rfl,h.2⟩ q⟩
noncomputable def tDisp (trs:List (TE×TE)):TE:=fun σ H Q=>∀p,H p=none->tPairs trs σ (upd H p (.dK [])) fun ps H2=>H2 p=some (.dK [])/\∃kvs:List (Key×V),ps=kvs.map (fun kv=>(kV kv.1,kv.2))/\kvs.length≤15/\Q (.ref p) (upd H2 p (.dK (mergeK [] kvs)))
theorem pe_disp {X:Cx}{pos:Pos}{keys:List (Option Expr)}{values:List Expr}{trs:List (TE×TE)} (h:PPs X pos keys values trs) (hall:keys.all (·.isSome)=true) (hl:keys.length=values.length) (h0:keys≠[])
  (h15:keys.length≤15):PE X (.Dict keys values pos) (tDisp trs):=by
 intro pins s σ H Q I q
 have hn:=I.hok.fresh (Nat.le_refl s.heap.objs.size)
 have I1:=I.laid (a:=s.heap.objs.size) (o:=.dK []) (h':=s.heap.push { cls:=.type "dict",data:=.dict #[] }) (t':=s.toks) (fun _ _ q=>Heap.get?_push_of_some _ q) (Nat.le_refl _) (dk_empty s.heap I.big)
 refine wpAny_Dict_walk (knd:=mixKind X.prog X.w) hall hl h0 h15 (thn (h pins _ σ _ _ I1 (q _ hn)) fun ws s2 hz=>?_)
 obtain⟨ps,H2,I2,rel,e,kvs,ep,lk,q2⟩:=hz
 subst ep
 obtain⟨rs,c,rk⟩:=carries_of (P:=X.prog) (w:=X.w) rel
 obtain⟨z,hd,vs0,r0,dd⟩:=dk_of I2.hok e
 cases r0
 refine⟨rs,c,dd,fun h' dd' hs=>⟨.ref s.heap.objs.size,_,?_,rfl,q2⟩⟩
 have hz:(mergeK [] kvs).length≤sizeLine:=by
  have h1:=length_mergeK kvs []
  rw [List.length_nil] at h1
  rw [sizeLine_eq];omega
 have he:∃q,h'.get? s.heap.objs.size=some q:=let ⟨q,_,_,hq,_⟩:=dd';⟨q,hq⟩
 exact d_write I2 (by rw [e];exact True.intro) hs he (dk_new hz hd (rk.merge .nil) dd')
structure M1 (X:Cx) (o:Expr) (m:Str) (apos:Pos) (e:Expr) (cpos:Pos):Prop where
 base:attributeBase o m X.env (eval o X.env)=eval o X.env
 few:((backTo cpos (starEach [e] X.env)).all (fun x=>!x.1) && (backToKw cpos (keywordEach [] X.env)).all (fun x=>x.1.isSome)
  && decide (([e]:List Expr).length+([]:List Keyword).length+(if ([]:List Keyword).isEmpty then 0 else 1) < 30))=true
 line:(apos.endLine == cpos.line)=true
 trees:backTo cpos (starEach [e] X.env)=[(false,eval e X.env)]
structure M2 (X:Cx) (o:Expr) (m:Str) (apos:Pos) (e f:Expr) (cpos:Pos):Prop where
 base:attributeBase o m X.env (eval o X.env)=eval o X.env
 few:((backTo cpos (starEach [e,f] X.env)).all (fun x=>!x.1) && (backToKw cpos (keywordEach [] X.env)).all (fun x=>x.1.isSome)
  && decide (([e,f]:List Expr).length+([]:List Keyword).length+(if ([]:List Keyword).isEmpty then 0 else 1) < 30))=true
 line:(apos.endLine == cpos.line)=true
 trees:backTo cpos (starEach [e,f] X.env)=[(false,eval e X.env),(false,eval f X.env)]
noncomputable def IsD (H:Hp) (a:Addr):Prop:=(∃kvs,Rd H a (.dK kvs))\/∃kvs,Rd H a (.dT kvs)
theorem isD_at {X:Cx}{pins:List (Addr×Obj)}{σ:St}{H:Hp}{s:Shared}{a:Addr} (I:Inv X pins σ H s) (d:IsD H a) :
  s.TypeIs (.ref a) "dict"/\(∀b,Value.ref a=.ref b->∃ob,s.heap.get? b=some ob/\ob.dict=none)/\(a == sysModules)=false:=by
 rcases d with ⟨kvs,e⟩ | ⟨kvs,e⟩
 ·obtain⟨_,hd,vs,_,dd⟩:=dk_rd I.hok e
  refine⟨dd.typeIs,fun b q=>?_,hd⟩
  cases q
  obtain⟨ob,_,_,h1,h2,_⟩:=dd
  exact⟨ob,h1,h2.2.1⟩
 ·obtain⟨_,hd,xs,_,dd⟩:=dt_rd I.hok e
  refine⟨dd.typeIs,fun b q=>?_,hd⟩
  cases q
  obtain⟨ob,_,_,h1,h2,_⟩:=dd
  exact⟨ob,h1,h2.2.1⟩
section
variable {X:Cx}{pins:List (Addr×Obj)}{σ:St}{H:Hp}{s:Shared}{a:Addr}{y d:V}{u r:Value}{o:Option V}{A:Around}{E:Value->Shared->Prop}
theorem d_get2 {Q:Value->Shared->Prop} (hu:A.units+1 < cLine) (I:Inv X pins σ H s) (g:DGet H a y o) (ry:RelV y u) (rd:RelV d r) (h:∀w' s',Inv X pins σ H s'->RelV (o.getD d) w'->Q w' s') :
  wpAny (model X.prog X.w) A (call (.builtin "dict.get") [.ref a,u,r]) Q E s:=by
 rcases g with ⟨kvs,k,e,ey,l⟩ | ⟨kvs,k,b,e,ey,eb,l⟩
 ·subst ey
  obtain⟨z,hd,vs,rel,dd⟩:=dk_rd I.hok e
  refine call_meetsIn PySem.F.slot_dict_get dd.typeIs PySem.F.entry_dict_get (PySem.F.args_dict_get_3 _ _ _) (meets_dict_get_default (mixKind X.prog X.w) a (kV_is ry) hd r) ⟨_,dd.mapOf,h _ _ (I.tok _) ?_⟩
  rw [l]
  exact (rel.val k).getD rd
 ·subst ey
  cases (show u=Value.ref b from ry)
  obtain⟨z,hd,xs,rel,dd⟩:=dt_rd I.hok e
  refine call_meetsIn PySem.F.slot_dict_get dd.typeIs PySem.F.entry_dict_get (PySem.F.args_dict_get_3 _ _ _) (meetsH_dict_get_default (tupleKind (mixKind X.prog X.w)) a b hd r) ⟨tupleKind_room_in1 hu,k,xs,key_of I.hok eb,dd,h _ _ (I.tok _) ?_⟩
  rw [l]
  exact (rel.val k).getD rd
end
noncomputable def tDGet2 (td ty tx:TE):TE:=fun σ H Q=>td σ H fun x H1=>∃a,x=.ref a/\IsD H1 a/\ty σ H1 fun y H2=>tx σ H2 fun z H3=>∃o,DGet H3 a y o/\Q (o.getD z) H3
section
variable {X:Cx}{o e f:Expr}{apos cpos:Pos}{td ty tx:TE}
theorem pe_dget2 (hu:X.A.units+1 < cLine) (ho:PE X o td) (he:PE X e ty) (hf:PE X f tx) (m:M2 X o "get" apos e f cpos):PE X (.Call (.Attribute o "get" apos) [e,f] [] cpos) (tDGet2 td ty tx):=by
 intro pins s σ H Q I h
 refine wpAny_Call_method m.base m.few m.line PySem.F.plainAttrs_dict PySem.F.slot_dict_get PySem.F.type_dict_get (thn (ho pins s σ H _ I h) fun u s1 hz=>?_)
 obtain⟨x,H1,I1,rx,a,ex,d,q1⟩:=hz
 subst ex
 obtain rfl:u=Value.ref a:=rx
 obtain⟨t1,t2,_⟩:=isD_at I1 d
 refine⟨t1,t2,?_⟩
 rw [m.trees]
 refine Calls.callWith_builtin rfl (Calls.evalArgs_plain (Calls.spliced_cons (thn (he pins s1 σ H1 _ I1 q1) fun iv s2 ⟨y,H2,I2,ry,q2⟩=>
  Calls.spliced_cons (thn (hf pins s2 σ H2 _ I2 q2) fun fv s3 ⟨z,H3,I3,rz,ov,g,q3⟩=>Calls.spliced_nil ?_))))
 exact d_get2 hu I3 g ry rz fun w' s4 I4 rw'=>⟨_,H3,I4,rw',q3⟩
end
section
variable {X:Cx}{pins:List (Addr×Obj)}{σ:St}{H:Hp}{s:Shared}{a:Addr}{kvs:List (Key×V)}{A:Around}{E:Value->Shared->Prop}
end
section
variable {X:Cx}{pins:List (Addr×Obj)}{σ:St}{H:Hp}{s:Shared}{a:Addr}{y:V}{u:Value}{A:Around}{E:Value->Shared->Prop}
end
end L2
namespace Att
open PySem PySem.W PySem.Calls PyProof.Rows
theorem ints_of_wellAll {P:Params}{h:Heap}:∀(ns:List Int) (vs:List Value),WellAll P h vs (ns.map WData.int)->IntsAre vs ns:=by
 intro ns
 induction ns with
 | nil=>
  intro vs w
  rw [List.map_nil] at w
  cases w
  exact .nil
 | cons n ns ih=>
  intro vs w
  rw [List.map_cons] at w
  cases w with
  | cons a b=>
   cases a
   exact .cons _ _ (ih _ b)
theorem script_of {l:OpenLaw}{n:Nat} (hn:l.most=some n) {P:Params}{h:Heap}{args:List WData}{vals:List Value}
  (hpre:l.row.toRowW.claim.pre args=true) (hwl:WellAll P h vals args) :
  ∃a vs ns,vals=[Value.ref a]/\args=[WData.list (ns.map WData.int)]/\h.get? a=some { cls:=.type "list",data:=.seq vs.toArray }/\IntsAre vs ns/\ns.length≤n:=by
 have hsh:WShape.hasAll [] args [.list .int]=true:=(pre_splitW hpre).1
 have hc:l.pre.holds [] { args:=args }=true:=(pre_splitW hpre).2
 obtain⟨d,r,rfl,h1,h2⟩:=hasAllW_cons hsh
 obtain rfl:=hasAllW_nil h2
 obtain⟨xs,rfl,h3⟩:=hasW_list h1
 obtain⟨ns,rfl⟩:=items_int h3
 have hlen:ns.length≤n:=by
  unfold OpenLaw.pre at hc
  have h4:(WTm.not (.lt (.lit (.int (n:Int))) (.len (.arg 0)))).holds [] { args:=[.list (ns.map .int)] }=true:=by
   have h4:=(holds_andW hc).1
   rw [hn] at h4
   exact h4
  have h5:=condW_of h4 (w_not (w_lt w_lit (w_len_list (w_arg rfl))))
  rw [List.length_map] at h5
  refine Nat.le_of_not_lt fun q=>?_
  have q':(n:Int) < ((ns.length:Nat):Int):=by omega
  first
   | (rw [decide_eq_true q'] at h5;exact absurd h5 (by decide))
   | (simp at h5;omega)
 cases hwl with
 | cons w1 w2=>
  cases w2
  cases w1 with
  | list ho hall=>exact⟨_,_,ns,rfl,rfl,ho,ints_of_wellAll ns _ hall,hlen⟩
theorem post_true (l:OpenLaw) (args:List WData):l.row.toRowW.claim.post args (.bool true) args=true:=
 postW_of (r:=l.row.toRowW) (X:=(true == true))
  (show WShape.has [] (.bool true) .bool=true by first | rfl | decide | simp [WShape.has,WShape.arms,WShape.armsAll])
  (show (WTm.eq .res (.lit (.bool true))).value [] { args:=args,res:=some (.bool true),after:=args }=some (.bool (true == true)) from w_eq_bool (w_res rfl) w_lit) rfl
theorem attach_call {l:OpenLaw}{n:Nat}{q:Program}{loose:List Str}{XP:(Str->Option Value)->Heap->Prop}{YP:World->Heap->Prop}{d:DefRec}
  (hn:l.most=some n) (hdf:d.params.defaults=[])
  (call:∀(w:World) (s₀ s₁:Shared) (mg mb:Str->Option Value) (fa:Addr) (o:Obj) (pm cd doc:Value) (a:Addr) (vs:List Value) (ns:List Int),
   Ground q loose [] XP w s₀ mg mb s₁.heap->YP w s₁.heap ->
   s₁.heap.get? fa=some o->o.data=.func (docDef d.name d.params d.body d.scope pm cd doc)->s₁.heap.CodeRec cd d.name->mg d.name=some (.ref fa) ->
   s₁.heap.get? a=some { cls:=.type "list",data:=.seq vs.toArray }->IntsAre vs ns->ns.length≤n->s₁.gens=#[] ->
   codeAny (model l.prog w) callerA (.call (.ref fa) ⟨[.ref a],[]⟩) (fun r s'=>r=.ok (.ret (.bool true))/\OldK s₁.heap s'.heap/\s'.os=s₁.os/\AllBare s'.gens) s₁) :
  WalkO q loose XP YP l.row.toRowW d [] (fun f vs=>PySem.call f vs):=by
 intro w s₀ s₁ mg mb G Y fa o pm cd doc dV kV ho hd hcd hD hmg hg args vals as hpre hlay hrd hwl hlo
 obtain rfl:dV=.none:=Dflts.none hD hdf
 obtain rfl:kV=.none:=Dflts.noKw hD
 obtain⟨a,vs,ns,rfl,rfl,hobj,hints,hlen⟩:=script_of hn hpre hwl
 refine enter_call (codeAny_mono (call w s₀ s₁ mg mb fa o pm cd doc a vs ns G Y ho (fd_plain hd) hcd hmg hobj hints hlen hg) fun r s' hq=>?_)
 obtain⟨rfl,h2,h3,h4⟩:=hq
 exact⟨.inl ⟨.bool true,.bool true,[],rfl,fun _=>rfl,.bool true,post_true l _,fun _=>⟨List.Pairwise.nil,fun _ hm=>(nomatch hm)⟩⟩,h2,h3,h4⟩
section
variable {prog:Program}{w:World}{A:Around}{E:Value->Shared->Prop}{s:Shared}{K:Frag}
end
end Att
namespace L2
open PySem PySem.Spec PyProof.Rows
theorem vals_ints:∀{vs:List Value}{ns:List Int},IntsAre vs ns->Vals (ns.map V.int) vs
 | _,_,.nil=>.nil
 | _,_,.cons n t h=>.cons ⟨t,rfl⟩ (vals_ints h)
noncomputable def Only (H:Hp):Prop:=∀b,H b=none\/∃o xs,H b=some (.frz o (.lst xs))
theorem law_call {P:Program}{w:World}{K:PySem.W.Frag}{mg mb:Str->Option Value}{CX:CXT}{k:Nat}{fa a:Addr}{fd:FuncData}{x:Str}{sp:Sp}{s₁:Shared}{vs:List Value}{ns:List Int}
  (KX:K.In s₁.heap) (hns:s₁.heap.Ns mainGlobals mg) (hb:s₁.heap.Ns builtinsNs mb) (hbb:∀x:Str,x≠"__name__"->mb x=bootBuiltins x) (hlim:s₁.heap.NoLimit) (hg:s₁.gens=#[])
  (ha:s₁.heap.get? a=some { cls:=.type "list",data:=.seq vs.toArray }) (hi:IntsAre vs ns) (hl:ns.length≤sizeLine) (hr:Room k callerA)
  (F:∀base:Heap,K.In base->base.Ns mainGlobals mg->FnOk P w K mg base CX k fa fd [x] sp) (hbind:∀(s:Shared) (u:Value),BindsTo s fd ⟨[u],[]⟩ [(x,u)])
  (hsp:∀H:Hp,Only H->SqL K H a (ns.map V.int)->sp [.ref a] H (fun v _=>v=.bl true) fun _ _ _=>False)
  (hCX:∀H e s',CX [] H s₁ (fun _ _ _=>False) e s'->False) :
  codeAny (model P w) callerA (.call (.ref fa) ⟨[.ref a],[]⟩) (fun r s'=>r=.ok (.ret (.bool true))/\OldK s₁.heap s'.heap/\s'.os=s₁.os/\AllBare s'.gens) s₁:=by
 have rv:=vals_ints hi
 have lenV:=hi.length
 have core:∀H:Hp,Only H->SqL K H a (ns.map V.int)->HOk P w H s₁.heap->(∀b,H b≠none->b=a)->(H a≠none->K.lookup a=none) ->
   codeAny (model P w) callerA (.call (.ref fa) ⟨[.ref a],[]⟩) (fun r s'=>r=.ok (.ret (.bool true))/\OldK s₁.heap s'.heap/\s'.os=s₁.os/\AllBare s'.gens) s₁:=by
  intro H hO hS hok hA hK
  have base_of:∀{b:Addr}{o:Obj},s₁.heap.get? b=some o->H b=none->(hidT s₁.heap H).get? b=some o:=fun e n=>hidT_get e n
  have noA:∀{b:Addr}{o:Obj}{es:Array DictEntry}{ep:Nat},s₁.heap.get? b=some o->o.data=.dict es ep->H b=none:=fun {b o es ep} e d=>by
   cases q:H b with
   | none=>rfl
   | some u=>
    have e':b=a:=hA b (by rw [q];simp)
    subst e'
    rw [ha] at e;cases e
    have d':Data.seq vs.toArray _=Data.dict es ep:=d
    cases d'
  have nsK:∀{b:Addr}{m:Str->Option Value},s₁.heap.Ns b m->(hidT s₁.heap H).Ns b m:=fun {b m} ⟨o,es,ep,e,d,r⟩=>⟨o,es,ep,base_of e (noA e d),d,r⟩
  have hKb:K.In (hidT s₁.heap H):=fun b o e=>base_of (KX b o e) (by
   cases q:H b with
   | none=>rfl
   | some u=>
    have e':b=a:=hA b (by rw [q];simp)
    subst e'
    rw [hK (by rw [q];simp)] at e;cases e)
  have hM:Mod K mg (hidT s₁.heap H):=⟨hKb,nsK hns,⟨mb,nsK hb,hbb⟩,let ⟨mc,h1,h2⟩:=hlim;⟨mc,nsK h1,h2⟩⟩
  have e0:Env0 P w K mg (hidT s₁.heap H) callerA [] s₁ H:=⟨rfl,hM,fun b o e=>of_hidT e,Nat.le_of_eq (hidT_size _ _),trivial,fun b hb=>absurd (show b ∈ ([]:List Addr) from hb) (by simp),hok,.of_eq hg⟩
  refine codeAny_mono ((F _ hKb (nsK hns)).run callerA [] s₁ H ⟨[.ref a],[]⟩ [.ref a] [.ref a] _ _ hr e0 (hbind s₁ (.ref a)) (.cons rfl .nil) (hsp H hO hS)) fun r s' h=>?_
  cases r with
  | error e=>exact (hCX H e s' h).elim
  | ok fl=>
   cases fl with
   | next=>exact False.elim h
   | brk=>exact False.elim h
   | cont=>exact False.elim h
   | ret u=>
    obtain⟨v,H',os,bare,un,hok',r',q⟩:=h
    have q':v=.bl true:=q
    subst q'
    obtain rfl:u=Value.bool true:=r'
    refine⟨rfl,OldK.of_keep fun b o e=>?_,os,bare⟩
    cases q:H b with
    | none=>exact un.keep b o e q (by intro z;exact absurd (show b ∈ ([]:List Addr) from z) (by simp)) (by simp)
    | some u=>
     rcases hO b with z | ⟨ob,xs,z⟩
     ·rw [q] at z;cases z
     ·have z2:=un.frzs b ob _ z
      obtain⟨e1,_⟩:=hok b _ z
      obtain⟨e2,_⟩:=hok' b _ z2
      rw [e] at e1;cases e1
      exact e2
 cases hk:K.lookup a with
 | some o=>
  have e:=KX a o hk
  rw [ha] at e
  cases e
  refine core (fun _=>none) (fun _=>.inl rfl) (.inr ⟨_,vs.toArray,_,hk,rfl,rfl,rfl,by rw [List.size_toArray,lenV];exact hl,by simpa using rv⟩) (fun b u z=>by have z':(none:Option HO)=some u:=z;cases z') (fun b z=>absurd rfl z) fun z=>absurd rfl z
 | none=>
  refine core (fun b=>if b=a then some (.frz { cls:=.type "list",data:=.seq vs.toArray } (.lst (ns.map V.int))) else none) (fun b=>?_) (.inl (.inr ⟨{ cls:=.type "list",data:=.seq vs.toArray },if_pos rfl⟩)) (fun b u z=>?_) (fun b z=>?_) fun _=>hk
  ·by_cases hb:b=a
   ·exact .inr ⟨_,_,if_pos hb⟩
   ·exact .inl (if_neg hb)
  ·by_cases hb:b=a
   ·have z':=(if_pos hb).symm.trans z
    cases z'
    subst hb
    exact⟨ha,by rw [List.length_map];exact hl,vs,_,rv,ha⟩
   ·have z':=(if_neg hb).symm.trans z
    cases z'
  ·by_cases hb:b=a
   ·exact hb
   ·exact absurd (if_neg hb) z
end L2
namespace L2
open PySem PySem.Spec PyProof.Rows
noncomputable abbrev KOf {K:PySem.W.Frag}{h:Heap} (_:K.In h):PySem.W.Frag:=K
theorem walk_of {l:PySem.W.OpenLaw}{n k:Nat}{q:Program}{loose:List Str}{XP:(Str->Option Value)->Heap->Prop}{YP:World->Heap->Prop}{d:DefRec}{K:Params->PySem.W.Frag}{CX:World->CXT}{sp:World->Sp}{x:Str}
  (hn:l.most=some n) (hn2:n≤sizeLine) (hdf:d.params.defaults=[]) (hr:Room k callerA)
  (hY:∀(w:World) (h:Heap),YP w h->(K w.params).In h)
  (F:∀(w:World) (mg:Str->Option Value) (fa:Addr) (h:Heap),(K w.params).In h->h.Ns mainGlobals mg->mg d.name=some (.ref fa) ->
   ∃fd:FuncData,(∀(s:Shared) (u:Value),BindsTo s fd ⟨[u],[]⟩ [(x,u)]) /\
    ∀base:Heap,(K w.params).In base->base.Ns mainGlobals mg->FnOk l.prog w (K w.params) mg base (CX w) k fa fd [x] (sp w))
  (hsp:∀(w:World) (H:Hp) (a:Addr) (ns:List Int),ns.length≤n->Only H->SqL (K w.params) H a (ns.map V.int)->sp w [.ref a] H (fun v _=>v=.bl true) fun _ _ _=>False)
  (hCX:∀(w:World) (H:Hp) (s:Shared) (e:Value) (s':Shared),CX w [] H s (fun _ _ _=>False) e s'->False) :
  PySem.W.WalkO q loose XP YP l.row.toRowW d [] (fun f vs=>PySem.call f vs):=by
 refine Att.attach_call hn hdf fun w s₀ s₁ mg mb fa o pm cd doc a vs ns G Y ho hd hcd hmg hobj hints hlen hg=>?_
 have KX:=hY w _ Y
 obtain⟨fd,hb,hF⟩:=F w mg fa _ KX G.T.g hmg
 exact law_call KX G.T.g G.T.b G.T.builtins G.T.nolimit hg hobj hints (Nat.le_trans hlen hn2) hr hF hb (fun H hO hS=>hsp w H a ns hlen hO hS) fun H e s'=>hCX w H s₁ e s'
theorem walk_ofK {l:PySem.W.OpenLaw}{n k:Nat}{q:Program}{loose:List Str}{XP:(Str->Option Value)->Heap->Prop}{YP:World->Heap->Prop}{d:DefRec}{K:Params->PySem.W.Frag}{CX:CXT}{sp:PySem.W.Frag->Sp}{x:Str}
  (hn:l.most=some n) (hn2:n≤sizeLine) (hdf:d.params.defaults=[]) (hr:Room k callerA)
  (hY:∀(w:World) (h:Heap),YP w h->(K w.params).In h)
  (F:∀(w:World) (mg:Str->Option Value) (fa:Addr) (h:Heap),(K w.params).In h->h.Ns mainGlobals mg->mg d.name=some (.ref fa) ->
   ∃fd:FuncData,(∀(s:Shared) (u:Value),BindsTo s fd ⟨[u],[]⟩ [(x,u)]) /\
    ∀base:Heap,(K w.params).In base->base.Ns mainGlobals mg->FnOk l.prog w (K w.params) mg base CX k fa fd [x] (sp (K w.params)))
  (hsp:∀(K:PySem.W.Frag) (H:Hp) (a:Addr) (ns:List Int),ns.length≤n->Only H->SqL K H a (ns.map V.int)->sp K [.ref a] H (fun v _=>v=.bl true) fun _ _ _=>False)
  (hCX:∀(H:Hp) (s:Shared) (e:Value) (s':Shared),CX [] H s (fun _ _ _=>False) e s'->False) :
  PySem.W.WalkO q loose XP YP l.row.toRowW d [] (fun f vs=>PySem.call f vs):=
 walk_of (K:=K) (CX:=fun _=>CX) (sp:=fun w=>sp (K w.params)) hn hn2 hdf hr hY F (fun w H a ns h1 h2 h3=>hsp (K w.params) H a ns h1 h2 h3) fun _ H s e s'=>hCX H s e s'
end L2
namespace L2
open PySem PySem.Spec PyProof.Rows
noncomputable def inClass (s:Stmt) (j:Nat):Stmt:=match s with
 | .ClassDef _ _ _ body _ _ _ _ _ _ _=>body.getD j (.Pass ⟨0,0,0,0⟩)
 | _=>.Pass ⟨0,0,0,0⟩
noncomputable def defArgs (s:Stmt):Arguments:=match s with
 | .FunctionDef _ a _ _ _ _ _ _ _ _=>a
 | _=>{ posonlyargs:=[],args:=[],vararg:=none,kwonlyargs:=[],kw_defaults:=[],kwarg:=none,defaults:=[] }
noncomputable def defBody (s:Stmt):List Stmt:=match s with
 | .FunctionDef _ _ b _ _ _ _ _ _ _=>b
 | _=>[]
noncomputable def defScope (s:Stmt):Scope:=match s with
 | .FunctionDef _ _ _ _ _ _ sc _ _ _=>sc
 | _=>{ kind:=.function,names:=[],isGenerator:=false,isCoroutine:=false }
noncomputable abbrev CX0:CXT:=fun _ _ _ _ _ _=>False
noncomputable abbrev E0:XK:=fun _ _ _=>False
theorem pass0 {X:Cx}:Passes CX0 X E0:=fun _ _ _ _ _ _ _ h=>h.elim
structure Fun (K:PySem.W.Frag) (x qual:Str) (st:Stmt) (f:Addr) (fd:FuncData):Prop where
 ex:∃(oc:Value) (od:Option Addr) (kV doc pm:Value) (an:Option Addr) (cdv ct:Value) (osl:Array (Option Value)),
  fd=PySem.W.fnOf x qual (defArgs st) (defBody st) (defScope st) .none kV doc pm an cdv ct/\K.lookup f=some ⟨oc,od,.func fd,osl⟩/\PySem.W.codeIn K cdv qual=true
 kp:PySem.W.keepIn K (.ref f)=true
section
variable {P:Program}{w:World}{K:PySem.W.Frag}{mg:Str->Option Value}{base:Heap}
theorem Fun.ok {x qual:Str}{st:Stmt}{f:Addr}{fd:FuncData}{N ps:List Str}{k:Nat}{sp:Sp} (F:Fun K x qual st f fd) (S:FnScope N ps (defScope st)) (len:∀vs H Q E,sp vs H Q E->vs.length=ps.length)
  (hbody:∀(cdv:Value) (A:Around) (outer:List Env) (s:Shared) (H:Hp) (vs:List V) (Q:VK) (E:XK),Room k (A.deeper (envOfC qual (defScope st) s.heap.objs.size f cdv))->sp vs H Q E ->
   ∃t,PSs (cxOf CX0 P w K mg base N qual (defScope st) f cdv A outer s H E).nox (defBody st) t/\t { nx:=fun _ H'=>Q .non H',rt:=Q } (start N vs) H):FnOk P w K mg base CX0 (k+1) f fd ps sp:=by
 obtain⟨oc,od,kV,doc,pm,an,cdv,ct,osl,rfl,lk,hcd⟩:=F.ex
 refine fn_of lk hcd S len fun A outer s H vs Q E hr hsp=>?_
 obtain⟨t,h,q⟩:=hbody cdv A outer s H vs Q E hr hsp
 exact⟨t,h.nox,q⟩
theorem Fun.binds {x qual:Str}{st:Stmt}{f:Addr}{fd:FuncData}{ps:List Str} (F:Fun K x qual st f fd)
  (h:∀(kV doc pm:Value) (an:Option Addr) (cdv ct:Value) (us:List Value),us.length=ps.length->bindArgs (PySem.W.fnOf x qual (defArgs st) (defBody st) (defScope st) .none kV doc pm an cdv ct) ⟨us,[]⟩=pure (ps.zip us)):Binds K fd ps []:=by
 obtain⟨oc,od,kV,doc,pm,an,cdv,ct,osl,rfl,lk,hcd⟩:=F.ex
 exact .all (h kV doc pm an cdv ct)
theorem fun_mk {x qual:Str}{st:Stmt}{f:Addr}{oc:Value}{od an:Option Addr}{osl:Array (Option Value)}{kV doc pm cdv ct:Value} (l:K.lookup f=some ⟨oc,od,.func (PySem.W.fnOf x qual (defArgs st) (defBody st) (defScope st) .none kV doc pm an cdv ct),osl⟩)
  (c:PySem.W.codeIn K cdv qual=true) (k:PySem.W.keepIn K (.ref f)=true):Fun K x qual st f (PySem.W.fnOf x qual (defArgs st) (defBody st) (defScope st) .none kV doc pm an cdv ct):=⟨⟨oc,od,kV,doc,pm,an,cdv,ct,osl,rfl,l,c⟩,k⟩
end
section
variable {X:Cx}
theorem pv (i:Nat) {x:Str}{pos:Pos} (hN:X.N[i]? = some x:=by rfl) (hv:Vis X.env.scope x:=by first | exact Or.inl rfl | exact Or.inr (Or.inl rfl) | exact Or.inr (Or.inr rfl)) (hd:(x == ("__debug__":Str))=false:=by decide)
  (hcd:(x == ("__classdict__":Str))=false:=by decide):PE X (.Name x pos) (tVar i):=pe_var hN hv hd hcd
end
noncomputable def Same (H H':Hp):Prop:=∀b o,H b=some o->H' b=some o
theorem Same.refl (H:Hp):Same H H:=fun _ _ h=>h
theorem Same.trans {H H1 H2:Hp} (a:Same H H1) (b:Same H1 H2):Same H H2:=fun c o h=>b c o (a c o h)
theorem Same.free {H H':Hp} (e:Same H H') {l:Addr} (h:H' l=Option.none):H l=Option.none:=by
 cases q:H l with
 | none=>rfl
 | some o=>
  rw [e l o q] at h
  cases h
theorem Same.seq {K:PySem.W.Frag}{H H':Hp}{a:Addr}{xs:List V} (e:Same H H') (h:SqL K H a xs):SqL K H' a xs:=by
 rcases h with (h | ⟨o,h⟩) | h
 ·exact .inl (.inl (e _ _ h))
 ·exact .inl (.inr ⟨o,e _ _ h⟩)
 ·exact .inr h
section
variable {κ:Type} [DecidableEq κ]
end
end L2
namespace Ev
open PySem L2
inductive P where
 | non | bl (b:Bool) | int (i:Int) | str (x:Str) | tup (xs:List P) | lst (xs:List P) | ro (xs:List P) | dct (ks:List Key) (vs:List P)
inductive D where
 | p (v:P) | ref (i:Nat)
inductive SO where
 | lst (xs:List D) | dct (ks:List Key) (vs:List D) | fz (v:P) | ins (c:Str) (ks:List Str) (vs:List D)
noncomputable abbrev Sto:=List SO
noncomputable abbrev Lc:=List (Option D)
noncomputable def KTup (K:PySem.W.Frag) (a:Addr) (xs:List V):Prop:=SqT K (fun _=>none) a xs
noncomputable def KLst (K:PySem.W.Frag) (a:Addr) (xs:List V):Prop:=SqL K (fun _=>none) a xs
noncomputable def TupAt (K:PySem.W.Frag) (H:Hp) (a:Addr) (xs:List V):Prop:=H a=some (.tup xs)\/KTup K a xs
noncomputable def LstAt (F:Addr->Prop) (H:Hp) (a:Addr) (xs:List V):Prop:=F a/\H a=some (.lst xs)
noncomputable def RoAt (K:PySem.W.Frag) (F:Addr->Prop) (H:Hp) (a:Addr) (xs:List V):Prop:=(F a/\∃o,H a=some (.frz o (.lst xs)))\/KLst K a xs
theorem TupAt.sq {K:PySem.W.Frag}{H:Hp}{a:Addr}{xs:List V} (h:TupAt K H a xs):SqT K H a xs:=by
 rcases h with h | (h | h)
 ·exact .inl (.inl h)
 ·rcases h with h | ⟨o,h⟩ <;> cases h
 ·exact .inr h
theorem LstAt.sq {K:PySem.W.Frag}{F:Addr->Prop}{H:Hp}{a:Addr}{xs:List V} (h:LstAt F H a xs):SqL K H a xs:=.inl (.inl h.2)
theorem RoAt.sq {K:PySem.W.Frag}{F:Addr->Prop}{H:Hp}{a:Addr}{xs:List V} (h:RoAt K F H a xs):SqL K H a xs:=by
 rcases h with ⟨_,o,h⟩ | (h | h)
 ·exact .inl (.inr ⟨o,h⟩)
 ·rcases h with h | ⟨o,h⟩ <;> cases h
 ·exact .inr h
section
variable (K:PySem.W.Frag) (F:Addr->Prop) (H:Hp)
mutual
noncomputable def RP:P->V->Prop
 | .non,v=>v=.non
 | .bl b,v=>v=.bl b
 | .int i,v=>v=.int i
 | .str x,v=>v=.str x
 | .tup ds,v=>∃a xs,v=.ref a/\TupAt K H a xs/\RPs ds xs
 | .lst ds,v=>∃a xs,v=.ref a/\LstAt F H a xs/\RPs ds xs
 | .ro ds,v=>∃a xs,v=.ref a/\RoAt K F H a xs/\RPs ds xs
 | .dct ks ds,v=>∃a kvs,v=.ref a/\F a/\H a=some (.dK kvs)/\kvs.map (·.1)=ks/\RPs ds (kvs.map (·.2))
noncomputable def RPs:List P->List V->Prop
 | [],xs=>xs=[]
 | d::ds,xs=>∃x r,xs=x::r/\RP d x/\RPs ds r
end
noncomputable def RD (m:List Addr):D->V->Prop
 | .p d,v=>RP K F H d v
 | .ref i,v=>∃a,v=.ref a/\m[i]? = some a
noncomputable def RDs (m:List Addr):List D->List V->Prop
 | [],xs=>xs=[]
 | d::ds,xs=>∃x r,xs=x::r/\RD K F H m d x/\RDs m ds r
noncomputable def RO (m:List Addr) (a:Addr):SO->Prop
 | .lst ds=>∃xs,H a=some (.lst xs)/\RDs K F H m ds xs
 | .dct ks ds=>∃kvs,H a=some (.dK kvs)/\kvs.map (·.1)=ks/\RDs K F H m ds (kvs.map (·.2))
 | .fz v=>RP K F H v (.ref a)
 | .ins c ks ds=>∃C dx kvs,PySem.W.nsIn K mainGlobals c=some (some (.ref C))/\H a=some (.ins C dx kvs)/\kvs.map (·.1)=ks/\RDs K F H m ds (kvs.map (·.2))
noncomputable def SO.own:SO->Prop
 | .fz _=>False
 | _=>True
structure Rel (m:List Addr) (S:Sto):Prop where
 len:m.length=S.length
 nd:m.Nodup
 obj:∀(i:Nat) a o,m[i]? = some a->S[i]? = some o->RO K F H m a o
 sep:∀(i:Nat) a o,m[i]? = some a->S[i]? = some o->o.own->¬F a
 trk:∀a ∈ m,H a≠none
 ft:∀a,F a->H a≠none
end
structure Kp (F:Addr->Prop) (m:List Addr) (H:Hp) (F':Addr->Prop) (m':List Addr) (H':Hp):Prop where
 pre:∃n,m'=m++n
 frz:∀b,F b->F' b
 frk:∀b o,F b->H b=some o->H' b=some o
 tup:∀b xs,H b=some (.tup xs)->H' b=some (.tup xs)
structure Stp (F:Addr->Prop) (m:List Addr) (H:Hp) (F':Addr->Prop) (m':List Addr) (H':Hp):Prop where
 pre:∃n,m'=m++n
 oth:∀b o,H b=some o->b ∉ m->H' b=some o
 frz:∀b,F b->F' b
 frk:∀b o,F b->H b=some o->H' b=some o
 tup:∀b xs,H b=some (.tup xs)->H' b=some (.tup xs)
 trk:∀b,H b≠none->H' b≠none
 nf:∀b,F' b->F b\/H b=none\/b ∈ m
 nm:∀b,b ∈ m'->b ∈ m\/H b=none
theorem Stp.kp {F F':Addr->Prop}{m m':List Addr}{H H':Hp} (s:Stp F m H F' m' H'):Kp F m H F' m' H':=⟨s.pre,s.frz,s.frk,s.tup⟩
theorem Stp.refl {F:Addr->Prop}{m:List Addr}{H:Hp}:Stp F m H F m H:=
 ⟨⟨[],by simp⟩,fun _ _ h _=>h,fun _ h=>h,fun _ _ _ h=>h,fun _ _ h=>h,fun _ h=>h,fun _ h=>.inl h,fun _ h=>.inl h⟩
theorem Stp.trans {F F1 F2:Addr->Prop}{m m1 m2:List Addr}{H H1 H2:Hp} (a:Stp F m H F1 m1 H1) (b:Stp F1 m1 H1 F2 m2 H2):Stp F m H F2 m2 H2 where
 pre:=by
  obtain⟨n1,e1⟩:=a.pre
  obtain⟨n2,e2⟩:=b.pre
  exact⟨n1++n2,by rw [e2,e1,List.append_assoc]⟩
 oth:=fun c o h hc=>b.oth c o (a.oth c o h hc) fun z=>by
  rcases a.nm c z with z | z
  ·exact hc z
  ·rw [h] at z;cases z
 frz:=fun c h=>b.frz c (a.frz c h)
 frk:=fun c o h e=>b.frk c o (a.frz c h) (a.frk c o h e)
 tup:=fun c xs h=>b.tup c xs (a.tup c xs h)
 trk:=fun c h=>b.trk c (a.trk c h)
 nf:=fun c h=>by
  rcases b.nf c h with h | h | h
  ·exact a.nf c h
  ·by_cases e:H c=none
   ·exact .inr (.inl e)
   ·exact absurd h (a.trk c e)
  ·rcases a.nm c h with h | h
   ·exact .inr (.inr h)
   ·exact .inr (.inl h)
 nm:=fun c h=>by
  rcases b.nm c h with h | h
  ·exact a.nm c h
  ·by_cases e:H c=none
   ·exact .inr e
   ·exact absurd h (a.trk c e)
section
variable {K:PySem.W.Frag}{F F':Addr->Prop}{H H':Hp}{m m':List Addr}{S S':Sto}
theorem TupAt.kp {a:Addr}{xs:List V} (s:Kp F m H F' m' H') (h:TupAt K H a xs):TupAt K H' a xs:=by
 rcases h with h | h
 ·exact .inl (s.tup _ _ h)
 ·exact .inr h
theorem LstAt.kp {a:Addr}{xs:List V} (s:Kp F m H F' m' H') (h:LstAt F H a xs):LstAt F' H' a xs:=⟨s.frz _ h.1,s.frk _ _ h.1 h.2⟩
theorem RoAt.kp {a:Addr}{xs:List V} (s:Kp F m H F' m' H') (h:RoAt K F H a xs):RoAt K F' H' a xs:=by
 rcases h with ⟨f,o,h⟩ | h
 ·exact .inl ⟨s.frz _ f,o,s.frk _ _ f h⟩
 ·exact .inr h
mutual
theorem RP.kp (s:Kp F m H F' m' H'):∀{d:P}{v:V},RP K F H d v->RP K F' H' d v
 | .non,_,h=>h
 | .bl _,_,h=>h
 | .int _,_,h=>h
 | .str _,_,h=>h
 | .tup _,_,h=>by
  obtain⟨a,xs,e,t,r⟩:=h
  exact⟨a,xs,e,t.kp s,RPs.kp s r⟩
 | .lst _,_,h=>by
  obtain⟨a,xs,e,t,r⟩:=h
  exact⟨a,xs,e,t.kp s,RPs.kp s r⟩
 | .ro _,_,h=>by
  obtain⟨a,xs,e,t,r⟩:=h
  exact⟨a,xs,e,t.kp s,RPs.kp s r⟩
 | .dct _ _,_,h=>by
  obtain⟨a,kvs,e,f,t,k,r⟩:=h
  exact⟨a,kvs,e,s.frz _ f,s.frk _ _ f t,k,RPs.kp s r⟩
theorem RPs.kp (s:Kp F m H F' m' H'):∀{ds:List P}{xs:List V},RPs K F H ds xs->RPs K F' H' ds xs
 | [],_,h=>h
 | _::_,_,h=>by
  obtain⟨x,r,e,h1,h2⟩:=h
  exact⟨x,r,e,RP.kp s h1,RPs.kp s h2⟩
end
theorem RD.kp (s:Kp F m H F' m' H'):∀{d:D}{v:V},RD K F H m d v->RD K F' H' m' d v
 | .p _,_,h=>RP.kp s h
 | .ref i,_,h=>by
  obtain⟨a,e,h⟩:=h
  obtain⟨n,e2⟩:=s.pre
  refine⟨a,e,?_⟩
  rw [e2]
  have hi:i < m.length:=(List.getElem?_eq_some_iff.mp h).1
  rw [List.getElem?_append_left hi];exact h
theorem RDs.kp (s:Kp F m H F' m' H'):∀{ds:List D}{xs:List V},RDs K F H m ds xs->RDs K F' H' m' ds xs
 | [],_,h=>h
 | _::_,_,h=>by
  obtain⟨x,r,e,h1,h2⟩:=h
  exact⟨x,r,e,RD.kp s h1,RDs.kp s h2⟩
theorem RP.mono (s:Stp F m H F' m' H') {d:P}{v:V} (h:RP K F H d v):RP K F' H' d v:=RP.kp s.kp h
theorem RPs.mono (s:Stp F m H F' m' H') {d:List P}{v:List V} (h:RPs K F H d v):RPs K F' H' d v:=RPs.kp s.kp h
theorem RD.mono (s:Stp F m H F' m' H') {d:D}{v:V} (h:RD K F H m d v):RD K F' H' m' d v:=RD.kp s.kp h
theorem RDs.mono (s:Stp F m H F' m' H') {d:List D}{v:List V} (h:RDs K F H m d v):RDs K F' H' m' d v:=RDs.kp s.kp h
theorem RPs.length:∀{ds:List P}{xs:List V},RPs K F H ds xs->ds.length=xs.length
 | [],_,h=>by rw [show _=([]:List V) from h] <;> rfl
 | _::_,_,h=>by
  obtain⟨x,r,e,_,h2⟩:=h
  rw [e,List.length_cons,List.length_cons,RPs.length h2]
theorem RDs.length:∀{ds:List D}{xs:List V},RDs K F H m ds xs->ds.length=xs.length
 | [],_,h=>by rw [show _=([]:List V) from h] <;> rfl
 | _::_,_,h=>by
  obtain⟨x,r,e,_,h2⟩:=h
  rw [e,List.length_cons,List.length_cons,RDs.length h2]
theorem RPs.get:∀{ds:List P}{xs:List V}{i:Nat}{d:P},RPs K F H ds xs->ds[i]? = some d->∃x,xs[i]? = some x/\RP K F H d x
 | [],_,_,_,_,e=>by simp at e
 | _::_,_,0,_,h,e=>by
  obtain⟨x,r,rfl,h1,_⟩:=h
  simp at e;subst e
  exact⟨x,rfl,h1⟩
 | _::_,_,i+1,d,h,e=>by
  obtain⟨x,r,rfl,_,h2⟩:=h
  obtain⟨y,e1,h3⟩:=RPs.get (i:=i) h2 (by simpa using e)
  exact⟨y,by simpa using e1,h3⟩
theorem RPs.append:∀{ds es:List P}{xs ys:List V},RPs K F H ds xs->RPs K F H es ys->RPs K F H (ds++es) (xs++ys)
 | [],_,_,_,h,g=>by rw [show _=([]:List V) from h];exact g
 | _::_,_,_,_,h,g=>by
  obtain⟨x,r,rfl,h1,h2⟩:=h
  exact⟨x,r++_,rfl,h1,RPs.append h2 g⟩
theorem RDs.append:∀{ds es:List D}{xs ys:List V},RDs K F H m ds xs->RDs K F H m es ys->RDs K F H m (ds++es) (xs++ys)
 | [],_,_,_,h,g=>by rw [show _=([]:List V) from h];exact g
 | _::_,_,_,_,h,g=>by
  obtain⟨x,r,rfl,h1,h2⟩:=h
  exact⟨x,r++_,rfl,h1,RDs.append h2 g⟩
theorem RPs.take:∀(n:Nat) {ds:List P}{xs:List V},RPs K F H ds xs->RPs K F H (ds.take n) (xs.take n)
 | 0,_,_,_=>rfl
 | _+1,[],_,h=>by rw [show _=([]:List V) from h];rfl
 | n+1,_::_,_,h=>by
  obtain⟨x,r,rfl,h1,h2⟩:=h
  exact⟨x,r.take n,rfl,h1,RPs.take n h2⟩
theorem RPs.drop:∀(n:Nat) {ds:List P}{xs:List V},RPs K F H ds xs->RPs K F H (ds.drop n) (xs.drop n)
 | 0,_,_,h=>h
 | _+1,[],_,h=>by rw [show _=([]:List V) from h];rfl
 | n+1,_::_,_,h=>by
  obtain⟨x,r,rfl,_,h2⟩:=h
  exact RPs.drop n h2
theorem RDs.take:∀(n:Nat) {ds:List D}{xs:List V},RDs K F H m ds xs->RDs K F H m (ds.take n) (xs.take n)
 | 0,_,_,_=>rfl
 | _+1,[],_,h=>by rw [show _=([]:List V) from h];rfl
 | n+1,_::_,_,h=>by
  obtain⟨x,r,rfl,h1,h2⟩:=h
  exact⟨x,r.take n,rfl,h1,RDs.take n h2⟩
theorem RDs.get:∀{ds:List D}{xs:List V}{i:Nat}{d:D},RDs K F H m ds xs->ds[i]? = some d->∃x,xs[i]? = some x/\RD K F H m d x
 | [],_,_,_,_,e=>by simp at e
 | _::_,_,0,_,h,e=>by
  obtain⟨x,r,rfl,h1,_⟩:=h
  simp at e;subst e
  exact⟨x,rfl,h1⟩
 | _::_,_,i+1,d,h,e=>by
  obtain⟨x,r,rfl,_,h2⟩:=h
  obtain⟨y,e1,h3⟩:=RDs.get (i:=i) h2 (by simpa using e)
  exact⟨y,by simpa using e1,h3⟩
theorem RDs.ofP:∀{ds:List P}{xs:List V},RPs K F H ds xs->RDs K F H m (ds.map .p) xs
 | [],_,h=>h
 | _::_,_,h=>by
  obtain⟨x,r,e,h1,h2⟩:=h
  exact⟨x,r,e,h1,RDs.ofP h2⟩
theorem Rel.fresh_m (r:Rel K F H m S) {p:Addr} (hp:H p=none):p ∉ m:=fun z=>r.trk p z hp
theorem Rel.fresh_F (r:Rel K F H m S) {p:Addr} (hp:H p=none):¬F p:=fun z=>r.ft p z hp
theorem stp_new {p:Addr}{o:HO} (hp:H p=none):Stp F m H F m (upd H p o) where
 pre:=⟨[],by simp⟩
 oth:=fun b u h _=>by rw [upd_ne (by rintro rfl;rw [hp] at h;cases h)];exact h
 frz:=fun _ h=>h
 frk:=fun b u _ h=>by rw [upd_ne (by rintro rfl;rw [hp] at h;cases h)];exact h
 tup:=fun b u h=>by rw [upd_ne (by rintro rfl;rw [hp] at h;cases h)];exact h
 trk:=fun b h=>by
  by_cases e:b=p
  ·subst e;rw [upd_same];exact fun z=>nomatch z
  ·rw [upd_ne e];exact h
 nf:=fun _ h=>.inl h
 nm:=fun _ h=>.inl h
theorem RO.kp (s:Kp F m H F' m' H') {a:Addr}{o:SO} (k:∀u,H a=some u->H' a=some u) (h:RO K F H m a o):RO K F' H' m' a o:=by
 cases o with
 | lst ds=>
  obtain⟨xs,e,r⟩:=h
  exact⟨xs,k _ e,RDs.kp s r⟩
 | dct ks ds=>
  obtain⟨kvs,e,e2,r⟩:=h
  exact⟨kvs,k _ e,e2,RDs.kp s r⟩
 | fz v=>exact RP.kp s (show RP K F H v (.ref a) from h)
 | ins c ks ds=>
  obtain⟨C,dx,kvs,n,e,e2,r⟩:=h
  exact⟨C,dx,kvs,n,k _ e,e2,RDs.kp s r⟩
theorem RO.mono (s:Stp F m H F' m' H') {a:Addr}{o:SO} (k:∀u,H a=some u->H' a=some u) (h:RO K F H m a o):RO K F' H' m' a o:=RO.kp s.kp k h
theorem Rel.stayK (r:Rel K F H m S) (s:Kp F m H F' m H') (k:∀a u,a ∈ m->H a=some u->H' a=some u) (nF:∀a,F' a->F a\/H a=none) (ft:∀a,F' a->H' a≠none):Rel K F' H' m S where
 len:=r.len
 nd:=r.nd
 obj:=fun i a o e1 e2=>(r.obj i a o e1 e2).kp s fun u h=>k a u (List.mem_of_getElem? e1) h
 sep:=fun i a o e1 e2 w f=>by
  rcases nF a f with f | f
  ·exact r.sep i a o e1 e2 w f
  ·exact r.trk a (List.mem_of_getElem? e1) f
 trk:=fun a h=>by
  cases q:H a with
  | none=>exact absurd q (r.trk a h)
  | some u=>rw [k a u h q];exact fun z=>nomatch z
 ft:=ft
theorem Rel.stay (r:Rel K F H m S) (s:Stp F m H F' m H') (k:∀a u,a ∈ m->H a=some u->H' a=some u) (nF:∀a,F' a->F a\/H a=none) (ft:∀a,F' a->H' a≠none):Rel K F' H' m S where
 len:=r.len
 nd:=r.nd
 obj:=fun i a o e1 e2=>(r.obj i a o e1 e2).mono s fun u h=>k a u (List.mem_of_getElem? e1) h
 sep:=fun i a o e1 e2 w f=>by
  rcases nF a f with f | f
  ·exact r.sep i a o e1 e2 w f
  ·exact r.trk a (List.mem_of_getElem? e1) f
 trk:=fun a h=>s.trk a (r.trk a h)
 ft:=ft
theorem Rel.new (r:Rel K F H m S) {p:Addr}{o:HO} (hp:H p=none):Rel K F (upd H p o) m S:=
 r.stay (stp_new hp) (fun a u ha h=>by rw [upd_ne (by rintro rfl;exact r.fresh_m hp ha)];exact h) (fun _ f=>.inl f) fun a f=>(stp_new (F:=F) (m:=m) hp).trk a (r.ft a f)
theorem stp_own {p:Addr}{o:HO} (hp:H p=none):Stp F m H F (m++[p]) (upd H p o) where
 pre:=⟨[p],rfl⟩
 oth:=(stp_new (F:=F) (m:=m) (o:=o) hp).oth
 frz:=fun _ h=>h
 frk:=(stp_new (F:=F) (m:=m) (o:=o) hp).frk
 tup:=(stp_new (F:=F) (m:=m) (o:=o) hp).tup
 trk:=(stp_new (F:=F) (m:=m) (o:=o) hp).trk
 nf:=fun _ h=>.inl h
 nm:=fun b h=>by
  rcases List.mem_append.mp h with h | h
  ·exact .inl h
  ·have:b=p:=by simpa using h
   subst this;exact .inr hp
theorem Rel.own (r:Rel K F H m S) {p:Addr}{o:HO}{so:SO} (hp:H p=none) (ho:RO K F (upd H p o) (m++[p]) p so):Rel K F (upd H p o) (m++[p]) (S++[so]) where
 len:=by rw [List.length_append,List.length_append,r.len];rfl
 nd:=by
  rw [List.nodup_append]
  refine⟨r.nd,by simp,fun a ha b hb e=>?_⟩
  have:b=p:=by simpa using hb
  subst this;subst e
  exact r.fresh_m hp ha
 obj:=fun i a u e1 e2=>by
  by_cases hi:i < m.length
  ·rw [List.getElem?_append_left hi] at e1
   rw [List.getElem?_append_left (by rw [<- r.len];exact hi)] at e2
   exact (r.obj i a u e1 e2).mono (stp_own hp) fun w h=>by rw [upd_ne (by rintro rfl;rw [hp] at h;cases h)];exact h
  ·have hl:i=m.length:=by
    have:=(List.getElem?_eq_some_iff.mp e1).1
    rw [List.length_append] at this;simp at this;omega
   subst hl
   rw [List.getElem?_append_right (Nat.le_refl _)] at e1
   rw [r.len,List.getElem?_append_right (Nat.le_refl _)] at e2
   simp at e1 e2
   subst e1;subst e2;exact ho
 sep:=fun i a u e1 e2 w f=>by
  by_cases hi:i < m.length
  ·rw [List.getElem?_append_left hi] at e1
   rw [List.getElem?_append_left (by rw [<- r.len];exact hi)] at e2
   exact r.sep i a u e1 e2 w f
  ·have hl:i=m.length:=by
    have:=(List.getElem?_eq_some_iff.mp e1).1
    rw [List.length_append] at this;simp at this;omega
   subst hl
   rw [List.getElem?_append_right (Nat.le_refl _)] at e1
   simp at e1
   subst e1;exact r.fresh_F hp f
 trk:=fun a h=>by
  rcases List.mem_append.mp h with h | h
  ·exact (stp_own (F:=F) (m:=m) hp).trk a (r.trk a h)
  ·have:a=p:=by simpa using h
   subst this;rw [upd_same];exact fun z=>nomatch z
 ft:=fun a f=>(stp_own (F:=F) (m:=m) hp).trk a (r.ft a f)
theorem stp_set (r:Rel K F H m S) {i:Nat}{p:Addr}{so:SO}{o:HO} (hm:m[i]? = some p) (hs:S[i]? = some so) (hw:so.own) (ht:∀xs,H p≠some (.tup xs)):Stp F m H F m (upd H p o) where
 pre:=⟨[],by simp⟩
 oth:=fun b u h hb=>by rw [upd_ne (by rintro rfl;exact hb (List.mem_of_getElem? hm))];exact h
 frz:=fun _ h=>h
 frk:=fun b u f h=>by rw [upd_ne (by rintro rfl;exact r.sep i _ so hm hs hw f)];exact h
 tup:=fun b xs h=>by rw [upd_ne (by rintro rfl;exact ht xs h)];exact h
 trk:=fun b h=>by
  by_cases e:b=p
  ·subst e;rw [upd_same];exact fun z=>nomatch z
  ·rw [upd_ne e];exact h
 nf:=fun _ h=>.inl h
 nm:=fun _ h=>.inl h
theorem nodup_at {m:List Addr} (h:m.Nodup) {i j:Nat}{a:Addr} (e1:m[i]? = some a) (e2:m[j]? = some a):i=j:=by
 exact (List.getElem?_inj (List.getElem?_eq_some_iff.mp e1).1 h).mp (e1.trans e2.symm)
theorem Rel.set (r:Rel K F H m S) {i:Nat}{p:Addr}{so so':SO}{o:HO} (hm:m[i]? = some p) (hs:S[i]? = some so) (hw:so.own) (ht:∀xs,H p≠some (.tup xs)) (ho:RO K F (upd H p o) m p so') :
  Rel K F (upd H p o) m (S.set i so') where
 len:=by rw [List.length_set];exact r.len
 nd:=r.nd
 obj:=fun j a u e1 e2=>by
  by_cases hj:i=j
  ·subst hj
   rw [hm] at e1;cases e1
   rw [List.getElem?_set_self (by exact (List.getElem?_eq_some_iff.mp hs).1)] at e2
   cases e2;exact ho
  ·rw [List.getElem?_set_ne hj] at e2
   exact (r.obj j a u e1 e2).mono (stp_set r hm hs hw ht) fun w h=>by rw [upd_ne (by rintro rfl;exact hj (nodup_at r.nd hm e1))];exact h
 sep:=fun j a u e1 e2 w f=>by
  by_cases hj:i=j
  ·subst hj
   rw [hm] at e1;cases e1
   exact r.sep i p so hm hs hw f
  ·rw [List.getElem?_set_ne hj] at e2
   exact r.sep j a u e1 e2 w f
 trk:=fun a h=>(stp_set (o:=o) r hm hs hw ht).trk a (r.trk a h)
 ft:=fun a f=>(stp_set (o:=o) r hm hs hw ht).trk a (r.ft a f)
theorem stp_frz {p:Addr} (hm:p ∈ m):Stp F m H (fun b=>F b\/b=p) m H:=
 ⟨⟨[],by simp⟩,fun _ _ h _=>h,fun _ h=>.inl h,fun _ _ _ h=>h,fun _ _ h=>h,fun _ h=>h,fun b h=>by
  rcases h with h | h
  ·exact .inl h
  ·subst h;exact .inr (.inr hm),fun _ h=>.inl h⟩
theorem Rel.frz (r:Rel K F H m S) {i:Nat}{p:Addr}{so:SO}{v:P} (hm:m[i]? = some p) (hs:S[i]? = some so) (ho:RP K (fun b=>F b\/b=p) H v (.ref p)):Rel K (fun b=>F b\/b=p) H m (S.set i (.fz v)) where
 len:=by rw [List.length_set];exact r.len
 nd:=r.nd
 obj:=fun j a u e1 e2=>by
  by_cases hj:i=j
  ·subst hj
   rw [hm] at e1;cases e1
   rw [List.getElem?_set_self (by exact (List.getElem?_eq_some_iff.mp hs).1)] at e2
   cases e2;exact ho
  ·rw [List.getElem?_set_ne hj] at e2
   exact (r.obj j a u e1 e2).mono (stp_frz (List.mem_of_getElem? hm)) fun w h=>h
 sep:=fun j a u e1 e2 w f=>by
  by_cases hj:i=j
  ·subst hj
   rw [List.getElem?_set_self (by exact (List.getElem?_eq_some_iff.mp hs).1)] at e2
   cases e2;exact w
  ·rw [List.getElem?_set_ne hj] at e2
   rcases f with f | f
   ·exact r.sep j a u e1 e2 w f
   ·subst f;exact hj (nodup_at r.nd hm e1)
 trk:=r.trk
 ft:=fun a f=>by
  rcases f with f | f
  ·exact r.ft a f
  ·subst f;exact r.trk _ (List.mem_of_getElem? hm)
end
end Ev
namespace Ev
open PySem L2
noncomputable abbrev EE:=Lc->Sto->Option (D×Sto)
noncomputable abbrev EV:=Lc->Sto->Option (P×Sto)
noncomputable abbrev EB:=Lc->Sto->Option (Bool×Sto)
noncomputable abbrev EVs:=Lc->Sto->Option (List P×Sto)
inductive Fl where
 | nx | rt (d:D) | bk | ct
noncomputable abbrev ES:=Lc->Sto->Option (Fl×Lc×Sto)
noncomputable def bnd {α β:Type} (x:Option (α×Sto)) (f:α->Sto->Option β):Option β:=match x with
 | some (a,S)=>f a S
 | none=>none
@[simp] theorem bnd_some {α β:Type} (a:α) (S:Sto) (f:α->Sto->Option β):bnd (some (a,S)) f=f a S:=rfl
@[simp] theorem bnd_none {α β:Type} (f:α->Sto->Option β):bnd none f=none:=rfl
theorem bnd_eq {α β:Type}{x:Option (α×Sto)}{f:α->Sto->Option β}{r:β} (h:bnd x f=some r):∃a S,x=some (a,S)/\f a S=some r:=by
 cases x with
 | none=>cases h
 | some p=>exact⟨p.1,p.2,rfl,h⟩
noncomputable def mapS (f:D->Sto->Option (P×Sto)):List D->Sto->Option (List P×Sto)
 | [],S=>some ([],S)
 | d::r,S=>bnd (f d S) fun v S1=>bnd (mapS f r S1) fun vs S2=>some (v::vs,S2)
noncomputable def toP:Nat->D->Sto->Option (P×Sto)
 | _,.p v,S=>some (v,S)
 | 0,.ref _,_=>none
 | n+1,.ref i,S=>match S[i]? with
  | some (.lst ds)=>bnd (mapS (toP n) ds S) fun vs S1=>some (.lst vs,S1.set i (.fz (.lst vs)))
  | some (.dct ks ds)=>bnd (mapS (toP n) ds S) fun vs S1=>some (.dct ks vs,S1.set i (.fz (.dct ks vs)))
  | some (.fz v)=>some (v,S)
  | some (.ins _ _ _)=>none
  | none=>none
@[simp] theorem toP_p (n:Nat) (v:P) (S:Sto):toP n (.p v) S=some (v,S):=by cases n <;> rfl
theorem mapS_ps (n:Nat):∀(vs:List P) (S:Sto),mapS (toP n) (vs.map .p) S=some (vs,S)
 | [],_=>rfl
 | v::r,S=>by simp [mapS,mapS_ps n r S]
theorem toP_lst {n:Nat}{i:Nat}{S:Sto}{vs:List P} (h:S[i]? = some (.lst (vs.map .p))):toP (n+1) (.ref i) S=some (.lst vs,S.set i (.fz (.lst vs))):=by
 simp [toP,h,mapS_ps]
section
variable {K:PySem.W.Frag}{F:Addr->Prop}{H:Hp}{m:List Addr}{S S':Sto}
theorem mapS_ok {f:D->Sto->Option (P×Sto)}
  (hf:∀{d:D}{x:V}{v:P}{F:Addr->Prop}{S S':Sto},f d S=some (v,S')->Rel K F H m S->RD K F H m d x->∃F',Stp F m H F' m H/\Rel K F' H m S'/\S'.length=S.length/\RP K F' H v x) :
  ∀{ds:List D}{xs:List V}{vs:List P}{F:Addr->Prop}{S S':Sto},mapS f ds S=some (vs,S')->Rel K F H m S->RDs K F H m ds xs->∃F',Stp F m H F' m H/\Rel K F' H m S'/\S'.length=S.length/\RPs K F' H vs xs
 | [],xs,vs,F,S,S',h,r,rd=>by
  cases h
  exact⟨F,.refl,r,rfl,rd⟩
 | d::ds,xs,vs,F,S,S',h,r,rd=>by
  obtain⟨x,xr,e,h1,h2⟩:=rd
  obtain⟨v,S1,e1,h⟩:=bnd_eq h
  obtain⟨vr,S2,e2,h⟩:=bnd_eq h
  cases h
  obtain⟨F1,s1,r1,l1,p1⟩:=hf e1 r h1
  obtain⟨F2,s2,r2,l2,p2⟩:=mapS_ok hf e2 r1 (RDs.mono s1 h2)
  exact⟨F2,s1.trans s2,r2,l2.trans l1,x,xr,e,RP.mono s2 p1,p2⟩
theorem toP_ok:∀(n:Nat) {d:D}{x:V}{v:P}{F:Addr->Prop}{S S':Sto},toP n d S=some (v,S')->Rel K F H m S->RD K F H m d x->∃F',Stp F m H F' m H/\Rel K F' H m S'/\S'.length=S.length/\RP K F' H v x
 | n,.p w,x,v,F,S,S',h,r,rd=>by
  rw [toP_p] at h;cases h
  exact⟨F,.refl,r,rfl,rd⟩
 | 0,.ref i,x,v,F,S,S',h,r,rd=>by cases h
 | n+1,.ref i,x,v,F,S,S',h,r,rd=>by
  obtain⟨a,e,hm⟩:=rd
  subst e
  have hi:i < S.length:=by rw [<- r.len];exact (List.getElem?_eq_some_iff.mp hm).1
  obtain⟨o,ho⟩:∃o,S[i]? = some o:=⟨S[i],by simp [hi]⟩
  have ob:=r.obj i a o hm ho
  simp only [toP,ho] at h
  cases o with
  | fz w=>
   cases h
   exact⟨F,.refl,r,rfl,ob⟩
  | ins c ks ds=>cases h
  | lst ds=>
   obtain⟨vs,S1,e1,h⟩:=bnd_eq h
   cases h
   obtain⟨xs,hH,rs⟩:=ob
   obtain⟨F1,s1,r1,l1,p1⟩:=mapS_ok (fun h=>toP_ok n h) e1 r rs
   obtain⟨o1,ho1⟩:∃o,S1[i]? = some o:=⟨S1[i]'(by rw [l1];exact hi),by simp [l1,hi]⟩
   have st:Stp F1 m H (fun b=>F1 b\/b=a) m H:=stp_frz (List.mem_of_getElem? hm)
   have q:RP K (fun b=>F1 b\/b=a) H (.lst vs) (.ref a):=⟨a,xs,rfl,⟨.inr rfl,hH⟩,RPs.mono st p1⟩
   exact⟨_,s1.trans st,r1.frz hm ho1 q,by rw [List.length_set];exact l1,q⟩
  | dct ks ds=>
   obtain⟨vs,S1,e1,h⟩:=bnd_eq h
   cases h
   obtain⟨kvs,hH,hk,rs⟩:=ob
   obtain⟨F1,s1,r1,l1,p1⟩:=mapS_ok (fun h=>toP_ok n h) e1 r rs
   obtain⟨o1,ho1⟩:∃o,S1[i]? = some o:=⟨S1[i]'(by rw [l1];exact hi),by simp [l1,hi]⟩
   have st:Stp F1 m H (fun b=>F1 b\/b=a) m H:=stp_frz (List.mem_of_getElem? hm)
   have q:RP K (fun b=>F1 b\/b=a) H (.dct ks vs) (.ref a):=⟨a,kvs,rfl,.inr rfl,hH,hk,RPs.mono st p1⟩
   exact⟨_,s1.trans st,r1.frz hm ho1 q,by rw [List.length_set];exact l1,q⟩
end
structure Grow (F:Addr->Prop) (H:Hp) (F':Addr->Prop) (H':Hp):Prop where
 keep:∀b o,H b=some o->H' b=some o
 frz:∀b,F b->F' b
 nf:∀b,F' b->F b\/(H b=none/\H' b≠none)
section
variable {K:PySem.W.Frag}{F F' F1 F2:Addr->Prop}{H H' H1 H2:Hp}{m:List Addr}{S S':Sto}
theorem Grow.refl:Grow F H F H:=⟨fun _ _ h=>h,fun _ h=>h,fun _ h=>.inl h⟩
theorem Grow.trans (a:Grow F H F1 H1) (b:Grow F1 H1 F2 H2):Grow F H F2 H2:=
 ⟨fun c o h=>b.keep c o (a.keep c o h),fun c h=>b.frz c (a.frz c h),fun c h=>by
  rcases b.nf c h with h | ⟨h,h2⟩
  ·rcases a.nf c h with h | ⟨h,h2⟩
   ·exact .inl h
   ·refine .inr ⟨h,?_⟩
    cases q:H1 c with
    | none=>exact absurd q h2
    | some o=>rw [b.keep c o q];exact fun z=>nomatch z
  ·refine .inr ⟨?_,h2⟩
   cases q:H c with
   | none=>rfl
   | some o=>rw [a.keep c o q] at h;cases h⟩
theorem Grow.stp (g:Grow F H F' H'):Stp F m H F' m H' where
 pre:=⟨[],by simp⟩
 oth:=fun b o h _=>g.keep b o h
 frz:=g.frz
 frk:=fun b o _ h=>g.keep b o h
 tup:=fun b xs h=>g.keep b _ h
 trk:=fun b h=>by
  cases q:H b with
  | none=>exact absurd q h
  | some o=>rw [g.keep b o q];exact fun z=>nomatch z
 nf:=fun b h=>by
  rcases g.nf b h with h | ⟨h,_⟩
  ·exact .inl h
  ·exact .inr (.inl h)
 nm:=fun _ h=>.inl h
theorem Rel.grow (r:Rel K F H m S) (g:Grow F H F' H'):Rel K F' H' m S:=
 r.stay g.stp (fun a u _ h=>g.keep a u h) (fun a f=>by
  rcases g.nf a f with f | ⟨f,_⟩
  ·exact .inl f
  ·exact .inr f) fun a f=>by
  rcases g.nf a f with f | ⟨_,f⟩
  ·exact (g.stp (m:=m)).trk a (r.ft a f)
  ·exact f
theorem grow_new {p:Addr}{o:HO} (hp:H p=none):Grow F H F (upd H p o):=
 ⟨fun b u h=>by rw [upd_ne (by rintro rfl;rw [hp] at h;cases h)];exact h,fun _ h=>h,fun _ h=>.inl h⟩
theorem grow_frz {p:Addr}{o:HO} (hp:H p=none):Grow F H (fun b=>F b\/b=p) (upd H p o):=
 ⟨fun b u h=>by rw [upd_ne (by rintro rfl;rw [hp] at h;cases h)];exact h,fun _ h=>.inl h,fun b h=>by
  rcases h with h | h
  ·exact .inl h
  ·subst h;exact .inr ⟨hp,by rw [upd_same];exact fun z=>nomatch z⟩⟩
theorem RP.grow {d:P}{v:V} (g:Grow F H F' H') (h:RP K F H d v):RP K F' H' d v:=RP.mono (m:=[]) g.stp h
theorem RPs.grow {d:List P}{v:List V} (g:Grow F H F' H') (h:RPs K F H d v):RPs K F' H' d v:=RPs.mono (m:=[]) g.stp h
theorem RP.newTup {p:Addr}{ds:List P}{xs:List V} (hp:H p=none) (r:RPs K F H ds xs):RP K F (upd H p (.tup xs)) (.tup ds) (.ref p):=⟨p,xs,rfl,.inl upd_same,r.grow (grow_new hp)⟩
theorem RP.newLst {p:Addr}{ds:List P}{xs:List V} (hp:H p=none) (r:RPs K F H ds xs):RP K (fun b=>F b\/b=p) (upd H p (.lst xs)) (.lst ds) (.ref p):=⟨p,xs,rfl,⟨.inr rfl,upd_same⟩,r.grow (grow_frz hp)⟩
end
noncomputable def vC (v:P):EV:=fun _ S=>some (v,S)
noncomputable def eVar (i:Nat):EE:=fun L S=>match L[i]? with
 | some (some d)=>some (d,S)
 | _=>none
noncomputable def vE (f:EE):EV:=fun L S=>bnd (f L S) (toP 9)
noncomputable def eV (f:EV):EE:=fun L S=>bnd (f L S) fun v S1=>some (.p v,S1)
noncomputable def vVar (i:Nat):EV:=vE (eVar i)
noncomputable def vOp (g:P->P->Option P) (a b:EV):EV:=fun L S=>bnd (a L S) fun x S1=>bnd (b L S1) fun y S2=>(g x y).map fun v=>(v,S2)
noncomputable def vUn (g:P->Option P) (a:EV):EV:=fun L S=>bnd (a L S) fun x S1=>(g x).map fun v=>(v,S1)
noncomputable def bV (a:EV):EB:=fun L S=>bnd (a L S) fun x S1=>match x with
 | .bl b=>some (b,S1)
 | _=>none
noncomputable def bAnd (a b:EB):EB:=fun L S=>bnd (a L S) fun c S1=>if c=true then b L S1 else some (false,S1)
noncomputable def bOr (a b:EB):EB:=fun L S=>bnd (a L S) fun c S1=>if c=true then some (true,S1) else b L S1
noncomputable def bNot (a:EB):EB:=fun L S=>bnd (a L S) fun c S1=>some (!c,S1)
noncomputable def vB (a:EB):EV:=fun L S=>bnd (a L S) fun c S1=>some (.bl c,S1)
noncomputable def vIf (c:EB) (a b:EV):EV:=fun L S=>bnd (c L S) fun k S1=>if k=true then a L S1 else b L S1
noncomputable def vsNil:EVs:=fun _ S=>some ([],S)
noncomputable def vsCons (a:EV) (r:EVs):EVs:=fun L S=>bnd (a L S) fun x S1=>bnd (r L S1) fun xs S2=>some (x::xs,S2)
noncomputable def vCall (g:List P->Option P) (a:EVs):EV:=fun L S=>bnd (a L S) fun xs S1=>(g xs).map fun v=>(v,S1)
noncomputable def sNx:ES:=fun L S=>some (.nx,L,S)
noncomputable def sSeq (f g:ES):ES:=fun L S=>match f L S with
 | some (.nx,L1,S1)=>g L1 S1
 | r=>r
noncomputable def sSet (i:Nat) (f:EE):ES:=fun L S=>bnd (f L S) fun d S1=>some (.nx,L.set i (some d),S1)
noncomputable def sRet (f:EE):ES:=fun L S=>bnd (f L S) fun d S1=>some (.rt d,L,S1)
noncomputable def sDrop (f:EE):ES:=fun L S=>bnd (f L S) fun _ S1=>some (.nx,L,S1)
noncomputable def sIf (c:EB) (a b:ES):ES:=fun L S=>bnd (c L S) fun k S1=>if k=true then a L S1 else b L S1
noncomputable def sNever:ES:=fun _ _=>none
noncomputable def sCt:ES:=fun L S=>some (.ct,L,S)
noncomputable abbrev TGv:=P->Lc->Option Lc
noncomputable def gSet (i:Nat):TGv:=fun v L=>some (L.set i (some (.p v)))
noncomputable def forGo (g:TGv) (b:ES):List P->Lc->Sto->Option (Fl×Lc×Sto)
 | [],L,S=>some (.nx,L,S)
 | v::r,L,S=>match g v L with
  | none=>none
  | some L1=>match b L1 S with
   | some (.nx,L2,S2)=>forGo g b r L2 S2
   | some (.ct,L2,S2)=>forGo g b r L2 S2
   | some (.bk,L2,S2)=>some (.nx,L2,S2)
   | x=>x
noncomputable def sFor (it:EVs) (g:TGv) (b:ES):ES:=fun L S=>bnd (it L S) fun xs S1=>forGo g b xs L S1
noncomputable def whileGo (c:EB) (b:ES):Nat->Lc->Sto->Option (Fl×Lc×Sto)
 | 0,_,_=>none
 | n+1,L,S=>bnd (c L S) fun k S1=>if k=true then match b L S1 with
   | some (.nx,L2,S2)=>whileGo c b n L2 S2
   | some (.ct,L2,S2)=>whileGo c b n L2 S2
   | some (.bk,L2,S2)=>some (.nx,L2,S2)
   | x=>x
  else some (.nx,L,S1)
noncomputable def sWhile (n:Nat) (c:EB) (b:ES):ES:=whileGo c b n
end Ev
namespace Ev
open PySem PySem.Spec PyProof.Rows L2
section
variable (K:PySem.W.Frag)
structure RL (F:Addr->Prop) (H:Hp) (m:List Addr) (σ:L2.St) (L:Lc):Prop where
 len:σ.length=L.length
 at':∀(i:Nat) d,L[i]? = some (some d)->∃v,σ[i]? = some (some v)/\RD K F H m d v
noncomputable def tE (f:EE):TE:=fun σ H Q=>∃F m L S d S',Rel K F H m S/\RL K F H m σ L/\f L S=some (d,S')/\∀v F' m' H',Stp F m H F' m' H'->Rel K F' H' m' S'->RD K F' H' m' d v->Q v H'
noncomputable def tV (f:EV):TE:=fun σ H Q=>∃F m L S d S',Rel K F H m S/\RL K F H m σ L/\f L S=some (d,S')/\∀v F' m' H',Stp F m H F' m' H'->Rel K F' H' m' S'->RP K F' H' d v->Q v H'
noncomputable def tQ (f:EB):TT:=fun σ H Q=>∃F m L S b S',Rel K F H m S/\RL K F H m σ L/\f L S=some (b,S')/\∀F' m' H',Stp F m H F' m' H'->Rel K F' H' m' S'->Q b H'
noncomputable def tVs (f:EVs):TA:=fun σ H Q=>∃F m L S ds S',Rel K F H m S/\RL K F H m σ L/\f L S=some (ds,S')/\∀xs F' m' H',Stp F m H F' m' H'->Rel K F' H' m' S'->RPs K F' H' ds xs->Q xs H'
noncomputable def tFin (D:Ends) (F:Addr->Prop) (m:List Addr) (σ:L2.St) (H:Hp):Fl->Prop
 | .nx=>D.nx σ H
 | .bk=>D.bk σ H
 | .ct=>D.ct σ H
 | .rt d=>∀v,RD K F H m d v->D.rt v H
noncomputable def tSt (f:ES):TS:=fun D σ H=>∃F m L S fl L' S',Rel K F H m S/\RL K F H m σ L/\f L S=some (fl,L',S') /\
 ∀σ' F' m' H',Stp F m H F' m' H'->Rel K F' H' m' S'->RL K F' H' m' σ' L'->tFin K D F' m' σ' H' fl
end
section
variable {K:PySem.W.Frag}{F F':Addr->Prop}{H H':Hp}{m m':List Addr}{σ:L2.St}{L:Lc}{S:Sto}
theorem RL.mono (s:Stp F m H F' m' H') (h:RL K F H m σ L):RL K F' H' m' σ L:=⟨h.len,fun i d e=>by
 obtain⟨v,e1,r⟩:=h.at' i d e
 exact⟨v,e1,RD.mono s r⟩⟩
theorem RL.set (h:RL K F H m σ L) {d:D}{v:V} (r:RD K F H m d v) (i:Nat):RL K F H m (σ.set i (some v)) (L.set i (some d)):=⟨by rw [List.length_set,List.length_set];exact h.len,fun j e q=>by
 by_cases hj:i=j
 ·subst hj
  by_cases hi:i < L.length
  ·rw [List.getElem?_set_self hi] at q
   cases q
   exact⟨v,List.getElem?_set_self (by rw [h.len];exact hi),r⟩
  ·rw [List.getElem?_eq_none (by rw [List.length_set];omega)] at q;cases q
 ·rw [List.getElem?_set_ne hj] at q
  rw [List.getElem?_set_ne hj]
  exact h.at' j e q⟩
end
section
variable {X:Cx}{e:Expr}{es:List Expr}{st:Stmt}{sts:List Stmt}
theorem _root_.L2.PE.imp' {t t':TE} (h:PE X e t) (i:∀σ H Q,t' σ H Q->t σ H Q):PE X e t':=fun pins s σ H Q I q=>h pins s σ H Q I (i σ H Q q)
theorem _root_.L2.PT.imp' {t t':TT} (h:PT X e t) (i:∀σ H Q,t' σ H Q->t σ H Q):PT X e t':=fun pins s σ H Q I q=>h pins s σ H Q I (i σ H Q q)
theorem _root_.L2.PW.imp' {t t':TT} (h:PW X e t) (i:∀σ H Q,t' σ H Q->t σ H Q):PW X e t':=fun wh pins s σ H Q I q=>h wh pins s σ H Q I (i σ H Q q)
theorem _root_.L2.PA.imp' {t t':TA} (h:PA X es t) (i:∀σ H Q,t' σ H Q->t σ H Q):PA X es t':=fun pos pins s σ H Q I q=>h pos pins s σ H Q I (i σ H Q q)
theorem _root_.L2.PS.imp' {t t':TS} (h:PS X st t) (i:∀D σ H,t' D σ H->t D σ H):PS X st t':=fun pins s σ H D I q=>h pins s σ H D I (i D σ H q)
theorem _root_.L2.PSs.imp' {t t':TS} (h:PSs X sts t) (i:∀D σ H,t' D σ H->t D σ H):PSs X sts t':=fun pins s σ H D I q=>h pins s σ H D I (i D σ H q)
end
section
variable {X:Cx}{a b c e:Expr}{es:List Expr}{fa fb:EV}{fe:EE}{pos:Pos}
theorem xVE (h:PE X e (tE X.K fe)):PE X e (tV X.K (vE fe)):=h.imp' fun σ H Q hz=>by
 obtain⟨F,m,L,S,d,S',r,l,q,k⟩:=hz
 obtain⟨d0,S1,e1,e2⟩:=bnd_eq q
 refine⟨F,m,L,S,d0,S1,r,l,e1,fun v F' m' H' s r' rd=>?_⟩
 obtain⟨F2,s2,r2,_,p⟩:=toP_ok 9 e2 r' rd
 exact k v F2 m' H' (s.trans s2) r2 p
theorem xEV (h:PE X e (tV X.K fa)):PE X e (tE X.K (eV fa)):=h.imp' fun σ H Q hz=>by
 obtain⟨F,m,L,S,d,S',r,l,q,k⟩:=hz
 obtain⟨d0,S1,e1,e2⟩:=bnd_eq q
 cases e2
 exact⟨F,m,L,S,d0,S',r,l,e1,fun v F' m' H' s r' rd=>k v F' m' H' s r' rd⟩
theorem xVar (i:Nat) {x:Str}{pos:Pos} (hN:X.N[i]? = some x:=by rfl) (hv:Vis X.env.scope x:=by first | exact Or.inl rfl | exact Or.inr (Or.inl rfl) | exact Or.inr (Or.inr rfl)) (hd:(x == ("__debug__":Str))=false:=by decide)
  (hcd:(x == ("__classdict__":Str))=false:=by decide):PE X (.Name x pos) (tE X.K (eVar i)):=(pe_var hN hv hd hcd).imp' fun σ H Q hz=>by
 obtain⟨F,m,L,S,d,S',r,l,q,k⟩:=hz
 unfold eVar at q
 split at q
 ·rename_i d' e
  cases q
  obtain⟨v,e1,rd⟩:=l.at' i _ e
  exact⟨v,e1,k v F m H .refl r rd⟩
 ·cases q
theorem xC {v:V}{d:P} (h:PE X e (tC v)) (r:∀F H,RP X.K F H d v):PE X e (tV X.K (vC d)):=h.imp' fun σ H Q hz=>by
 obtain⟨F,m,L,S,d',S',r',l,q,k⟩:=hz
 cases q
 exact k v F m H .refl r' (r F H)
theorem xInt {i j pos}:PE X (.Constant (.int i) j pos) (tV X.K (vC (.int i))):=xC pe_int fun _ _=>rfl
theorem xBl {i j pos}:PE X (.Constant (.bool i) j pos) (tV X.K (vC (.bl i))):=xC pe_bl fun _ _=>rfl
theorem xNon {j pos}:PE X (.Constant .none j pos) (tV X.K (vC .non)):=xC pe_non fun _ _=>rfl
theorem xStr {i j pos}:PE X (.Constant (.str i) j pos) (tV X.K (vC (.str i))):=xC pe_str fun _ _=>rfl
noncomputable def rP (K:PySem.W.Frag) (g:P->P->Option P):R2:=fun x y H Q=>∃F dx dy d,(∀a,F a->H a≠none)/\RP K F H dx x/\RP K F H dy y/\g dx dy=some d/\∀v F' H',Grow F H F' H'->RP K F' H' d v->Q v H'
noncomputable def OpP (X:Cx) (f:Value->Value->Sem Value) (g:P->P->Option P):Prop:=OpR X f (rP X.K g)
theorem tOp_of {g:P->P->Option P}{σ:L2.St}{H:Hp}{Q:VK} (h:tV X.K (vOp g fa fb) σ H Q):tOp (rP X.K g) (tV X.K fa) (tV X.K fb) σ H Q:=by
 obtain⟨F,m,L,S,d,S',r,l,q,k⟩:=h
 obtain⟨x,S1,e1,q⟩:=bnd_eq q
 obtain⟨y,S2,e2,q⟩:=bnd_eq q
 refine⟨F,m,L,S,x,S1,r,l,e1,fun v F1 m1 H1 s1 r1 p1=>?_⟩
 refine⟨F1,m1,L,S1,y,S2,r1,l.mono s1,e2,fun u F2 m2 H2 s2 r2 p2=>?_⟩
 cases eg:g x y with
 | none=>rw [eg] at q;cases q
 | some z=>
  rw [eg] at q
  cases q
  refine⟨F2,x,y,_,r2.ft,RP.mono s2 p1,p2,eg,fun w F3 H3 gr p3=>?_⟩
  exact k w F3 m2 H3 (s1.trans (s2.trans gr.stp)) (r2.grow gr) p3
theorem xOp {op:Operator}{g:P->P->Option P} (ho:OpP X (binaryOp op) g) (ha:PE X a (tV X.K fa)) (hb:PE X b (tV X.K fb)):PE X (.BinOp a op b pos) (tV X.K (vOp g fa fb)):=
 (pe_op ho ha hb).imp' fun _ _ _ h=>tOp_of h
theorem xCmp {op:CmpOp}{g:P->P->Option P} (ho:OpP X (compareOp op) g) (ha:PE X a (tV X.K fa)) (hb:PE X b (tV X.K fb)) (hm:behindInMarks op b=false):PE X (.Compare a [op] [b] pos) (tV X.K (vOp g fa fb)):=
 (pe_cmpR ho ha hb hm).imp' fun _ _ _ h=>tOp_of h
theorem tTest_of {g:P->P->Option P}{σ:L2.St}{H:Hp}{Q:Bool->Hp->Prop} (h:tQ X.K (bV (vOp g fa fb)) σ H Q):tTest (tOp (rP X.K g) (tV X.K fa) (tV X.K fb)) σ H Q:=by
 refine tOp_of ?_
 obtain⟨F,m,L,S,d,S',r,l,q,k⟩:=h
 obtain⟨x,S1,e1,q⟩:=bnd_eq q
 cases x with
 | bl b=>cases q;exact⟨F,m,L,S,_,_,r,l,e1,fun v F' m' H' s r' p=>⟨_,p,k F' m' H' s r'⟩⟩
 | _=>cases q
theorem yCmp {op:CmpOp}{g:P->P->Option P} (ho:OpP X (compareOp op) g) (ha:PE X a (tV X.K fa)) (hb:PE X b (tV X.K fb)) (hm:behindInMarks op b=false):PT X (.Compare a [op] [b] pos) (tQ X.K (bV (vOp g fa fb))):=
 (pt_cmpR ho ha hb hm).imp' fun _ _ _ h=>tTest_of h
variable {qa qb:EB}{rest:List Expr}
theorem yAnd1 (ha:PT X a (tQ X.K qa)):PW X (.BoolOp .And [a] pos) (tQ X.K qa):=pw_and1 ha
theorem yOr1 (ha:PT X a (tQ X.K qa)):PW X (.BoolOp .Or [a] pos) (tQ X.K qa):=pw_or1 ha
theorem yAnd (ha:PT X a (tQ X.K qa)) (hb:PW X (.BoolOp .And (b::rest) pos) (tQ X.K qb)):PW X (.BoolOp .And (a::b::rest) pos) (tQ X.K (bAnd qa qb)):=
 (pw_and ha hb).imp' fun σ H Q hz=>by
  obtain⟨F,m,L,S,d,S',r,l,q,k⟩:=hz
  obtain⟨c,S1,e1,q⟩:=bnd_eq q
  refine⟨F,m,L,S,c,S1,r,l,e1,fun F' m' H' s r'=>?_⟩
  cases c with
  | true=>rw [if_pos rfl] at q ⊢;exact⟨F',m',L,S1,d,S',r',l.mono s,q,fun F2 m2 H2 s2 r2=>k F2 m2 H2 (s.trans s2) r2⟩
  | false=>rw [if_neg Bool.false_ne_true] at q ⊢;cases q;exact k F' m' H' s r'
theorem yOr (ha:PT X a (tQ X.K qa)) (hb:PW X (.BoolOp .Or (b::rest) pos) (tQ X.K qb)):PW X (.BoolOp .Or (a::b::rest) pos) (tQ X.K (bOr qa qb)):=
 (pw_or ha hb).imp' fun σ H Q hz=>by
  obtain⟨F,m,L,S,d,S',r,l,q,k⟩:=hz
  obtain⟨c,S1,e1,q⟩:=bnd_eq q
  refine⟨F,m,L,S,c,S1,r,l,e1,fun F' m' H' s r'=>?_⟩
  cases c with
  | false=>rw [if_neg Bool.false_ne_true] at q ⊢;exact⟨F',m',L,S1,d,S',r',l.mono s,q,fun F2 m2 H2 s2 r2=>k F2 m2 H2 (s.trans s2) r2⟩
  | true=>rw [if_pos rfl] at q ⊢;cases q;exact k F' m' H' s r'
theorem yNot (ha:PT X a (tQ X.K qa)):PT X (.UnaryOp .Not a pos) (tQ X.K (bNot qa)):=
 (pt_not ha).imp' fun σ H Q hz=>by
  obtain⟨F,m,L,S,d,S',r,l,q,k⟩:=hz
  obtain⟨c,S1,e1,q⟩:=bnd_eq q
  cases q
  exact⟨F,m,L,S,c,S',r,l,e1,fun F' m' H' s r'=>k F' m' H' s r'⟩
theorem xAnd1 {op} (h:PE X a (tV X.K (vB qa))):PE X (.BoolOp op [a] pos) (tV X.K (vB qa)):=pe_one h
theorem vB_of {σ:L2.St}{H:Hp}{Q:VK}{k:Bool->Hp->Prop} (h:tQ X.K qa σ H k) (hk:∀b H',k b H'->Q (.bl b) H'):tV X.K (vB qa) σ H Q:=by
 obtain⟨F,m,L,S,d,S',r,l,q,kk⟩:=h
 exact⟨F,m,L,S,.bl d,S',r,l,by unfold vB;rw [q];rfl,fun v F' m' H' s r' p=>by rw [show v=.bl d from p];exact hk _ _ (kk F' m' H' s r')⟩
theorem of_vB {σ:L2.St}{H:Hp}{Q:VK} (h:tV X.K (vB qa) σ H Q):tQ X.K qa σ H fun b H'=>Q (.bl b) H':=by
 obtain⟨F,m,L,S,d,S',r,l,q,kk⟩:=h
 obtain⟨c,S1,e1,q⟩:=bnd_eq q
 cases q
 exact⟨F,m,L,S,c,S',r,l,e1,fun F' m' H' s r'=>kk _ F' m' H' s r' rfl⟩
theorem xAnd (ha:PE X a (tV X.K (vB qa))) (hb:PE X (.BoolOp .And (b::rest) pos) (tV X.K (vB qb))):PE X (.BoolOp .And (a::b::rest) pos) (tV X.K (vB (bAnd qa qb))):=
 (pe_and ha hb).imp' fun σ H Q h=>by
  obtain⟨F,m,L,S,d,S',r,l,q,k⟩:=of_vB h
  obtain⟨c,S1,e1,q⟩:=bnd_eq q
  refine vB_of (k:=fun c H1=>if c=true then tV X.K (vB qb) σ H1 Q else Q (.bl false) H1) ⟨F,m,L,S,c,S1,r,l,e1,fun F' m' H' s r'=>?_⟩ fun b H' q=>⟨b,rfl,q⟩
  cases c with
  | true=>rw [if_pos rfl] at q ⊢;exact vB_of (k:=fun b H2=>Q (.bl b) H2) ⟨F',m',L,S1,d,S',r',l.mono s,q,fun F2 m2 H2 s2 r2=>k F2 m2 H2 (s.trans s2) r2⟩ fun _ _ q=>q
  | false=>rw [if_neg Bool.false_ne_true] at q ⊢;cases q;exact k F' m' H' s r'
theorem xOr (ha:PE X a (tV X.K (vB qa))) (hb:PE X (.BoolOp .Or (b::rest) pos) (tV X.K (vB qb))):PE X (.BoolOp .Or (a::b::rest) pos) (tV X.K (vB (bOr qa qb))):=
 (pe_or ha hb).imp' fun σ H Q h=>by
  obtain⟨F,m,L,S,d,S',r,l,q,k⟩:=of_vB h
  obtain⟨c,S1,e1,q⟩:=bnd_eq q
  refine vB_of (k:=fun c H1=>if c=true then Q (.bl true) H1 else tV X.K (vB qb) σ H1 Q) ⟨F,m,L,S,c,S1,r,l,e1,fun F' m' H' s r'=>?_⟩ fun b H' q=>⟨b,rfl,q⟩
  cases c with
  | false=>rw [if_neg Bool.false_ne_true] at q ⊢;exact vB_of (k:=fun b H2=>Q (.bl b) H2) ⟨F',m',L,S1,d,S',r',l.mono s,q,fun F2 m2 H2 s2 r2=>k F2 m2 H2 (s.trans s2) r2⟩ fun _ _ q=>q
  | true=>rw [if_pos rfl] at q ⊢;cases q;exact k F' m' H' s r'
theorem xNot (ha:PE X a (tV X.K (vB qa))):PE X (.UnaryOp .Not a pos) (tV X.K (vB (bNot qa))):=
 (pe_not ha).imp' fun σ H Q h=>by
  obtain⟨F,m,L,S,d,S',r,l,q,k⟩:=of_vB h
  obtain⟨c,S1,e1,q⟩:=bnd_eq q
  cases q
  exact vB_of (k:=fun b H'=>Q (.bl (!b)) H') ⟨F,m,L,S,c,S',r,l,e1,fun F' m' H' s r'=>k F' m' H' s r'⟩ fun b H' q=>⟨b,rfl,q⟩
theorem xBool (h:PE X e (tV X.K fa)):PE X e (tV X.K (vB (bV fa))):=h.imp' fun σ H Q h=>by
 obtain⟨F,m,L,S,d,S',r,l,q,k⟩:=of_vB h
 obtain⟨x,S1,e1,q⟩:=bnd_eq q
 cases x with
 | bl b=>cases q;exact⟨F,m,L,S,_,_,r,l,e1,fun v F' m' H' s r' p=>by cases (show v=.bl d from p);exact k F' m' H' s r'⟩
 | _=>cases q
theorem xIf {c:Expr} (hc:PT X c (tQ X.K qa)) (ha:PE X a (tV X.K fa)) (hb:PE X b (tV X.K fb)):PE X (.IfExp c a b pos) (tV X.K (vIf qa fa fb)):=
 (pe_ifExp hc ha hb).imp' fun σ H Q hz=>by
  obtain⟨F,m,L,S,d,S',r,l,q,k⟩:=hz
  obtain⟨c,S1,e1,q⟩:=bnd_eq q
  refine⟨F,m,L,S,c,S1,r,l,e1,fun F' m' H' s r'=>?_⟩
  cases c with
  | true=>rw [if_pos rfl] at q ⊢;exact⟨F',m',L,S1,d,S',r',l.mono s,q,fun v F2 m2 H2 s2 r2=>k v F2 m2 H2 (s.trans s2) r2⟩
  | false=>rw [if_neg Bool.false_ne_true] at q ⊢;exact⟨F',m',L,S1,d,S',r',l.mono s,q,fun v F2 m2 H2 s2 r2=>k v F2 m2 H2 (s.trans s2) r2⟩
variable {fs:EVs}
theorem aNil:PA X [] (tVs X.K vsNil):=pa_nil.imp' fun σ H Q hz=>by
 obtain⟨F,m,L,S,d,S',r,l,q,k⟩:=hz
 cases q
 exact k [] F m H .refl r rfl
theorem aCons (ha:PE X e (tV X.K fa)) (hr:PA X es (tVs X.K fs)) (hs:starEach (e::es) X.env=(false,eval e X.env)::starEach es X.env:=by rfl):PA X (e::es) (tVs X.K (vsCons fa fs)):=
 (pa_cons ha hr hs).imp' fun σ H Q hz=>by
  obtain⟨F,m,L,S,d,S',r,l,q,k⟩:=hz
  obtain⟨x,S1,e1,q⟩:=bnd_eq q
  obtain⟨xs,S2,e2,q⟩:=bnd_eq q
  cases q
  refine⟨F,m,L,S,x,S1,r,l,e1,fun v F1 m1 H1 s1 r1 p1=>?_⟩
  refine⟨F1,m1,L,S1,xs,S',r1,l.mono s1,e2,fun vs F2 m2 H2 s2 r2 p2=>?_⟩
  exact k (v::vs) F2 m2 H2 (s1.trans s2) r2 ⟨v,vs,rfl,RP.mono s2 p1,p2⟩
noncomputable def few {α:Type} (xs:List α):Bool:=decide (xs.length≤1000000)
theorem few_le {α:Type}{xs:List α} (h:few xs=true):xs.length≤sizeLine:=Nat.le_trans (of_decide_eq_true h) (by decide)
noncomputable def vTup' (a:EVs):EV:=fun L S=>bnd (a L S) fun xs S1=>if few xs=true then some (.tup xs,S1) else none
noncomputable def vLst' (a:EVs):EV:=fun L S=>bnd (a L S) fun xs S1=>if few xs=true then some (.lst xs,S1) else none
noncomputable def eLst' (a:EVs):EE:=fun L S=>bnd (a L S) fun xs S1=>if few xs=true then some (.ref S1.length,S1++[.lst (xs.map .p)]) else none
theorem xTup {x1} (h:PA X es (tVs X.K fs)):PE X (.Tuple es x1 pos) (tV X.K (vTup' fs)):=(pe_tup h).imp' fun σ H Q hz=>by
 obtain⟨F,m,L,S,d,S',r,l,q,k⟩:=hz
 obtain⟨xs,S1,e1,q⟩:=bnd_eq q
 split at q
 ·rename_i hf
  cases q
  refine⟨F,m,L,S,xs,S',r,l,e1,fun vs F1 m1 H1 s1 r1 p1=>⟨by rw [<- p1.length];exact few_le hf,fun p hp=>?_⟩⟩
  exact k (.ref p) F1 m1 _ (s1.trans (grow_new hp).stp) (r1.grow (grow_new hp)) (.newTup hp p1)
 ·cases q
theorem xLst (h:PA X es (tVs X.K fs)):PE X (.List es pos) (tV X.K (vLst' fs)):=(pe_lst h).imp' fun σ H Q hz=>by
 obtain⟨F,m,L,S,d,S',r,l,q,k⟩:=hz
 obtain⟨xs,S1,e1,q⟩:=bnd_eq q
 split at q
 ·rename_i hf
  cases q
  refine⟨F,m,L,S,xs,S',r,l,e1,fun vs F1 m1 H1 s1 r1 p1=>⟨by rw [<- p1.length];exact few_le hf,fun p hp=>?_⟩⟩
  exact k (.ref p) _ m1 _ (s1.trans (grow_frz hp).stp) (r1.grow (grow_frz hp)) (.newLst hp p1)
 ·cases q
theorem xLstE (h:PA X es (tVs X.K fs)):PE X (.List es pos) (tE X.K (eLst' fs)):=(pe_lst h).imp' fun σ H Q hz=>by
 obtain⟨F,m,L,S,d,S',r,l,q,k⟩:=hz
 obtain⟨xs,S1,e1,q⟩:=bnd_eq q
 split at q
 ·rename_i hf
  cases q
  refine⟨F,m,L,S,xs,S1,r,l,e1,fun vs F1 m1 H1 s1 r1 p1=>⟨by rw [<- p1.length];exact few_le hf,fun p hp=>?_⟩⟩
  have s2:Stp F1 m1 H1 F1 (m1++[p]) (upd H1 p (.lst vs)):=stp_own hp
  refine k (.ref p) F1 (m1++[p]) _ (s1.trans s2) (r1.own hp ⟨vs,upd_same,RDs.ofP (RPs.mono s2 p1)⟩) ⟨p,rfl,?_⟩
  rw [<- r1.len,List.getElem?_append_right (Nat.le_refl _)];simp
 ·cases q
noncomputable def rC (K:PySem.W.Frag) (g:List P->Option P):List V->Hp->VK->Prop:=fun xs H Q=>∃F ds d,(∀a,F a->H a≠none)/\RPs K F H ds xs/\g ds=some d/\∀v F' H',Grow F H F' H'->RP K F' H' d v->Q v H'
theorem tCB_of {g:List P->Option P}{σ:L2.St}{H:Hp}{Q:VK} (h:tV X.K (vCall g fs) σ H Q):tVs X.K fs σ H fun vs H1=>rC X.K g vs H1 Q:=by
 obtain⟨F,m,L,S,d,S',r,l,q,k⟩:=h
 obtain⟨xs,S1,e1,q⟩:=bnd_eq q
 cases eg:g xs with
 | none=>rw [eg] at q;cases q
 | some z=>
  rw [eg] at q
  cases q
  exact⟨F,m,L,S,xs,_,r,l,e1,fun vs F1 m1 H1 s1 r1 p1=>⟨F1,xs,_,r1.ft,p1,eg,fun v F2 H2 gr p=>k v F2 m1 H2 (s1.trans gr.stp) (r1.grow gr) p⟩⟩
theorem xCallB {x:Str}{p:Pos}{id:String}{g:List P->Option P} (hc:CallR X (.builtin id) (rC X.K g)) (hg:Gl X x) (hm:X.mg x=none) (hv:bootBuiltins x=some (.builtin id)) (ha:PA X (e::es) (tVs X.K fs)) (hn:x≠"__name__":=by decide) (hdb:(x == ("__debug__":Str))=false:=by decide)
  (he:starEach (e::es) X.env=(false,eval e X.env)::starEach es X.env:=by rfl) (hpl:(backTo pos (starEach es X.env)).any (·.1)=false:=by rfl):PE X (.Call (.Name x p) (e::es) [] pos) (tV X.K (vCall g fs)):=
 (pe_callB hc hg hm hv ha hn hdb he hpl).imp' fun _ _ _ h=>tCB_of h
theorem xCallT {x:Str}{p:Pos}{T:String}{g:List P->Option P} (hc:CallR X (.type T) (rC X.K g)) (hg:Gl X x) (hm:X.mg x=none) (hv:bootBuiltins x=some (.type T)) (ha:PA X (e::es) (tVs X.K fs)) (hn:x≠"__name__":=by decide) (hdb:(x == ("__debug__":Str))=false:=by decide)
  (he:starEach (e::es) X.env=(false,eval e X.env)::starEach es X.env:=by rfl) (hpl:(backTo pos (starEach es X.env)).any (·.1)=false:=by rfl):PE X (.Call (.Name x p) (e::es) [] pos) (tV X.K (vCall g fs)):=
 (pe_callTy hc hg hm hv ha hn hdb he hpl).imp' fun _ _ _ h=>tCB_of h
noncomputable def spV (K:PySem.W.Frag) (g:List P->Option P):Sp:=fun vs H Q _=>rC K g vs H Q
theorem xCall {f:Addr}{fd:FuncData}{ps:List Str}{k:Nat}{x:Str}{p:Pos}{g:List P->Option P} (G:FnOk X.prog X.w X.K X.mg X.base CX0 k f fd ps (spV X.K g)) (hr:Room k X.A) (hg:Gl X x) (hm:X.mg x=some (.ref f)) (hk:PySem.W.keepIn X.K (.ref f)=true) (hb:Binds X.K fd ps [])
  (ha:PA X (e::es) (tVs X.K fs)) (hdb:(x == ("__debug__":Str))=false:=by decide) (he:starEach (e::es) X.env=(false,eval e X.env)::starEach es X.env:=by rfl) (hpl:(backTo pos (starEach es X.env)).any (·.1)=false:=by rfl) :
  PE X (.Call (.Name x p) (e::es) [] pos) (tV X.K (vCall g fs)):=
 (pe_call G hr hg hm hk hb .nil pass0 ha hdb he hpl).imp' fun σ H Q h=>by
  obtain⟨F,m,L,S,ds,S',r,l,q,k⟩:=tCB_of h
  exact⟨F,m,L,S,ds,S',r,l,q,fun xs F' m' H' s r' p=>by show spV X.K g (xs++[]) H' Q E0;rw [List.append_nil];exact k xs F' m' H' s r' p⟩
end
section
variable {X:Cx}{a b e:Expr}{st:Stmt}{rest bs cs:List Stmt}{f g:ES}{fe:EE}{qa:EB}{pos:Pos}
theorem zNil:PSs X [] (tSt X.K sNx):=pss_nil.imp' fun D σ H hz=>by
 obtain⟨F,m,L,S,fl,L',S',r,l,q,k⟩:=hz
 cases q
 exact k σ F m H .refl r l
theorem zCons (h1:PS X st (tSt X.K f)) (h2:PSs X rest (tSt X.K g)):PSs X (st::rest) (tSt X.K (sSeq f g)):=(pss_cons h1 h2).imp' fun D σ H hz=>by
 obtain⟨F,m,L,S,fl,L',S',r,l,q,k⟩:=hz
 cases ef:f L S with
 | none=>rw [show sSeq f g L S=none by unfold sSeq;rw [ef]] at q;cases q
 | some x=>
  obtain⟨fl1,L1,S1⟩:=x
  cases fl1 with
  | nx=>
   have q':g L1 S1=some (fl,L',S'):=by have:=q;unfold sSeq at this;rw [ef] at this;exact this
   exact⟨F,m,L,S,.nx,L1,S1,r,l,ef,fun σ1 F1 m1 H1 s1 r1 l1=>⟨F1,m1,L1,S1,fl,L',S',r1,l1,q',fun σ2 F2 m2 H2 s2 r2 l2=>k σ2 F2 m2 H2 (s1.trans s2) r2 l2⟩⟩
  | rt d=>
   have q':some (Fl.rt d,L1,S1)=some (fl,L',S'):=by have:=q;unfold sSeq at this;rw [ef] at this;exact this
   cases q'
   exact⟨F,m,L,S,_,_,_,r,l,ef,fun σ1 F1 m1 H1 s1 r1 l1=>k σ1 F1 m1 H1 s1 r1 l1⟩
  | bk=>
   have q':some (Fl.bk,L1,S1)=some (fl,L',S'):=by have:=q;unfold sSeq at this;rw [ef] at this;exact this
   cases q'
   exact⟨F,m,L,S,_,_,_,r,l,ef,fun σ1 F1 m1 H1 s1 r1 l1=>k σ1 F1 m1 H1 s1 r1 l1⟩
  | ct=>
   have q':some (Fl.ct,L1,S1)=some (fl,L',S'):=by have:=q;unfold sSeq at this;rw [ef] at this;exact this
   cases q'
   exact⟨F,m,L,S,_,_,_,r,l,ef,fun σ1 F1 m1 H1 s1 r1 l1=>k σ1 F1 m1 H1 s1 r1 l1⟩
theorem zOne (h1:PS X st (tSt X.K f)):PSs X [st] (tSt X.K f):=pss_one h1
theorem zRet (h:PE X e (tE X.K fe)):PS X (.Return (some e) pos) (tSt X.K (sRet fe)):=(ps_ret h).imp' fun D σ H hz=>by
 obtain⟨F,m,L,S,fl,L',S',r,l,q,k⟩:=hz
 obtain⟨d,S1,e1,q⟩:=bnd_eq q
 cases q
 exact⟨F,m,L,S,d,S',r,l,e1,fun v F' m' H' s r' p=>k σ F' m' H' s r' (l.mono s) v p⟩
theorem zDrop (h:PE X e (tE X.K fe)) (hs:swapsWith e none pos.line X.env=pure false:=by rfl):PS X (.Expr e pos) (tSt X.K (sDrop fe)):=(ps_expr h hs).imp' fun D σ H hz=>by
 obtain⟨F,m,L,S,fl,L',S',r,l,q,k⟩:=hz
 obtain⟨d,S1,e1,q⟩:=bnd_eq q
 cases q
 exact⟨F,m,L,S,d,S',r,l,e1,fun v F' m' H' s r' p=>k σ F' m' H' s r' (l.mono s)⟩
theorem zSet (i:Nat) {x:Str}{pos':Pos} (hN:X.N.Nodup) (h:PE X e (tE X.K fe)) (hi:X.N[i]? = some x:=by rfl) (hx:Loc X.env.scope x:=by first | exact Or.inl rfl | exact Or.inr rfl) (hs:swapsWith e (some (.Name x pos')) pos.line X.env=pure false:=by rfl)
  (hf:X.fn x=true\/X.env.scope.names.lookup x=some .local:=by first | exact .inl rfl | exact .inr rfl | assumption):PS X (.Assign [.Name x pos'] e pos) (tSt X.K (sSet i fe)):=
 (ps_set hN hi hx h hs hf).imp' fun D σ H hz=>by
  obtain⟨F,m,L,S,fl,L',S',r,l,q,k⟩:=hz
  obtain⟨d,S1,e1,q⟩:=bnd_eq q
  cases q
  exact⟨F,m,L,S,d,S',r,l,e1,fun v F' m' H' s r' p=>k (σ.set i (some v)) F' m' H' s r' ((l.mono s).set p i)⟩
theorem zIf {c:Expr} (hc:PT X c (tQ X.K qa)) (ha:PSs X bs (tSt X.K f)) (hb:PSs X cs (tSt X.K g)):PS X (.If c bs cs pos) (tSt X.K (sIf qa f g)):=(ps_if hc ha hb).imp' fun D σ H hz=>by
 obtain⟨F,m,L,S,fl,L',S',r,l,q,k⟩:=hz
 obtain⟨c,S1,e1,q⟩:=bnd_eq q
 refine⟨F,m,L,S,c,S1,r,l,e1,fun F' m' H' s r'=>?_⟩
 cases c with
 | true=>rw [if_pos rfl] at q ⊢;exact⟨F',m',L,S1,fl,L',S',r',l.mono s,q,fun σ2 F2 m2 H2 s2 r2 l2=>k σ2 F2 m2 H2 (s.trans s2) r2 l2⟩
 | false=>rw [if_neg Bool.false_ne_true] at q ⊢;exact⟨F',m',L,S1,fl,L',S',r',l.mono s,q,fun σ2 F2 m2 H2 s2 r2 l2=>k σ2 F2 m2 H2 (s.trans s2) r2 l2⟩
theorem zNever:PS X st (tSt X.K sNever):=ps_never.imp' fun D σ H hz=>by obtain⟨F,m,L,S,fl,L',S',r,l,q,k⟩:=hz;cases q
theorem zCt:PS X (.Continue pos) (tSt X.K sCt):=ps_continue.imp' fun D σ H hz=>by obtain⟨F,m,L,S,fl,L',S',r,l,q,k⟩:=hz;cases q;exact k σ F m H .refl r l
noncomputable def gT (K:PySem.W.Frag) (g:TGv):TG:=fun x σ H Q=>∃F m L v L',RL K F H m σ L/\RP K F H v x/\g v L=some L'/\∀σ',RL K F H m σ' L'->Q σ' H
theorem _root_.L2.PG.imp' {tg:Expr}{t t':TG} (h:PG X tg t) (i:∀v σ H Q,t' v σ H Q->t v σ H Q):PG X tg t':=fun pins s σ H v u Q I r q=>h pins s σ H v u Q I r (i v σ H Q q)
theorem gName' (i:Nat) {x:Str} (hN:X.N.Nodup) (hi:X.N[i]? = some x:=by rfl) (hx:Loc X.env.scope x:=by first | exact Or.inl rfl | exact Or.inr rfl) (hf:X.fn x=true\/X.env.scope.names.lookup x=some .local:=by first | exact .inl rfl | exact .inr rfl | assumption) :
  PG X (.Name x pos) (gT X.K (gSet i)):=(pg_name hN hi hx hf).imp' fun v σ H Q hz=>by
 obtain⟨F,m,L,d,L',l,p,q,k⟩:=hz
 cases q
 exact k _ (l.set (d:=.p d) p i)
noncomputable def ItP (K:PySem.W.Frag) (J:It) (vs:List P) (F:Addr->Prop) (m:List Addr) (H:Hp):Prop:=∀F2 m2 H2,Stp F m H F2 m2 H2 ->
 (∀(i:Nat) v,vs[i]? = some v->J.go i H2/\∀x H3,J.yld i H2 x H3->∃F3,Grow F2 H2 F3 H3/\RP K F3 H3 v x)/\J.stop vs.length H2
noncomputable def tI (K:PySem.W.Frag) (f:EVs):TI:=fun σ H R=>∃F m L S vs S',Rel K F H m S/\RL K F H m σ L/\f L S=some (vs,S')/\∀J F' m' H',Stp F m H F' m' H'->Rel K F' H' m' S'->ItP K J vs F' m' H'->R J H'
theorem zFor {tg iter:Expr}{fi:EVs}{g:TGv}{body:List Stmt}{fb:ES} (hp:PassesOwn (model X.prog X.w) X.A X.env X.xe) (hc:X.calm=true) (hi:PI X tg iter (tI X.K fi)) (hg:PG X tg (gT X.K g)) (hb:PSs X body (tSt X.K fb))
  (hs:∀x,foldedSetIterable iter X.env x=pure x:=by intro _;rfl):PS X (.For tg iter body [] pos) (tSt X.K (sFor fi g fb)):=
 (ps_for hp hc hi hg hb hs).imp' fun D σ H hz=>by
  obtain⟨F,m,L,S,fl,L',S',r,l,q,k⟩:=hz
  obtain⟨vs,S1,e1,q⟩:=bnd_eq q
  refine⟨F,m,L,S,vs,S1,r,l,e1,fun J F1 m1 H1 s1 r1 it=>?_⟩
  refine⟨fun i n σ2 H2=>n=vs.length-i/\i≤vs.length/\∃F2 m2 L2 S2,Stp F1 m1 H1 F2 m2 H2/\Rel X.K F2 H2 m2 S2/\RL X.K F2 H2 m2 σ2 L2/\forGo g fb (vs.drop i) L2 S2=some (fl,L',S'),
   ⟨vs.length,rfl,Nat.zero_le _,F1,m1,L,S1,.refl,r1,l.mono s1,by rw [List.drop_zero];exact q⟩,?_⟩
  rintro i n σ2 H2 ⟨rfl,hi,F2,m2,L2,S2,s2,r2,l2,q2⟩
  obtain⟨go,stop⟩:=it F2 m2 H2 s2
  by_cases hlt:i < vs.length
  ·right
   have hv:vs[i]? = some vs[i]:=by simp [hlt]
   rw [List.drop_eq_getElem_cons hlt] at q2
   obtain⟨hgo,hy⟩:=go i _ hv
   refine⟨hgo,fun σ3 H3=>∃n',n' < vs.length-i/\(n'=vs.length-(i+1)/\i+1≤vs.length/\∃F2 m2 L2 S2,Stp F1 m1 H1 F2 m2 H3/\Rel X.K F2 H3 m2 S2/\RL X.K F2 H3 m2 σ3 L2/\forGo g fb (vs.drop (i+1)) L2 S2=some (fl,L',S')),fun _ _ z=>z,fun x H3 y=>?_⟩
   obtain⟨F3,gr,p3⟩:=hy x H3 y
   unfold forGo at q2
   cases eg:g vs[i] L2 with
   | none=>rw [eg] at q2;cases q2
   | some L3=>
    rw [eg] at q2
    dsimp only at q2
    refine⟨F3,m2,L2,vs[i],L3,l2.mono gr.stp,p3,eg,fun σ3 l3=>?_⟩
    have s3:Stp F1 m1 H1 F3 m2 H3:=s2.trans gr.stp
    have r3:=r2.grow gr
    cases eb:fb L3 S2 with
    | none=>rw [eb] at q2;cases q2
    | some z=>
     obtain⟨flb,L4,S4⟩:=z
     rw [eb] at q2
     refine⟨F3,m2,L3,S2,flb,L4,S4,r3,l3,eb,fun σ4 F4 m4 H4 s4 r4 l4=>?_⟩
     cases flb with
     | nx=>exact⟨vs.length-(i+1),by omega,rfl,hlt,F4,m4,L4,S4,s3.trans s4,r4,l4,q2⟩
     | ct=>exact⟨vs.length-(i+1),by omega,rfl,hlt,F4,m4,L4,S4,s3.trans s4,r4,l4,q2⟩
     | bk=>cases q2;exact k σ4 F4 m4 H4 (s1.trans (s3.trans s4)) r4 l4
     | rt d=>cases q2;exact k σ4 F4 m4 H4 (s1.trans (s3.trans s4)) r4 l4
  ·left
   have e:i=vs.length:=by omega
   subst e
   rw [List.drop_length] at q2
   cases q2
   exact⟨stop,k σ2 F2 m2 H2 (s1.trans s2) r2 l2⟩
theorem zWhile {c:Expr}{n:Nat}{fb:ES}{body:List Stmt} (hp:PassesOwn (model X.prog X.w) X.A X.env X.xe) (hc:PT X c (tQ X.K qa)) (hb:PSs X body (tSt X.K fb)):PS X (.While c body [] pos) (tSt X.K (sWhile n qa fb)):=
 (ps_while hp hc hb).imp' fun D σ H hz=>by
  obtain⟨F,m,L,S,fl,L',S',r,l,q,k⟩:=hz
  refine⟨fun n σ2 H2=>∃F2 m2 L2 S2,Stp F m H F2 m2 H2/\Rel X.K F2 H2 m2 S2/\RL X.K F2 H2 m2 σ2 L2/\whileGo qa fb n L2 S2=some (fl,L',S'),⟨n,F,m,L,S,.refl,r,l,q⟩,?_⟩
  rintro n σ2 H2 ⟨F2,m2,L2,S2,s2,r2,l2,q2⟩
  cases n with
  | zero=>cases q2
  | succ n=>
   obtain⟨c,S3,e3,q3⟩:=bnd_eq (show bnd (qa L2 S2) _=_ from q2)
   refine⟨F2,m2,L2,S2,c,S3,r2,l2,e3,fun F3 m3 H3 s3 r3=>?_⟩
   cases c with
   | false=>
    rw [if_neg Bool.false_ne_true] at q3 ⊢
    cases q3
    exact k σ2 F3 m3 H3 (s2.trans s3) r3 (l2.mono s3)
   | true=>
    rw [if_pos rfl] at q3 ⊢
    cases eb:fb L2 S3 with
    | none=>rw [eb] at q3;cases q3
    | some z=>
     obtain⟨flb,L4,S4⟩:=z
     rw [eb] at q3
     refine⟨fun σ4 H4=>∃m',m' < n+1/\∃F2 m2 L2 S2,Stp F m H F2 m2 H4/\Rel X.K F2 H4 m2 S2/\RL X.K F2 H4 m2 σ4 L2/\whileGo qa fb m' L2 S2=some (fl,L',S'),fun _ _ z=>z,F3,m3,L2,S3,flb,L4,S4,r3,l2.mono s3,eb,fun σ4 F4 m4 H4 s4 r4 l4=>?_⟩
     cases flb with
     | nx=>exact⟨n,Nat.lt_succ_self _,F4,m4,L4,S4,s2.trans (s3.trans s4),r4,l4,q3⟩
     | ct=>exact⟨n,Nat.lt_succ_self _,F4,m4,L4,S4,s2.trans (s3.trans s4),r4,l4,q3⟩
     | bk=>cases q3;exact k σ4 F4 m4 H4 (s2.trans (s3.trans s4)) r4 l4
     | rt d=>cases q3;exact k σ4 F4 m4 H4 (s2.trans (s3.trans s4)) r4 l4
end
theorem Stp.toGrow {F F':Addr->Prop}{m':List Addr}{H H':Hp} (s:Stp F [] H F' m' H') (ft:∀a,F' a->H' a≠none):Grow F H F' H':=
 ⟨fun b o h=>s.oth b o h (by simp),s.frz,fun b h=>by
  rcases s.nf b h with q | q | q
  ·exact .inl q
  ·exact .inr ⟨q,ft b h⟩
  ·simp at q⟩
end Ev
namespace Ev
open PySem PySem.Spec PyProof.Rows L2
theorem noS {α:Prop}{β:Type}{d:β} (h:(none:Option β)=some d):α:=nomatch h
noncomputable def capN (n:Nat):Bool:=decide (n≤1000000)
theorem capN_le {n:Nat} (h:capN n=true):n≤sizeLine:=Nat.le_trans (of_decide_eq_true h) (by decide)
section
variable {X:Cx}
noncomputable def dAdd:P->P->Option P
 | .int i,.int j=>some (.int (i+j))
 | .str x,.str y=>if capN (x.length+y.length)=true then some (.str (x++y)) else none
 | .tup xs,.tup ys=>if (!xs.isEmpty && capN (xs.length+ys.length))=true then some (.tup (xs++ys)) else none
 | .lst xs,.lst ys=>if capN (xs.length+ys.length)=true then some (.lst (xs++ys)) else none
 | _,_=>none
theorem opAdd:OpP X (binaryOp .Add) dAdd:=by
 intro pins s σ H x y v u Q I rx ry h
 obtain⟨F,dx,dy,d,ft,px,py,q,k⟩:=h
 cases dx with
 | int i=>
  cases dy with
  | int j=>
   cases q
   cases (show x=.int i from px);cases (show y=.int j from py)
   exact op_add pins s σ H _ _ v u Q I rx ry ⟨i,j,rfl,rfl,k _ F H .refl rfl⟩
  | _=>exact noS q
 | str i=>
  cases dy with
  | str j=>
   simp only [dAdd] at q
   split at q
   ·rename_i hc
    cases q
    cases (show x=.str i from px);cases (show y=.str j from py)
    exact op_add_str pins s σ H _ _ v u Q I rx ry ⟨i,j,rfl,rfl,capN_le hc,k _ F H .refl rfl⟩
   ·cases q
  | _=>exact noS q
 | tup ds=>
  cases dy with
  | tup es=>
   simp only [dAdd] at q
   split at q
   ·rename_i hc
    rw [Bool.and_eq_true] at hc
    cases q
    obtain⟨a,xs,rfl,ta,ra⟩:=px
    obtain⟨b,ys,rfl,tb,rb⟩:=py
    have la:=ra.length
    have lb:=rb.length
    have nx:xs≠[]:=fun z=>by
     subst z
     have:ds=[]:=List.eq_nil_of_length_eq_zero la
     subst this
     simp at hc
    refine op_catT pins s σ H _ _ v u Q I rx ry ⟨a,b,xs,ys,rfl,rfl,ta.sq,tb.sq,nx,by rw [<- la,<- lb];exact capN_le hc.2,fun z=>?_,fun _ p hp=>?_⟩
    ·subst z
     have e:es=[]:=List.eq_nil_of_length_eq_zero lb
     subst e
     refine k _ F H .refl ?_
     rw [List.append_nil]
     exact⟨a,xs,rfl,ta,ra⟩
    ·exact k _ F _ (grow_new hp) (.newTup hp (ra.append rb))
   ·cases q
  | _=>exact noS q
 | lst ds=>
  cases dy with
  | lst es=>
   simp only [dAdd] at q
   split at q
   ·rename_i hc
    cases q
    obtain⟨a,xs,rfl,ta,ra⟩:=px
    obtain⟨b,ys,rfl,tb,rb⟩:=py
    exact op_cat pins s σ H _ _ v u Q I rx ry ⟨a,b,xs,ys,rfl,rfl,ta.2,tb.2,by rw [<- ra.length,<- rb.length];exact capN_le hc,fun p hp=>k _ _ _ (grow_frz hp) (.newLst hp (ra.append rb))⟩
   ·cases q
  | _=>exact noS q
 | _=>exact noS q
noncomputable def dII (c:Int->Int->Bool) (g:Int->Int->P):P->P->Option P
 | .int i,.int j=>if c i j=true then some (g i j) else none
 | _,_=>none
@[simp] theorem dII_int (c:Int->Int->Bool) (g:Int->Int->P) (i j:Int):dII c g (.int i) (.int j)=if c i j=true then some (g i j) else none:=rfl
theorem opII {f:Value->Value->Sem Value}{C:Int->Int->Prop}{gv:Int->Int->V}{c:Int->Int->Bool}{g:Int->Int->P} (ho:OpR X f (rI C gv)) (hc:∀i j,c i j=true->C i j) (hg:∀K F H i j,RP K F H (g i j) (gv i j)):OpP X f (dII c g):=by
 intro pins s σ H x y v u Q I rx ry h
 obtain⟨F,dx,dy,d,ft,px,py,q,k⟩:=h
 cases dx with
 | int i=>
  cases dy with
  | int j=>
   rw [dII_int] at q
   split at q
   ·rename_i hh
    cases q
    cases (show x=.int i from px);cases (show y=.int j from py)
    exact ho pins s σ H _ _ v u Q I rx ry ⟨i,j,rfl,rfl,hc i j hh,k _ F H .refl (hg _ _ _ _ _)⟩
   ·cases q
  | _=>exact noS q
 | _=>exact noS q
theorem rI_of0 {f:Value->Value->Sem Value}{gv:Int->Int->V} (h:OpR X f (rI0 gv)):OpR X f (rI (fun _ _=>True) gv):=fun pins s σ H x y v u Q I rx ry ⟨i,j,e1,e2,_,q⟩=>h pins s σ H x y v u Q I rx ry ⟨i,j,e1,e2,q⟩
noncomputable abbrev yes2:Int->Int->Bool:=fun _ _=>true
noncomputable abbrev dSub:=dII yes2 fun i j=>.int (i-j)
theorem opSub:OpP X (binaryOp .Sub) dSub:=opII (rI_of0 op_sub) (fun _ _ _=>trivial) fun _ _ _ _ _=>rfl
noncomputable abbrev posDiv:Int->Int->Bool:=fun _ j=>decide (0 < j) && decide (j < 1152921504606846976)
theorem op_fdivG:OpR X (binaryOp .FloorDiv) (rI (fun _ j=>0 < j/\j < 1152921504606846976) fun i j=>.int (i / j)):=opI fun i j _ _ _ _ _ hc q=>by
 have h1:(0:Int) < j:=hc.1
 have h2:j < 1152921504606846976:=hc.2
 have h3:j.natAbs.log2 < 9000:=Nat.lt_of_lt_of_le ((Nat.log2_lt (by omega)).mpr (show j.natAbs < 2 ^ 60 by omega)) (by decide)
 exact floordiv_int (by omega) (by rw [Int.fdiv_eq_ediv_of_nonneg i (by omega)];exact q) (.inl (PyProof.noPylong_of_log2 h3))
noncomputable abbrev dFloor:=dII posDiv fun i j=>.int (i / j)
theorem opFloor:OpP X (binaryOp .FloorDiv) dFloor:=opII op_fdivG (fun i j h=>by rw [Bool.and_eq_true] at h;exact⟨of_decide_eq_true h.1,of_decide_eq_true h.2⟩) fun _ _ _ _ _=>rfl
noncomputable abbrev dMod:=dII (fun _ j=>decide (0 < j)) fun i j=>.int (i % j)
theorem opMod:OpP X (binaryOp .Mod) dMod:=opII op_mod (fun i j h=>of_decide_eq_true h) fun _ _ _ _ _=>rfl
noncomputable abbrev dPow:=dII (fun i j=>decide (0≤j) && decide (j≤1000000) && decide (i.natAbs < 2 ^ 64)) fun i j=>.int (i ^ j.toNat)
theorem opPow:OpP X (binaryOp .Pow) dPow:=opII op_pow (fun i j h=>by simp only [Bool.and_eq_true] at h;exact⟨of_decide_eq_true h.1.1,of_decide_eq_true h.1.2,of_decide_eq_true h.2⟩) fun _ _ _ _ _=>rfl
noncomputable abbrev dLt:=dII yes2 fun i j=>.bl (decide (i < j))
theorem opLt:OpP X (compareOp .Lt) dLt:=opII (rI_of0 op_lt) (fun _ _ _=>trivial) fun _ _ _ _ _=>rfl
noncomputable abbrev dLe:=dII yes2 fun i j=>.bl (decide (i≤j))
theorem opLe:OpP X (compareOp .LtE) dLe:=opII (rI_of0 op_le) (fun _ _ _=>trivial) fun _ _ _ _ _=>rfl
noncomputable abbrev dGt:=dII yes2 fun i j=>.bl (decide (j < i))
theorem opGt:OpP X (compareOp .Gt) dGt:=opII (rI_of0 op_gt) (fun _ _ _=>trivial) fun _ _ _ _ _=>rfl
noncomputable abbrev dGe:=dII yes2 fun i j=>.bl (decide (j≤i))
theorem opGe:OpP X (compareOp .GtE) dGe:=opII (rI_of0 op_ge) (fun _ _ _=>trivial) fun _ _ _ _ _=>rfl
noncomputable def mulOk (i j:Int):Bool:=decide (i.natAbs.log2+j.natAbs.log2 < 100000000)
theorem mulOk_ok {i j:Int} (h:mulOk i j=true):IntMulOk i j:=by
 have h':i.natAbs.log2+j.natAbs.log2 < 100000000:=of_decide_eq_true h
 have b:∀x:Int,Builtin.Int.intBits x≤x.natAbs.log2+1:=fun x=>by
  unfold Builtin.Int.intBits
  split
  ·exact Nat.zero_le _
  ·exact Nat.le_refl _
 exact IntMulOk.of_le (b i) (b j) (by omega)
theorem op_mulG:OpR X (binaryOp .Mult) (rI (fun i j=>IntMulOk i j) fun i j=>.int (i * j)):=opI fun _ _ _ _ _ _ _ hc q=>mul_int q hc
noncomputable def strRep (x:Str) (n:Nat):Str:=⟨(List.replicate n x.cps).foldl (·++·) #[]⟩
theorem strRep_one (x:Str):strRep x 1=x:=by
 unfold strRep
 cases x
 simp
theorem foldl_nil (n:Nat):(List.replicate n (#[]:Array Nat)).foldl (·++·) #[]=#[]:=by
 induction n with
 | zero=>rfl
 | succ n ih=>rw [List.replicate_succ,List.foldl_cons];simpa using ih
theorem strRep_empty (x:Str) (n:Nat) (h:x.length=0):strRep x n=x:=by
 have e:x.cps=#[]:=Array.eq_empty_of_size_eq_zero (by simpa [Str.length] using h)
 unfold strRep
 cases x
 simp only at e
 subst e
 rw [foldl_nil]
theorem foldl_size (a:Array Nat) (n:Nat):∀b:Array Nat,((List.replicate n a).foldl (·++·) b).size=b.size+n * a.size:=by
 induction n with
 | zero=>intro b;simp
 | succ n ih=>intro b;rw [List.replicate_succ,List.foldl_cons,ih,Array.size_append,Nat.succ_mul];omega
theorem strRep_length (x:Str) (n:Nat):(strRep x n).length=n * x.length:=by
 unfold strRep Str.length
 simp only
 rw [foldl_size];simp
noncomputable def dMul:P->P->Option P
 | .int i,.int j=>if mulOk i j=true then some (.int (i * j)) else none
 | .str x,.int n=>if (capN (n.toNat * x.length) && decide (n.natAbs < 1000000))=true then some (.str (strRep x n.toNat)) else none
 | _,_=>none
theorem RPs.rep {K:PySem.W.Frag}{F:Addr->Prop}{H:Hp}{ds:List P}{xs:List V} (h:RPs K F H ds xs):∀k:Nat,RPs K F H (List.replicate k ds).flatten (List.replicate k xs).flatten
 | 0=>rfl
 | k+1=>by
  rw [List.replicate_succ,List.replicate_succ,List.flatten_cons,List.flatten_cons]
  exact h.append (RPs.rep h k)
theorem opMul:OpP X (binaryOp .Mult) dMul:=by
 intro pins s σ H x y v u Q I rx ry h
 obtain⟨F,dx,dy,d,ft,px,py,q,k⟩:=h
 cases dx with
 | int i=>
  cases dy with
  | int j=>
   simp only [dMul] at q
   split at q
   ·rename_i hc
    cases q
    cases (show x=.int i from px);cases (show y=.int j from py)
    exact op_mulG pins s σ H _ _ v u Q I rx ry ⟨i,j,rfl,rfl,mulOk_ok hc,k _ F H .refl rfl⟩
   ·cases q
  | _=>exact noS q
 | str i=>
  cases dy with
  | int n=>
   simp only [dMul] at q
   split at q
   ·rename_i hc
    rw [Bool.and_eq_true] at hc
    have h1:=of_decide_eq_true hc.2
    have h2:n.toNat * i.length≤1000000:=of_decide_eq_true hc.1
    have hn:=line63
    have hz:(1000000:Nat)≤sizeLine:=by decide
    cases q
    cases (show x=.str i from px);cases (show y=.int n from py)
    obtain⟨t,rfl⟩:=rx
    obtain⟨t',rfl⟩:=ry
    refine PySem.P.mul_str (by
      have e1:decide (n < -(2 ^ 63:Int))=false:=decide_eq_false (by omega)
      have e2:decide (n ≥ 2 ^ 63)=false:=decide_eq_false (by omega)
      rw [e1,e2];rfl) (fun a b=>?_) (fun a b=>?_) ?_
    ·intro z
     have hb:((i.length:Nat):Int)≤(2 ^ 63-1) / n:=by
      refine (Int.le_ediv_iff_mul_le (by omega)).mpr ?_
      have e:((i.length:Nat):Int) * n=((n.toNat * i.length:Nat):Int):=by
       rw [Int.natCast_mul,Int.toNat_of_nonneg (by omega),Int.mul_comm]
      rw [e];omega
     omega
    ·unfold Builtin.Str.tooLong
     first
      | exact decide_eq_false (by rw [Nat.mul_comm];omega)
      | (rw [Nat.mul_comm];exact decide_eq_false (by omega))
    ·have key:Q (.str (strRep i n.toNat)) H:=k _ F H .refl rfl
     by_cases c1:n < 1
     ·rw [if_pos c1]
      have e:n.toNat=0:=by omega
      rw [e] at key
      exact⟨by decide,⟨.str Str.empty,H,I.tok _,⟨_,rfl⟩,key⟩⟩
     ·rw [if_neg c1]
      by_cases c2:(n == 1 || i.length == 0)=true
      ·rw [if_pos c2]
       rw [Bool.or_eq_true] at c2
       have e:strRep i n.toNat=i:=by
        rcases c2 with c2 | c2
        ·have:n=1:=by simpa using c2
         subst this;exact strRep_one i
        ·exact strRep_empty i _ (by simpa using c2)
       rw [e] at key
       exact⟨.str i,H,I,⟨_,rfl⟩,key⟩
      ·rw [if_neg c2]
       refine⟨?_,⟨.str (strRep i n.toNat),H,I.tok _,⟨_,rfl⟩,key⟩⟩
       have:=strRep_length i n.toNat
       unfold strRep at this
       rw [this];omega
   ·cases q
  | _=>exact noS q
 | _=>exact noS q
noncomputable def dEq:P->P->Option P
 | .int i,.int j=>some (.bl (decide (i=j)))
 | .str x,.str y=>some (.bl (decide (x=y)))
 | .bl a,.bl b=>some (.bl (decide (a=b)))
 | _,_=>none
noncomputable def dNe:P->P->Option P
 | .int i,.int j=>some (.bl (!decide (i=j)))
 | .str x,.str y=>some (.bl (!decide (x=y)))
 | .bl a,.bl b=>some (.bl (!decide (a=b)))
 | _,_=>none
theorem dec_inj_int {i j:Int}:decide (V.int i=V.int j)=decide (i=j):=by
 by_cases h:i=j
 ·subst h;simp
 ·rw [decide_eq_false h,decide_eq_false fun z=>h (V.int.inj z)]
theorem dec_inj_str {i j:Str}:decide (V.str i=V.str j)=decide (i=j):=by
 by_cases h:i=j
 ·subst h;simp
 ·rw [decide_eq_false h,decide_eq_false fun z=>h (V.str.inj z)]
theorem dec_inj_bl {i j:Bool}:decide (V.bl i=V.bl j)=decide (i=j):=by
 by_cases h:i=j
 ·subst h;simp
 ·rw [decide_eq_false h,decide_eq_false fun z=>h (V.bl.inj z)]
theorem opEq:OpP X (compareOp .Eq) dEq:=by
 intro pins s σ H x y v u Q I rx ry h
 obtain⟨F,dx,dy,d,ft,px,py,q,k⟩:=h
 cases dx with
 | int i=>
  cases dy with
  | int j=>
   cases q
   cases (show x=.int i from px);cases (show y=.int j from py)
   exact op_eq pins s σ H _ _ v u Q I rx ry ⟨rfl,by rw [dec_inj_int];exact k _ F H .refl rfl⟩
  | _=>exact noS q
 | str i=>
  cases dy with
  | str j=>
   cases q
   cases (show x=.str i from px);cases (show y=.str j from py)
   exact op_eq pins s σ H _ _ v u Q I rx ry ⟨rfl,by rw [dec_inj_str];exact k _ F H .refl rfl⟩
  | _=>exact noS q
 | bl i=>
  cases dy with
  | bl j=>
   cases q
   cases (show x=.bl i from px);cases (show y=.bl j from py)
   exact op_eq pins s σ H _ _ v u Q I rx ry ⟨rfl,by rw [dec_inj_bl];exact k _ F H .refl rfl⟩
  | _=>exact noS q
 | _=>exact noS q
theorem opNe:OpP X (compareOp .NotEq) dNe:=by
 intro pins s σ H x y v u Q I rx ry h
 obtain⟨F,dx,dy,d,ft,px,py,q,k⟩:=h
 cases dx with
 | int i=>
  cases dy with
  | int j=>
   cases q
   cases (show x=.int i from px);cases (show y=.int j from py)
   exact op_ne pins s σ H _ _ v u Q I rx ry ⟨rfl,by rw [dec_inj_int];exact k _ F H .refl rfl⟩
  | _=>exact noS q
 | str i=>
  cases dy with
  | str j=>
   cases q
   cases (show x=.str i from px);cases (show y=.str j from py)
   exact op_ne pins s σ H _ _ v u Q I rx ry ⟨rfl,by rw [dec_inj_str];exact k _ F H .refl rfl⟩
  | _=>exact noS q
 | bl i=>
  cases dy with
  | bl j=>
   cases q
   cases (show x=.bl i from px);cases (show y=.bl j from py)
   exact op_ne pins s σ H _ _ v u Q I rx ry ⟨rfl,by rw [dec_inj_bl];exact k _ F H .refl rfl⟩
  | _=>exact noS q
 | _=>exact noS q
theorem atI_len {α β:Type}{xs:List α}{ys:List β}{i:Int}{d:α} (hl:xs.length=ys.length) (h:L2.atI xs i=some d):∃j:Nat,xs[j]? = some d/\∀y,ys[j]? = some y->L2.atI ys i=some y:=by
 unfold L2.atI at h ⊢
 rw [hl] at h
 cases e:ixN ys.length i with
 | none=>rw [e] at h;cases h
 | some j=>rw [e] at h;exact⟨j,h,fun y hy=>hy⟩
theorem RPs.atI {K:PySem.W.Frag}{F:Addr->Prop}{H:Hp}{ds:List P}{xs:List V}{i:Int}{d:P} (r:RPs K F H ds xs) (h:L2.atI ds i=some d):∃x,L2.atI xs i=some x/\RP K F H d x:=by
 obtain⟨j,h1,h2⟩:=atI_len r.length h
 obtain⟨x,e,p⟩:=r.get h1
 exact⟨x,h2 x e,p⟩
theorem RDs.atI {K:PySem.W.Frag}{F:Addr->Prop}{H:Hp}{m:List Addr}{ds:List D}{xs:List V}{i:Int}{d:D} (r:RDs K F H m ds xs) (h:L2.atI ds i=some d):∃x,L2.atI xs i=some x/\RD K F H m d x:=by
 obtain⟨j,h1,h2⟩:=atI_len r.length h
 obtain⟨x,e,p⟩:=r.get h1
 exact⟨x,h2 x e,p⟩
noncomputable def dLook {α:Type} (k:Key):List Key->List α->Option α
 | k'::ks,v::vs=>if k'=k then some v else dLook k ks vs
 | _,_=>none
noncomputable def keyOf:P->Option Key
 | .int i=>some (.inl i)
 | .str x=>some (.inr x)
 | _=>none
noncomputable def dIx:P->P->Option P
 | .tup xs,.int i=>L2.atI xs i
 | .lst xs,.int i=>L2.atI xs i
 | .ro xs,.int i=>L2.atI xs i
 | .str x,.int i=>if capN x.length=true then (L2.atI x.cps.toList i).map fun c=>.str ⟨#[c]⟩ else none
 | .dct ks vs,y=>match keyOf y with
  | some k=>dLook k ks vs
  | none=>none
 | _,_=>none
theorem valV_look {K:PySem.W.Frag}{F:Addr->Prop}{H:Hp}{k:Key}:∀{kvs:List (Key×V)}{ds:List P}{d:P},RPs K F H ds (kvs.map (·.2))->dLook k (kvs.map (·.1)) ds=some d->∃v,valV kvs k=some v/\RP K F H d v
 | [],ds,d,r,h=>by cases ds <;> exact noS h
 | (k',v)::kvs,[],d,r,h=>noS h
 | (k',v)::kvs,d0::ds,d,r,h=>by
  obtain⟨x,xr,e,p,rr⟩:=r
  rw [List.map_cons] at e
  injection e with e1 e2
  simp only [List.map_cons,dLook] at h
  by_cases hk:k'=k
  ·rw [if_pos hk] at h
   cases h
   exact⟨v,valV_pos (p:=(k',v)) hk,by rw [show v=x from e1];exact p⟩
  ·rw [if_neg hk] at h
   rw [<- e2] at rr
   obtain⟨w,h1,h2⟩:=valV_look rr h
   exact⟨w,by rw [valV_neg (p:=(k',v)) hk];exact h1,h2⟩
theorem keyOf_kV {K:PySem.W.Frag}{F:Addr->Prop}{H:Hp}{y:P}{k:Key}{v:V} (h:keyOf y=some k) (r:RP K F H y v):v=kV k:=by
 cases y with
 | int i=>cases h;exact r
 | str x=>cases h;exact r
 | _=>exact noS h
theorem ixDict (hu:X.A.units+1 < cLine):IxR X (fun x y H Q=>∃a v,x=.ref a/\DGet H a y (some v)/\(∃kvs,H a=some (.dK kvs))/\Q v H):=by
 intro value slice pins s σ H x y v u Q I rx ry h hs
 obtain⟨a,w,rfl,g,⟨kvs,hk⟩,q⟩:=h
 cases rx
 have ex:∃o,s.heap.get? a=some o/\o.ExactDict:=by
  obtain⟨_,_,_,_,o,_,_,e,ex,_⟩:=I.hok a _ hk
  exact⟨o,e,ex⟩
 obtain⟨o,e,ex⟩:=ex
 exact tail_any ⟨o,e,ex.1⟩ slot_dict_getitem.lookup (d_getItem hu I g ry fun w' s' I' r'=>⟨w,H,I',r',q⟩) hs
theorem ixP (hu:X.A.units+1 < cLine):IxR X (rP X.K dIx):=by
 intro value slice pins s σ H x y v u Q I rx ry h hs
 obtain⟨F,dx,dy,d,ft,px,py,q,k⟩:=h
 cases dx with
 | tup ds=>
  cases dy with
  | int i=>
   obtain⟨a,xs,rfl,ta,ra⟩:=px
   cases (show y=.int i from py)
   obtain⟨z,e,p⟩:=ra.atI (show L2.atI ds i=some d from q)
   exact ix_tup value slice pins s σ H _ _ v u Q I rx ry ⟨a,xs,i,z,rfl,rfl,ta.sq,e,k z F H .refl p⟩ hs
  | _=>exact noS q
 | lst ds=>
  cases dy with
  | int i=>
   obtain⟨a,xs,rfl,ta,ra⟩:=px
   cases (show y=.int i from py)
   obtain⟨z,e,p⟩:=ra.atI (show L2.atI ds i=some d from q)
   exact ix_list value slice pins s σ H _ _ v u Q I rx ry ⟨a,xs,i,z,rfl,rfl,ta.sq,e,k z F H .refl p⟩ hs
  | _=>exact noS q
 | ro ds=>
  cases dy with
  | int i=>
   obtain⟨a,xs,rfl,ta,ra⟩:=px
   cases (show y=.int i from py)
   obtain⟨z,e,p⟩:=ra.atI (show L2.atI ds i=some d from q)
   exact ix_list value slice pins s σ H _ _ v u Q I rx ry ⟨a,xs,i,z,rfl,rfl,ta.sq,e,k z F H .refl p⟩ hs
  | _=>exact noS q
 | str z=>
  cases dy with
  | int i=>
   cases (show x=.str z from px);cases (show y=.int i from py)
   simp only [dIx] at q
   split at q
   ·rename_i hc
    cases e:L2.atI z.cps.toList i with
    | none=>rw [e] at q;exact noS q
    | some c=>
     rw [e] at q
     cases q
     exact ix_str value slice pins s σ H _ _ v u Q I rx ry ⟨z,i,c,rfl,rfl,capN_le hc,e,k _ F H .refl rfl⟩ hs
   ·cases q
  | _=>exact noS q
 | dct ks ds=>
  obtain⟨a,kvs,rfl,fa,hk,ek,ra⟩:=px
  simp only [dIx] at q
  cases ey:keyOf dy with
  | none=>rw [ey] at q;exact noS q
  | some key=>
   rw [ey] at q
   dsimp only at q
   subst ek
   obtain⟨w,e1,p⟩:=valV_look ra q
   have eyv:=keyOf_kV ey py
   subst eyv
   exact ixDict hu value slice pins s σ H _ _ v u Q I rx ry ⟨a,w,rfl,by rw [<- e1];exact DGet.k hk,⟨kvs,hk⟩,k w F H .refl p⟩ hs
 | _=>exact noS q
theorem xIx {a b:Expr}{fa fb:EV}{pos:Pos} (hu:X.A.units+1 < cLine) (ha:PE X a (tV X.K fa)) (hb:PE X b (tV X.K fb)) (hs:PlainIx b):PE X (.Subscript a b pos) (tV X.K (vOp dIx fa fb)):=
 (pe_ix (ixP hu) ha hb hs).imp' fun _ _ _ h=>tOp_of h
end
end Ev
namespace Ev
open PySem PySem.Spec PyProof.Rows L2
section
variable {X:Cx}
noncomputable def eIx (r:EE) (k:EV):EE:=fun L S=>bnd (r L S) fun d S1=>bnd (k L S1) fun y S2=>match d with
 | .p v=>(dIx v y).map fun z=>(.p z,S2)
 | .ref i=>match S2[i]? with
  | some (.lst ds)=>(match y with
   | .int j=>(L2.atI ds j).map fun z=>(z,S2)
   | _=>none)
  | some (.fz v)=>(dIx v y).map fun z=>(.p z,S2)
  | _=>none
theorem xIxE {a b:Expr}{fa:EE}{fb:EV}{pos:Pos} (hu:X.A.units+1 < cLine) (ha:PE X a (tE X.K fa)) (hb:PE X b (tV X.K fb)) (hs:PlainIx b):PE X (.Subscript a b pos) (tE X.K (eIx fa fb)):=
 (pe_ix ((ixP hu).or ix_list) ha hb hs).imp' fun σ H Q hz=>by
  obtain⟨F,m,L,S,d,S',r,l,q,k⟩:=hz
  obtain⟨x,S1,e1,q⟩:=bnd_eq q
  obtain⟨y,S2,e2,q⟩:=bnd_eq q
  refine⟨F,m,L,S,x,S1,r,l,e1,fun v F1 m1 H1 s1 r1 p1=>?_⟩
  refine⟨F1,m1,L,S1,y,S2,r1,l.mono s1,e2,fun u F2 m2 H2 s2 r2 p2=>?_⟩
  have px:=RD.mono s2 p1
  have pure':∀w:P,RP X.K F2 H2 w v->(dIx w y).map (fun z=>(D.p z,S2))=some (d,S')->rP X.K dIx v u H2 Q:=fun w pw q=>by
   cases eg:dIx w y with
   | none=>rw [eg] at q;cases q
   | some z=>
    rw [eg] at q
    cases q
    exact⟨F2,w,y,z,r2.ft,pw,p2,eg,fun t F3 H3 gr p3=>k t F3 m2 H3 (s1.trans (s2.trans gr.stp)) (r2.grow gr) p3⟩
  cases x with
  | p w=>exact .inl (pure' w px q)
  | ref i=>
   obtain⟨a,rfl,hm⟩:=px
   dsimp only at q
   cases es:S2[i]? with
   | none=>rw [es] at q;cases q
   | some so=>
    rw [es] at q
    have ob:=r2.obj i a so hm es
    cases so with
    | fz w=>exact .inl (pure' w ob q)
    | dct ks vs=>cases q
    | ins _ _ _=>cases q
    | lst ds=>
     dsimp only at q
     cases y with
     | int j=>
      dsimp only at q
      obtain⟨xs,hH,rs⟩:=ob
      cases eg:L2.atI ds j with
      | none=>rw [eg] at q;cases q
      | some z=>
       rw [eg] at q
       cases q
       obtain⟨t,e3,p3⟩:=rs.atI eg
       cases (show u=.int j from p2)
       exact .inr ⟨a,xs,j,t,rfl,rfl,SqL.of hH,e3,k t F2 m2 H2 (s1.trans s2) r2 p3⟩
     | _=>cases q
noncomputable def lenP:P->Option Nat
 | .tup xs=>some xs.length
 | .lst xs=>some xs.length
 | .ro xs=>some xs.length
 | .str x=>if capN x.length=true then some x.length else none
 | _=>none
noncomputable def lenD:D->Sto->Option Nat
 | .p v,_=>lenP v
 | .ref i,S=>match S[i]? with
  | some (.lst ds)=>some ds.length
  | some (.fz v)=>lenP v
  | _=>none
noncomputable def vLen (r:EE):EV:=fun L S=>bnd (r L S) fun d S1=>(lenD d S1).map fun n=>(.int n,S1)
theorem lenP_ok {F:Addr->Prop}{H:Hp}{w:P}{v:V}{n:Nat}{Q:VK} (p:RP X.K F H w v) (h:lenP w=some n) (q:Q (.int n) H) :
  (∃p ys,[v]=[V.ref p]/\(SqL X.K H p ys\/SqT X.K H p ys)/\Q (.int ys.length) H)\/(∃z,[v]=[V.str z]/\z.length≤sizeLine/\Q (.int z.length) H):=by
 cases w with
 | tup ds=>
  obtain⟨a,xs,rfl,ta,ra⟩:=p
  cases h
  exact .inl ⟨a,xs,rfl,.inr ta.sq,by rw [<- ra.length];exact q⟩
 | lst ds=>
  obtain⟨a,xs,rfl,ta,ra⟩:=p
  cases h
  exact .inl ⟨a,xs,rfl,.inl ta.sq,by rw [<- ra.length];exact q⟩
 | ro ds=>
  obtain⟨a,xs,rfl,ta,ra⟩:=p
  cases h
  exact .inl ⟨a,xs,rfl,.inl ta.sq,by rw [<- ra.length];exact q⟩
 | str x=>
  cases (show v=.str x from p)
  simp only [lenP] at h
  split at h
  ·rename_i hc
   cases h
   exact .inr ⟨x,rfl,capN_le hc,q⟩
  ·cases h
 | _=>exact noS h
theorem xLen {e:Expr}{fe:EE}{p pos:Pos} (hg:Gl X "len") (hm:X.mg "len"=none) (he:PE X e (tE X.K fe)) (hs:starEach [e] X.env=[(false,eval e X.env)]:=by rfl):PE X (.Call (.Name "len" p) [e] [] pos) (tV X.K (vLen fe)):=
 (pe_callB (call_len_seq.or call_len_str) hg hm PySem.boot_len (pa_cons he pa_nil (by rw [hs];rfl)) (by decide) (by decide) (by rw [hs];rfl) rfl).imp' fun σ H Q hz=>by
  obtain⟨F,m,L,S,d,S',r,l,q,k⟩:=hz
  obtain⟨x,S1,e1,q⟩:=bnd_eq q
  refine⟨F,m,L,S,x,S1,r,l,e1,fun v F1 m1 H1 s1 r1 p1=>?_⟩
  cases en:lenD x S1 with
  | none=>rw [en] at q;cases q
  | some n=>
   rw [en] at q
   cases q
   have key:Q (.int n) H1:=k _ F1 m1 H1 s1 r1 rfl
   cases x with
   | p w=>exact lenP_ok p1 en key
   | ref i=>
    obtain⟨a,rfl,hm⟩:=p1
    simp only [lenD] at en
    cases es:S'[i]? with
    | none=>rw [es] at en;cases en
    | some so=>
     rw [es] at en
     have ob:=r1.obj i a so hm es
     cases so with
     | fz w=>exact lenP_ok ob en key
     | dct ks vs=>cases en
     | ins _ _ _=>cases en
     | lst ds=>
      cases en
      obtain⟨xs,hH,rs⟩:=ob
      exact .inl ⟨a,xs,rfl,.inl (SqL.of hH),by rw [<- rs.length];exact key⟩
noncomputable def ownL (d:D) (S:Sto):Option (Nat×List D):=match d with
 | .ref i=>match S[i]? with
  | some (.lst ds)=>some (i,ds)
  | _=>none
 | _=>none
theorem ownL_eq {d:D}{S:Sto}{i:Nat}{ds:List D} (h:ownL d S=some (i,ds)):d=.ref i/\S[i]? = some (.lst ds):=by
 unfold ownL at h
 split at h
 ·split at h
  ·rename_i e;cases h;exact⟨rfl,e⟩
  ·cases h
 ·cases h
noncomputable def eAppend (r:EE) (a:EE):EE:=fun L S=>bnd (r L S) fun d S1=>match ownL d S1 with
 | none=>none
 | some _=>bnd (a L S1) fun x S2=>match ownL d S2 with
  | some (i,ds)=>if few ds=true then some (.p .non,S2.set i (.lst (ds++[x]))) else none
  | none=>none
theorem xAppend {o e:Expr}{fo fe:EE}{apos cpos:Pos} (ho:PE X o (tE X.K fo)) (he:PE X e (tE X.K fe)) (hs:starEach [e] X.env=[(false,eval e X.env)]:=by rfl)
  (hbase:attributeBase o "append" X.env (eval o X.env)=eval o X.env:=by rfl) (hline:(apos.endLine == cpos.line)=true:=by rfl):PE X (.Call (.Attribute o "append" apos) [e] [] cpos) (tE X.K (eAppend fo fe)):=
 (pe_bm PySem.F.plainAttrs_list PySem.F.slot_list_append PySem.F.type_list_append mt_append ho (pa_cons he pa_nil (by rw [hs];rfl)) hbase (by rw [hs];rfl) hline (by rw [hs];rfl) rfl).imp' fun σ H Q hz=>by
  obtain⟨F,m,L,S,d,S',r,l,q,k⟩:=hz
  obtain⟨x,S1,e1,q⟩:=bnd_eq q
  refine⟨F,m,L,S,x,S1,r,l,e1,fun v F1 m1 H1 s1 r1 p1=>?_⟩
  cases eo:ownL x S1 with
  | none=>rw [eo] at q;cases q
  | some z=>
   obtain⟨i,ds⟩:=z
   rw [eo] at q
   dsimp only at q
   obtain⟨rfl,es⟩:=ownL_eq eo
   obtain⟨a,rfl,hm⟩:=id p1
   obtain⟨xs,hH,rs⟩:=r1.obj i a _ hm es
   refine⟨.inl ⟨rfl,xs,SqL.of hH⟩,?_⟩
   obtain⟨y,S2,e2,q⟩:=bnd_eq q
   refine⟨F1,m1,L,S1,y,S2,r1,l.mono s1,e2,fun u F2 m2 H2 s2 r2 p2=>?_⟩
   cases eo2:ownL (.ref i) S2 with
   | none=>rw [eo2] at q;cases q
   | some z=>
    obtain⟨i2,ds2⟩:=z
    rw [eo2] at q
    dsimp only at q
    obtain⟨e3,es2⟩:=ownL_eq eo2
    cases e3
    split at q
    ·rename_i hf
     cases q
     obtain⟨a2,e4,hm2⟩:=RD.mono s2 p1
     cases e4
     obtain⟨xs2,hH2,rs2⟩:=r2.obj i a _ hm2 es2
     have hl:=few_le hf
     have hl':xs2.length < sizeLine:=by
      have:ds2.length≤1000000:=of_decide_eq_true hf
      rw [<- rs2.length]
      exact Nat.lt_of_le_of_lt this (by decide)
     have nt:∀zs,H2 a≠some (.tup zs):=fun zs z=>by rw [hH2] at z;cases z
     have st:Stp F2 m2 H2 F2 m2 (upd H2 a (.lst (xs2++[u]))):=stp_set r2 hm2 es2 trivial nt
     refine⟨a,xs2,u,rfl,rfl,hH2,hl',?_⟩
     exact k .non F2 m2 _ (s1.trans (s2.trans st)) (r2.set hm2 es2 trivial nt ⟨_,upd_same,RDs.mono st (rs2.append ⟨u,[],rfl,p2,rfl⟩)⟩) rfl
    ·cases q
noncomputable def ePop (r:EE):EE:=fun L S=>bnd (r L S) fun d S1=>match ownL d S1 with
 | some (i,ds)=>match ds[ds.length-1]? with
  | some x=>some (x,S1.set i (.lst ds.dropLast))
  | none=>none
 | none=>none
theorem RDs.dropLast {K:PySem.W.Frag}{F:Addr->Prop}{H:Hp}{m:List Addr}{ds:List D}{xs:List V} (r:RDs K F H m ds xs):RDs K F H m ds.dropLast xs.dropLast:=by
 rw [List.dropLast_eq_take,List.dropLast_eq_take,r.length]
 exact r.take _
theorem xPop {o:Expr}{fo:EE}{apos cpos:Pos} (ho:PE X o (tE X.K fo))
  (hbase:attributeBase o "pop" X.env (eval o X.env)=eval o X.env:=by rfl) (hline:(apos.endLine == cpos.line)=true:=by rfl):PE X (.Call (.Attribute o "pop" apos) [] [] cpos) (tE X.K (ePop fo)):=
 (pe_bm0 PySem.F.plainAttrs_list PySem.F.slot_list_pop PySem.F.type_list_pop mt_pop ho hbase hline).imp' fun σ H Q hz=>by
  obtain⟨F,m,L,S,d,S',r,l,q,k⟩:=hz
  obtain⟨x,S1,e1,q⟩:=bnd_eq q
  refine⟨F,m,L,S,x,S1,r,l,e1,fun v F1 m1 H1 s1 r1 p1=>?_⟩
  cases eo:ownL x S1 with
  | none=>rw [eo] at q;cases q
  | some z=>
   obtain⟨i,ds⟩:=z
   rw [eo] at q
   dsimp only at q
   obtain⟨rfl,es⟩:=ownL_eq eo
   obtain⟨a,rfl,hm⟩:=id p1
   obtain⟨xs,hH,rs⟩:=r1.obj i a _ hm es
   refine⟨.inl ⟨rfl,xs,SqL.of hH⟩,?_⟩
   cases ex:ds[ds.length-1]? with
   | none=>rw [ex] at q;cases q
   | some y=>
    rw [ex] at q
    cases q
    obtain⟨u,e2,p2⟩:=rs.get ex
    have nt:∀zs,H1 a≠some (.tup zs):=fun zs z=>by rw [hH] at z;cases z
    have st:Stp F1 m1 H1 F1 m1 (upd H1 a (.lst xs.dropLast)):=stp_set r1 hm es trivial nt
    refine⟨a,xs,u,rfl,rfl,hH,by rw [<- rs.length];exact e2,?_⟩
    exact k u F1 m1 _ (s1.trans st) (r1.set hm es trivial nt ⟨_,upd_same,RDs.mono st rs.dropLast⟩) (RD.mono st p2)
noncomputable abbrev EO:=Lc->Sto->Option (Option Int×Sto)
noncomputable def oNone:EO:=fun _ S=>some (none,S)
noncomputable def oSome (a:EV):EO:=fun L S=>bnd (a L S) fun v S1=>match v with
 | .int i=>some (some i,S1)
 | _=>none
noncomputable def tO (K:PySem.W.Frag) (f:EO):TO:=fun σ H Q=>∃F m L S b S',Rel K F H m S/\RL K F H m σ L/\f L S=some (b,S')/\∀F' m' H',Stp F m H F' m' H'->Rel K F' H' m' S'->Q b H'
theorem _root_.L2.PO.imp' {e:Option Expr}{t t':TO} (h:PO X e t) (i:∀σ H Q,t' σ H Q->t σ H Q):PO X e t':=fun pins s σ H Q I q=>h pins s σ H Q I (i σ H Q q)
theorem oNone':PO X none (tO X.K oNone):=po_none.imp' fun σ H Q hz=>by
 obtain⟨F,m,L,S,d,S',r,l,q,k⟩:=hz
 cases q
 exact k F m H .refl r
theorem oSome' {e:Expr}{fa:EV} (h:PE X e (tV X.K fa)):PO X (some e) (tO X.K (oSome fa)):=(po_some h).imp' fun σ H Q hz=>by
 obtain⟨F,m,L,S,d,S',r,l,q,k⟩:=hz
 obtain⟨x,S1,e1,q⟩:=bnd_eq q
 cases x with
 | int i=>cases q;exact⟨F,m,L,S,_,_,r,l,e1,fun v F1 m1 H1 s1 r1 p1=>⟨i,p1,k F1 m1 H1 s1 r1⟩⟩
 | _=>cases q
noncomputable def cut {α:Type} (xs:List α) (lo hi:Option Int):List α:=(xs.drop (HT.sIx xs.length 0 lo)).take (HT.sIx xs.length xs.length hi-HT.sIx xs.length 0 lo)
theorem RPs.cut {K:PySem.W.Frag}{F:Addr->Prop}{H:Hp}{ds:List P}{xs:List V} (r:RPs K F H ds xs) (lo hi:Option Int):RPs K F H (Ev.cut ds lo hi) (cutV xs lo hi):=by
 unfold Ev.cut cutV
 rw [r.length]
 exact (r.drop _).take _
noncomputable def dSl:P->Option Int->Option Int->Option P
 | .lst xs,lo,hi=>some (.lst (cut xs lo hi))
 | .ro xs,lo,hi=>some (.lst (cut xs lo hi))
 | .tup xs,lo,hi=>if HT.sIx xs.length 0 lo=0/\HT.sIx xs.length xs.length hi=xs.length then none else some (.tup (cut xs lo hi))
 | _,_,_=>none
theorem _root_.L2.PI.imp' {tg iter:Expr}{t t':TI} (h:PI X tg iter t) (i:∀σ H R,t' σ H R->t σ H R):PI X tg iter t':=fun pins s σ H R I q=>h pins s σ H R I (i σ H R q)
theorem itl_ok {K:PySem.W.Frag}{F:Addr->Prop}{m:List Addr}{H:Hp}{a:Addr}{vs:List P}{xs:List V} (hs:∀F2 m2 H2,Stp F m H F2 m2 H2->SqL K H2 a xs) (r:RPs K F H vs xs):ItP K (Itl K a) vs F m H:=by
 intro F2 m2 H2 s
 have q:=hs F2 m2 H2 s
 have r2:=RPs.mono s r
 refine⟨fun i v e=>?_,⟨xs,q,by rw [r2.length];exact Nat.le_refl _⟩⟩
 obtain⟨x,e1,p⟩:=r2.get e
 refine⟨⟨xs,x,q,e1⟩,fun y H3 z=>?_⟩
 obtain⟨rfl,z⟩:=z
 have:=z xs q
 rw [e1] at this
 cases this
 exact⟨F2,.refl,p⟩
theorem itt_ok {K:PySem.W.Frag}{F:Addr->Prop}{m:List Addr}{H:Hp}{a:Addr}{vs:List P}{xs:List V} (hs:TupAt K H a xs) (r:RPs K F H vs xs):ItP K (Itt K a) vs F m H:=by
 intro F2 m2 H2 s
 have q:=(hs.kp s.kp).sq
 have r2:=RPs.mono s r
 refine⟨fun i v e=>?_,⟨xs,q,by rw [r2.length];exact Nat.le_refl _⟩⟩
 obtain⟨x,e1,p⟩:=r2.get e
 refine⟨⟨xs,x,q,e1⟩,fun y H3 z=>?_⟩
 obtain⟨rfl,z⟩:=z
 have:=z xs q
 rw [e1] at this
 cases this
 exact⟨F2,.refl,p⟩
noncomputable def intsFrom (lo:Int) (n:Nat):List P:=(List.range n).map fun (i:Nat)=>.int (lo+(i:Int))
noncomputable def itR1 (a:EV):EVs:=fun L S=>bnd (a L S) fun v S1=>match v with
 | .int j=>if decide (j.natAbs < 1000000)=true then some (intsFrom 0 j.toNat,S1) else none
 | _=>none
theorem itr_ok {K:PySem.W.Frag}{F:Addr->Prop}{m:List Addr}{H:Hp}{lo:Int}{n:Nat}:ItP K (Itr lo n) (intsFrom lo n) F m H:=by
 intro F2 m2 H2 s
 have hl:(intsFrom lo n).length=n:=by unfold intsFrom;simp
 refine⟨fun i v e=>?_,by show n≤(intsFrom lo n).length;rw [hl];exact Nat.le_refl _⟩
 have hi:i < n:=by rw [<- hl];exact (List.getElem?_eq_some_iff.mp e).1
 refine⟨hi,fun x H3 z=>?_⟩
 obtain⟨rfl,rfl⟩:=z
 refine⟨F2,.refl,?_⟩
 unfold intsFrom at e
 simp [hi] at e
 subst e
 exact rfl
theorem iR1 {tg a:Expr}{fa:EV}{p pos:Pos} (hg:Gl X "range") (hm:X.mg "range"=none) (ha:PE X a (tV X.K fa)) (hs:starEach [a] X.env=[(false,eval a X.env)]:=by rfl):PI X tg (.Call (.Name "range" p) [a] [] pos) (tI X.K (itR1 fa)):=
 (pi_range1 hg hm (pa_cons ha pa_nil (by rw [hs];rfl)) hs).imp' fun σ H R hz=>by
  obtain⟨F,m,L,S,vs,S',r,l,q,k⟩:=hz
  obtain⟨v,S1,e1,q⟩:=bnd_eq q
  cases v with
  | int j=>
   dsimp only at q
   split at q
   ·rename_i hc
    have hj:j.natAbs < 1000000:=of_decide_eq_true hc
    cases q
    refine⟨F,m,L,S,_,_,r,l,e1,fun x F1 m1 H1 s1 r1 p1=>?_⟩
    cases (show x=.int j from p1)
    exact⟨j,rfl,by omega,by omega,k _ F1 m1 H1 s1 r1 itr_ok⟩
   ·cases q
  | _=>cases q
end
end Ev
namespace Ev
open PySem PySem.Spec PyProof.Rows L2
noncomputable def compGo (g:TGv) (c:EB) (e:EV):List P->Lc->Sto->Option (List P×Sto)
 | [],_,S=>some ([],S)
 | v::r,L,S=>match g v L with
  | none=>none
  | some L1=>bnd (c L1 S) fun k S1=>if k=true then bnd (e L1 S1) fun y S2=>bnd (compGo g c e r L1 S2) fun ys S3=>some (y::ys,S3) else compGo g c e r L1 S1
noncomputable def upL {α:Type} (ts:List Nat) (n:Nat) (L:List (Option α)):List (Option α):=(ts.foldl (fun L i=>L.set i none) L)++List.replicate n none
noncomputable def vComp (it:EVs) (ts:List Nat) (n:Nat) (g:TGv) (c:EB) (e:EV):EV:=fun L S=>bnd (it L S) fun xs S1=>if few xs=true then bnd (compGo g c e xs (upL ts n L) S1) fun ys S2=>some (.lst ys,S2) else none
noncomputable def bYes:EB:=fun _ S=>some (true,S)
theorem foldl_set_len {α:Type} (ts:List Nat):∀L:List (Option α),(ts.foldl (fun L i=>L.set i none) L).length=L.length:=by
 induction ts with
 | nil=>intro L;rfl
 | cons t ts ih=>intro L;rw [List.foldl_cons,ih,List.length_set]
theorem foldl_set_get {α:Type} (ts:List Nat):∀(L:List (Option α)) (i:Nat) (d:α),(ts.foldl (fun L i=>L.set i none) L)[i]? = some (some d)->L[i]? = some (some d)/\i ∉ ts:=by
 induction ts with
 | nil=>intro L i d h;exact⟨h,by simp⟩
 | cons t ts ih=>
  intro L i d h
  rw [List.foldl_cons] at h
  obtain⟨h1,h2⟩:=ih _ _ _ h
  by_cases e:t=i
  ·subst e
   by_cases hl:t < L.length
   ·rw [List.getElem?_set_self hl] at h1;cases h1
   ·rw [List.getElem?_eq_none (by rw [List.length_set];omega)] at h1;cases h1
  ·rw [List.getElem?_set_ne e] at h1
   exact⟨h1,by simp [h2];exact fun z=>e z.symm⟩
theorem upL_len {α:Type} (ts:List Nat) (n:Nat) (L:List (Option α)):(upL ts n L).length=L.length+n:=by
 unfold upL
 rw [List.length_append,foldl_set_len,List.length_replicate]
theorem upL_get {α:Type}{ts:List Nat}{n:Nat}{L:List (Option α)}{i:Nat}{d:α} (h:(upL ts n L)[i]? = some (some d)):L[i]? = some (some d)/\i ∉ ts/\i < L.length:=by
 unfold upL at h
 by_cases hi:i < L.length
 ·rw [List.getElem?_append_left (by rw [foldl_set_len];exact hi)] at h
  obtain⟨h1,h2⟩:=foldl_set_get ts L i d h
  exact⟨h1,h2,hi⟩
 ·rw [List.getElem?_append_right (by rw [foldl_set_len];omega),List.getElem?_replicate] at h
  split at h <;> cases h
theorem RL.up {K:PySem.W.Frag}{F:Addr->Prop}{H:Hp}{m:List Addr}{σ:L2.St}{L:Lc} (l:RL K F H m σ L) (ts:List Nat) (n:Nat):RL K F H m (upL ts n σ) (upL ts n L):=by
 refine⟨by rw [upL_len,upL_len,l.len],fun i d h=>?_⟩
 obtain⟨h1,h2,h3⟩:=upL_get h
 obtain⟨v,e,r⟩:=l.at' i d h1
 refine⟨v,?_,r⟩
 unfold upL
 rw [List.getElem?_append_left (by rw [foldl_set_len,l.len];exact h3)]
 have keep:∀(ts:List Nat) (σ:L2.St),i ∉ ts->σ[i]? = some (some v)->(ts.foldl (fun L i=>L.set i none) σ)[i]? = some (some v):=by
  intro ts
  induction ts with
  | nil=>intro σ _ e;exact e
  | cons t ts ih=>
   intro σ hn e
   rw [List.foldl_cons]
   refine ih _ (fun z=>hn (List.mem_cons_of_mem _ z)) ?_
   rw [List.getElem?_set_ne (fun z=>hn (by rw [z];exact List.mem_cons_self))]
   exact e
 exact keep ts σ h2 e
noncomputable def clOf (scope:Scope) (env:Env):List (Str×Addr):=((scope.names.filter fun x=>x.2 == .free).map fun x=>(x.1,(env.cells.lookup x.1).getD 0)).reverse
noncomputable def inn (X:Cx) (scope:Scope) (N':List Str) (s:Shared) (H:Hp) (C:Addr) (fp:List Addr):Cx:=
 { X with N:=N',s₀:=s,H₀:=H,env:=compEnvC scope (clOf scope X.env) C X.env,outer:=X.stack,ex:=fp,fn:=fun _=>false,pn:=[],xe:=fun _ _=>False }
structure BlockOk (X:Cx) (scope:Scope) (N':List Str) (ts:List Nat) (n:Nat):Prop where
 kind:scope.kind=.function
 cell:∀x ∈ scope.names,x.2≠.cell
 loc:∀x ∈ scope.names,x.2=.local->scope.names.lookup x.1=some .local
 fr:∀x ∈ scope.names,x.2=.free->scope.names.lookup x.1=some .free/\(X.env.kindOf x.1=some .cell\/X.env.kindOf x.1=some .free)
 names:X.N=N'.take X.N.length
 more:N'.length=X.N.length+n
 ts:∀x ∈ scope.names,x.2=.local->∀i:Nat,X.N[i]? = some x.1->i ∈ ts
theorem mem_of_lookup' {α:Type}:∀{l:List (Str×α)}{x:Str}{v:α},l.lookup x=some v->(x,v) ∈ l
 | [],_,_,h=>by simp at h
 | (y,w)::r,x,v,h=>by
  rw [List.lookup_cons] at h
  cases e:x == y with
  | true=>rw [e] at h;cases h;rw [show x=y from by simpa using e];exact List.mem_cons_self
  | false=>rw [e] at h;exact List.mem_cons_of_mem _ (mem_of_lookup' h)
theorem lookup_of_mem {α:Type}:∀{l:List (Str×α)}{x:Str}{v:α},(x,v) ∈ l->∃w,l.lookup x=some w
 | [],_,_,h=>by simp at h
 | (y,w)::r,x,v,h=>by
  rw [List.lookup_cons]
  cases e:x == y with
  | true=>exact⟨w,rfl⟩
  | false=>
   rcases List.mem_cons.mp h with h | h
   ·injection h with h1 _
    subst h1
    simp at e
   ·exact lookup_of_mem h
theorem relabel_kind {scope:Scope}{env:Env}{x:Str}{k:NameKind} (h:(relabel scope env).names.lookup x=some k):∃k0,(x,k0) ∈ scope.names/\(k=k0\/(k=.cell/\k0=.free)):=by
 have h1:=mem_of_lookup' h
 unfold relabel at h1
 obtain⟨⟨n,k0⟩,hm,e⟩:=List.mem_map.mp h1
 by_cases c:(k0 == NameKind.free && env.scope.kind == .function && env.kindOf n == some .cell)=true
 ·have e':(n,NameKind.cell)=(x,k):=by simpa [c] using e
  injection e' with e1 e2
  subst e1
  rw [Bool.and_eq_true,Bool.and_eq_true] at c
  exact⟨k0,hm,.inr ⟨e2.symm,by simpa using c.1.1⟩⟩
 ·have e':(n,k0)=(x,k):=by simpa [c] using e
  injection e' with e1 e2
  subst e1
  exact⟨k0,hm,.inl e2.symm⟩
section
variable {X:Cx}{scope:Scope}{N':List Str}{ts:List Nat}{n:Nat}
theorem BlockOk.cl {pins:List (Addr×Obj)}{σ:L2.St}{H:Hp}{s:Shared} (B:BlockOk X scope N' ts n) (I:Inv X pins σ H s) {x:Str}{c:Addr} (h:(clOf scope X.env).lookup x=some c):X.env.cells.lookup x=some c/\(x,NameKind.free) ∈ scope.names:=by
 have h1:=mem_of_lookup' h
 unfold clOf at h1
 obtain⟨⟨y,k⟩,hm,e⟩:=List.mem_map.mp (List.mem_reverse.mp h1)
 obtain⟨hm,hk⟩:=List.mem_filter.mp hm
 have hk':k=.free:=by simpa using hk
 subst hk'
 injection e with e1 e2
 subst e1
 obtain⟨_,hc⟩:=B.fr _ hm rfl
 obtain⟨c',hc'⟩:=I.ok.has y hc
 dsimp only at e2
 rw [hc'] at e2
 have e2':c'=c:=e2
 subst e2'
 exact⟨hc',hm⟩
theorem BlockOk.has (B:BlockOk X scope N' ts n) {x:Str} (h:(x,NameKind.free) ∈ scope.names):∃c,(clOf scope X.env).lookup x=some c:=by
 unfold clOf
 exact lookup_of_mem (v:=(X.env.cells.lookup x).getD 0) (List.mem_reverse.mpr (List.mem_map.mpr ⟨(x,.free),List.mem_filter.mpr ⟨h,by simp⟩,rfl⟩))
theorem inn_ok {pins:List (Addr×Obj)}{σ:L2.St}{H:Hp}{s:Shared}{C:Addr}{fp:List Addr} (B:BlockOk X scope N' ts n) (I:Inv X pins σ H s) (hC:s.heap.objs.size≤C) (hf:∀b ∈ fp,FpOk X pins H b) (hb:∀b ∈ fp,b < s.heap.objs.size) :
  (inn X scope N' s H C fp).Ok where
 mod:=I.ok.mod
 kind:=B.kind
 glob:=I.ok.glob
 blt:=I.ok.blt
 above:=hC
 inj:=fun x y c h1 h2=>I.ok.inj x y c (B.cl I h1).1 (B.cl I h2).1
 has:=fun x h=>by
  have h':(relabel scope X.env).names.lookup x=some .cell\/(relabel scope X.env).names.lookup x=some .free:=h
  rcases h' with h | h
  ·obtain⟨k0,hm,e | ⟨_,e⟩⟩:=relabel_kind h
   ·subst e;exact absurd rfl (B.cell _ hm)
   ·subst e;exact B.has hm
  ·obtain⟨k0,hm,e | ⟨e,_⟩⟩:=relabel_kind h
   ·subst e;exact B.has hm
   ·cases e
 cab:=fun x c h=>nomatch h
 hd:=I.ok.hd
 frames:=I.ok.frames
 stk:=.inl rfl
 exf:=fun b hb'=>⟨Nat.ne_of_lt (Nat.lt_of_lt_of_le (hb b hb') hC),fun x c h=>(hf b hb').2.2.2.2.1 x c (B.cl I h).1⟩
 bs:=I.bs
 bsz:=Nat.le_trans I.ok.bsz I.sz
 noex:=fun b o e hb'=>by
  rcases (hf b hb').2.2.2.1 with z | z
  ·exact I.ok.noex b o e z
  ·exact absurd (Nat.lt_of_lt_of_le (Heap.lt_size (I.ok.bs b o e).1) z) (Nat.lt_irrefl _)
 exfs:=fun b hb' z=>by
  rcases List.mem_cons.mp (I.stkSub b z) with z | z
  ·exact (hf b hb').2.1 z
  ·exact (hf b hb').2.2.1 z
 funs:=I.stack
 frf:=I.stkFree
theorem _root_.L2.Un.sameBut {fs ex:List Addr}{H H':Hp}{h h1 h2:Heap}{C:Addr} (u:Un fs ex H H' h h1) (sb:Heap.SameBut C h1 h2) (hC:∀b o,h.get? b=some o->b≠C):Un fs ex H H' h h2 where
 keep:=fun b o e n hb hx=>sb.extBut b o (hC b o e) (u.keep b o e n hb hx)
 slot:=fun b o e n hb hx=>by
  obtain⟨sl,q⟩:=u.slot b o e n hb hx
  exact⟨sl,sb.extBut b _ (hC b o e) q⟩
 free:=u.free
 there:=fun b o e hx=>by
  obtain⟨o',q⟩:=u.there b o e hx
  exact⟨o',sb.extBut b _ (hC b o e) q⟩
 tups:=u.tups
 frzs:=u.frzs
 tbls:=u.tbls
theorem _root_.L2.HOk.sameBut {P:Program}{w:World}{H:Hp}{h1 h2:Heap}{C:Addr} (ok:HOk P w H h1) (sb:Heap.SameBut C h1 h2) (hC:H C=none):HOk P w H h2:=fun b u e=>
 (ok b u e).stay (fun c v hc q=>sb.extBut c v (by
  rintro rfl
  rcases hc with z | z
  ·subst z;rw [hC] at e;cases e
  ·rw [hC] at z;cases z) q) (fun _ q=>q) fun _ _ q=>q
inductive PIfs (X:Cx):List Expr->EB->Prop where
 | none:PIfs X [] bYes
 | one {c:Expr}{q:EB}:PT X c (tQ X.K q)->PIfs X [c] q
theorem Kp.bump {F:Addr->Prop}{m:List Addr}{H:Hp}{p:Addr}{o:HO} (hF:¬F p) (ht:∀xs,H p≠some (.tup xs)):Kp F m H F m (upd H p o):=
 ⟨⟨[],by simp⟩,fun _ h=>h,fun b u f h=>by rw [upd_ne (by rintro rfl;exact hF f)];exact h,fun b xs h=>by rw [upd_ne (by rintro rfl;exact ht xs h)];exact h⟩
theorem Stp.bump {F F':Addr->Prop}{m m':List Addr}{H H':Hp}{p:Addr}{o:HO} (s:Stp F m H F' m' H') (hp:H p=none):Stp F m H F' m' (upd H' p o) where
 pre:=s.pre
 oth:=fun b u h hb=>by rw [upd_ne (by rintro rfl;rw [hp] at h;cases h)];exact s.oth b u h hb
 frz:=s.frz
 frk:=fun b u f h=>by rw [upd_ne (by rintro rfl;rw [hp] at h;cases h)];exact s.frk b u f h
 tup:=fun b xs h=>by rw [upd_ne (by rintro rfl;rw [hp] at h;cases h)];exact s.tup b xs h
 trk:=fun b h=>by
  by_cases e:b=p
  ·subst e;rw [upd_same];exact fun z=>nomatch z
  ·rw [upd_ne e];exact s.trk b h
 nf:=s.nf
 nm:=s.nm
theorem Rel.bump {K:PySem.W.Frag}{F:Addr->Prop}{m:List Addr}{H:Hp}{S:Sto}{p:Addr}{o:HO} (r:Rel K F H m S) (hF:¬F p) (hm:p ∉ m) (ht:∀xs,H p≠some (.tup xs)):Rel K F (upd H p o) m S:=
 r.stayK (Kp.bump hF ht) (fun a u ha h=>by rw [upd_ne (by rintro rfl;exact hm ha)];exact h) (fun _ f=>.inl f) fun a f=>by rw [upd_ne (by rintro rfl;exact hF f)];exact r.ft a f
theorem kpF {F:Addr->Prop}{m:List Addr}{H:Hp}{p:Addr}:Kp F m H (fun b=>F b\/b=p) m H:=⟨⟨[],by simp⟩,fun _ h=>.inl h,fun _ _ _ h=>h,fun _ _ h=>h⟩
theorem Stp.addF {F F':Addr->Prop}{m m':List Addr}{H H':Hp}{p:Addr} (s:Stp F m H F' m' H') (hp:H p=none):Stp F m H (fun b=>F' b\/b=p) m' H':=
 ⟨s.pre,s.oth,fun b h=>.inl (s.frz b h),s.frk,s.tup,s.trk,fun b h=>by
  rcases h with h | h
  ·exact s.nf b h
  ·subst h;exact .inr (.inl hp),s.nm⟩
theorem Rel.addF {K:PySem.W.Frag}{F:Addr->Prop}{m:List Addr}{H:Hp}{S:Sto}{p:Addr} (r:Rel K F H m S) (hm:p ∉ m) (hp:H p≠none):Rel K (fun b=>F b\/b=p) H m S where
 len:=r.len
 nd:=r.nd
 obj:=fun i a o e1 e2=>(r.obj i a o e1 e2).kp kpF fun u h=>h
 sep:=fun i a o e1 e2 w f=>by
  rcases f with f | f
  ·exact r.sep i a o e1 e2 w f
  ·subst f;exact hm (List.mem_of_getElem? e1)
 trk:=r.trk
 ft:=fun a f=>by
  rcases f with f | f
  ·exact r.ft a f
  ·subst f;exact hp
theorem _root_.L2.Inv.letGo {pins:List (Addr×Obj)}{σ:L2.St}{H:Hp}{s:Shared}{C:Addr}{h':Heap} (I:Inv X pins σ H s) (sb:Heap.SameBut C s.heap h') (hC:H C=none) (h0:X.s₀.heap.objs.size≤C) (h1:C≠X.env.locals)
  (h2:∀x c,X.env.cells.lookup x=some c->c≠C) (h3:∀p ∈ X.pn++pins,p.1≠C):Inv X pins σ H { s with heap:=h' }:=by
 have ne:∀b:Addr,b ∉ [C]->b≠C:=fun b hb z=>hb (by simp [z])
 refine I.call' (s':={ s with heap:=h' }) (ch:=[C]) rfl ⟨fun b o e _ _ hx=>sb.extBut b o (ne b hx) e,fun b o e _ _ hx=>⟨o.slots,sb.extBut b o (ne b hx) e⟩,fun _ _ _ n _=>n,fun b o e hx=>⟨o,sb.extBut b o (ne b hx) e⟩,fun _ _ q=>q,fun _ _ _ q=>q,fun b ps q=>⟨#[],by rw [q];simp⟩⟩ (I.hok.sameBut sb hC) I.bare fun b hb=>?_
 have e:b=C:=by simpa using hb
 subst e
 exact⟨.inr h0,h1,h2,h3⟩
theorem compLoopT {Pg:Program}{w:World}{A:Around}{R:Result->Shared->Prop}{s:Shared}{elt tg iter:Expr}{ifs:List Expr}{scope:Scope}{pos:Pos}{it acc:Value}{env:Env} (I:Nat->Shared->Prop)
  (turn:∀n s,I n s->wpAny (model Pg w) A (pyNext it) (fun r s1=>match r with
   | none=>R (.ok .next) s1
   | some v=>wpAny (model Pg w) A (letOwnedTupleGo tg it v) (fun _ s2=>wpAny (model Pg w) A (assign tg env v) (fun _ s3=>
     wpAny (model Pg w) A (forIn ifs true fun c r=>if r=true then do let ok <- isTrue c env (eval c env);pure (ForInStep.yield ok) else pure (ForInStep.yield r)) (fun ok s4=>
      if ok=true then wpAny (model Pg w) A (eval elt env) (fun x s5=>
       wpAny (model Pg w) A (call (.builtin "list.append") [acc,x]) (fun _ s6=>∃m,m < n/\I m s6) (notedBy (model Pg w) A env fun e s'=>R (.error e) s') s5) (notedBy (model Pg w) A env fun e s'=>R (.error e) s') s4
      else ∃m,m < n/\I m s4) (notedBy (model Pg w) A env fun e s'=>R (.error e) s') s3) (notedBy (model Pg w) A env fun e s'=>R (.error e) s') s2) (notedBy (model Pg w) A env fun e s'=>R (.error e) s') s1) (notedBy (model Pg w) A env fun e s'=>R (.error e) s') s)
  (n:Nat) (h:I n s):codeAny (model Pg w) A (.compLoop (.ListComp elt [⟨tg,iter,ifs,0⟩] scope pos) 0 it acc env) R s:=by
 refine codeAny_loop rfl I (fun n s hI=>?_) n h
 show wpAny _ A ((compTurn (.ListComp elt [⟨tg,iter,ifs,0⟩] scope pos) 0 it acc env).onRaise (fun x=>do noteFrame x env;theTreesLotGoes x)) _ _ s
 refine wpAny_noted ?_
 rw [compTurn_list]
 refine wpAny_bind (wpAny_standAt (wpAny_bind (wpAny_mono (turn n s hI) (fun r s1 h1=>?_) fun _ _ z=>z)))
 cases r with
 | none=>exact wpAny_pure h1
 | some v=>
  refine wpAny_bind (wpAny_mono h1 (fun _ s2 h2=>wpAny_bind (wpAny_mono h2 (fun _ s3 h3=>wpAny_bind (wpAny_mono h3 (fun ok s4 h4=>?_) fun _ _ z=>z)) fun _ _ z=>z)) fun _ _ z=>z)
  cases ok with
  | false=>exact wpAny_pure ⟨rfl,h4⟩
  | true=>exact wpAny_bind (wpAny_bind (wpAny_mono h4 (fun x s5 h5=>wpAny_bind (wpAny_mono h5 (fun _ s6 h6=>wpAny_pure (wpAny_pure ⟨rfl,h6⟩)) fun _ _ z=>z)) fun _ _ z=>z))
theorem comp_core {elt iter tg:Expr}{ifs:List Expr}{pos p2:Pos}{fi:EVs}{g:TGv}{fc:EB}{fe:EV}{pins:List (Addr×Obj)}{s:Shared}{σ:L2.St}{H:Hp}{use:Option (Value->Sem Unit)}{Q:Value->Shared->Prop}
  {F:Addr->Prop}{m:List Addr}{L:Lc}{S S2:Sto}{d:P}
  (B:BlockOk X scope N' ts n) (hcalm:X.calm=true)
  (hi:PI X tg iter (tI X.K fi)) (hg:∀s H C fp,PG (inn X scope N' s H C fp) tg (gT X.K g)) (hc:∀s H C fp,PIfs (inn X scope N' s H C fp) ifs fc) (he:∀s H C fp,PE (inn X scope N' s H C fp) elt (tV X.K fe))
  (hclos:closureFor scope X.env=pure (clOf scope X.env)) (hs:∀x,foldedSetIterable iter X.env x=pure x)
  (I:Inv X pins σ H s) (r:Rel X.K F H m S) (l:RL X.K F H m σ L) (q:vComp fi ts n g fc fe L S=some (d,S2))
  (fin:∀p F' m' H' sx C,Inv X pins σ H' sx->Stp F m H F' m' H'->Rel X.K F' H' m' S2->RP X.K F' H' d (.ref p)->H' C=none->X.s₀.heap.objs.size≤C->C≠X.env.locals->(∀x c,X.env.cells.lookup x=some c->c≠C)->(∀p ∈ X.pn++pins,p.1≠C) ->
   (∃mC,sx.heap.Ns C mC)->compPost (model X.prog X.w) X.A X.xe use Q (.ref p) C (.ok .next) sx) :
  wpAny (model X.prog X.w) X.A (comprehension (.ListComp elt [⟨tg,iter,ifs,0⟩] scope pos) scope X.env p2 (newList []) false (eval iter X.env) use) Q X.xe s:=by
 obtain⟨vs,S1,e1,q⟩:=bnd_eq q
 split at q
 case isFalse=>cases q
 rename_i hfew
 obtain⟨ys,S2',e2,q⟩:=bnd_eq q
 cases q
 refine wpAny_comprehension_free (use:=use) rfl hs hclos B.kind B.loc (thn (hi pins s σ H _ I ⟨F,m,L,S,vs,S1,r,l,e1,fun J F1 m1 H1 s1 r1 it=>(show (fun J H1=>∃F1 m1,Stp F m H F1 m1 H1/\Rel X.K F1 H1 m1 S1/\ItP X.K J vs F1 m1 H1) J H1 from ⟨F1,m1,s1,r1,it⟩)⟩) fun xv sA hA=>thn hA fun itv s2 h2=>?_)
 obtain⟨it,fp,tn,J,H2,rfl,I2,T,st2,f2,F1,m1,s1,r1,itp⟩:=h2
 have hfp:∀b ∈ fp,b < s2.heap.objs.size:=fun b hb=>by
  obtain⟨o,e,_⟩:=T.obj _ _ st2 b hb
  exact Heap.lt_size e
 refine wpAny_newObj_type ?_ (by show 0≤sizeLine;exact Nat.zero_le _)
 refine wpAny_newFunctionEnv B.cell (by intro y hy;simp at hy) (fun h1 hns1 hsb1=>?_) B.kind
 dsimp only at hns1 hsb1 ⊢
 have hD:H2 s2.heap.objs.size=none:=I2.hok.fresh (Nat.le_refl _)
 generalize hH2:s2.heap.push { cls:=.type "list",dict:=none,data:=.seq ([]:List Value).toArray }=hp2 at hns1 hsb1 ⊢
 have hC:hp2.objs.size=s2.heap.objs.size+1:=by rw [<- hH2,Heap.size_push]
 have hCle:s2.heap.objs.size≤hp2.objs.size:=by rw [hC];exact Nat.le_succ _
 have old:∀b o,s2.heap.get? b=some o->h1.get? b=some o:=fun b o e=>hsb1.extBut b o (Nat.ne_of_lt (Nat.lt_of_lt_of_le (Heap.lt_size e) hCle)) (Heap.get?_push_of_some _ (hH2 ▸ Heap.get?_push_of_some _ e))
 have hDC:s2.heap.objs.size≠hp2.objs.size:=by rw [hC];exact Nat.ne_of_lt (Nat.lt_succ_self _)
 have accO:h1.get? s2.heap.objs.size=some { cls:=.type "list",dict:=none,data:=.seq ([]:List Value).toArray }:=hsb1.extBut _ _ hDC (Heap.get?_push_of_some _ (hH2 ▸ Heap.get?_push_size _ rfl))
 have hCn:H2 hp2.objs.size=none:=I2.hok.fresh hCle
 have hCcell:∀x c,X.env.cells.lookup x=some c->c≠hp2.objs.size:=fun x c e z=>by
  obtain⟨v,o,ho,_⟩:=I2.cell x c e
  exact absurd (Heap.lt_size ho) (Nat.not_lt.mpr (by rw [z];exact hCle))
 have hCloc:hp2.objs.size≠X.env.locals:=Nat.ne_of_gt (Nat.lt_of_lt_of_le I2.lt hCle)
 have hCpin:∀p ∈ X.pn++pins,p.1≠hp2.objs.size:=fun p hp z=>absurd (Heap.lt_size (I2.pin p hp).1) (Nat.not_lt.mpr (by rw [z];exact hCle))
 have I3:Inv (inn X scope N' s2 H2 hp2.objs.size fp) [] (upL ts n σ) (upd H2 s2.heap.objs.size (.lst [])) { s2 with heap:=h1,toks:=s2.toks+([]:List (Str×Value)).length }:=by
  refine⟨inn_ok B I2 hCle f2 hfp,rfl,I2.bare,Un.laid old (Nat.le_refl _) hD,?_,fun x c e=>?_,?_,fun x c e=>?_,fun p hp=>absurd (show p ∈ ([]:List (Addr×Obj)) from hp) (by simp),?_,?_⟩
  ·obtain⟨m0,hn0,hl0⟩:=I2.loc
   refine⟨_,hns1,fun i x v e1 e2 hv=>?_⟩
   obtain⟨h1',h2',h3'⟩:=upL_get e2
   have hlen:σ.length=X.N.length:=I2.len
   have hx:X.N[i]? = some x:=by
    rw [B.names,List.getElem?_take_of_lt (by rw [<- hlen];exact h3')]
    exact e1
   have hv':(relabel scope X.env).names.lookup x=some .local\/(relabel scope X.env).names.lookup x=some .cell\/(relabel scope X.env).names.lookup x=some .free:=hv
   have nl:¬(relabel scope X.env).names.lookup x=some .local:=fun z=>by
    obtain⟨k0,hm,e | ⟨e,_⟩⟩:=relabel_kind z
    ·subst e;exact absurd (B.ts _ hm rfl i hx) h2'
    ·cases e
   have fr:(x,NameKind.free) ∈ scope.names:=by
    rcases hv' with z | z | z
    ·exact absurd z nl
    ·obtain⟨k0,hm,e | ⟨_,e⟩⟩:=relabel_kind z
     ·subst e;exact absurd rfl (B.cell _ hm)
     ·subst e;exact hm
    ·obtain⟨k0,hm,e | ⟨e,_⟩⟩:=relabel_kind z
     ·subst e;exact hm
     ·cases e
   obtain⟨_,hkc⟩:=B.fr _ fr rfl
   have vis:Vis X.env.scope x:=by
    rcases hkc with z | z
    ·exact .inr (.inl z)
    ·exact .inr (.inr z)
   obtain⟨u,ru,lk⟩:=hl0 i x v hx h1' vis
   refine⟨u,ru,.inr ⟨?_,?_⟩⟩
   ·rcases hv' with z | z | z
    ·exact absurd z nl
    ·exact .inl z
    ·exact .inr z
   ·rcases lk with ⟨z,_⟩ | ⟨_,c,ec,ic⟩
    ·rcases hkc with y | y
     ·rw [z] at y;cases y
     ·rw [z] at y;cases y
    ·obtain⟨c',hc'⟩:=B.has fr
     have:=(B.cl I2 hc').1
     rw [ec] at this
     cases this
     obtain⟨o,ho,hd⟩:=ic
     exact⟨c,hc',o,old c o ho,hd⟩
  ·obtain⟨v,o,ho,hd⟩:=I2.cell x c (B.cl I2 e).1
   exact⟨v,o,old c o ho,hd⟩
  ·show upd H2 s2.heap.objs.size (.lst []) hp2.objs.size=none
   rw [upd_ne (Ne.symm hDC)];exact hCn
  ·obtain⟨v,o,ho,hd⟩:=I2.cell x c (B.cl I2 e).1
   rw [upd_ne (Nat.ne_of_lt (Heap.lt_size ho))]
   exact I2.freeC x c (B.cl I2 e).1
  ·exact I2.hok.laid old (Nat.le_refl _) ⟨Nat.zero_le _,[],0,.nil,accO⟩
  ·show (upL ts n σ).length=N'.length
   rw [upL_len,I2.len,B.more]
 have okX:=inn_ok (C:=hp2.objs.size) B I2 hCle f2 hfp
 have fpH:∀{H':Hp},(∀b ∈ fp,H' b=none)->∀b ∈ fp,FpOk (inn X scope N' s2 H2 hp2.objs.size fp) [] H' b:=fun hn b hb=>
  ⟨hn b hb,Nat.ne_of_lt (Nat.lt_of_lt_of_le (hfp b hb) hCle),okX.exfs b hb,.inl hb,(okX.exf b hb).2,fun p hp=>absurd (show p ∈ ([]:List (Addr×Obj)) from hp) (by simp)⟩
 have tn1:tn 0 h1:=T.keep _ _ _ st2 fun b hb o e=>old b o e
 have loop:∀s3:Shared,s3={ s2 with heap:=h1,toks:=s2.toks+([]:List (Str×Value)).length } ->
   codeAny (model X.prog X.w) X.A (.compLoop (.ListComp elt [⟨tg,iter,ifs,0⟩] scope pos) 0 (.ref it) (.ref s2.heap.objs.size) (compEnvC scope (clOf scope X.env) hp2.objs.size X.env))
    (compPost (model X.prog X.w) X.A X.xe use Q (.ref s2.heap.objs.size) hp2.objs.size) s3:=by
  rintro s3 rfl
  refine compLoopT (fun nn sx=>∃(i:Nat) (σ':L2.St) (F':Addr->Prop) (m':List Addr) (H':Hp) (L':Lc) (S':Sto) (acc rest:List P) (xs:List V),
   Inv (inn X scope N' s2 H2 hp2.objs.size fp) [] σ' H' sx/\tn i sx.heap/\(∀b ∈ fp,H' b=none)/\nn=vs.length-i/\i≤vs.length/\Stp F1 m1 H2 F' m' H'/\Rel X.K F' H' m' S'/\RL X.K F' H' m' σ' L' /\
   H' s2.heap.objs.size=some (.lst xs)/\RPs X.K F' H' acc xs/\acc.length≤i/\¬F' s2.heap.objs.size/\s2.heap.objs.size ∉ m'/\compGo g fc fe (vs.drop i) L' S'=some (rest,S2)/\acc++rest=ys) ?_ vs.length ?_
  ·rintro nn sx ⟨i,σ',F',m',H',L',S',acc,rest,xs,I',tn',fr',rfl,hi',st',r',l',hacc,ra,hal,nF,nm,go,rfl⟩
   obtain⟨hgo,hstop⟩:=itp F' m' H' st'
   by_cases hlt:i < vs.length
   ·have hv:vs[i]? = some vs[i]:=by simp [hlt]
    rw [List.drop_eq_getElem_cons hlt] at go
    obtain⟨hgo1,hy⟩:=hgo i _ hv
    refine wpAny_mono (T.item (inn X scope N' s2 H2 hp2.objs.size fp) rfl rfl rfl hcalm i [] sx σ' H' (fun _ _=>False) I' (fpH fr') tn' hgo1) (fun rr sy hr=>?_) (fun _ _ f=>f.elim)
    obtain⟨u,rfl,hr⟩:=hr
    refine wpAny_mono hr (fun _ sz hz=>?_) (fun _ _ f=>f.elim)
    obtain⟨x,H3,I4,rx,yl,tn4,fr4⟩:=hz
    obtain⟨F3,gr,p3⟩:=hy x H3 yl
    have st4:Stp F1 m1 H2 F3 m' H3:=st'.trans gr.stp
    have r4:=r'.grow gr
    have l4:=l'.mono (gr.stp (m:=m'))
    have acc4:=gr.keep _ _ hacc
    have nF4:¬F3 s2.heap.objs.size:=fun z=>by
     rcases gr.nf _ z with z | ⟨z,_⟩
     ·exact nF z
     ·rw [hacc] at z;cases z
    have I4':=I4.pinned (fpH fr4) (T.obj _ _ tn4)
    have back:∀{σ7:L2.St}{H7:Hp}{s7:Shared},Inv (inn X scope N' s2 H2 hp2.objs.size fp) ([]++pinsAt fp sz.heap) σ7 H7 s7->tn (i+1) s7.heap/\∀b ∈ fp,H7 b=none:=fun {σ7 H7 s7} I7=>
     ⟨T.keep _ _ _ tn4 fun b hb o e=>(I7.pin (b,o) (List.mem_append_right _ (List.mem_append_right _ (mem_pinsAt hb e)))).1,fun b hb=>by
      obtain⟨o,e,dd⟩:=T.obj _ _ tn4 b hb
      exact (I7.pin (b,o) (List.mem_append_right _ (List.mem_append_right _ (mem_pinsAt hb e)))).2.1⟩
    unfold compGo at go
    cases eg:g vs[i] L' with
    | none=>rw [eg] at go;cases go
    | some L1=>
     rw [eg] at go
     dsimp only at go
     obtain⟨kk,S5,e5,go⟩:=bnd_eq go
     refine wpAny_mono (hg s2 H2 hp2.objs.size fp _ sz σ' H3 x u (fun σ5 H5=>H5=H3/\RL X.K F3 H3 m' σ5 L1) I4' rx ⟨F3,m',L',vs[i],L1,l4,p3,eg,fun σ5 l5=>⟨rfl,l5⟩⟩) (fun _ s5 h5=>?_) (fun _ _ f=>f.elim)
     obtain⟨σ5,H5,I5,rfl,l5⟩:=h5
     have test:wpAny (model X.prog X.w) X.A (forIn ifs true fun c r=>if r=true then do let ok <- isTrue c (compEnvC scope (clOf scope X.env) hp2.objs.size X.env) (eval c (compEnvC scope (clOf scope X.env) hp2.objs.size X.env));pure (ForInStep.yield ok) else pure (ForInStep.yield r))
       (fun ok s6=>ok=kk/\∃F6 m6 H6,Inv (inn X scope N' s2 H2 hp2.objs.size fp) ([]++pinsAt fp sz.heap) σ5 H6 s6/\Stp F3 m' H5 F6 m6 H6/\Rel X.K F6 H6 m6 S5) (fun _ _=>False) s5:=by
      have hcc:=hc s2 H2 hp2.objs.size fp
      cases hcc with
      | none=>
       cases e5
       exact wpAny_tests_nil ⟨rfl,F3,m',H5,I5,.refl,r4⟩
      | one hq=>
       refine wpAny_tests_one (wpAny_mono (hq _ s5 σ5 H5 (fun b H6=>b=kk/\∃F6 m6,Stp F3 m' H5 F6 m6 H6/\Rel X.K F6 H6 m6 S5) I5 ⟨F3,m',L1,S',kk,S5,r4,l5,e5,fun F6 m6 H6 s6 r6=>⟨rfl,F6,m6,s6,r6⟩⟩) (fun b s6 h6=>?_) fun _ _ f=>f)
       obtain⟨H6,I6,rfl,F6,m6,st6,r6⟩:=h6
       exact⟨rfl,F6,m6,H6,I6,st6,r6⟩
     refine wpAny_mono test (fun ok s6 h6=>?_) (fun _ _ f=>f.elim)
     obtain⟨rfl,F6,m6,H6,I6,st6,r6⟩:=h6
     have acc6:=st6.oth _ _ acc4 nm
     have nm6:s2.heap.objs.size ∉ m6:=fun z=>by
      rcases st6.nm _ z with z | z
      ·exact nm z
      ·rw [acc4] at z;cases z
     have nF6:¬F6 s2.heap.objs.size:=fun z=>by
      rcases st6.nf _ z with z | z | z
      ·exact nF4 z
      ·rw [acc4] at z;cases z
      ·exact nm z
     have ra6:=RPs.mono st6 (ra.grow gr)
     have l6:=l5.mono st6
     cases ok with
     | false=>
      rw [if_neg Bool.false_ne_true] at go ⊢
      obtain⟨t7,f7⟩:=back I6
      exact⟨vs.length-(i+1),by omega,i+1,σ5,F6,m6,H6,L1,S5,acc,rest,xs,I6.pins_of fun p hp=>absurd hp (by simp),t7,f7,rfl,hlt,st4.trans st6,r6,l6,acc6,ra6,Nat.le_succ_of_le hal,nF6,nm6,go,rfl⟩
     | true=>
      rw [if_pos rfl] at go ⊢
      obtain⟨y,S8,e8,go⟩:=bnd_eq go
      obtain⟨zs,S9,e9,go⟩:=bnd_eq go
      cases go
      refine wpAny_mono (he s2 H2 hp2.objs.size fp _ s6 σ5 H6 (fun v8 H8=>∃F8 m8,Stp F6 m6 H6 F8 m8 H8/\Rel X.K F8 H8 m8 S8/\RP X.K F8 H8 y v8) I6 ⟨F6,m6,L1,S5,y,S8,r6,l6,e8,fun v8 F8 m8 H8 s8 r8 p8=>⟨F8,m8,s8,r8,p8⟩⟩) (fun u8 s8 h8=>?_) (fun _ _ f=>f.elim)
      obtain⟨v8,H8,I8,rv8,F8,m8,st8,r8,p8⟩:=h8
      have acc8:=st8.oth _ _ acc6 nm6
      have nm8:s2.heap.objs.size ∉ m8:=fun z=>by
       rcases st8.nm _ z with z | z
       ·exact nm6 z
       ·rw [acc6] at z;cases z
      have nF8:¬F8 s2.heap.objs.size:=fun z=>by
       rcases st8.nf _ z with z | z | z
       ·exact nF6 z
       ·rw [acc6] at z;cases z
       ·exact nm6 z
      have ra8:=RPs.mono st8 ra6
      have nt8:∀zs,H8 s2.heap.objs.size≠some (.tup zs):=fun zs z=>by rw [acc8] at z;cases z
      have hl8:xs.length < sizeLine:=by
       have h9:vs.length≤1000000:=of_decide_eq_true hfew
       rw [<- ra8.length]
       exact Nat.lt_of_lt_of_le (Nat.lt_of_le_of_lt hal hlt) (Nat.le_trans h9 (by decide))
      refine wpAny_mono (mt_append (X:=inn X scope N' s2 H2 hp2.objs.size fp) _ s8 σ5 H8 (.ref s2.heap.objs.size) [v8] (.ref s2.heap.objs.size) [u8] (fun _ H9=>H9=upd H8 s2.heap.objs.size (.lst (xs++[v8]))) I8 rfl (.cons rv8 .nil) ⟨_,xs,v8,rfl,rfl,acc8,hl8,rfl⟩) (fun _ s9 h9=>?_) (fun _ _ f=>f.elim)
      obtain⟨_,H9,I9,_,rfl⟩:=h9
      obtain⟨t9,f9⟩:=back I9
      have kb:Kp F8 m8 H8 F8 m8 (upd H8 s2.heap.objs.size (.lst (xs++[v8]))):=Kp.bump nF8 nt8
      have st9:Stp F1 m1 H2 F8 m8 (upd H8 s2.heap.objs.size (.lst (xs++[v8]))):=(st4.trans (st6.trans st8)).bump hD
      have l9:RL X.K F8 (upd H8 s2.heap.objs.size (.lst (xs++[v8]))) m8 σ5 L1:=⟨l6.len,fun j dd e=>by
       obtain⟨v,e1,rr⟩:=(l6.mono st8).at' j dd e
       exact⟨v,e1,RD.kp kb rr⟩⟩
      exact⟨vs.length-(i+1),by omega,i+1,σ5,F8,m8,_,L1,S8,acc++[y],zs,xs++[v8],I9.pins_of fun p hp=>absurd hp (by simp),t9,f9,rfl,hlt,st9,r8.bump nF8 nm8 nt8,l9,upd_same,
       RPs.kp kb (ra8.append ⟨v8,[],rfl,p8,rfl⟩),by rw [List.length_append];exact Nat.succ_le_succ hal,nF8,nm8,e9,by simp⟩
   ·have e:i=vs.length:=by omega
    subst e
    rw [List.drop_length] at go
    cases go
    refine wpAny_mono (T.done (inn X scope N' s2 H2 hp2.objs.size fp) rfl rfl rfl hcalm vs.length [] sx σ' H' (fun _ _=>False) I' (fpH fr') tn' hstop) (fun rr sy hr=>?_) (fun _ _ f=>f.elim)
    obtain⟨rfl,I5⟩:=hr
    rw [List.append_nil] at *
    have Iout:Inv X pins σ H' sy:=I2.call' (ch:=fp) I5.os I5.base I5.hok I5.bare fun b hb=>⟨(f2 b hb).2.2.2.1,(f2 b hb).2.1,(f2 b hb).2.2.2.2.1,(f2 b hb).2.2.2.2.2⟩
    have hD0:H s2.heap.objs.size=none:=by
     cases q:H s2.heap.objs.size with
     | none=>rfl
     | some o=>exact absurd hD (s1.trk _ (by rw [q];exact fun z=>nomatch z))
    have hCH:H' hp2.objs.size=none:=I5.free
    obtain⟨mC,hmC,_⟩:=I5.loc
    exact fin s2.heap.objs.size (fun b=>F' b\/b=s2.heap.objs.size) m' H' sy hp2.objs.size Iout ((s1.trans st').addF hD0) (r'.addF nm (by rw [hacc];exact fun z=>nomatch z))
     ⟨_,xs,rfl,⟨.inr rfl,hacc⟩,RPs.kp (m:=m') kpF ra⟩ hCH (Nat.le_trans I2.sz hCle) hCloc hCcell hCpin ⟨mC,hmC⟩
  ·exact⟨0,_,F1,m1,_,upL ts n L,S1,[],ys,[],I3,tn1,fun b hb=>by rw [upd_ne (Nat.ne_of_lt (hfp b hb))];exact (f2 b hb).1,rfl,Nat.zero_le _,(grow_new hD).stp,r1.grow (grow_new hD),((l.mono s1).mono (grow_new hD).stp).up ts n,upd_same,rfl,Nat.zero_le _,r1.fresh_F hD,r1.fresh_m hD,by rw [List.drop_zero];exact e2,rfl⟩
 exact codeAny_compStart_list (loop _ rfl) (T.self X.A 0 _ _ _ tn1 (loop _ rfl))
theorem xComp {elt iter tg:Expr}{ifs:List Expr}{pos:Pos}{fi:EVs}{g:TGv}{fc:EB}{fe:EV} (B:BlockOk X scope N' ts n) (hcalm:X.calm=true)
  (hi:PI X tg iter (tI X.K fi)) (hg:∀s H C fp,PG (inn X scope N' s H C fp) tg (gT X.K g)) (hc:∀s H C fp,PIfs (inn X scope N' s H C fp) ifs fc) (he:∀s H C fp,PE (inn X scope N' s H C fp) elt (tV X.K fe))
  (hclos:closureFor scope X.env=pure (clOf scope X.env)) (hs:∀x,foldedSetIterable iter X.env x=pure x:=by intro _;rfl) :
  PE X (.ListComp elt [⟨tg,iter,ifs,0⟩] scope pos) (tV X.K (vComp fi ts n g fc fe)):=by
 intro pins s σ H Q I ⟨F,m,L,S,d,S',r,l,q,k⟩
 rw [eval_ListComp]
 refine comp_core B hcalm hi hg hc he hclos hs I r l q fun p F' m' H' sx C I' st r' rp hC h0 h1 h2 h3 hz=>?_
 obtain⟨mC,hmC⟩:=hz
 exact⟨mC,hmC,fun h' sb=>⟨.ref p,H',I'.letGo sb hC h0 h1 h2 h3,rfl,k _ F' m' H' st r' rp⟩⟩
theorem zComp (i:Nat) {x:Str}{px spos:Pos}{elt iter tg:Expr}{ifs:List Expr}{pos:Pos}{fi:EVs}{g:TGv}{fc:EB}{fe:EV} (hN:X.N.Nodup) (B:BlockOk X scope N' ts n) (hcalm:X.calm=true)
  (hi:PI X tg iter (tI X.K fi)) (hg:∀s H C fp,PG (inn X scope N' s H C fp) tg (gT X.K g)) (hc:∀s H C fp,PIfs (inn X scope N' s H C fp) ifs fc) (he:∀s H C fp,PE (inn X scope N' s H C fp) elt (tV X.K fe))
  (hclos:closureFor scope X.env=pure (clOf scope X.env)) (hsw:swapsWith (.ListComp elt [⟨tg,iter,ifs,0⟩] scope pos) (some (.Name x px)) spos.line X.env=pure true:=by rfl)
  (hs:∀x,foldedSetIterable iter X.env x=pure x:=by intro _;rfl) (hix:X.N[i]? = some x:=by rfl) (hx:Loc X.env.scope x:=by first | exact Or.inl rfl | exact Or.inr rfl)
  (hf:X.fn x=true\/X.env.scope.names.lookup x=some .local:=by first | exact .inl rfl | exact .inr rfl | assumption) :
  PS X (.Assign [.Name x px] (.ListComp elt [⟨tg,iter,ifs,0⟩] scope pos) spos) (tSt X.K (sSet i (eV (vComp fi ts n g fc fe)))):=by
 intro pins s σ H D I ⟨F,m,L,S,fl,L',S',r,l,q,k⟩
 obtain⟨d,S1,e1,q⟩:=bnd_eq q
 cases q
 obtain⟨v,S2,e2,e3⟩:=bnd_eq e1
 cases e3
 rw [exec_Assign_Name_used _ _ _ _ hsw]
 refine wpAny_bind (wpAny_standAt (wpAny_bind ?_))
 show wpAny _ _ (do let _ <- comprehension (.ListComp elt [⟨tg,iter,ifs,0⟩] scope pos) scope X.env _ (newList []) false (eval iter X.env) (some (assign (.Name x px) X.env))) _ _ s
 refine wpAny_bind (wpAny_mono (comp_core (use:=some (assign (.Name x px) X.env)) (Q:=fun _ s'=>SP X pins D .next s') B hcalm hi hg hc he hclos hs I r l e2 fun p F' m' H' sx C I' st r' rp hC h0 h1 h2 h3 hz=>?_) (fun _ s' hq=>wpAny_pure (wpAny_pure hq)) fun _ _ e=>e)
 obtain⟨mC,hmC⟩:=hz
 refine wpAny_assign_Name (store_ok2 I' hN hix hx (v:=.ref p) rfl (fun s' I'' keep=>?_) hf)
 refine⟨mC,?_,fun h' sb=>⟨_,H',I''.letGo sb hC h0 h1 h2 h3,k _ F' m' H' st r' ((l.mono st).set (d:=.p v) rp i)⟩⟩
 obtain⟨a,sbA,ha⟩:=keep
 refine hmC.sameBut sbA ?_
 rcases ha with ha | ha
 ·rw [ha];exact h1
 ·exact Ne.symm (h2 x a ha)
end
end Ev
namespace Ev
open PySem PySem.Spec PyProof.Rows L2
section
variable {X:Cx}{a b e:Expr}{es:List Expr}{fa fb:EV}{fs:EVs}{pos p:Pos}
noncomputable def dNeg:P->Option P
 | .int i=>some (.int (-i))
 | _=>none
theorem xNeg (ha:PE X a (tV X.K fa)):PE X (.UnaryOp .USub a pos) (tV X.K (vUn dNeg fa)):=(pe_un un_neg ha).imp' fun σ H Q hz=>by
 obtain⟨F,m,L,S,d,S',r,l,q,k⟩:=hz
 obtain⟨x,S1,e1,q⟩:=bnd_eq q
 cases x with
 | int i=>cases q;exact⟨F,m,L,S,_,_,r,l,e1,fun v F' m' H' s r' p=>⟨i,p,k _ F' m' H' s r' rfl⟩⟩
 | _=>cases q
noncomputable def tyN:P->String
 | .non=>"NoneType"
 | .bl _=>"bool"
 | .int _=>"int"
 | .str _=>"str"
 | .tup _=>"tuple"
 | .lst _=>"list"
 | .ro _=>"list"
 | .dct _ _=>"dict"
noncomputable def isiP (T:String) (v:P):Bool:=tyN v == T || (T == "int" && tyN v == "bool")
theorem call_isi {T:String} (hT:∀K:PySem.W.Frag,∀v:P,PySem.W.kitOne K (.type (tyN v)) (.type T)=some (isiP T v)) :
  CallR X (.builtin "isinstance") (fun xs H Q=>∃F d x,xs=[x,.ty T]/\RP X.K F H d x/\Q (.bl (isiP T d)) H):=by
 intro pins s σ H xs us Q I r h
 obtain⟨F,d,x,rfl,pd,q⟩:=h
 obtain⟨u,w',rfl,ru,rw'⟩:=vals2 r
 cases (show w'=Value.type T from rw')
 have e:=hT X.K d
 have fin:∀tk,EP X pins σ Q (.bool (isiP T d)) { s with toks:=tk }:=fun tk=>⟨.bl (isiP T d),H,I.tok _,rfl,q⟩
 cases d with
 | non=>cases (show x=.non from pd);exact isinst_ok I ru (.non) e fin
 | bl y=>cases (show x=.bl y from pd);exact isinst_ok I ru (.bl y) e fin
 | int y=>cases (show x=.int y from pd);exact isinst_ok I ru (.int y) e fin
 | str y=>cases (show x=.str y from pd);exact isinst_ok I ru (.str y) e fin
 | tup ds=>
  obtain⟨a,xs,rfl,ta,ra⟩:=pd
  cases ru
  obtain⟨its,_,⟨o,h1,h2,_⟩,_⟩:=I.tuple ta.sq
  exact PySem.W.kia_one PySem.W.kitx_tuple I.kIn ⟨o,h1,h2⟩ e (fun z=>nomatch z) fin
 | lst ds=>
  obtain⟨a,xs,rfl,ta,ra⟩:=pd
  cases ru
  obtain⟨its,_,pl,_⟩:=I.list ta.sq
  obtain⟨o,n,h1,h2,_⟩:=pl
  exact PySem.W.kia_one PySem.W.kitx_list I.kIn ⟨o,h1,h2⟩ e (fun z=>nomatch z) fin
 | ro ds=>
  obtain⟨a,xs,rfl,ta,ra⟩:=pd
  cases ru
  obtain⟨its,_,pl,_⟩:=I.list ta.sq
  obtain⟨o,n,h1,h2,_⟩:=pl
  exact PySem.W.kia_one PySem.W.kitx_list I.kIn ⟨o,h1,h2⟩ e (fun z=>nomatch z) fin
 | dct ks vs=>
  obtain⟨a,kvs,rfl,_,hk,_⟩:=pd
  exact isinst_ok I ru (.dK hk) e fin
theorem kit_int (K:PySem.W.Frag) (v:P):PySem.W.kitOne K (.type (tyN v)) (.type "int")=some (isiP "int" v):=by cases v <;> rfl
theorem kit_bool (K:PySem.W.Frag) (v:P):PySem.W.kitOne K (.type (tyN v)) (.type "bool")=some (isiP "bool" v):=by cases v <;> rfl
theorem kit_tuple (K:PySem.W.Frag) (v:P):PySem.W.kitOne K (.type (tyN v)) (.type "tuple")=some (isiP "tuple" v):=by cases v <;> rfl
theorem kit_str (K:PySem.W.Frag) (v:P):PySem.W.kitOne K (.type (tyN v)) (.type "str")=some (isiP "str" v):=by cases v <;> rfl
noncomputable def c_max:List P->Option P
 | [.int i,.int j]=>some (.int (if j > i then j else i))
 | _=>none
noncomputable def c_min:List P->Option P
 | [.int i,.int j]=>some (.int (if j < i then j else i))
 | _=>none
noncomputable def c_int:List P->Option P
 | [.int i]=>some (.int i)
 | [.bl b]=>some (.int (if b then 1 else 0))
 | _=>none
theorem rps2 {K:PySem.W.Frag}{F:Addr->Prop}{H:Hp}{d d':P}{xs:List V} (r:RPs K F H [d,d'] xs):∃x y,xs=[x,y]/\RP K F H d x/\RP K F H d' y:=by
 obtain⟨x,r1,rfl,p1,r2⟩:=r
 obtain⟨y,r3,rfl,p2,r4⟩:=r2
 cases (show r3=[] from r4)
 exact⟨x,y,rfl,p1,p2⟩
theorem rps1 {K:PySem.W.Frag}{F:Addr->Prop}{H:Hp}{d:P}{xs:List V} (r:RPs K F H [d] xs):∃x,xs=[x]/\RP K F H d x:=by
 obtain⟨x,r1,rfl,p1,r2⟩:=r
 cases (show r1=[] from r2)
 exact⟨x,rfl,p1⟩
theorem callMax (hc:X.calm=true):CallR X (.builtin "max") (rC X.K c_max):=by
 intro pins s σ H xs us Q I r h
 obtain⟨F,ds,d,ft,rs,q,k⟩:=h
 unfold c_max at q
 split at q
 ·cases q
  obtain⟨x,y,rfl,p1,p2⟩:=rps2 rs
  exact call_max2 hc pins s σ H _ us Q I r ⟨_,_,by rw [show x=_ from p1,show y=_ from p2],k _ F H .refl rfl⟩
 ·cases q
theorem callMin (hc:X.calm=true):CallR X (.builtin "min") (rC X.K c_min):=by
 intro pins s σ H xs us Q I r h
 obtain⟨F,ds,d,ft,rs,q,k⟩:=h
 unfold c_min at q
 split at q
 ·cases q
  obtain⟨x,y,rfl,p1,p2⟩:=rps2 rs
  exact call_min2 hc pins s σ H _ us Q I r ⟨_,_,by rw [show x=_ from p1,show y=_ from p2],k _ F H .refl rfl⟩
 ·cases q
theorem callInt:CallR X (.type "int") (rC X.K c_int):=by
 intro pins s σ H xs us Q I r h
 obtain⟨F,ds,d,ft,rs,q,k⟩:=h
 unfold c_int at q
 split at q
 ·cases q
  obtain⟨x,rfl,p1⟩:=rps1 rs
  exact call_int1 pins s σ H _ us Q I r (.inl ⟨_,by rw [show x=_ from p1],k _ F H .refl rfl⟩)
 ·cases q
  obtain⟨x,rfl,p1⟩:=rps1 rs
  exact call_int1 pins s σ H _ us Q I r (.inr ⟨_,by rw [show x=_ from p1],k _ F H .refl rfl⟩)
 ·cases q
theorem x_max (hg:Gl X "max") (hm:X.mg "max"=none) (ha:PA X (e::es) (tVs X.K fs)) (hc:X.calm=true:=by rfl)
  (he:starEach (e::es) X.env=(false,eval e X.env)::starEach es X.env:=by rfl) (hpl:(backTo pos (starEach es X.env)).any (·.1)=false:=by rfl):PE X (.Call (.Name "max" p) (e::es) [] pos) (tV X.K (vCall c_max fs)):=xCallB (callMax hc) hg hm PyProof.Rows.boot_max ha (by decide) (by decide) he hpl
theorem x_min (hg:Gl X "min") (hm:X.mg "min"=none) (ha:PA X (e::es) (tVs X.K fs)) (hc:X.calm=true:=by rfl)
  (he:starEach (e::es) X.env=(false,eval e X.env)::starEach es X.env:=by rfl) (hpl:(backTo pos (starEach es X.env)).any (·.1)=false:=by rfl):PE X (.Call (.Name "min" p) (e::es) [] pos) (tV X.K (vCall c_min fs)):=xCallB (callMin hc) hg hm PyProof.Rows.boot_min ha (by decide) (by decide) he hpl
noncomputable def eDict:EE:=fun _ S=>some (.ref S.length,S++[.dct [] []])
theorem xDictE:PE X (.Dict [] [] pos) (tE X.K eDict):=pe_dnewK.imp' fun σ H Q hz=>by
 obtain⟨F,m,L,S,d,S',r,l,q,k⟩:=hz
 cases q
 intro p hp
 refine k (.ref p) F (m++[p]) _ (stp_own hp) (r.own hp ⟨[],upd_same,rfl,rfl⟩) ⟨p,rfl,?_⟩
 rw [<- r.len,List.getElem?_append_right (Nat.le_refl _)];simp
noncomputable def dPut (k:Key) (v:D):List Key->List D->List Key×List D
 | k'::ks,w::ws=>if k'=k then (k'::ks,v::ws) else (k'::(dPut k v ks ws).1,w::(dPut k v ks ws).2)
 | _,_=>([k],[v])
noncomputable def ownD (d:D) (S:Sto):Option (Nat×List Key×List D):=match d with
 | .ref i=>match S[i]? with
  | some (.dct ks vs)=>some (i,ks,vs)
  | _=>none
 | _=>none
theorem ownD_eq {d:D}{S:Sto}{i:Nat}{ks:List Key}{vs:List D} (h:ownD d S=some (i,ks,vs)):d=.ref i/\S[i]? = some (.dct ks vs):=by
 unfold ownD at h
 split at h
 ·split at h
  ·rename_i e;cases h;exact⟨rfl,e⟩
  ·cases h
 ·cases h
noncomputable def sPut (o:EE) (k v:EV):ES:=fun L S=>bnd (v L S) fun y S1=>bnd (o L S1) fun d S2=>bnd (k L S2) fun z S3=>match ownD d S3,keyOf z with
 | some (i,ks,vs),some key=>if (ks.Nodup/\few ks=true) then some (.nx,L,S3.set i (.dct (dPut key (.p y) ks vs).1 (dPut key (.p y) ks vs).2)) else none
 | _,_=>none
theorem putK_dPut {K:PySem.W.Frag}{F:Addr->Prop}{H:Hp}{m:List Addr}{k:Key}{y:D}{u:V} (hu:RD K F H m y u):∀{kvs:List (Key×V)}{ds:List D},(kvs.map (·.1)).Nodup->RDs K F H m ds (kvs.map (·.2)) ->
  (putK kvs k u).map (·.1)=(dPut k y (kvs.map (·.1)) ds).1/\RDs K F H m (dPut k y (kvs.map (·.1)) ds).2 ((putK kvs k u).map (·.2))
 | [],ds,_,r=>by
  have:ds=[]:=List.eq_nil_of_length_eq_zero r.length
  subst this
  exact⟨rfl,u,[],rfl,hu,rfl⟩
 | (k',w)::kvs,[],_,r=>by have:=r.length;simp at this
 | (k',w)::kvs,d::ds,nd,r=>by
  obtain⟨x,xr,e,p1,p2⟩:=r
  rw [List.map_cons] at e nd
  injection e with e1 e2
  subst e1;subst e2
  obtain⟨nd1,nd2⟩:=List.nodup_cons.mp nd
  simp only [List.map_cons,dPut]
  by_cases hk:k'=k
  ·subst hk
   rw [if_pos rfl]
   have e3:putK ((k',w)::kvs) k' u=(k',u)::kvs:=by
    unfold putK
    rw [if_pos (by simp)]
    rw [List.map_cons,if_pos rfl]
    congr 1
    have:∀l:List (Key×V),k' ∉ l.map (·.1)->l.map (fun kv=>if kv.1=k' then (kv.1,u) else kv)=l:=by
     intro l
     induction l with
     | nil=>intro _;rfl
     | cons q l ih=>
      intro hn
      rw [List.map_cons] at hn
      have h1:¬q.1=k':=fun z=>hn (by rw [<- z];exact List.mem_cons_self)
      rw [List.map_cons,if_neg h1,ih fun z=>hn (List.mem_cons_of_mem _ z)]
    exact this kvs nd1
   rw [e3]
   exact⟨rfl,u,_,rfl,hu,p2⟩
  ·rw [if_neg hk]
   obtain⟨i1,i2⟩:=putK_dPut hu nd2 p2
   have e3:putK ((k',w)::kvs) k u=(k',w)::putK kvs k u:=by
    unfold putK
    rw [List.any_cons,decide_eq_false (show ¬(k',w).1=k from hk),Bool.false_or]
    by_cases c:(kvs.any fun kv=>decide (kv.1=k))=true
    ·rw [if_pos c,if_pos c,List.map_cons,if_neg (show ¬(k',w).1=k from hk)]
    ·rw [if_neg c,if_neg c];rfl
   rw [e3,List.map_cons,List.map_cons,i1]
   exact⟨rfl,w,_,rfl,p1,i2⟩
theorem zPut {o i value:Expr}{fo:EE}{fk fv:EV}{pos':Pos} (hu:X.A.units+1 < cLine) (ho:PE X o (tE X.K fo)) (hi:PE X i (tV X.K fk)) (hv:PE X value (tV X.K fv)) (hs:swapsWith value (some (.Subscript o i pos')) pos.line X.env=pure false:=by rfl) :
  PS X (.Assign [.Subscript o i pos'] value pos) (tSt X.K (sPut fo fk fv)):=(ps_dput hu ho hi hv hs).imp' fun D σ H hz=>by
 obtain⟨F,m,L,S,fl,L',S',r,l,q,k⟩:=hz
 obtain⟨y,S1,e1,q⟩:=bnd_eq q
 obtain⟨d,S2,e2,q⟩:=bnd_eq q
 obtain⟨z,S3,e3,q⟩:=bnd_eq q
 refine⟨F,m,L,S,y,S1,r,l,e1,fun v F1 m1 H1 s1 r1 p1=>?_⟩
 refine⟨F1,m1,L,S1,d,S2,r1,l.mono s1,e2,fun x F2 m2 H2 s2 r2 p2=>?_⟩
 refine⟨F2,m2,L,S2,z,S3,r2,(l.mono s1).mono s2,e3,fun w F3 m3 H3 s3 r3 p3=>?_⟩
 cases eo:ownD d S3 with
 | none=>rw [eo] at q;cases q
 | some t=>
  obtain⟨j,ks,vs⟩:=t
  rw [eo] at q
  cases ek:keyOf z with
  | none=>rw [ek] at q;cases q
  | some key=>
   rw [ek] at q
   dsimp only at q
   split at q
   ·rename_i hc
    cases q
    obtain⟨rfl,es⟩:=ownD_eq eo
    obtain⟨a,rfl,hm⟩:=RD.mono s3 p2
    obtain⟨kvs,hH,hk,rs⟩:=r3.obj j a _ hm es
    subst hk
    have pv:RD X.K F3 H3 m3 (.p y) v:=RD.mono s3 (RD.mono s2 (show RD X.K F1 H1 m1 (.p y) v from p1))
    obtain⟨h1,h2⟩:=putK_dPut (k:=key) pv hc.1 rs
    cases (keyOf_kV ek p3)
    have nt:∀zs,H3 a≠some (.tup zs):=fun zs z=>by rw [hH] at z;cases z
    have st:Stp F3 m3 H3 F3 m3 (upd H3 a (.dK (putK kvs key v))):=stp_set r3 hm es trivial nt
    have hl:kvs.length < sizeLine:=by
     have h9:(kvs.map (·.1)).length≤1000000:=of_decide_eq_true hc.2
     rw [List.length_map] at h9
     exact Nat.lt_of_le_of_lt h9 (by decide)
    refine⟨a,_,rfl,DPut.k hH hl,?_⟩
    exact k σ F3 m3 _ (s1.trans (s2.trans (s3.trans st))) (r3.set hm es trivial nt ⟨_,upd_same,h1,RDs.mono st h2⟩) (((l.mono s1).mono s2).mono (s3.trans st))
   ·cases q
end
end Ev
namespace Ev
open PySem PySem.Spec PyProof.Rows L2
section
variable {X:Cx}{a b c e:Expr}{es:List Expr}{fa fb fc:EV}{fs:EVs}{pos p:Pos}
noncomputable def intsOf:List P->Option (List Int)
 | []=>some []
 | .int i::r=>(intsOf r).map (i::·)
 | _::_=>none
noncomputable def dEqD:P->P->Option P
 | .dct ks vs,.dct ks' vs'=>if ks=ks'/\ks.Nodup/\(intsOf vs).isSome=true/\intsOf vs=intsOf vs' then some (.bl true) else none
 | x,y=>dEq x y
theorem valueAt_cons_ne {k k':Key}{v:Value}{r:List (Key×Value)} (h:¬k'=k):valueAt ((k',v)::r) k=valueAt r k:=by simp [valueAt,List.find?_cons,h]
theorem valueAt_cons_eq {k:Key}{v:Value}{r:List (Key×Value)}:valueAt ((k,v)::r) k=some v:=by simp [valueAt,List.find?_cons]
theorem keq_hits {K:PySem.W.Frag}{F:Addr->Prop}{H:Hp}{A:Around}{s:Shared}:∀{kvs kvs':List (Key×V)}{ws ws':List (Key×Value)}{ds ds':List P}{is:List Int},(kvs.map (·.1)).Nodup->kvs.map (·.1)=kvs'.map (·.1)->KV kvs ws->KV kvs' ws' ->
  RPs K F H ds (kvs.map (·.2))->RPs K F H ds' (kvs'.map (·.2))->intsOf ds=some is->intsOf ds'=some is->∀{kb:List (Key×Value)},(∀k v,valueAt ws' k=some v->k ∈ kvs'.map (·.1)->valueAt kb k=some v)->PySem.W.KeqHits A s kb ws true
 | [],[],ws,ws',ds,ds',is,nd,e,k1,k2,r1,r2,i1,i2,kb,hk=>by cases k1;exact .nil
 | [],_::_,_,_,_,_,_,_,e,_,_,_,_,_,_,_,_=>by simp at e
 | _::_,[],_,_,_,_,_,_,e,_,_,_,_,_,_,_,_=>by simp at e
 | (k,v)::kvs,(k',v')::kvs',ws,ws',ds,ds',is,nd,e,k1,k2,r1,r2,i1,i2,kb,hk=>by
  cases k1 with
  | @cons _ q _ qs h1 t1=>
   cases k2 with
   | @cons _ q' _ qs' h2 t2=>
    obtain⟨kq,u⟩:=q
    obtain⟨kq',u'⟩:=q'
    obtain⟨e1,rv⟩:=h1
    obtain⟨e2,rv'⟩:=h2
    dsimp only at e1 e2 rv rv'
    subst e1;subst e2
    rw [List.map_cons,List.map_cons] at e
    injection e with ek er
    dsimp only at ek
    subst ek
    rw [List.map_cons] at nd
    obtain⟨nd1,nd2⟩:=List.nodup_cons.mp nd
    cases ds with
    | nil=>have:=RPs.length r1;simp at this
    | cons d dr=>
     cases ds' with
     | nil=>have:=RPs.length r2;simp at this
     | cons d' dr'=>
      obtain⟨x,xr,ex,p1,q1⟩:=r1
      obtain⟨x',xr',ex',p1',q1'⟩:=r2
      rw [List.map_cons] at ex ex'
      injection ex with exa exb
      injection ex' with exa' exb'
      subst exa exb exa' exb'
      cases d with
      | int i=>
       cases d' with
       | int i'=>
        simp only [intsOf] at i1 i2
        cases ei:intsOf dr with
        | none=>rw [ei] at i1;cases i1
        | some js=>
         cases ei':intsOf dr' with
         | none=>rw [ei'] at i2;cases i2
         | some js'=>
          rw [ei] at i1;rw [ei'] at i2
          cases i1
          have i2':i'::js'=i::js:=Option.some.inj i2
          injection i2' with z1 z2
          subst z1;subst z2
          cases (show v=.int i' from p1)
          cases (show v'=.int i' from p1')
          obtain⟨t,rfl⟩:=rv
          obtain⟨t',rfl⟩:=rv'
          have hy:valueAt kb k=some (.int i' t'):=hk k _ valueAt_cons_eq (by simp)
          have eqa:SeqAt.EqAt A s (.int i' t) (.int i' t') true:=by
           have:=SeqAt.EqAt.int_int (A:=A) (s:=s) i' t i' t'
           simpa using this
          have rest:=keq_hits (A:=A) (s:=s) nd2 er t1 t2 q1 q1' ei ei' (kb:=kb) fun k2 v2 hv hm=>by
           refine hk k2 v2 ?_ (List.mem_cons_of_mem _ hm)
           have:¬k=k2:=fun z=>by subst z;rw [<- er] at hm;exact nd1 hm
           rw [valueAt_cons_ne this];exact hv
          have:=PySem.W.KeqHits.hit (e:=true) (b:=true) hy eqa rest
          exact this
       | _=>simp [intsOf] at i2
      | _=>simp [intsOf] at i1
theorem opEqD (hu:X.A.units+1 < cLine):OpP X (compareOp .Eq) dEqD:=by
 intro pins s σ H x y v u Q I rx ry h
 obtain⟨F,dx,dy,d,ft,px,py,q,k⟩:=h
 have other:dEq dx dy=some d->wpAny (model X.prog X.w) X.A (compareOp .Eq v u) (EP X pins σ Q) X.xe s:=fun q=>opEq pins s σ H x y v u Q I rx ry ⟨F,dx,dy,d,ft,px,py,q,k⟩
 cases dx with
 | dct ks vs=>
  cases dy with
  | dct ks' vs'=>
   simp only [dEqD] at q
   split at q
   ·rename_i hc
    cases q
    obtain⟨ek,nd,hs,hi⟩:=hc
    obtain⟨a,kvs,rfl,fa,hka,e1,ra⟩:=px
    obtain⟨b,kvs',rfl,fb,hkb,e2,rb⟩:=py
    cases rx;cases ry
    obtain⟨za,ha,ws,relA,da⟩:=dk_of I.hok hka
    obtain⟨zb,hb,ws',relB,db⟩:=dk_of I.hok hkb
    obtain⟨is,his⟩:=Option.isSome_iff_exists.mp hs
    subst e1
    have hits:=keq_hits (A:=X.A.in1) (s:=s) nd (by rw [e2];exact ek) relA relB ra rb his (by rw [<- hi];exact his) (kb:=ws') fun _ _ h _=>h
    refine PySem.W.keq_eq ha hb da db (by omega) (fun _=>hits) ?_
    have hl:ws.length=ws'.length:=by
     have l1:=relA.length
     have l2:=relB.length
     have l3:=congrArg List.length ek
     rw [<- e2,List.length_map,List.length_map] at l3
     omega
    rw [hl]
    simp only [beq_self_eq_true,Bool.and_self]
    exact⟨.bl true,H,I,rfl,k _ F H .refl rfl⟩
   ·cases q
  | _=>exact other q
 | _=>exact other q
noncomputable def itS (a:EV):EVs:=fun L S=>bnd (a L S) fun v S1=>match v with
 | .lst xs=>some (xs,S1)
 | .ro xs=>some (xs,S1)
 | .tup xs=>some (xs,S1)
 | _=>none
theorem iS {tg iter:Expr} (h:PE X iter (tV X.K fa)):PI X tg iter (tI X.K (itS fa)):=by
 intro pins s σ H R I ⟨F,m,L,S,vs,S',r,l,q,k⟩
 obtain⟨v,S1,e1,q⟩:=bnd_eq q
 refine thn (h pins s σ H (fun x H1=>∃F1 m1,Stp F m H F1 m1 H1/\Rel X.K F1 H1 m1 S1/\RP X.K F1 H1 v x) I ⟨F,m,L,S,v,S1,r,l,e1,fun x F1 m1 H1 s1 r1 p1=>⟨F1,m1,s1,r1,p1⟩⟩) fun u s1 hz=>?_
 obtain⟨x,H1,I1,rx,F1,m1,st,r1,p1⟩:=hz
 have mk:∀{J:It},ItP X.K J vs F1 m1 H1->S1=S'->R J H1:=fun it e=>by subst e;exact k _ F1 m1 H1 st r1 it
 have listCase:∀{a:Addr}{xs:List V},x=.ref a->SqL X.K H1 a xs->R (Itl X.K a) H1->wpAny (model X.prog X.w) X.A (pyIter u) (PIE X pins σ tg R) X.xe s1:=fun {a xs} e hq q=>by
  subst e
  cases rx
  obtain⟨its,rv,p,hz⟩:=I1.list hq
  refine wpAny_pyIter_list p.isList ?_
  refine⟨s1.heap.objs.size,[s1.heap.objs.size],_,_,H1,rfl,I1.kept (t':=s1.toks) fun b o e=>Heap.get?_push_of_some _ e,turn_list a _,⟨_,Heap.get?_push_size _ rfl,rfl,rfl⟩,fun b hb=>?_,q⟩
  have e:b=s1.heap.objs.size:=by simpa using hb
  subst e
  exact I1.fpOk (Nat.le_refl _) (I1.hok.fresh (Nat.le_refl _))
 cases v with
 | lst ds=>
  cases q
  obtain⟨a,xs,rfl,ta,ra⟩:=p1
  exact listCase rfl ta.sq (mk (itl_ok (fun F2 m2 H2 s=>(ta.kp s.kp).sq) ra) rfl)
 | ro ds=>
  cases q
  obtain⟨a,xs,rfl,ta,ra⟩:=p1
  exact listCase rfl ta.sq (mk (itl_ok (fun F2 m2 H2 s=>(ta.kp s.kp).sq) ra) rfl)
 | tup ds=>
  cases q
  obtain⟨a,xs,rfl,ta,ra⟩:=p1
  cases rx
  obtain⟨its,rv,pp,hz⟩:=I1.tuple ta.sq
  refine wpAny_pyIter_tuple (show s1.heap.IsTuple a its.toArray from pp) ?_
  refine⟨s1.heap.objs.size,[s1.heap.objs.size],_,_,H1,rfl,I1.kept (t':=s1.toks) fun b o e=>Heap.get?_push_of_some _ e,turn_tuple a _,⟨_,Heap.get?_push_size _ rfl,rfl,rfl⟩,fun b hb=>?_,mk (itt_ok ta ra) rfl⟩
  have e:b=s1.heap.objs.size:=by simpa using hb
  subst e
  exact I1.fpOk (Nat.le_refl _) (I1.hok.fresh (Nat.le_refl _))
 | _=>cases q
noncomputable def Its (lo step:Int) (n:Nat):It:=⟨fun i _=>i < n,fun i H x H'=>H'=H/\x=.int (lo+(i:Nat) * step),fun i _=>n≤i⟩
theorem turn_rangeS {P:Program}{w:World}{K:PySem.W.Frag}{tg:Expr} (it:Addr) (lo step:Int) (n:Nat):Turn P w K tg (Its lo step n) [it] it (fun i h=>IsRangeIter h it (lo+(i:Nat) * step) ((n:Int)-(i:Nat)) step) where
 mem:=by simp
 obj:=fun i h st b hb=>by
  have e:b=it:=by simpa using hb
  subst e
  exact⟨_,st,fun v z=>by
   have z':Data.fields _=Data.cell v:=z
   cases z'⟩
 keep:=fun i h h' st k=>k it (by simp) _ st
 item:=by
  intro X hP hw hK hc i pins s σ H E I hf st hg
  subst hP hw hK
  obtain⟨f0,f1,f2,f3,f4,f5⟩:=hf it (by simp)
  have W:=Walks.range (prog:=X.prog) (w:=X.w) (I.ok.hd hc) it lo step n
  refine W.item i s _ _ hg st fun v h' tk hv st' kk=>?_
  obtain⟨t,rfl⟩:=hv
  have I1:L2.Inv X pins σ H { s with heap:=h',toks:=tk }:=I.turned (fun b o hb e=>kk b o (by simpa using hb) e) f0 f1 f3 f4 f5
  exact⟨_,rfl,go_of (s:={ s with heap:=h',toks:=tk }) (n:="range_iterator") st' rfl rfl (by decide) ⟨.int (lo+(i:Nat) * step),H,I1,⟨t,rfl⟩,⟨rfl,rfl⟩,st',fun b hb=>(hf b hb).1⟩⟩
 done:=by
  intro X hP hw hK hc i pins s σ H E I hf st hg
  subst hP hw hK
  obtain⟨f0,f1,f2,f3,f4,f5⟩:=hf it (by simp)
  exact wpAny_pyNext_range_end (I.ok.hd hc) st (by have:n≤i:=hg;omega) fun h' eb=>⟨rfl,I.turned (t':=s.toks) (fun b o hb e=>eb b o hb e) f0 f1 f3 f4 f5⟩
 self:=fun _ _ _ _ _ st h=>wpAny_pyIter_rangeiter st h
noncomputable def nSteps (lo hi step:Int):Nat:=(if lo < hi then (hi-lo-1) / step+1 else 0).toNat
noncomputable def intsBy (lo step:Int) (n:Nat):List P:=(List.range n).map fun (i:Nat)=>.int (lo+(i:Int) * step)
noncomputable def itR3 (a b c:EV):EVs:=fun L S=>bnd (a L S) fun x S1=>bnd (b L S1) fun y S2=>bnd (c L S2) fun z S3=>match x,y,z with
 | .int lo,.int hi,.int st=>if (decide (lo.natAbs < 1000000) && decide (hi.natAbs < 1000000) && decide (0 < st) && decide (st < 1000000))=true then some (intsBy lo st (nSteps lo hi st),S3) else none
 | _,_,_=>none
theorem its_ok {K:PySem.W.Frag}{F:Addr->Prop}{m:List Addr}{H:Hp}{lo step:Int}{n:Nat}:ItP K (Its lo step n) (intsBy lo step n) F m H:=by
 intro F2 m2 H2 s
 have hl:(intsBy lo step n).length=n:=by unfold intsBy;simp
 refine⟨fun i v e=>?_,by show n≤(intsBy lo step n).length;rw [hl];exact Nat.le_refl _⟩
 have hi:i < n:=by rw [<- hl];exact (List.getElem?_eq_some_iff.mp e).1
 refine⟨hi,fun x H3 z=>?_⟩
 obtain⟨rfl,rfl⟩:=z
 refine⟨F2,.refl,?_⟩
 unfold intsBy at e
 simp [hi] at e
 subst e
 exact rfl
theorem iR3 {tg:Expr} (hg:Gl X "range") (hm:X.mg "range"=none) (ha:PE X a (tV X.K fa)) (hb:PE X b (tV X.K fb)) (hc:PE X c (tV X.K fc)) (hs:starEach [a,b,c] X.env=[(false,eval a X.env),(false,eval b X.env),(false,eval c X.env)]:=by rfl) (hs2:starEach [b,c] X.env=[(false,eval b X.env),(false,eval c X.env)]:=by rfl) (hs3:starEach [c] X.env=[(false,eval c X.env)]:=by rfl) :
  PI X tg (.Call (.Name "range" p) [a,b,c] [] pos) (tI X.K (itR3 fa fb fc)):=by
 intro pins s σ H R I ⟨F,m,L,S,vs,S',r,l,q,k⟩
 obtain⟨x,S1,e1,q⟩:=bnd_eq q
 obtain⟨y,S2,e2,q⟩:=bnd_eq q
 obtain⟨z,S3,e3,q⟩:=bnd_eq q
 have hA:PA X [a,b,c] (tVs X.K (vsCons fa (vsCons fb (vsCons fc vsNil)))):=aCons ha (aCons hb (aCons hc aNil (by rw [hs3];rfl)) (by rw [hs2,hs3])) (by rw [hs,hs2])
 refine Call_ (ld_blt I hg hm boot_range (PyProof.Rows.callWith_type1 (thn (hA pos pins s σ H (fun xs H1=>∃F1 m1,Stp F m H F1 m1 H1/\Rel X.K F1 H1 m1 S3/\RPs X.K F1 H1 [x,y,z] xs) I ⟨F,m,L,S,[x,y,z],S3,r,l,?_,fun xs F1 m1 H1 s1 r1 p1=>⟨F1,m1,s1,r1,p1⟩⟩) fun us s1 ⟨xs,H1,I1,rv,F1,m1,st,r1,p1⟩=>?_) (by rw [hs,hs2]) (by rw [hs2];rfl)))
 ·simp only [vsCons,vsNil,e1,e2,e3,bnd_some]
 obtain⟨x1,xr1,rfl,px,q1⟩:=p1
 obtain⟨y1,xr2,rfl,py,q2⟩:=q1
 obtain⟨z1,xr3,rfl,pz,q3⟩:=q2
 cases (show xr3=[] from q3)
 cases x with
 | int lo=>
  cases y with
  | int hi=>
   cases z with
   | int stp=>
    dsimp only at q
    split at q
    ·rename_i hc'
     simp only [Bool.and_eq_true,decide_eq_true_eq] at hc'
     obtain⟨⟨⟨c1,c2⟩,c3⟩,c4⟩:=hc'
     cases q
     cases (show x1=.int lo from px);cases (show y1=.int hi from py);cases (show z1=.int stp from pz)
     cases rv with
     | cons ra rr=>
      cases rr with
      | cons rb rr=>
       cases rr with
       | cons rc rr=>
        cases rr
        obtain⟨t1,rfl⟩:=ra
        obtain⟨t2,rfl⟩:=rb
        obtain⟨t3,rfl⟩:=rc
        refine call_range_3 (by omega) ?_ (.inl (PyProof.noPylong_small (by omega)))
        have sz:Builtin.Range.rangeSize lo hi stp=((nSteps lo hi stp:Nat):Int):=by
         unfold Builtin.Range.rangeSize nSteps
         rw [if_pos (by omega)]
         split
         ·have:0≤(hi-lo-1) / stp:=Int.ediv_nonneg (by omega) (by omega)
          omega
         ·rfl
        have hle:Builtin.Range.rangeSize lo hi stp≤4000000:=by
         unfold Builtin.Range.rangeSize
         rw [if_pos (by omega)]
         split
         ·have:(hi-lo-1) / stp≤hi-lo-1:=Int.ediv_le_self _ (by omega)
          omega
         ·omega
        refine wpAny_pyIter_range (IsRange.new ..) ?_ ?_
        ·have hge:0≤Builtin.Range.rangeSize lo hi stp:=by rw [sz];omega
         unfold Builtin.Range.small
         generalize Builtin.Range.rangeSize lo hi stp=n at hle hge
         simp only [Builtin.Range.rangeFitsLong,Bool.and_eq_true,Bool.or_eq_true,decide_eq_true_eq,beq_iff_eq]
         refine⟨⟨⟨⟨by omega,by omega⟩,by omega⟩,by omega⟩,?_⟩
         refine .inr ?_
         rw [if_pos (by omega),decide_eq_true (by omega),decide_eq_true (by omega)];rfl
        ·have I2:L2.Inv X pins σ H1 { s1 with heap:=s1.heap.push { cls:=.type "range",data:=.fields #[.int lo t1,.int hi t2,.int stp t3] } }:=I1.kept (t':=s1.toks) fun b o e=>Heap.get?_push_of_some _ e
         refine⟨_,[_],_,_,H1,rfl,I2.kept (t':=s1.toks) fun b o e=>Heap.get?_push_of_some _ e,turn_rangeS _ lo stp (nSteps lo hi stp),?_,fun b hb=>?_,k _ F1 m1 H1 st r1 its_ok⟩
         ·have e1:lo+((0:Nat):Int) * stp=lo:=by simp
          have e2:((nSteps lo hi stp:Nat):Int)-((0:Nat):Int)=Builtin.Range.rangeSize lo hi stp:=by rw [sz];omega
          show IsRangeIter _ _ (lo+((0:Nat):Int) * stp) (((nSteps lo hi stp:Nat):Int)-((0:Nat):Int)) stp
          rw [e1,e2]
          exact Heap.get?_push_size _ rfl
         ·have e:=(List.mem_singleton.mp hb)
          rw [e]
          exact I2.fpOk (Nat.le_refl _) (I2.hok.fresh (Nat.le_refl _))
    ·cases q
   | _=>cases q
  | _=>cases q
 | _=>cases q
end
end Ev
namespace Ev
open PySem PySem.Spec PyProof.Rows L2
section
variable {X:Cx}{pos p:Pos}
noncomputable abbrev DE:=List (Str×EV)
noncomputable def dNil:DE:=[]
noncomputable def dCons (k:Str) (f:EV) (r:DE):DE:=(k,f)::r
noncomputable def valsGo:DE->EVs
 | []=>vsNil
 | (_,f)::r=>vsCons f (valsGo r)
noncomputable def keysD (l:DE):List Key:=l.map fun x=>.inr x.1
noncomputable def vDict (l:DE):EV:=fun L S=>bnd (valsGo l L S) fun vs S1=>if (keysD l).Nodup/\l.length≤15 then some (.dct (keysD l) vs,S1) else none
noncomputable def trsD (K:PySem.W.Frag) (l:DE):List (TE×TE):=l.map fun x=>(tV K (vC (.str x.1)),tV K x.2)
noncomputable def KD (X:Cx) (pos:Pos) (keys:List (Option Expr)) (values:List Expr) (l:DE):Prop:=PPs X pos keys values (trsD X.K l)
theorem kNil:KD X pos [] [] dNil:=pps_nil
theorem kCons {k v:Expr}{ks:List (Option Expr)}{vs:List Expr}{x:Str}{f:EV}{l:DE} (hk:PE X k (tV X.K (vC (.str x)))) (hv:PE X v (tV X.K f)) (hr:KD X pos ks vs l):KD X pos (some k::ks) (v::vs) (dCons x f l):=pps_cons hk hv hr
theorem pairs_ok {K:PySem.W.Frag}{σ:L2.St}{L:Lc}:∀{l:DE}{F:Addr->Prop}{m:List Addr}{H:Hp}{S S':Sto}{vs:List P}{Q:List (V×V)->Hp->Prop},Rel K F H m S->RL K F H m σ L->valsGo l L S=some (vs,S') ->
  (∀xs F' m' H',Stp F m H F' m' H'->Rel K F' H' m' S'->RPs K F' H' vs xs->Q ((l.map (·.1)).zipWith (fun k x=>(V.str k,x)) xs) H')->tPairs (trsD K l) σ H Q
 | [],F,m,H,S,S',vs,Q,r,l,q,k=>by
  cases q
  exact k [] F m H .refl r rfl
 | (x,f)::rest,F,m,H,S,S',vs,Q,r,l,q,k=>by
  obtain⟨y,S1,e1,q⟩:=bnd_eq (show bnd (f L S) _=_ from q)
  obtain⟨ys,S2,e2,q⟩:=bnd_eq q
  cases q
  refine⟨F,m,L,S,.str x,S,r,l,rfl,fun v F0 m0 H0 s0 r0 p0=>?_⟩
  refine⟨F0,m0,L,S,y,S1,r0,l.mono s0,e1,fun w F1 m1 H1 s1 r1 p1=>?_⟩
  refine pairs_ok r1 ((l.mono s0).mono s1) e2 fun xs F2 m2 H2 s2 r2 p2=>?_
  cases (show v=.str x from p0)
  exact k (w::xs) F2 m2 H2 (s0.trans (s1.trans s2)) r2 ⟨w,xs,rfl,RP.mono s2 p1,p2⟩
theorem mergeK_nodup:∀{more kvs:List (Key×V)},((kvs++more).map (·.1)).Nodup->mergeK kvs more=kvs++more
 | [],kvs,_=>by simp [mergeK]
 | (k,v)::more,kvs,nd=>by
  have hk:valV kvs k=none:=by
   cases e:valV kvs k with
   | none=>rfl
   | some w=>
    exfalso
    unfold valV at e
    cases ef:kvs.find? (fun kv=>decide (kv.1=k)) with
    | none=>rw [ef] at e;cases e
    | some q=>
     have h1:=List.mem_of_find?_eq_some ef
     have h2:=List.find?_some ef
     have h3:q.1=k:=of_decide_eq_true h2
     rw [List.map_append,List.nodup_append] at nd
     exact nd.2.2 q.1 (List.mem_map.mpr ⟨q,h1,rfl⟩) k (by simp) h3
  show mergeK (putK kvs k v) more=_
  rw [putK_new v hk,mergeK_nodup (by simpa using nd)]
  simp
theorem valsGo_len:∀{l:DE}{L:Lc}{S S':Sto}{vs:List P},valsGo l L S=some (vs,S')->vs.length=l.length
 | [],L,S,S',vs,h=>by cases h;rfl
 | (x,f)::r,L,S,S',vs,h=>by
  obtain⟨y,S1,e1,q⟩:=bnd_eq (show bnd (f L S) _=_ from h)
  obtain⟨ys,S2,e2,q⟩:=bnd_eq q
  cases q
  rw [List.length_cons,List.length_cons,valsGo_len e2]
theorem zip_keys {l:DE}{xs:List V} (h:xs.length=l.length):(l.map (·.1)).zipWith (fun k x=>(V.str k,x)) xs=((keysD l).zip xs).map (fun kv=>(kV kv.1,kv.2)):=by
 unfold keysD
 induction l generalizing xs with
 | nil=>cases xs <;> rfl
 | cons q l ih=>
  cases xs with
  | nil=>rfl
  | cons x xs=>simp only [List.map_cons,List.zipWith_cons_cons,List.zip_cons_cons];rw [ih (by simpa using h)];rfl
theorem zip_fst {α β:Type}:∀{xs:List α}{ys:List β},xs.length=ys.length->(xs.zip ys).map (·.1)=xs
 | [],[],_=>rfl
 | x::xs,y::ys,h=>by rw [List.zip_cons_cons,List.map_cons,zip_fst (by simpa using h)]
theorem zip_snd {α β:Type}:∀{xs:List α}{ys:List β},xs.length=ys.length->(xs.zip ys).map (·.2)=ys
 | [],[],_=>rfl
 | x::xs,y::ys,h=>by rw [List.zip_cons_cons,List.map_cons,zip_snd (by simpa using h)]
theorem xDict {keys:List (Option Expr)}{values:List Expr}{l:DE} (h:KD X pos keys values l) (hall:keys.all (·.isSome)=true) (hl:keys.length=values.length) (h0:keys≠[]) (h15:keys.length≤15):PE X (.Dict keys values pos) (tV X.K (vDict l)):=
 (pe_disp h hall hl h0 h15).imp' fun σ H Q hz=>by
  obtain⟨F,m,L,S,d,S',r,rl,q,k⟩:=hz
  obtain⟨vs,S1,e1,q⟩:=bnd_eq q
  split at q
  ·rename_i hc
   cases q
   intro p hp
   have g0:Grow F H F (upd H p (.dK [])):=grow_new hp
   refine pairs_ok (r.grow g0) (rl.mono (g0.stp (m:=m))) e1 fun xs F' m' H' s' r' p'=>?_
   have hlen:xs.length=l.length:=by rw [<- p'.length,valsGo_len e1]
   have hkl:(keysD l).length=xs.length:=by unfold keysD;rw [List.length_map,hlen]
   have hp':H' p=some (.dK []):=s'.oth p _ upd_same (r.fresh_m hp)
   refine⟨hp',(keysD l).zip xs,zip_keys hlen,by rw [List.length_zip,hkl,hlen];simpa using hc.2,?_⟩
   rw [mergeK_nodup (kvs:=[]) (by rw [List.nil_append,zip_fst hkl];exact hc.1),List.nil_append]
   have nF:¬F' p:=fun z=>by
    rcases s'.nf p z with z | z | z
    ·exact r.fresh_F hp z
    ·rw [upd_same] at z;cases z
    ·exact r.fresh_m hp z
   have nm:p ∉ m':=fun z=>by
    rcases s'.nm p z with z | z
    ·exact r.fresh_m hp z
    ·rw [upd_same] at z;cases z
   have nt:∀zs,H' p≠some (.tup zs):=fun zs z=>by rw [hp'] at z;cases z
   have kb:Kp F' m' H' F' m' (upd H' p (.dK ((keysD l).zip xs))):=Kp.bump nF nt
   have st:Stp F m H F' m' (upd H' p (.dK ((keysD l).zip xs))):=((g0.stp (m:=m)).trans s').bump hp
   refine k (.ref p) (fun b=>F' b\/b=p) m' _ (st.addF hp) ((r'.bump nF nm nt).addF nm (by rw [upd_same];exact fun z=>nomatch z)) ⟨p,_,rfl,.inr rfl,upd_same,zip_fst hkl,?_⟩
   rw [zip_snd hkl]
   exact RPs.kp (m:=m') kpF (RPs.kp kb p')
  ·cases q
end
end Ev
namespace Ev
open PySem PySem.Spec PyProof.Rows L2
mutual
noncomputable def pd:P->PyData
 | .non=>.none
 | .bl b=>.bool b
 | .int i=>.int i
 | .str x=>.str x
 | .tup xs=>.tuple (pds xs)
 | .lst xs=>.list (pds xs)
 | .ro xs=>.list (pds xs)
 | .dct _ _=>.none
noncomputable def pds:List P->List PyData
 | []=>[]
 | x::r=>pd x::pds r
end
noncomputable def okP:Nat->P->Bool
 | _,.non=>true
 | _,.bl _=>true
 | _,.int _=>true
 | _,.str x=>PyData.strOk x
 | n+1,.tup xs=>xs.all (okP n)
 | n+1,.lst xs=>xs.all (okP n)
 | n+1,.ro xs=>xs.all (okP n)
 | _,_=>false
theorem okP_lay:∀(n:Nat) (p:P),okP n p=true->(pd p).canLay0=true/\(pd p).depth≤n:=by
 have all:∀(n:Nat),(∀p,okP n p=true->(pd p).canLay0=true/\(pd p).depth≤n)->∀ds:List P,(∀d ∈ ds,okP n d=true)->PyData.canLayAll0 (pds ds)=true/\PyData.depthAll (pds ds)≤n:=by
  intro n ih ds
  induction ds with
  | nil=>intro _;simp [pds,PyData.canLayAll0,PyData.depthAll]
  | cons d ds hi=>
   intro h
   have h1:=ih d (h d (.head _))
   have h2:=hi fun e he=>h e (.tail _ he)
   simp only [pds,PyData.canLayAll0,PyData.depthAll,h1.1,h2.1,Bool.and_self,true_and]
   have a1:=h1.2
   have a2:=h2.2
   omega
 intro n
 induction n with
 | zero=>
  intro p h
  cases p <;> simp_all [okP,pd,PyData.canLay0,PyData.depth]
 | succ n ih=>
  intro p h
  cases p with
  | non=>simp [pd,PyData.canLay0,PyData.depth]
  | bl b=>simp [pd,PyData.canLay0,PyData.depth]
  | int i=>simp [pd,PyData.canLay0,PyData.depth]
  | str x=>simp [okP] at h;simp [pd,PyData.canLay0,PyData.depth,h]
  | dct ks vs=>simp [okP] at h
  | tup ds=>
   have q:=all n ih ds (by simpa [okP] using h)
   have q2:=q.2
   simp only [pd,PyData.canLay0,PyData.depth,q.1,true_and]
   omega
  | lst ds=>
   have q:=all n ih ds (by simpa [okP] using h)
   have q2:=q.2
   simp only [pd,PyData.canLay0,PyData.depth,q.1,true_and]
   omega
  | ro ds=>
   have q:=all n ih ds (by simpa [okP] using h)
   have q2:=q.2
   simp only [pd,PyData.canLay0,PyData.depth,q.1,true_and]
   omega
theorem okP_shaped {p:P} (h:okP 20 p=true):SeqAt.shaped (pd p)=true:=by
 obtain⟨h1,h2⟩:=okP_lay 20 p h
 unfold SeqAt.shaped
 rw [h1,Bool.true_and]
 exact decide_eq_true (by omega)
section
variable {X:Cx}{pins:List (Addr×Obj)}{σ:L2.St}{H:Hp}{s:Shared}{F:Addr->Prop}
theorem readsAll_of {n:Nat} (one:∀{p:P}{v:V}{u:Value},RP X.K F H p v->RelV v u->okP n p=true->∃as,Reads s.heap u (pd p) as) :
  ∀{ds:List P}{xs:List V}{us:List Value},RPs X.K F H ds xs->Vals xs us->(∀d ∈ ds,okP n d=true)->∃as,ReadsAll s.heap us (pds ds) as
 | [],xs,us,r,v,_=>by
  cases (show xs=[] from r)
  cases v
  exact⟨_,.nil⟩
 | d::ds,xs,us,r,v,h=>by
  obtain⟨x,xr,rfl,p,r⟩:=r
  cases v with
  | cons ru rr=>
   obtain⟨as,q⟩:=one p ru (h d (.head _))
   obtain⟨bs,q2⟩:=readsAll_of one r rr fun e he=>h e (.tail _ he)
   exact⟨_,.cons q q2⟩
theorem reads_of (I:Inv X pins σ H s):∀(n:Nat) {p:P}{v:V}{u:Value},RP X.K F H p v->RelV v u->okP n p=true->∃as,Reads s.heap u (pd p) as:=by
 intro n
 induction n with
 | zero=>
  intro p v u r rv h
  cases p with
  | non=>cases (show v=.non from r);cases rv;exact⟨_,.none⟩
  | bl b=>cases (show v=.bl b from r);cases rv;exact⟨_,.bool b⟩
  | int i=>cases (show v=.int i from r);obtain⟨t,rfl⟩:=rv;exact⟨_,.int i t⟩
  | str x=>cases (show v=.str x from r);obtain⟨t,rfl⟩:=rv;exact⟨_,.str x t⟩
  | _=>simp [okP] at h
 | succ n ih=>
  intro p v u r rv h
  cases p with
  | non=>cases (show v=.non from r);cases rv;exact⟨_,.none⟩
  | bl b=>cases (show v=.bl b from r);cases rv;exact⟨_,.bool b⟩
  | int i=>cases (show v=.int i from r);obtain⟨t,rfl⟩:=rv;exact⟨_,.int i t⟩
  | str x=>cases (show v=.str x from r);obtain⟨t,rfl⟩:=rv;exact⟨_,.str x t⟩
  | dct ks vs=>simp [okP] at h
  | tup ds=>
   obtain⟨a,xs,rfl,ta,ra⟩:=r
   cases rv
   obtain⟨its,rvs,⟨o,e,c,m,d⟩,hz⟩:=I.tuple ta.sq
   obtain⟨as,q⟩:=readsAll_of ih ra rvs (by simpa [okP] using h)
   rw [pd]
   exact⟨as,reads_tuple_at e c d (by simpa using q)⟩
  | lst ds=>
   obtain⟨a,xs,rfl,ta,ra⟩:=r
   cases rv
   obtain⟨its,rvs,⟨o,m,e,c,_,d⟩,hz⟩:=I.list ta.sq
   obtain⟨as,q⟩:=readsAll_of ih ra rvs (by simpa [okP] using h)
   rw [pd]
   exact⟨_,reads_list_at e c d (by simpa using q)⟩
  | ro ds=>
   obtain⟨a,xs,rfl,ta,ra⟩:=r
   cases rv
   obtain⟨its,rvs,⟨o,m,e,c,_,d⟩,hz⟩:=I.list ta.sq
   obtain⟨as,q⟩:=readsAll_of ih ra rvs (by simpa [okP] using h)
   rw [pd]
   exact⟨_,reads_list_at e c d (by simpa using q)⟩
end
noncomputable def mapO (f:D->Option P):List D->Option (List P)
 | []=>some []
 | d::r=>(f d).bind fun v=>(mapO f r).map fun vs=>v::vs
noncomputable def snap (S:Sto):Nat->D->Option P
 | _,.p v=>some v
 | 0,.ref _=>none
 | n+1,.ref i=>match S[i]? with
  | some (.lst ds)=>(mapO (snap S n) ds).map .lst
  | some (.fz v)=>some v
  | _=>none
@[simp] theorem snap_p (S:Sto) (n:Nat) (v:P):snap S n (.p v)=some v:=by cases n <;> rfl
section
variable {X:Cx}{pins:List (Addr×Obj)}{σ:L2.St}{H:Hp}{s:Shared}{F:Addr->Prop}{m:List Addr}{S:Sto}
theorem mapO_reads {k n:Nat} (one:∀{d:D}{v:V}{u:Value}{p:P},RD X.K F H m d v->RelV v u->snap S n d=some p->okP k p=true->∃as,Reads s.heap u (pd p) as) :
  ∀{ds:List D}{xs:List V}{us:List Value}{ps:List P},RDs X.K F H m ds xs->Vals xs us->mapO (snap S n) ds=some ps->(∀d ∈ ps,okP k d=true)->∃as,ReadsAll s.heap us (pds ps) as
 | [],xs,us,ps,r,v,q,_=>by
  cases (show xs=[] from r)
  cases v
  cases q
  exact⟨_,.nil⟩
 | d::ds,xs,us,ps,r,v,q,h=>by
  obtain⟨x,xr,rfl,p,r⟩:=r
  obtain⟨y,q1,q⟩:∃a,snap S n d=some a/\(mapO (snap S n) ds).map (fun vs=>a::vs)=some ps:=by
   cases e:snap S n d with
   | none=>simp [mapO,e] at q
   | some a=>exact⟨a,rfl,by simpa [mapO,e] using q⟩
  obtain⟨ys,q2,rfl⟩:∃a,mapO (snap S n) ds=some a/\ps=y::a:=by
   cases e:mapO (snap S n) ds with
   | none=>rw [e] at q;cases q
   | some a=>rw [e] at q;cases q;exact⟨a,rfl,rfl⟩
  cases v with
  | cons ru rr=>
   obtain⟨as,g1⟩:=one p ru q1 (h y (.head _))
   obtain⟨bs,g2⟩:=mapO_reads one r rr q2 fun e he=>h e (.tail _ he)
   exact⟨_,.cons g1 g2⟩
theorem snap_reads (I:Inv X pins σ H s) (rl:Rel X.K F H m S):∀(n k:Nat) {d:D}{v:V}{u:Value}{p:P},RD X.K F H m d v->RelV v u->snap S n d=some p->okP k p=true->∃as,Reads s.heap u (pd p) as:=by
 intro n
 induction n with
 | zero=>
  intro k d v u p r rv q h
  cases d with
  | p w=>rw [snap_p] at q;cases q;exact reads_of I k r rv h
  | ref i=>cases q
 | succ n ih=>
  intro k d v u p r rv q h
  cases d with
  | p w=>rw [snap_p] at q;cases q;exact reads_of I k r rv h
  | ref i=>
   obtain⟨a,rfl,hm⟩:=r
   have hi:i < S.length:=by rw [<- rl.len];exact (List.getElem?_eq_some_iff.mp hm).1
   obtain⟨o,ho⟩:∃o,S[i]? = some o:=⟨S[i],by simp [hi]⟩
   have ob:=rl.obj i a o hm ho
   simp only [snap,ho] at q
   cases o with
   | fz w=>cases q;exact reads_of I k ob rv h
   | dct ks ds=>cases q
   | ins _ _ _=>cases q
   | lst ds=>
    dsimp only at q
    cases e:mapO (snap S n) ds with
    | none=>rw [e] at q;cases q
    | some ps=>
     rw [e] at q
     cases q
     cases k with
     | zero=>simp [okP] at h
     | succ k=>
      obtain⟨xs,hH,rs⟩:=ob
      cases rv
      obtain⟨its,rvs,⟨o,m',e',c,_,d⟩,hz⟩:=I.list (SqL.of hH)
      obtain⟨as,q⟩:=mapO_reads (k:=k) (fun r rv q h=>ih k r rv q h) rs rvs e (by simpa [okP] using h)
      rw [pd]
      exact⟨_,reads_list_at e' c d (by simpa using q)⟩
theorem snap_rp (rl:Rel X.K F H m S) {n:Nat}{d:D}{v:V}{p:P} (r:RD X.K F H m d v) (q:snap S n d=some p) (hp:∀xs,p≠.lst xs):RP X.K F H p v:=by
 cases d with
 | p w=>rw [snap_p] at q;cases q;exact r
 | ref i=>
  cases n with
  | zero=>cases q
  | succ n=>
   obtain⟨a,rfl,hm⟩:=r
   have hi:i < S.length:=by rw [<- rl.len];exact (List.getElem?_eq_some_iff.mp hm).1
   obtain⟨o,ho⟩:∃o,S[i]? = some o:=⟨S[i],by simp [hi]⟩
   have ob:=rl.obj i a o hm ho
   simp only [snap,ho] at q
   cases o with
   | fz w=>cases q;exact ob
   | dct ks ds=>cases q
   | ins _ _ _=>cases q
   | lst ds=>
    dsimp only at q
    cases e:mapO (snap S n) ds with
    | none=>rw [e] at q;cases q
    | some ps=>rw [e] at q;cases q;exact absurd rfl (hp ps)
end
noncomputable def rE (K:PySem.W.Frag) (g:D->D->Sto->Option P):R2:=fun x y H Q=>∃F m S d e v,Rel K F H m S/\RD K F H m d x/\RD K F H m e y/\g d e S=some v/\∀u F' H',Grow F H F' H'->RP K F' H' v u->Q u H'
noncomputable def vOpE (g:D->D->Sto->Option P) (a b:EE):EV:=fun L S=>bnd (a L S) fun x S1=>bnd (b L S1) fun y S2=>(g x y S2).map fun v=>(v,S2)
section
variable {X:Cx}{a b:Expr}{fa fb:EE}{pos:Pos}
theorem tOpE_of {g:D->D->Sto->Option P}{σ:L2.St}{H:Hp}{Q:VK} (h:tV X.K (vOpE g fa fb) σ H Q):tOp (rE X.K g) (tE X.K fa) (tE X.K fb) σ H Q:=by
 obtain⟨F,m,L,S,d,S',r,l,q,k⟩:=h
 obtain⟨x,S1,e1,q⟩:=bnd_eq q
 obtain⟨y,S2,e2,q⟩:=bnd_eq q
 refine⟨F,m,L,S,x,S1,r,l,e1,fun v F1 m1 H1 s1 r1 p1=>?_⟩
 refine⟨F1,m1,L,S1,y,S2,r1,l.mono s1,e2,fun u F2 m2 H2 s2 r2 p2=>?_⟩
 cases eg:g x y S2 with
 | none=>rw [eg] at q;cases q
 | some z=>
  rw [eg] at q
  cases q
  exact⟨F2,m2,S',x,y,_,r2,RD.mono s2 p1,p2,eg,fun w F3 H3 gr p3=>k w F3 m2 H3 (s1.trans (s2.trans gr.stp)) (r2.grow gr) p3⟩
theorem xCmpE {op:CmpOp}{g:D->D->Sto->Option P} (ho:OpR X (compareOp op) (rE X.K g)) (ha:PE X a (tE X.K fa)) (hb:PE X b (tE X.K fb)) (hm:behindInMarks op b=false):PE X (.Compare a [op] [b] pos) (tV X.K (vOpE g fa fb)):=
 (pe_cmpR ho ha hb hm).imp' fun _ _ _ h=>tOpE_of h
theorem yCmpE {op:CmpOp}{g:D->D->Sto->Option P} (ho:OpR X (compareOp op) (rE X.K g)) (ha:PE X a (tE X.K fa)) (hb:PE X b (tE X.K fb)) (hm:behindInMarks op b=false):PT X (.Compare a [op] [b] pos) (tQ X.K (bV (vOpE g fa fb))):=
 (pt_cmpR ho ha hb hm).imp' fun σ H Q h=>by
  refine tOpE_of ?_
  obtain⟨F,m,L,S,d,S',r,l,q,k⟩:=h
  obtain⟨x,S1,e1,q⟩:=bnd_eq q
  cases x with
  | bl b=>cases q;exact⟨F,m,L,S,_,_,r,l,e1,fun v F' m' H' s r' p=>⟨_,p,k F' m' H' s r'⟩⟩
  | _=>cases q
end
noncomputable def eqD (x y:P):Option Bool:=match dEqD x y with
 | some (.bl b)=>some b
 | _=>if (okP 20 x && okP 20 y)=true then some (PyData.eqv (pd x) (pd y)) else none
noncomputable def gEq (d e:D) (S:Sto):Option P:=(snap S 9 d).bind fun x=>(snap S 9 e).bind fun y=>(eqD x y).map .bl
noncomputable def neD (x y:P):Option Bool:=match dNe x y with
 | some (.bl b)=>some b
 | _=>if (okP 20 x && okP 20 y)=true then some (!PyData.eqv (pd x) (pd y)) else none
noncomputable def gNe (d e:D) (S:Sto):Option P:=(snap S 9 d).bind fun x=>(snap S 9 e).bind fun y=>(neD x y).map .bl
noncomputable def dKeys (c:D) (S:Sto):Option (List Key):=match c with
 | .p (.dct ks _)=>some ks
 | .ref i=>match S[i]? with
  | some (.dct ks _)=>some ks
  | some (.fz (.dct ks _))=>some ks
  | _=>none
 | _=>none
noncomputable def inP (x c:P):Option Bool:=match x,c with
 | .str i,.str j=>some (!(Builtin.Str.occurrences j i 0 j.length 1).isEmpty)
 | x,.lst xs=>if (xs.all (okP 19) && okP 19 x)=true then some (xs.any fun y=>PyData.eqv (pd y) (pd x)) else none
 | x,.ro xs=>if (xs.all (okP 19) && okP 19 x)=true then some (xs.any fun y=>PyData.eqv (pd y) (pd x)) else none
 | x,.tup xs=>if (xs.all (okP 19) && okP 19 x)=true then some (xs.any fun y=>PyData.eqv (pd y) (pd x)) else none
 | _,_=>none
noncomputable def hasK (k:Key) (ks:List Key):Bool:=ks.any fun k'=>decide (k'=k)
noncomputable def inG (d c:D) (S:Sto):Option Bool:=match dKeys c S with
 | some ks=>(snap S 9 d).bind fun x=>(keyOf x).map fun k=>hasK k ks
 | none=>(snap S 9 d).bind fun x=>(snap S 9 c).bind fun y=>inP x y
noncomputable def gIn (d c:D) (S:Sto):Option P:=(inG d c S).map .bl
noncomputable def gNotIn (d c:D) (S:Sto):Option P:=(inG d c S).map fun b=>.bl (!b)
theorem dEqD_nolst {x y:P}{b:P} (h:dEqD x y=some b):(∀xs,x≠.lst xs)/\∀xs,y≠.lst xs:=by
 refine⟨fun xs e=>?_,fun xs e=>?_⟩
 ·subst e;cases y <;> cases h
 ·subst e;cases x <;> cases h
section
variable {X:Cx}
theorem opEqE (hu:X.A.units+64 < cLine):OpR X (compareOp .Eq) (rE X.K gEq):=by
 intro pins s σ H x y v u Q I rx ry h
 obtain⟨F,m,S,d,e,r,rl,px,py,q,k⟩:=h
 unfold gEq at q
 cases e1:snap S 9 d with
 | none=>rw [e1] at q;cases q
 | some a=>
  rw [e1] at q
  cases e2:snap S 9 e with
  | none=>rw [e2] at q;cases q
  | some b=>
   rw [e2] at q
   simp only [Option.bind_some] at q
   cases e3:eqD a b with
   | none=>rw [e3] at q;cases q
   | some c=>
    rw [e3] at q
    cases q
    unfold eqD at e3
    split at e3
    ·rename_i c' ec
     cases e3
     obtain⟨n1,n2⟩:=dEqD_nolst ec
     exact opEqD (by omega) pins s σ H x y v u Q I rx ry ⟨F,a,b,.bl c,rl.ft,snap_rp rl px e1 n1,snap_rp rl py e2 n2,ec,k⟩
    ·split at e3
     ·rename_i hc
      rw [Bool.and_eq_true] at hc
      cases e3
      obtain⟨as,ra⟩:=snap_reads I rl 9 20 px rx e1 hc.1
      obtain⟨bs,rb⟩:=snap_reads I rl 9 20 py ry e2 hc.2
      exact eq_dataH ra rb (okP_shaped hc.1) (okP_shaped hc.2) hu ⟨.bl _,H,I,rfl,k _ F H .refl rfl⟩
     ·cases e3
theorem dNe_nolst {x y:P}{b:P} (h:dNe x y=some b):(∀xs,x≠.lst xs)/\∀xs,y≠.lst xs:=by
 refine⟨fun xs e=>?_,fun xs e=>?_⟩
 ·subst e;cases y <;> cases h
 ·subst e;cases x <;> cases h
theorem opNeE (hu:X.A.units+64 < cLine):OpR X (compareOp .NotEq) (rE X.K gNe):=by
 intro pins s σ H x y v u Q I rx ry h
 obtain⟨F,m,S,d,e,r,rl,px,py,q,k⟩:=h
 unfold gNe at q
 cases e1:snap S 9 d with
 | none=>rw [e1] at q;cases q
 | some a=>
  rw [e1] at q
  cases e2:snap S 9 e with
  | none=>rw [e2] at q;cases q
  | some b=>
   rw [e2] at q
   simp only [Option.bind_some] at q
   cases e3:neD a b with
   | none=>rw [e3] at q;cases q
   | some c=>
    rw [e3] at q
    cases q
    unfold neD at e3
    split at e3
    ·rename_i c' ec
     cases e3
     obtain⟨n1,n2⟩:=dNe_nolst ec
     exact opNe pins s σ H x y v u Q I rx ry ⟨F,a,b,.bl c,rl.ft,snap_rp rl px e1 n1,snap_rp rl py e2 n2,ec,k⟩
    ·split at e3
     ·rename_i hc
      rw [Bool.and_eq_true] at hc
      cases e3
      obtain⟨as,ra⟩:=snap_reads I rl 9 20 px rx e1 hc.1
      obtain⟨bs,rb⟩:=snap_reads I rl 9 20 py ry e2 hc.2
      exact ne_dataH ra rb (okP_shaped hc.1) (okP_shaped hc.2) hu ⟨.bl _,H,I,rfl,k _ F H .refl rfl⟩
     ·cases e3
theorem pds_any (x:P):∀xs:List P,(pds xs).any (fun y=>PyData.eqv y (pd x))=xs.any fun y=>PyData.eqv (pd y) (pd x)
 | []=>rfl
 | y::r=>by rw [pds,List.any_cons,List.any_cons,pds_any x r]
theorem okAll {xs:List P} (h:xs.all (okP 19)=true):PyData.canLayAll0 (pds xs)=true/\PyData.depthAll (pds xs)≤20:=by
 have l:=okP_lay 20 (.lst xs) h
 simp only [pd,PyData.canLay0,PyData.depth] at l
 have l2:=l.2
 exact⟨l.1,by omega⟩
theorem valV_some {kvs:List (Key×V)}{k:Key}:(valV kvs k).isSome=hasK k (kvs.map (·.1)):=by
 induction kvs with
 | nil=>rfl
 | cons p r ih=>
  unfold hasK at ih ⊢
  by_cases h:p.1=k
  ·rw [valV_pos h,List.map_cons,List.any_cons,decide_eq_true h];rfl
  ·rw [valV_neg h,ih,List.map_cons,List.any_cons,decide_eq_false h];rfl
theorem dKeys_ok {K:PySem.W.Frag}{F:Addr->Prop}{H:Hp}{m:List Addr}{S:Sto}{c:D}{y:V}{ks:List Key} (rl:Rel K F H m S) (py:RD K F H m c y) (q:dKeys c S=some ks):∃a kvs,y=.ref a/\H a=some (.dK kvs)/\kvs.map (·.1)=ks:=by
 unfold dKeys at q
 split at q
 ·cases q
  obtain⟨a,kvs,e,_,hk,e2,_⟩:=py
  exact⟨a,kvs,e,hk,e2⟩
 ·rename_i i
  obtain⟨a,rfl,hm⟩:=py
  split at q
  ·rename_i o
   cases q
   obtain⟨kvs,hk,e2,_⟩:=rl.obj i a _ hm o
   exact⟨a,kvs,rfl,hk,e2⟩
  ·rename_i o
   cases q
   obtain⟨b,kvs,e,_,hk,e2,_⟩:=rl.obj i a _ hm o
   cases e
   exact⟨a,kvs,rfl,hk,e2⟩
  ·cases q
 ·cases q
theorem opInE (hu:X.A.units+64 < cLine):OpR X (compareOp .In) (rE X.K gIn):=by
  intro pins s σ H x y v u Q I rx ry h
  obtain⟨F,m,S,d,e,r,rl,px,py,q,k⟩:=h
  unfold gIn inG at q
  cases ek:dKeys e S with
  | some ks=>
    rw [ek] at q
    dsimp only at q
    cases e1:snap S 9 d with
    | none=>rw [e1] at q;cases q
    | some a=>
      rw [e1] at q
      simp only [Option.bind_some] at q
      cases e2:keyOf a with
      | none=>rw [e2] at q;cases q
      | some key=>
        rw [e2] at q
        cases q
        obtain⟨b,kvs,rfl,hk,e3⟩:=dKeys_ok rl py ek
        have pa:RP X.K F H a x:=snap_rp rl px e1 fun xs z=>by subst z;cases e2
        cases ry
        cases keyOf_kV e2 pa
        exact d_in (by omega) I (DGet.k hk) rx fun s3 I3=>⟨.bl _,H,I3,rfl,by rw [valV_some,e3];exact k _ F H .refl rfl⟩
  | none=>
    rw [ek] at q
    dsimp only at q
    cases e1:snap S 9 d with
    | none=>rw [e1] at q;cases q
    | some a=>
      rw [e1] at q
      cases e2:snap S 9 e with
      | none=>rw [e2] at q;cases q
      | some b=>
        rw [e2] at q
        simp only [Option.bind_some] at q
        cases e3:inP a b with
        | none=>rw [e3] at q;cases q
        | some c=>
          rw [e3] at q
          cases q
          unfold inP at e3
          split at e3
          · cases e3
            cases (show x=.str _ from snap_rp rl px e1 fun xs z=>by cases z)
            cases (show y=.str _ from snap_rp rl py e2 fun xs z=>by cases z)
            exact op_in_str pins s σ H _ _ v u Q I rx ry ⟨_,_,rfl,rfl,k _ F H .refl rfl⟩
          all_goals first
            | (cases e3;done)
            | (split at e3
               · rename_i hc
                 rw [Bool.and_eq_true] at hc
                 cases e3
                 obtain⟨as,ra⟩:=snap_reads I rl 9 20 py ry e2 (by simpa [okP] using hc.1)
                 obtain⟨bs,rb⟩:=snap_reads I rl 9 19 px rx e1 hc.2
                 have la:=okAll hc.1
                 have lb:=okP_lay 19 _ hc.2
                 rw [pd] at ra
                 first
                   | exact SeqAt.in_list_reads ra rb la.1 lb.1 (by omega) ⟨.bl _,H,I,rfl,by rw [pds_any];exact k _ F H .refl rfl⟩
                   | exact SeqAt.in_tuple_reads ra rb la.1 lb.1 (by omega) ⟨.bl _,H,I,rfl,by rw [pds_any];exact k _ F H .refl rfl⟩
               · cases e3)
theorem opNotInE (hu:X.A.units+64 < cLine):OpR X (compareOp .NotIn) (rE X.K gNotIn):=by
  intro pins s σ H x y v u Q I rx ry h
  obtain⟨F,m,S,d,e,r,rl,px,py,q,k⟩:=h
  unfold gNotIn inG at q
  cases ek:dKeys e S with
  | some ks=>
    rw [ek] at q
    dsimp only at q
    cases e1:snap S 9 d with
    | none=>rw [e1] at q;cases q
    | some a=>
      rw [e1] at q
      simp only [Option.bind_some] at q
      cases e2:keyOf a with
      | none=>rw [e2] at q;cases q
      | some key=>
        rw [e2] at q
        cases q
        obtain⟨b,kvs,rfl,hk,e3⟩:=dKeys_ok rl py ek
        have pa:RP X.K F H a x:=snap_rp rl px e1 fun xs z=>by subst z;cases e2
        cases ry
        cases keyOf_kV e2 pa
        exact d_notIn (by omega) I (DGet.k hk) rx fun s3 I3=>⟨.bl _,H,I3,rfl,by rw [valV_some,e3];exact k _ F H .refl rfl⟩
  | none=>
    rw [ek] at q
    dsimp only at q
    cases e1:snap S 9 d with
    | none=>rw [e1] at q;cases q
    | some a=>
      rw [e1] at q
      cases e2:snap S 9 e with
      | none=>rw [e2] at q;cases q
      | some b=>
        rw [e2] at q
        simp only [Option.bind_some] at q
        cases e3:inP a b with
        | none=>rw [e3] at q;cases q
        | some c=>
          rw [e3] at q
          cases q
          unfold inP at e3
          split at e3
          · cases e3
            cases (show x=.str _ from snap_rp rl px e1 fun xs z=>by cases z)
            cases (show y=.str _ from snap_rp rl py e2 fun xs z=>by cases z)
            exact op_notin_str pins s σ H _ _ v u Q I rx ry ⟨_,_,rfl,rfl,k _ F H .refl rfl⟩
          all_goals first
            | (cases e3;done)
            | (split at e3
               · rename_i hc
                 rw [Bool.and_eq_true] at hc
                 cases e3
                 obtain⟨as,ra⟩:=snap_reads I rl 9 20 py ry e2 (by simpa [okP] using hc.1)
                 obtain⟨bs,rb⟩:=snap_reads I rl 9 19 px rx e1 hc.2
                 have la:=okAll hc.1
                 have lb:=okP_lay 19 _ hc.2
                 rw [pd] at ra
                 first
                   | exact SeqAt.notIn_list_reads ra rb la.1 lb.1 (by omega) ⟨.bl _,H,I,rfl,by rw [pds_any];exact k _ F H .refl rfl⟩
                   | exact SeqAt.notIn_tuple_reads ra rb la.1 lb.1 (by omega) ⟨.bl _,H,I,rfl,by rw [pds_any];exact k _ F H .refl rfl⟩
               · cases e3)
end
end Ev
namespace Ev
open PySem PySem.Spec PyProof.Rows L2
noncomputable def gsGo:List TGv->List P->Lc->Option Lc
 | [],[],L=>some L
 | g::gs,v::vs,L=>match g v L with
  | some L1=>gsGo gs vs L1
  | none=>none
 | _,_,_=>none
noncomputable def isNm:Expr->Bool
 | .Name _ _=>true
 | _=>false
inductive GsOk (X:Cx):List Expr->List TGv->Prop where
 | nil:GsOk X [] []
 | cons {e:Expr}{es:List Expr}{g:TGv}{gs:List TGv}:isNm e=true->PG X e (gT X.K g)->GsOk X es gs->GsOk X (e::es) (g::gs)
section
variable {X:Cx}{pos:Pos}
theorem assignEach_nm {e:Expr}{es:List Expr}{env:Env} (h:isNm e=true):assignEach (e::es) env=(false,assign e env)::assignEach es env:=by
 cases e <;> first | rfl | cases h
theorem GsOk.len {es:List Expr}{gs:List TGv} (h:GsOk X es gs) (env:Env):(assignEach es env).length=gs.length/\(assignEach es env).findIdx? (·.1)=none:=by
 induction h with
 | nil=>exact⟨rfl,rfl⟩
 | cons hn _ _ ih=>
  rw [assignEach_nm hn]
  refine⟨by rw [List.length_cons,List.length_cons,ih.1],?_⟩
  simp only [List.findIdx?_cons,ih.2]
  rfl
end
end Ev
namespace Ev
open PySem PySem.Spec PyProof.Rows L2
open PySem.AutoSeq1 (wpAny_loadPart')
section
variable {X:Cx}
noncomputable def dMul2:P->P->Option P:=dMul
theorem opMul2:OpP X (binaryOp .Mult) dMul2:=opMul
variable {e:Expr}{es:List Expr}{fs:EVs}{p pos:Pos}
end
end Ev
namespace Ev
open PySem PySem.Spec PyProof.Rows L2
section
variable {X:Cx}{o e:Expr}{fo fe:EE}{fa:EV}{apos cpos pos:Pos}
noncomputable abbrev EDs:=Lc->Sto->Option (List D×Sto)
noncomputable def tDs (K:PySem.W.Frag) (f:EDs):TA:=fun σ H Q=>∃F m L S ds S',Rel K F H m S/\RL K F H m σ L/\f L S=some (ds,S')/\∀xs F' m' H',Stp F m H F' m' H'->Rel K F' H' m' S'->RDs K F' H' m' ds xs->Q xs H'
noncomputable def dsNil:EDs:=fun _ S=>some ([],S)
noncomputable def dsCons (a:EE) (r:EDs):EDs:=fun L S=>bnd (a L S) fun x S1=>bnd (r L S1) fun xs S2=>some (x::xs,S2)
variable {es:List Expr}{fs:EDs}
theorem daNil:PA X [] (tDs X.K dsNil):=pa_nil.imp' fun σ H Q hz=>by
 obtain⟨F,m,L,S,d,S',r,l,q,k⟩:=hz
 cases q
 exact k [] F m H .refl r rfl
theorem daCons (ha:PE X e (tE X.K fe)) (hr:PA X es (tDs X.K fs)) (hs:starEach (e::es) X.env=(false,eval e X.env)::starEach es X.env):PA X (e::es) (tDs X.K (dsCons fe fs)):=
 (pa_cons ha hr hs).imp' fun σ H Q hz=>by
  obtain⟨F,m,L,S,d,S',r,l,q,k⟩:=hz
  obtain⟨x,S1,e1,q⟩:=bnd_eq q
  obtain⟨xs,S2,e2,q⟩:=bnd_eq q
  cases q
  refine⟨F,m,L,S,x,S1,r,l,e1,fun v F1 m1 H1 s1 r1 p1=>?_⟩
  refine⟨F1,m1,L,S1,xs,S',r1,l.mono s1,e2,fun vs F2 m2 H2 s2 r2 p2=>?_⟩
  exact k (v::vs) F2 m2 H2 (s1.trans s2) r2 ⟨v,vs,rfl,RD.mono s2 p1,p2⟩
noncomputable def eLstD (a:EDs):EE:=fun L S=>bnd (a L S) fun xs S1=>if few xs=true then some (.ref S1.length,S1++[.lst xs]) else none
theorem xLstD (h:PA X es (tDs X.K fs)):PE X (.List es pos) (tE X.K (eLstD fs)):=(pe_lst h).imp' fun σ H Q hz=>by
 obtain⟨F,m,L,S,d,S',r,l,q,k⟩:=hz
 obtain⟨xs,S1,e1,q⟩:=bnd_eq q
 split at q
 ·rename_i hf
  cases q
  refine⟨F,m,L,S,xs,S1,r,l,e1,fun vs F1 m1 H1 s1 r1 p1=>⟨by rw [<- p1.length];exact few_le hf,fun p hp=>?_⟩⟩
  have s2:Stp F1 m1 H1 F1 (m1++[p]) (upd H1 p (.lst vs)):=stp_own hp
  refine k (.ref p) F1 (m1++[p]) _ (s1.trans s2) (r1.own hp ⟨vs,upd_same,RDs.mono s2 p1⟩) ⟨p,rfl,?_⟩
  rw [<- r1.len,List.getElem?_append_right (Nat.le_refl _)];simp
 ·cases q
noncomputable abbrev GF:=List D->Sto->Option (D×Sto)
noncomputable def spR (K:PySem.W.Frag) (g:GF):Sp:=fun vs H Q _=>∃F m ds S d S',Rel K F H m S/\RDs K F H m ds vs/\g ds S=some (d,S')/\∀v F' m' H',Stp F m H F' m' H'->Rel K F' H' m' S'->RD K F' H' m' d v->Q v H'
noncomputable def lowD (n:Nat):D->Bool
 | .p _=>true
 | .ref i=>decide (i < n)
noncomputable def lowO (n:Nat):SO->Bool
 | .lst ds=>ds.all (lowD n)
 | .dct _ ds=>ds.all (lowD n)
 | .fz _=>true
 | .ins _ _ ds=>ds.all (lowD n)
noncomputable def trunc (n:Nat) (S:Sto):Sto:=if (S.take n).all (lowO n)=true then S.take n else S
end
section
variable {K:PySem.W.Frag}{F:Addr->Prop}{H:Hp}{m:List Addr}{S:Sto}
theorem RD.low {n:Nat}{d:D}{v:V} (h:RD K F H m d v) (hl:lowD n d=true):RD K F H (m.take n) d v:=by
 cases d with
 | p w=>exact h
 | ref i=>
  obtain⟨a,e,hm⟩:=h
  exact⟨a,e,by rw [List.getElem?_take_of_lt (of_decide_eq_true hl)];exact hm⟩
theorem RDs.low {n:Nat}:∀{ds:List D}{xs:List V},RDs K F H m ds xs->ds.all (lowD n)=true->RDs K F H (m.take n) ds xs
 | [],_,h,_=>h
 | d::ds,_,h,hl=>by
  obtain⟨x,r,e,h1,h2⟩:=h
  rw [List.all_cons,Bool.and_eq_true] at hl
  exact⟨x,r,e,h1.low hl.1,RDs.low h2 hl.2⟩
theorem Rel.trunc {n:Nat} (r:Rel K F H m S) (hn:n≤m.length) (h:(S.take n).all (lowO n)=true):Rel K F H (m.take n) (S.take n) where
 len:=by rw [List.length_take,List.length_take,r.len]
 nd:=r.nd.sublist (List.take_sublist _ _)
 obj:=fun i a o e1 e2=>by
  have hi:i < n:=by
   have:=(List.getElem?_eq_some_iff.mp e1).1
   rw [List.length_take] at this;omega
  rw [List.getElem?_take_of_lt hi] at e1
  have lo:=List.all_eq_true.mp h o (List.mem_of_getElem? e2)
  rw [List.getElem?_take_of_lt hi] at e2
  have ob:=r.obj i a o e1 e2
  cases o with
  | lst ds=>obtain⟨xs,hH,rs⟩:=ob;exact⟨xs,hH,rs.low lo⟩
  | dct ks ds=>obtain⟨kvs,hH,e,rs⟩:=ob;exact⟨kvs,hH,e,rs.low lo⟩
  | fz v=>exact ob
  | ins c ks ds=>obtain⟨C,dx,kvs,e0,hH,e,rs⟩:=ob;exact⟨C,dx,kvs,e0,hH,e,rs.low lo⟩
 sep:=fun i a o e1 e2 w f=>by
  have hi:i < n:=by
   have:=(List.getElem?_eq_some_iff.mp e1).1
   rw [List.length_take] at this;omega
  rw [List.getElem?_take_of_lt hi] at e1 e2
  exact r.sep i a o e1 e2 w f
 trk:=fun a h=>r.trk a (List.mem_of_mem_take h)
 ft:=r.ft
theorem Stp.trunc {F':Addr->Prop}{m':List Addr}{H':Hp} (s:Stp F m H F' m' H'):Stp F m H F' (m'.take m.length) H':=by
 obtain⟨n,e⟩:=s.pre
 have e2:m'.take m.length=m:=by rw [e];simp
 rw [e2]
 exact⟨⟨[],by simp⟩,s.oth,s.frz,s.frk,s.tup,s.trk,s.nf,fun _ h=>.inl h⟩
end
section
variable {X:Cx}{e:Expr}{es:List Expr}{fs:EDs}{pos:Pos}
end
end Ev
namespace Ev
open PySem PySem.Spec PyProof.Rows L2
section
variable {X:Cx}{a b c e o i value:Expr}{fa fb fc fk fv:EV}{fo fe:EE}{pos pos':Pos}
noncomputable def sPut2 (o:EE) (k v:EV):ES:=sPut o k v
theorem zPut2 (hu:X.A.units+1 < cLine) (ho:PE X o (tE X.K fo)) (hi:PE X i (tV X.K fk)) (hv:PE X value (tV X.K fv)) (hs:swapsWith value (some (.Subscript o i pos')) pos.line X.env=pure false) :
  PS X (.Assign [.Subscript o i pos'] value pos) (tSt X.K (sPut2 fo fk fv)):=zPut hu ho hi hv hs
noncomputable def truP:P->Option Bool
 | .non=>some false
 | .bl b=>some b
 | .int i=>some (i != 0)
 | .str x=>if capN x.length=true then some ((x.length:Int) != 0) else none
 | .tup xs=>some (!xs.isEmpty)
 | .lst xs=>some (!xs.isEmpty)
 | .ro xs=>some (!xs.isEmpty)
 | .dct ks _=>some (!ks.isEmpty)
noncomputable def truD:D->Sto->Option Bool
 | .p v,_=>truP v
 | .ref i,S=>match S[i]? with
  | some (.lst ds)=>some (!ds.isEmpty)
  | some (.dct ks _)=>some (!ks.isEmpty)
  | some (.fz v)=>truP v
  | _=>none
noncomputable def bT (f:EE):EB:=fun L S=>bnd (f L S) fun d S1=>(truD d S1).map fun b=>(b,S1)
theorem isEmpty_len {α β:Type}{xs:List α}{ys:List β} (h:xs.length=ys.length):xs.isEmpty=ys.isEmpty:=by
 cases xs <;> cases ys <;> first | rfl | simp at h
theorem truP_ok {F:Addr->Prop}{H:Hp}{w:P}{v:V}{t:Bool} (p:RP X.K F H w v) (h:truP w=some t):TruV X.K v H t:=by
 cases w with
 | non=>cases (show v=.non from p);cases h;rfl
 | bl b=>cases (show v=.bl b from p);cases h;rfl
 | int b=>cases (show v=.int b from p);cases h;rfl
 | str x=>
  cases (show v=.str x from p)
  simp only [truP] at h
  split at h
  ·rename_i hc;cases h;exact⟨capN_le hc,rfl⟩
  ·cases h
 | tup ds=>obtain⟨a,xs,rfl,ta,ra⟩:=p;cases h;exact .inr (.inl ⟨xs,ta.sq,by rw [isEmpty_len ra.length]⟩)
 | lst ds=>obtain⟨a,xs,rfl,ta,ra⟩:=p;cases h;exact .inl ⟨xs,ta.sq,by rw [isEmpty_len ra.length]⟩
 | ro ds=>obtain⟨a,xs,rfl,ta,ra⟩:=p;cases h;exact .inl ⟨xs,ta.sq,by rw [isEmpty_len ra.length]⟩
 | dct ks ds=>
  obtain⟨a,kvs,rfl,_,hk,ek,ra⟩:=p
  cases h
  exact .inr (.inr ⟨kvs,hk,by rw [<- ek];cases kvs <;> rfl⟩)
theorem yT (h:PE X e (tE X.K fe)) (he:∀whole,isTrue e X.env whole=(do let v <- whole;standAt e.pos;holding [v] (truthy v))):PT X e (tQ X.K (bT fe)):=
 (pt_truth h he).imp' fun σ H Q hz=>by
  obtain⟨F,m,L,S,d,S',r,l,q,k⟩:=hz
  obtain⟨x,S1,e1,q⟩:=bnd_eq q
  cases et:truD x S1 with
  | none=>rw [et] at q;cases q
  | some t=>
   rw [et] at q
   cases q
   refine⟨F,m,L,S,x,_,r,l,e1,fun v F1 m1 H1 s1 r1 p1=>⟨_,?_,k F1 m1 H1 s1 r1⟩⟩
   cases x with
   | p w=>exact truP_ok p1 et
   | ref j=>
    obtain⟨a,rfl,hm⟩:=p1
    simp only [truD] at et
    split at et
    ·rename_i ds ho
     cases et
     obtain⟨xs,hH,rs⟩:=r1.obj j a _ hm ho
     exact .inl ⟨xs,SqL.of hH,by rw [isEmpty_len rs.length]⟩
    ·rename_i ks ds ho
     cases et
     obtain⟨kvs,hH,ek,rs⟩:=r1.obj j a _ hm ho
     exact .inr (.inr ⟨kvs,hH,by rw [<- ek];cases kvs <;> rfl⟩)
    ·rename_i w ho
     exact truP_ok (r1.obj j a _ hm ho) et
    ·cases et
noncomputable def dAdd2:P->P->Option P
 | .tup [],.tup ys=>some (.tup ys)
 | x,y=>dAdd x y
theorem catNil {M:Program}{w:World}{A:Around}{E:Value->Shared->Prop}{s:Shared}{t b:Addr}{ws:List Value}{Q:Value->Shared->Prop} (ht:IsTup s.heap t #[]) (hb:IsTup s.heap b ws.toArray) (h:Q (.ref b) s):wpAny (model M w) A (binaryOp .Add (.ref t) (.ref b)) Q E s:=by
 obtain⟨⟨cls,dd,data,sl⟩,ho,hc,n,hd⟩:=id ht
 obtain⟨⟨cls2,dd2,data2,sl2⟩,ho2,hc2,n2,hd2⟩:=id hb
 simp only at hc hd hc2 hd2
 subst hc hd hc2 hd2
 exact concat_meets ⟨_,ho,rfl⟩ ⟨_,ho2,rfl⟩ noFill_tuple_add seq_tuple_add PySem.F.slot_tuple_add PySem.F.entry_tuple_add (PySem.F.args_tuple_add_2 _ _) (tuple_addW0 t b #[] ws.toArray n n2 dd dd2 sl sl2 rfl) ⟨ho,ho2,h⟩
theorem opAdd2:OpP X (binaryOp .Add) dAdd2:=by
 intro pins s σ H x y v u Q I rx ry h
 obtain⟨F,dx,dy,d,ft,px,py,q,k⟩:=h
 have other:dAdd dx dy=some d->wpAny (model X.prog X.w) X.A (binaryOp .Add v u) (EP X pins σ Q) X.xe s:=fun q=>opAdd pins s σ H x y v u Q I rx ry ⟨F,dx,dy,d,ft,px,py,q,k⟩
 cases dx with
 | tup ds=>
  cases dy with
  | tup es=>
   cases ds with
   | nil=>
    cases q
    obtain⟨a,xs,rfl,ta,ra⟩:=px
    obtain⟨b,ys,rfl,tb,rb⟩:=id py
    cases (show xs=[] from ra)
    cases rx;cases ry
    obtain⟨its,r1,p1,_⟩:=I.tuple ta.sq
    obtain⟨its2,r2,p2,_⟩:=I.tuple tb.sq
    cases r1
    exact catNil p1 p2 ⟨.ref b,H,I,rfl,k _ F H .refl py⟩
   | cons _ _=>exact other q
  | _=>cases ds <;> exact other q
 | _=>exact other q
noncomputable def GlobOk (K:PySem.W.Frag) (mg:Str->Option Value) (x:Str) (v:P):Prop:=∃u w,mg x=some u/\RelV w u/\∀F H,RP K F H v w
theorem xGlob {x:Str}{v:P} (hg:Gl X x) (h:GlobOk X.K X.mg x v) (hd:(x == ("__debug__":Str))=false):PE X (.Name x pos) (tV X.K (vC v)):=by
 obtain⟨u,w,hm,r,p⟩:=h
 exact xC (pe_glob hg hm r hd) p
end
end Ev
namespace Ev
open PySem PySem.Spec PyProof.Rows L2
section
variable {X:Cx}{a:Expr}{fa:EE}{p pos:Pos}
noncomputable def isiD (T:String):D->Sto->Option Bool
 | .p v,_=>some (isiP T v)
 | .ref i,S=>match S[i]? with
  | some (.lst _)=>some (isiP T (.lst []))
  | some (.dct _ _)=>some (isiP T (.dct [] []))
  | some (.fz v)=>some (isiP T v)
  | _=>none
noncomputable def vIsi (T:String) (f:EE):EV:=fun L S=>bnd (f L S) fun d S1=>(isiD T d S1).map fun b=>(.bl b,S1)
theorem call_isiE {T:String} (hT:∀K:PySem.W.Frag,∀v:P,PySem.W.kitOne K (.type (tyN v)) (.type T)=some (isiP T v)) :
  CallR X (.builtin "isinstance") (fun xs H Q=>∃F m S d b x,xs=[x,.ty T]/\Rel X.K F H m S/\RD X.K F H m d x/\isiD T d S=some b/\Q (.bl b) H):=by
 intro pins s σ H xs us Q I r h
 obtain⟨F,m,S,d,b,x,rfl,rl,pd,ei,q⟩:=h
 have plain:∀w:P,RP X.K F H w x->isiP T w=b->wpAny (model X.prog X.w) X.A _ _ _ _:=fun w hw e=>call_isi hT pins s σ H [x,.ty T] us Q I r ⟨F,w,x,rfl,hw,by rw [e];exact q⟩
 cases d with
 | p w=>cases ei;exact plain w pd rfl
 | ref j=>
  obtain⟨a,rfl,hm⟩:=pd
  simp only [isiD] at ei
  obtain⟨u,w',rfl,ru,rw'⟩:=vals2 r
  cases (show w'=Value.type T from rw')
  have fin:∀tk,EP X pins σ Q (.bool b) { s with toks:=tk }:=fun tk=>⟨.bl b,H,I.tok _,rfl,q⟩
  split at ei
  ·rename_i ds ho
   obtain⟨xs,hH,rs⟩:=rl.obj j a _ hm ho
   have e:=hT X.K (.lst [])
   rw [show isiP T (.lst [])=b by cases ei;rfl] at e
   cases ru
   obtain⟨its,_,pl,_⟩:=I.list (SqL.of hH)
   obtain⟨o,n,h1,h2,_⟩:=pl
   exact PySem.W.kia_one PySem.W.kitx_list I.kIn ⟨o,h1,h2⟩ e (fun z=>nomatch z) fin
  ·rename_i ks ds ho
   obtain⟨kvs,hH,ek,rs⟩:=rl.obj j a _ hm ho
   have e:=hT X.K (.dct [] [])
   rw [show isiP T (.dct [] [])=b by cases ei;rfl] at e
   exact isinst_ok I ru (.dK hH) e fin
  ·rename_i w ho
   exact plain w (rl.obj j a _ hm ho) (by cases ei;rfl)
  ·cases ei
theorem yIsi {T:String}{tn:Str}{p2:Pos} (hT:∀K:PySem.W.Frag,∀v:P,PySem.W.kitOne K (.type (tyN v)) (.type T)=some (isiP T v)) (hg:Gl X "isinstance") (hm:X.mg "isinstance"=none) (hg2:Gl X tn) (hm2:X.mg tn=none) (hb:bootBuiltins tn=some (.type T)) (ha:PE X a (tE X.K fa))
  (hn:tn≠"__name__") (hd:(tn == ("__debug__":Str))=false) (hs:starEach [a,.Name tn p2] X.env=[(false,eval a X.env),(false,eval (.Name tn p2) X.env)]):PE X (.Call (.Name "isinstance" p) [a,.Name tn p2] [] pos) (tV X.K (vIsi T fa)):=
 (pe_callB (call_isiE hT) hg hm PyProof.Rows.boot_isinstance (pa_cons ha (pa_cons (pe_bltn (v:=.ty T) hg2 hm2 hb rfl hn hd) pa_nil rfl) (by rw [hs];rfl)) (by decide) (by decide) (by rw [hs];rfl) rfl).imp' fun σ H Q hz=>by
  obtain⟨F,m,L,S,d,S',r,l,q,k⟩:=hz
  obtain⟨x,S1,e1,q⟩:=bnd_eq q
  cases ei:isiD T x S1 with
  | none=>rw [ei] at q;cases q
  | some b=>
   rw [ei] at q
   cases q
   exact⟨F,m,L,S,_,_,r,l,e1,fun v F' m' H' s r' pp=>⟨F',m',_,x,b,v,rfl,r',pp,ei,k _ F' m' H' s r' rfl⟩⟩
end
end Ev
namespace Ev
open PySem PySem.Spec PyProof.Rows L2
noncomputable def lookF (f:Str):List Str->List D->Option D
 | k::ks,d::ds=>if k=f then some d else lookF f ks ds
 | _,_=>none
noncomputable def putK (f:Str):List Str->List Str
 | []=>[f]
 | k::ks=>if k=f then k::ks else k::putK f ks
noncomputable def putD (f:Str) (y:D):List Str->List D->List D
 | [],_=>[y]
 | k::ks,d::ds=>if k=f then y::ds else d::putD f y ks ds
 | _::_,[]=>[]
noncomputable def ClsOf (K:PySem.W.Frag) (c:Str) (C:Addr):Prop:=PySem.W.nsIn K mainGlobals c=some (some (.ref C))
theorem ClsOf.inj {K:PySem.W.Frag}{c:Str}{C C':Addr} (h:ClsOf K c C) (h':ClsOf K c C'):C=C':=by
 have:=h.symm.trans h'
 cases this;rfl
noncomputable def AOk (K:PySem.W.Frag) (A:Str->Str->Bool):Prop:=∀c f,A c f=true->∃C,ClsOf K c C/\Cls K C/\NoAttr K C f
section
variable {K:PySem.W.Frag}{F:Addr->Prop}{H:Hp}{m:List Addr}
theorem look_kv {f:Str}:∀{kvs:List (Str×V)}{ds:List D}{d:D},RDs K F H m ds (kvs.map (·.2))->lookF f (kvs.map (·.1)) ds=some d->∃v,kvs.lookup f=some v/\RD K F H m d v
 | [],ds,d,_,h=>by cases ds <;> cases h
 | (k,x)::r,ds,d,rd,h=>by
  cases ds with
  | nil=>cases h
  | cons d0 ds=>
   obtain⟨y,yr,e,h1,h2⟩:=rd
   simp only [List.map_cons,List.cons.injEq] at e
   obtain⟨rfl,rfl⟩:=e
   simp only [List.map_cons,lookF] at h
   split at h
   ·rename_i hk
    cases h
    subst hk
    exact⟨x,by simp [List.lookup],h1⟩
   ·rename_i hk
    obtain⟨v,e1,e2⟩:=look_kv h2 h
    exact⟨v,by rw [List.lookup_cons,show (f == k)=false by simpa using fun z=>hk z.symm];exact e1,e2⟩
theorem look_no {f:Str}:∀{kvs:List (Str×V)},(kvs.map (·.1)).contains f=false->kvs.lookup f=none
 | [],_=>rfl
 | (k,x)::r,h=>by
  simp only [List.map_cons,List.contains_cons,Bool.or_eq_false_iff] at h
  rw [List.lookup_cons,h.1]
  exact look_no h.2
theorem put_kv {f:Str}{y:D}{v:V} (hy:RD K F H m y v):∀{kvs:List (Str×V)}{ds:List D},RDs K F H m ds (kvs.map (·.2))->(putF f v kvs).map (·.1)=putK f (kvs.map (·.1))/\RDs K F H m (putD f y (kvs.map (·.1)) ds) ((putF f v kvs).map (·.2))
 | [],ds,rd=>⟨rfl,v,[],rfl,hy,rfl⟩
 | (k,x)::r,ds,rd=>by
  cases ds with
  | nil=>cases (show _=([]:List V) from rd)
  | cons d0 ds=>
   obtain⟨z,zr,e,h1,h2⟩:=rd
   simp only [List.map_cons,List.cons.injEq] at e
   obtain⟨rfl,rfl⟩:=e
   by_cases hk:k=f
   ·simp only [putF,hk,if_true,List.map_cons,putK,putD]
    first | exact⟨rfl,v,_,rfl,hy,h2⟩ | exact⟨trivial,v,_,rfl,hy,h2⟩
   ·obtain⟨i1,i2⟩:=put_kv hy h2
    simp only [putF,hk,if_false,List.map_cons,putK,putD]
    exact⟨by rw [i1],x,_,rfl,h1,i2⟩
end
section
variable {X:Cx}{o e value:Expr}{f:Str}{pos pos' apos:Pos}{fo fv:EE}{A:Str->Str->Bool}{es:List Expr}{fs:EDs}
noncomputable def eFld (A:Str->Str->Bool) (o:EE) (f:Str):EE:=fun L S=>bnd (o L S) fun d S1=>match d with
 | .ref i=>match S1[i]? with
  | some (.ins c ks ds)=>if A c f=true then (lookF f ks ds).map fun z=>(z,S1) else none
  | _=>none
 | _=>none
theorem xFld (hA:AOk X.K A) (ho:PE X o (tE X.K fo)) (hb:attributeBase o f X.env (eval o X.env)=eval o X.env):PE X (.Attribute o f pos) (tE X.K (eFld A fo f)):=(pe_fld ho hb).imp' fun σ H Q hz=>by
 obtain⟨F,m,L,S,d,S',r,l,q,k⟩:=hz
 obtain⟨x,S1,e1,q⟩:=bnd_eq q
 refine⟨F,m,L,S,x,S1,r,l,e1,fun v F1 m1 H1 s1 r1 p1=>?_⟩
 cases x with
 | p w=>cases q
 | ref i=>
  obtain⟨a,rfl,hm⟩:=p1
  dsimp only at q
  split at q
  ·rename_i c ks ds hs
   split at q
   ·rename_i ha
    cases el:lookF f ks ds with
    | none=>rw [el] at q;cases q
    | some z=>
     rw [el] at q
     cases q
     obtain⟨C,dx,kvs,ec,hH,rfl,rs⟩:=r1.obj i a _ hm hs
     obtain⟨C',ec',hc,hn⟩:=hA c f ha
     cases ClsOf.inj ec ec'
     obtain⟨v,e3,p3⟩:=look_kv rs el
     exact⟨a,C,dx,kvs,v,rfl,hH,hc,hn,e3,k v F1 m1 H1 s1 r1 p3⟩
   ·cases q
  ·cases q
noncomputable def sFld' (A:Str->Str->Bool) (o:EE) (f:Str) (v:EE):ES:=fun L S=>bnd (v L S) fun y S1=>bnd (o L S1) fun d S2=>match d with
 | .ref i=>match S2[i]? with
  | some (.ins c ks ds)=>if (A c f && decide (ks.length < 900))=true then some (.nx,L,S2.set i (.ins c (putK f ks) (putD f y ks ds))) else none
  | _=>none
 | _=>none
theorem zFld (hA:AOk X.K A) (ho:PE X o (tE X.K fo)) (hv:PE X value (tE X.K fv)) (hs:swapsWith value (some (.Attribute o f pos')) pos.line X.env=pure false):PS X (.Assign [.Attribute o f pos'] value pos) (tSt X.K (sFld' A fo f fv)):=(ps_fld ho hv hs).imp' fun D σ H hz=>by
 obtain⟨F,m,L,S,fl,L',S',r,l,q,k⟩:=hz
 obtain⟨y,S1,e1,q⟩:=bnd_eq q
 obtain⟨d,S2,e2,q⟩:=bnd_eq q
 refine⟨F,m,L,S,y,S1,r,l,e1,fun v F1 m1 H1 s1 r1 p1=>?_⟩
 refine⟨F1,m1,L,S1,d,S2,r1,l.mono s1,e2,fun x F2 m2 H2 s2 r2 p2=>?_⟩
 cases d with
 | p w=>cases q
 | ref i=>
  obtain⟨a,rfl,hm⟩:=p2
  dsimp only at q
  split at q
  ·rename_i c ks ds hs
   split at q
   ·rename_i ha
    rw [Bool.and_eq_true] at ha
    cases q
    obtain⟨C,dx,kvs,ec,hH,rfl,rs⟩:=r2.obj i a _ hm hs
    obtain⟨C',ec',hc,hn⟩:=hA c f ha.1
    cases ClsOf.inj ec ec'
    have hl:kvs.length < 1000:=by have:=of_decide_eq_true ha.2;rw [List.length_map] at this;omega
    have nt:∀zs,H2 a≠some (.tup zs):=fun zs z=>by rw [hH] at z;cases z
    have st:Stp F2 m2 H2 F2 m2 (upd H2 a (.ins C dx (putF f v kvs))):=stp_set r2 hm hs trivial nt
    obtain⟨i1,i2⟩:=put_kv (f:=f) (RD.mono st (RD.mono s2 p1)) (RDs.mono st rs)
    exact⟨a,C,dx,kvs,rfl,hH,hc,hn,hl,k σ F2 m2 _ (s1.trans (s2.trans st)) (r2.set hm hs trivial nt ⟨C,dx,_,ec,upd_same,i1,i2⟩) ((l.mono s1).mono (s2.trans st))⟩
   ·cases q
  ·cases q
noncomputable def eMeth (M:Str->Str->Option GF) (o:EE) (mn:Str) (as:EDs):EE:=fun L S=>bnd (o L S) fun d S1=>match d with
 | .ref i=>match S1[i]? with
  | some (.ins c ks _)=>match M c mn with
   | some g=>if ks.contains mn=true then none else bnd (as L S1) fun vs S2=>g (.ref i::vs) S2
   | none=>none
  | _=>none
 | _=>none
noncomputable def MOk (X:Cx) (M:Str->Str->Option GF):Prop:=∀c mn g,M c mn=some g->∃C k f fd ps,ClsOf X.K c C/\Cls X.K C/\Meth X.K C mn f/\FnOk X.prog X.w X.K X.mg X.base CX0 k f fd ps (spR X.K g)/\Room k X.A/\Binds X.K fd ps []
variable {M:Str->Str->Option GF}{mn:Str}
theorem meth_core (hM:MOk X M) {t:TE}{ta:TA} (hcall:∀C k f fd ps g,Cls X.K C->Meth X.K C mn f->FnOk X.prog X.w X.K X.mg X.base CX0 k f fd ps (spR X.K g)->Room k X.A->Binds X.K fd ps []->PE X e (tMeth C mn (spR X.K g) [] E0 (tE X.K fo) (tDs X.K fs))):PE X e (tE X.K (eMeth M fo mn fs)):=by
 intro pins s σ H Q I h
 obtain⟨F,m,L,S,d,S',r,l,q,k⟩:=h
 obtain⟨x,S1,e1,q⟩:=bnd_eq q
 cases x with
 | p w=>cases q
 | ref i=>
  dsimp only at q
  split at q
  ·rename_i c ks ds hs
   split at q
   ·rename_i g hg
    split at q
    ·cases q
    ·rename_i hk
     obtain⟨vs,S2,e2,q⟩:=bnd_eq q
     obtain⟨C,kk,f,fd,ps,ec,hc,hm,hF,hr,hb⟩:=hM c mn g hg
     refine hcall C kk f fd ps g hc hm hF hr hb pins s σ H Q I ⟨F,m,L,S,.ref i,S1,r,l,e1,fun v F1 m1 H1 s1 r1 p1=>?_⟩
     obtain⟨a,rfl,hmi⟩:=id p1
     obtain⟨C',dx,kvs,ec',hH,rfl,rs⟩:=r1.obj i a _ hmi hs
     cases ClsOf.inj ec ec'
     refine⟨a,dx,kvs,rfl,hH,look_no (by simpa using hk),F1,m1,L,S1,vs,S2,r1,l.mono s1,e2,fun xs F2 m2 H2 s2 r2 p2=>?_⟩
     show spR X.K g (V.ref a::(xs++[])) H2 Q E0
     rw [List.append_nil]
     exact⟨F2,m2,.ref i::vs,S2,d,S',r2,⟨_,_,rfl,RD.mono s2 p1,p2⟩,q,fun v F3 m3 H3 s3 r3 p3=>k v F3 m3 H3 (s1.trans (s2.trans s3)) r3 p3⟩
   ·cases q
  ·cases q
theorem xMeth {pl:Sem Bool} (hM:MOk X M) (ho:PE X o (tE X.K fo)) (ha:PA X (e::es) (tDs X.K fs)) (hst:starEach (e::es) X.env=(false,eval e X.env)::starEach es X.env) (hpl:(backTo pos (starEach es X.env)).any (·.1)=false)
  (ht:eval (.Call (.Attribute o mn apos) (e::es) [] pos) X.env=(do
   let ov <- eval o X.env
   standAt apos.atName
   let (f,first) <- holding [ov] (getMethod ov mn pl)
   callWith pos f first (backTo pos (starEach (e::es) X.env)) (backToKw pos (keywordEach [] X.env)))) :
  PE X (.Call (.Attribute o mn apos) (e::es) [] pos) (tE X.K (eMeth M fo mn fs)):=
 meth_core (t:=tE X.K fo) (ta:=tDs X.K fs) hM fun C k f fd ps g hc hm hF hr hb=>pe_meth ho hc hm hF hr hb .nil pass0 ha hst hpl ht
theorem xMeth0 {pl:Sem Bool} (hM:MOk X M) (ho:PE X o (tE X.K fo))
  (ht:eval (.Call (.Attribute o mn apos) [] [] pos) X.env=(do
   let ov <- eval o X.env
   standAt apos.atName
   let (f,first) <- holding [ov] (getMethod ov mn pl)
   callWith pos f first (backTo pos (starEach [] X.env)) (backToKw pos (keywordEach [] X.env)))) :
  PE X (.Call (.Attribute o mn apos) [] [] pos) (tE X.K (eMeth M fo mn dsNil)):=
 meth_core (t:=tE X.K fo) (ta:=tDs X.K dsNil) hM fun C k f fd ps g hc hm hF hr hb=>(pe_meth0 ho hc hm hF hr hb .nil pass0 ht).imp' fun σ H Q h=>by
  obtain⟨F,m,L,S,d,S',r,l,q,k⟩:=h
  refine⟨F,m,L,S,d,S',r,l,q,fun v F' m' H' s' r' p'=>?_⟩
  obtain⟨a,dx,fs,rfl,hH,hl,F2,m2,L2,S2,ds,S2',r2,l2,q2,k2⟩:=k v F' m' H' s' r' p'
  cases q2
  exact⟨a,dx,fs,rfl,hH,hl,k2 [] F2 m2 H' .refl r2 rfl⟩
noncomputable def eMake (g:GF) (c:Str) (as:EDs):EE:=fun L S=>bnd (as L S) fun vs S1=>match g (.ref S1.length::vs) (S1++[.ins c [] []]) with
 | some (.p .non,S2)=>some (.ref S1.length,S2)
 | _=>none
theorem xMake {C f:Addr}{fd:FuncData}{ps:List Str}{k:Nat}{x:Str}{p:Pos}{g:GF} (Mk':Mk X.K C f) (G:FnOk X.prog X.w X.K X.mg X.base CX0 k f fd ps (spR X.K g)) (hr:Room (k+1) X.A) (hg:Gl X x) (hm:X.mg x=some (.ref C)) (hC:ClsOf X.K x C) (hb:Binds X.K fd ps [])
  (ha:PA X (e::es) (tDs X.K fs)) (hdb:(x == ("__debug__":Str))=false) (he:starEach (e::es) X.env=(false,eval e X.env)::starEach es X.env) (hpl:(backTo pos (starEach es X.env)).any (·.1)=false) :
  PE X (.Call (.Name x p) (e::es) [] pos) (tE X.K (eMake g x fs)):=
 (pe_make Mk' G hr hg hm hb .nil pass0 ha hdb he hpl).imp' fun σ H Q hz=>by
  obtain⟨F,m,L,S,d,S',r,l,q,k⟩:=hz
  obtain⟨vs,S1,e1,q⟩:=bnd_eq q
  refine⟨F,m,L,S,vs,S1,r,l,e1,fun xs F1 m1 H1 s1 r1 p1=>fun y dx hy hdx hne=>?_⟩
  split at q
  ·rename_i _ S2 eg
   cases q
   have s2:Stp F1 m1 H1 F1 m1 (upd H1 dx (.own y)):=stp_new hdx
   have r2:Rel X.K F1 (upd H1 dx (.own y)) m1 S1:=r1.new hdx
   have hy2:upd H1 dx (.own y) y=none:=by rw [upd_ne (Ne.symm hne)];exact hy
   have s3:Stp F1 m1 (upd H1 dx (.own y)) F1 (m1++[y]) (upd (upd H1 dx (.own y)) y (.ins C dx [])):=stp_own hy2
   have r3:Rel X.K F1 (upd (upd H1 dx (.own y)) y (.ins C dx [])) (m1++[y]) (S1++[.ins x [] []]):=r2.own hy2 ⟨C,dx,[],hC,upd_same,rfl,rfl⟩
   rw [List.append_nil]
   have hmy:(m1++[y])[S1.length]? = some y:=by rw [<- r1.len,List.getElem?_append_right (Nat.le_refl _)];simp
   refine⟨F1,m1++[y],.ref S1.length::vs,_,.p .non,_,r3,⟨_,_,rfl,⟨y,rfl,hmy⟩,RDs.mono s3 (RDs.mono s2 p1)⟩,eg,fun v F4 m4 H4 s4 r4 p4=>⟨p4,?_⟩⟩
   refine k (.ref y) F4 m4 H4 (s1.trans (s2.trans (s3.trans s4))) r4 ⟨y,rfl,?_⟩
   obtain⟨n,en⟩:=s4.pre
   rw [en,List.getElem?_append_left (List.getElem?_eq_some_iff.mp hmy).1];exact hmy
  ·cases q
end
theorem methEq {o:Expr}{mn:Str}{apos pos:Pos}{args:List Expr}{env:Env} (hbase:attributeBase o mn env (eval o env)=eval o env) (hfew:methodCallForm (args.length+([]:List Keyword).length) (backTo pos (starEach args env)) (backToKw pos (keywordEach [] env))=true) (hline:(apos.endLine == pos.line)=true) :
  eval (.Call (.Attribute o mn apos) args [] pos) env=(do
   let ov <- eval o env
   standAt apos.atName
   let (f,first) <- holding [ov] (getMethod ov mn (do return (<- importBound o env).getD true))
   callWith pos f first (backTo pos (starEach args env)) (backToKw pos (keywordEach [] env))):=by
 have h1:methodCallPos true o env apos pos=pure pos:=by unfold methodCallPos;rw [hline];rfl
 have h2:∀ov,methodCall o mn apos pos env ov (args.length+([]:List Keyword).length) (backTo pos (starEach args env)) (backToKw pos (keywordEach [] env))=(do
   let (f,first) <- holding [ov] (getMethod ov mn (do return (<- importBound o env).getD true))
   callWith pos f first (backTo pos (starEach args env)) (backToKw pos (keywordEach [] env))):=fun ov=>by
  unfold methodCall
  rw [hfew,h1]
  rfl
 have h3:eval (.Call (.Attribute o mn apos) args [] pos) env=(do
  let ov <- attributeBase o mn env (eval o env)
  standAt apos.atName
  methodCall o mn apos pos env ov (args.length+([]:List Keyword).length) (backTo pos (starEach args env)) (backToKw pos (keywordEach [] env))):=by rfl
 rw [h3,hbase]
 simp only [h2]
section
variable {X:Cx}{o e value:Expr}{f:Str}{pos pos' tpos:Pos}{fo:EE}{fv:EV}{A:Str->Str->Bool}
noncomputable def sAug (i:Nat) (v:EV):ES:=fun L S=>match L[i]? with
 | some (some (.p (.int a)))=>bnd (v L S) fun y S1=>match y with
  | .int b=>some (.nx,L.set i (some (.p (.int (a+b)))),S1)
  | _=>none
 | _=>none
theorem zAug (i:Nat) {x:Str} (hN:X.N.Nodup) (h:PE X e (tV X.K fv)) (hi:X.N[i]? = some x) (hx:L2.Loc X.env.scope x) (hf:X.fn x=true\/X.env.scope.names.lookup x=some .local):PS X (.AugAssign (.Name x pos') .Add e pos) (tSt X.K (sAug i fv)):=
 (ps_aug hN hi hx h ip_add hf).imp' fun D σ H hz=>by
  obtain⟨F,m,L,S,fl,L',S',r,l,q,k⟩:=hz
  unfold sAug at q
  split at q
  ·rename_i a ha
   obtain⟨y,S1,e1,q⟩:=bnd_eq q
   cases y with
   | int b=>
    cases q
    obtain⟨x1,ex,px⟩:=l.at' i _ ha
    cases (show x1=.int a from px)
    refine⟨_,ex,F,m,L,S,_,_,r,l,e1,fun v F1 m1 H1 s1 r1 p1=>?_⟩
    cases (show v=.int b from p1)
    exact⟨a,b,rfl,rfl,k _ F1 m1 H1 s1 r1 ((l.mono s1).set (show RD X.K F1 H1 m1 (.p (.int (a+b))) (.int (a+b)) from rfl) i)⟩
   | _=>cases q
  ·cases q
noncomputable def sAugF (A:Str->Str->Bool) (o:EE) (f:Str) (v:EV):ES:=fun L S=>bnd (o L S) fun d S1=>match d with
 | .ref i=>match S1[i]? with
  | some (.ins c ks ds)=>if A c f=true then (match lookF f ks ds with
   | some (.p (.int a))=>bnd (v L S1) fun y S2=>match y,S2[i]? with
    | .int b,some (.ins c' ks' ds')=>if (decide (c'=c) && decide (ks'.length < 900))=true then some (.nx,L,S2.set i (.ins c (putK f ks') (putD f (.p (.int (a+b))) ks' ds'))) else none
    | _,_=>none
   | _=>none) else none
  | _=>none
 | _=>none
theorem zAugF (hA:AOk X.K A) (ho:PE X o (tE X.K fo)) (hv:PE X value (tV X.K fv)):PS X (.AugAssign (.Attribute o f tpos) .Add value pos) (tSt X.K (sAugF A fo f fv)):=(ps_fldaug ho hv in_add).imp' fun D σ H hz=>by
 obtain⟨F,m,L,S,fl,L',S',r,l,q,k⟩:=hz
 obtain⟨d,S1,e1,q⟩:=bnd_eq q
 refine⟨F,m,L,S,d,S1,r,l,e1,fun x F1 m1 H1 s1 r1 p1=>?_⟩
 cases d with
 | p w=>cases q
 | ref i=>
  obtain⟨a,rfl,hm⟩:=id p1
  dsimp only at q
  split at q
  ·rename_i c ks ds hs
   split at q
   ·rename_i ha
    split at q
    ·rename_i av el
     obtain⟨y,S2,e2,q⟩:=bnd_eq q
     obtain⟨C,dx,kvs,ec,hH,rfl,rs⟩:=r1.obj i a _ hm hs
     obtain⟨C',ec',hc,hn⟩:=hA c f ha
     cases ClsOf.inj ec ec'
     obtain⟨v,e3,p3⟩:=look_kv rs el
     cases (show v=.int av from p3)
     refine⟨a,C,dx,kvs,_,rfl,hH,hc,hn,e3,F1,m1,L,S1,y,S2,r1,l.mono s1,e2,fun u F2 m2 H2 s2 r2 p2=>?_⟩
     split at q
     ·rename_i b c' ks' ds' hs2
      split at q
      ·rename_i hcc
       rw [Bool.and_eq_true] at hcc
       have e5:=of_decide_eq_true hcc.1
       subst e5
       cases q
       cases (show u=.int b from p2)
       obtain⟨a2,ea2,hm2⟩:=RD.mono s2 p1
       cases ea2
       obtain⟨C2,dx2,kvs2,ec2,hH2,rfl,rs2⟩:=r2.obj i a _ hm2 hs2
       cases ClsOf.inj ec ec2
       have hl:kvs2.length < 1000:=by have:=of_decide_eq_true hcc.2;rw [List.length_map] at this;omega
       have nt:∀zs,H2 a≠some (.tup zs):=fun zs z=>by rw [hH2] at z;cases z
       have st:Stp F2 m2 H2 F2 m2 (upd H2 a (.ins C dx2 (putF f (.int (av+b)) kvs2))):=stp_set r2 hm2 hs2 trivial nt
       obtain⟨i1,i2⟩:=put_kv (f:=f) (show RD X.K F2 (upd H2 a (.ins C dx2 (putF f (.int (av+b)) kvs2))) m2 (.p (.int (av+b))) (.int (av+b)) from rfl) (RDs.mono st rs2)
       exact⟨av,b,rfl,rfl,dx2,kvs2,hH2,hl,k σ F2 m2 _ (s1.trans (s2.trans st)) (r2.set hm2 hs2 trivial nt ⟨C,dx2,_,ec,upd_same,i1,i2⟩) ((l.mono s1).mono (s2.trans st))⟩
      ·cases q
     ·cases q
    ·cases q
   ·cases q
  ·cases q
end
section
variable {X:Cx}{e:Expr}{es:List Expr}{fs:EVs}{p pos:Pos}
noncomputable def c_str:List P->Option P
 | [.int i]=>if decide (i.natAbs.log2 < 1920)=true then some (.str (toString i)) else none
 | _=>none
theorem callStr:CallR X (.type "str") (rC X.K c_str):=by
 intro pins s σ H xs us Q I r h
 obtain⟨F,ds,d,ft,rs,q,k⟩:=h
 unfold c_str at q
 split at q
 ·split at q
  ·rename_i i hi
   cases q
   obtain⟨x,rfl,p1⟩:=rps1 rs
   exact call_str_int pins s σ H _ us Q I r ⟨i,by rw [show x=_ from p1],of_decide_eq_true hi,k _ F H .refl rfl⟩
  ·cases q
 ·cases q
theorem x_str (hg:Gl X "str") (hm:X.mg "str"=none) (ha:PA X (e::es) (tVs X.K fs))
  (he:starEach (e::es) X.env=(false,eval e X.env)::starEach es X.env) (hpl:(backTo pos (starEach es X.env)).any (·.1)=false):PE X (.Call (.Name "str" p) (e::es) [] pos) (tV X.K (vCall c_str fs)):=xCallT callStr hg hm PyProof.Rows.boot_str ha (by decide) (by decide) he hpl
end
theorem strs_rps {K:PySem.W.Frag}{F:Addr->Prop}{H:Hp}:∀ss:List Str,RPs K F H (ss.map .str) (ss.map V.str)
 | []=>rfl
 | s::r=>⟨_,_,rfl,rfl,strs_rps r⟩
theorem glob_strs {K:PySem.W.Frag}{mg:Str->Option Value}{x:Str}{a:Addr}{od:Option Addr}{sl:Array (Option Value)}{n:Nat}{its:Array Value} (ss:List Str) (hm:mg x=some (.ref a)) (hk:K.lookup a=some ⟨.type "tuple",od,.seq its n,sl⟩) (hz:its.size≤sizeLine) (hv:Vals (ss.map V.str) its.toList):GlobOk K mg x (.tup (ss.map .str)):=
 ⟨.ref a,.ref a,hm,rfl,fun F H=>⟨a,ss.map V.str,rfl,.inr (.inr ⟨_,its,n,hk,rfl,rfl,hz,hv⟩),strs_rps ss⟩⟩
end Ev
namespace Ev
open PySem PySem.Spec PyProof.Rows L2
open PySem.W (KasT kas_sort kas_ask kas_item kat_run kat_snds kat_lt kat_kind KatTups KatLex kat_nil kat_cons kat_yes kat_no kat_one)
section
variable {prog:Program}{w:World}{A:Around}{E:Value->Shared->Prop}{s:Shared}{a:Addr}{vs:List Value}
end
noncomputable def isInt:P->Bool
 | .int _=>true
 | _=>false
noncomputable def IV (e:P) (u:Value):Prop:=∃i t,e=P.int i/\u=Value.int i t
noncomputable def KV (h:Heap) (d:P) (v:Value):Prop:=IV d v\/∃es a o n its,d=.tup es/\v=.ref a/\h.get? a=some o/\o.cls=.type "tuple"/\o.data=.seq (List.toArray its) n/\Paired IV es its
theorem KV.kp {h h':Heap} (k:∀b o,h.get? b=some o->h'.get? b=some o) {d:P}{v:Value} (q:KV h d v):KV h' d v:=by
 rcases q with q | ⟨es,a,o,n,its,e1,e2,ho,r⟩
 ·exact .inl q
 ·exact .inr ⟨es,a,o,n,its,e1,e2,k _ _ ho,r⟩
section
variable {prog:Program}{w:World}{A:Around}{E:Value->Shared->Prop}{s:Shared}
end
section
variable {X:Cx}
end
end Ev
namespace Ev
open PySem PySem.Spec PyProof.Rows L2
section
variable {X:Cx}{pos:Pos}
end
end Ev
namespace Ev
open PySem PySem.Spec PyProof.Rows L2
section
variable {X:Cx}{pos:Pos}
theorem sl_str:SlR X (fun x lo hi H Q=>∃z,x=.str z/\z.length≤sizeLine/\Q (.str (Txt.slice z lo hi)) H):=by
 intro pins s σ H x v vl vu lo hi sl Q I rx hs pl pu h
 obtain⟨z,rfl,hz,q⟩:=h
 obtain⟨t,rfl⟩:=rx
 refine⟨"str",_,PySem.F.slot_str_getitem.lookup,typeIs_str _ _ _,?_⟩
 have fin:∀lo hi:Option Int,Q (.str (Txt.slice z lo hi)) H->∀t' k,EP X pins σ Q (.str (Txt.slice z lo hi) t') { s with toks:=k }:=fun lo hi q t' k=>⟨.str _,H,I.tok _,⟨t',rfl⟩,q⟩
 obtain⟨o,e1,e2,e3⟩:=hs
 cases pl with
 | none=>
  cases pu with
  | none=>exact wpAny_getItem_str_slice (l:=none) (u:=none) (st:=none) ⟨o,e1,e2,e3⟩ rfl (post_val_or_str ⟨Nat.le_trans (Txt.slice_le z _ _) hz,fun t' k=>fin _ _ q t' k⟩)
  | int j uj=>exact wpAny_getItem_str_slice (l:=none) (u:=some (j,uj)) (st:=none) ⟨o,e1,e2,e3⟩ rfl (post_val_or_str ⟨Nat.le_trans (Txt.slice_le z _ _) hz,fun t' k=>fin _ _ q t' k⟩)
 | int i ui=>
  cases pu with
  | none=>exact wpAny_getItem_str_slice (l:=some (i,ui)) (u:=none) (st:=none) ⟨o,e1,e2,e3⟩ rfl (post_val_or_str ⟨Nat.le_trans (Txt.slice_le z _ _) hz,fun t' k=>fin _ _ q t' k⟩)
  | int j uj=>exact wpAny_getItem_str_slice (l:=some (i,ui)) (u:=some (j,uj)) (st:=none) ⟨o,e1,e2,e3⟩ rfl (post_val_or_str ⟨Nat.le_trans (Txt.slice_le z _ _) hz,fun t' k=>fin _ _ q t' k⟩)
noncomputable def dSl2:P->Option Int->Option Int->Option P
 | .str x,lo,hi=>if capN x.length=true then some (.str (Txt.slice x lo hi)) else none
 | x,lo,hi=>dSl x lo hi
noncomputable def vSl2 (a:EV) (lo hi:EO):EV:=fun L S=>bnd (a L S) fun x S1=>bnd (lo L S1) fun i S2=>bnd (hi L S2) fun j S3=>(dSl2 x i j).map fun v=>(v,S3)
theorem xSl2 {e:Expr}{lo hi:Option Expr}{fa:EV}{fl fh:EO}{pos p2:Pos} (he:PE X e (tV X.K fa)) (hl:PO X lo (tO X.K fl)) (hh:PO X hi (tO X.K fh)):PE X (.Subscript e (.Slice lo hi none p2) pos) (tV X.K (vSl2 fa fl fh)):=
 (pe_slice ((sl_list.or sl_tup).or sl_str) he hl hh).imp' fun σ H Q hz=>by
  obtain⟨F,m,L,S,d,S',r,l,q,k⟩:=hz
  obtain⟨x,S1,e1,q⟩:=bnd_eq q
  obtain⟨i,S2,e2,q⟩:=bnd_eq q
  obtain⟨j,S3,e3,q⟩:=bnd_eq q
  refine⟨F,m,L,S,x,S1,r,l,e1,fun v F1 m1 H1 s1 r1 p1=>?_⟩
  refine⟨F1,m1,L,S1,i,S2,r1,l.mono s1,e2,fun F2 m2 H2 s2 r2=>?_⟩
  refine⟨F2,m2,L,S2,j,S3,r2,(l.mono s1).mono s2,e3,fun F3 m3 H3 s3 r3=>?_⟩
  have px:=RP.mono s3 (RP.mono s2 p1)
  have ss:=s1.trans (s2.trans s3)
  cases x with
  | lst ds=>
   cases q
   obtain⟨a,xs,rfl,ta,ra⟩:=px
   exact .inl (.inl ⟨a,xs,rfl,ta.sq,fun p hp=>k _ _ m3 _ (ss.trans (grow_frz hp).stp) (r3.grow (grow_frz hp)) (.newLst hp (ra.cut i j))⟩)
  | ro ds=>
   cases q
   obtain⟨a,xs,rfl,ta,ra⟩:=px
   exact .inl (.inl ⟨a,xs,rfl,ta.sq,fun p hp=>k _ _ m3 _ (ss.trans (grow_frz hp).stp) (r3.grow (grow_frz hp)) (.newLst hp (ra.cut i j))⟩)
  | tup ds=>
   obtain⟨a,xs,rfl,ta,ra⟩:=px
   simp only [dSl2,dSl] at q
   split at q
   ·cases q
   ·rename_i hw
    cases q
    rw [ra.length] at hw
    exact .inl (.inr ⟨a,xs,rfl,ta.sq,hw,fun p hp=>k _ _ m3 _ (ss.trans (grow_new hp).stp) (r3.grow (grow_new hp)) (.newTup hp (ra.cut i j))⟩)
  | str z=>
   cases (show v=.str z from px)
   simp only [dSl2] at q
   split at q
   ·rename_i hc
    cases q
    exact .inr ⟨z,rfl,capN_le hc,k _ F3 m3 H3 ss r3 rfl⟩
   ·cases q
  | _=>cases q
noncomputable def c_int2:List P->Option P
 | [.str x]=>if x.length≤640 then (PySem.intText? x).map .int else none
 | xs=>c_int xs
theorem callInt2:CallR X (.type "int") (rC X.K c_int2):=by
 intro pins s σ H xs us Q I r h
 obtain⟨F,ds,d,ft,rs,q,k⟩:=h
 have other:c_int ds=some d->wpAny (model X.prog X.w) X.A (call (.type "int") us) (EP X pins σ Q) X.xe s:=fun q=>callInt pins s σ H xs us Q I r ⟨F,ds,d,ft,rs,q,k⟩
 unfold c_int2 at q
 split at q
 ·rename_i x
  split at q
  ·rename_i hl
   cases en:PySem.intText? x with
   | none=>rw [en] at q;cases q
   | some n=>
    rw [en] at q
    cases q
    obtain⟨y,rfl,p1⟩:=rps1 rs
    cases (show y=.str x from p1)
    obtain⟨u,rfl,rx⟩:=vals1 r
    obtain⟨t,rfl⟩:=rx
    exact PySem.W.KIN.call_text en hl ⟨.int n,H,I.tok _,⟨_,rfl⟩,k _ F H .refl rfl⟩
  ·cases q
 ·exact other q
variable {e:Expr}{es:List Expr}{fs:EVs}{p:Pos}
theorem x_int2 (hg:Gl X "int") (hm:X.mg "int"=none) (ha:PA X (e::es) (tVs X.K fs)) (he:starEach (e::es) X.env=(false,eval e X.env)::starEach es X.env) (hpl:(backTo pos (starEach es X.env)).any (·.1)=false) :
  PE X (.Call (.Name "int" p) (e::es) [] pos) (tV X.K (vCall c_int2 fs)):=xCallT callInt2 hg hm PyProof.Rows.boot_int ha (by decide) (by decide) he hpl
noncomputable def vFmt (f:EV):EV:=fun L S=>bnd (f L S) fun v S1=>match v with
 | .str x=>if capN x.length=true then some (.str x,S1) else none
 | _=>none
theorem xFmt {a:Expr}{fa:EV} (ha:PE X a (tV X.K fa)):PE X (.FormattedValue a (-1) none pos) (tV X.K (vFmt fa)):=by
 intro pins s σ H Q I ⟨F,m,L,S,d,S',r,l,q,k⟩
 obtain⟨v,S1,e1,q⟩:=bnd_eq q
 refine FormattedValue_plain (thn (ha pins s σ H (fun x H1=>∃F1 m1,Stp F m H F1 m1 H1/\Rel X.K F1 H1 m1 S1/\RP X.K F1 H1 v x) I ⟨F,m,L,S,v,S1,r,l,e1,fun x F1 m1 H1 s1 r1 p1=>⟨F1,m1,s1,r1,p1⟩⟩) fun u s1 hz=>?_)
 obtain⟨x,H1,I1,rx,F1,m1,st,r1,p1⟩:=hz
 cases v with
 | str z=>
  dsimp only at q
  split at q
  ·rename_i hc
   cases q
   cases (show x=.str z from p1)
   obtain⟨t,rfl⟩:=rx
   exact formatField_str (fun t' tk=>⟨.str z,H1,I1.tok _,⟨t',rfl⟩,k _ F1 m1 H1 st r1 rfl⟩) (capN_le hc)
  ·cases q
 | _=>cases q
noncomputable def vJoinGo:Str->List EV->EV
 | acc,[]=>fun _ S=>if capN acc.length=true then some (.str acc,S) else none
 | acc,f::r=>fun L S=>bnd (f L S) fun v S1=>match v with
  | .str y=>if capN (acc++y).length=true then vJoinGo (acc++y) r L S1 else none
  | _=>none
noncomputable def vJoin (fs:List EV):EV:=vJoinGo Str.empty fs
inductive PEs (X:Cx):List Expr->List EV->Prop
 | nil:PEs X [] []
 | cons {e es f fs}:PE X e (tV X.K f)->PEs X es fs->PEs X (e::es) (f::fs)
theorem joins {pins:List (Addr×Obj)}:∀{es:List Expr}{fs:List EV} (acc:Str),PEs X es fs->∀(s:Shared) (σ:L2.St) (H:Hp) (Q:VK),Inv X pins σ H s->tV X.K (vJoinGo acc fs) σ H Q->wpAny (model X.prog X.w) X.A (joinParts acc (evalEach es X.env)) (EP X pins σ Q) X.xe s
 | _,_,acc,.nil,s,σ,H,Q,I,hz=>by
  obtain⟨F,m,L,S,d,S',r,l,q,k⟩:=hz
  unfold vJoinGo at q
  split at q
  ·rename_i hc
   cases q
   exact joinParts_nil ⟨.str acc,H,I.tok _,⟨_,rfl⟩,k _ F m H .refl r rfl⟩ (capN_le hc)
  ·cases q
 | _,_,acc,.cons (e:=e) (es:=es) (f:=f) (fs:=fs) he hr,s,σ,H,Q,I,hz=>by
  obtain⟨F,m,L,S,d,S',r,l,q,k⟩:=hz
  unfold vJoinGo at q
  obtain⟨v,S1,e1,q⟩:=bnd_eq q
  refine joinParts_cons (rest:=evalEach es X.env) (thn (he pins s σ H (fun x H1=>∃F1 m1,Stp F m H F1 m1 H1/\Rel X.K F1 H1 m1 S1/\RP X.K F1 H1 v x) I ⟨F,m,L,S,v,S1,r,l,e1,fun x F1 m1 H1 s1 r1 p1=>⟨F1,m1,s1,r1,p1⟩⟩) fun u s1 hz=>?_)
  obtain⟨x,H1,I1,rx,F1,m1,st,r1,p1⟩:=hz
  cases v with
  | str y=>
   dsimp only at q
   split at q
   ·rename_i hc
    cases (show x=.str y from p1)
    obtain⟨t,rfl⟩:=rx
    exact⟨capN_le hc,joins (acc++y) hr s1 σ H1 Q I1 ⟨F1,m1,L,S1,d,S',r1,l.mono st,q,fun w F' m' H' s' r' p'=>k w F' m' H' (st.trans s') r' p'⟩⟩
   ·cases q
  | _=>cases q
theorem xJoin {a b:Expr}{es:List Expr}{fs:List EV} (h:PEs X (a::b::es) fs):PE X (.JoinedStr (a::b::es) pos) (tV X.K (vJoin fs)):=fun pins s σ H Q I q=>JoinedStr_many (joins Str.empty h s σ H Q I q)
noncomputable def vGet2 (a b c:EV):EV:=fun L S=>bnd (a L S) fun d S1=>bnd (b L S1) fun y S2=>bnd (c L S2) fun z S3=>match d with
 | .dct ks vs=>match keyOf y with
  | some k=>some ((dLook k ks vs).getD z,S3)
  | none=>none
 | _=>none
theorem valV_miss {K:PySem.W.Frag}{F:Addr->Prop}{H:Hp}{k:Key}:∀{kvs:List (Key×V)}{ds:List P},RPs K F H ds (kvs.map (·.2))->dLook k (kvs.map (·.1)) ds=none->valV kvs k=none
 | [],ds,r,h=>rfl
 | (k',v)::kvs,[],r,h=>by
  have:=r.length
  simp at this
 | (k',v)::kvs,d0::ds,r,h=>by
  obtain⟨x,xr,e,p,rr⟩:=r
  rw [List.map_cons] at e
  injection e with e1 e2
  simp only [List.map_cons,dLook] at h
  by_cases hk:k'=k
  ·rw [if_pos hk] at h;cases h
  ·rw [if_neg hk] at h
   rw [<- e2] at rr
   rw [valV_neg (p:=(k',v)) hk]
   exact valV_miss rr h
theorem x_get2 {o a b:Expr}{fo fa fb:EV}{ap cp:Pos} (hu:X.A.units+1 < cLine) (ho:PE X o (tV X.K fo)) (ha:PE X a (tV X.K fa)) (hb:PE X b (tV X.K fb)) (m:M2 X o "get" ap a b cp):PE X (.Call (.Attribute o "get" ap) [a,b] [] cp) (tV X.K (vGet2 fo fa fb)):=
 (pe_dget2 hu ho ha hb m).imp' fun σ H Q hz=>by
  obtain⟨F,m,L,S,d,S',r,l,q,k⟩:=hz
  obtain⟨x,S1,e1,q⟩:=bnd_eq q
  obtain⟨y,S2,e2,q⟩:=bnd_eq q
  obtain⟨z,S3,e3,q⟩:=bnd_eq q
  refine⟨F,m,L,S,x,S1,r,l,e1,fun v F1 m1 H1 s1 r1 p1=>?_⟩
  cases x with
  | dct ks ds=>
   obtain⟨a,kvs,rfl,fa',hk,ek,ra⟩:=id p1
   refine⟨a,rfl,.inl ⟨kvs,.inl hk⟩,?_⟩
   refine⟨F1,m1,L,S1,y,S2,r1,l.mono s1,e2,fun vy F2 m2 H2 s2 r2 p2=>?_⟩
   refine⟨F2,m2,L,S2,z,S3,r2,(l.mono s1).mono s2,e3,fun vz F3 m3 H3 s3 r3 p3=>?_⟩
   have hk3:H3 a=some (.dK kvs):=(s2.trans s3).frk _ _ fa' hk
   have ra3:=RPs.mono s3 (RPs.mono s2 ra)
   have py:=RP.mono s3 p2
   dsimp only at q
   split at q
   ·rename_i key ek'
    cases q
    have eyv:=keyOf_kV ek' py
    subst eyv ek
    have ss:=s1.trans (s2.trans s3)
    cases el:dLook key (kvs.map (·.1)) ds with
    | none=>
     have hm:=valV_miss ra3 el
     refine⟨none,by rw [<- hm];exact DGet.k hk3,?_⟩
     rw [el] at k
     exact k vz F3 m3 H3 ss r3 p3
    | some w=>
     obtain⟨v,h1,h2⟩:=valV_look ra3 el
     refine⟨some v,by rw [<- h1];exact DGet.k hk3,?_⟩
     rw [el] at k
     exact k v F3 m3 H3 ss r3 h2
   ·cases q
  | _=>cases q
noncomputable def GEnt (w:World):List DictEntry->List (Str×P)->Prop
 | [],[]=>True
 | e::es,(k,p)::r=>(∃t,e.key=.str k t)/\e.hash=hashStr w k/\(∃v,RelV v e.val/\∀K F H,RP K F H p v)/\GEnt w es r
 | _,_=>False
noncomputable def GTab (w:World) (K:PySem.W.Frag) (mg:Str->Option Value) (x:Str) (kvs:List (Str×P)):Prop:=
 ∃a o es ep,mg x=some (.ref a)/\K.lookup a=some o/\o.ExactDict/\o.data=.dict es ep/\GEnt w es.toList kvs/\(kvs.map (·.1)).Nodup
theorem gent_pairs {prog:Program}{w:World}:∀{es:List DictEntry}{kvs:List (Str×P)},GEnt w es kvs->∃vs:List (Key×Value),Pairs (mixKind prog w) es vs/\vs.map (·.1)=kvs.map (fun p=>Sum.inr p.1) /\
  (∀k p,kvs.lookup k=some p->∃v u,valueAt vs (Sum.inr k)=some u/\RelV v u/\∀K F H,RP K F H p v)/\∀e ∈ es,∃k,(mixKind prog w).is k e.key=true/\e.hash=(mixKind prog w).hash k
 | [],[],_=>⟨[],.nil,rfl,fun k p z=>(by simp at z),fun e z=>(by cases z)⟩
 | [],_::_,h=>h.elim
 | _::_,[],h=>h.elim
 | e::es,(k,p)::r,h=>by
  obtain⟨⟨t,ek⟩,eh,⟨v,rv,pv⟩,h⟩:=h
  obtain⟨vs,h1,h2,h3,h4⟩:=gent_pairs (prog:=prog) h
  have hk:(mixKind prog w).is (.inr k) e.key=true:=by rw [ek];exact mixKind_str prog w k t
  refine⟨(.inr k,e.val)::vs,.cons hk rfl h1,by simp [h2],fun k' p' z=>?_,fun e' z=>?_⟩
  ·by_cases e0:k'=k
   ·subst e0
    rw [List.lookup_cons_self] at z
    cases z
    exact⟨v,e.val,by simp [valueAt],rv,pv⟩
   ·rw [List.lookup_cons,show (k' == k)=false by simpa using e0] at z
    obtain⟨v',u',q1,q2,q3⟩:=h3 k' p' z
    refine⟨v',u',?_,q2,q3⟩
    unfold valueAt at q1 ⊢
    rw [List.find?_cons]
    have:¬(Sum.inr k:Key)=Sum.inr k':=fun z=>e0 (by cases z;rfl)
    simp only [this,decide_false]
    exact q1
  ·rcases List.mem_cons.mp z with rfl | z
   ·exact⟨.inr k,hk,eh⟩
   ·exact h4 e' z
theorem nodup_inr:∀{xs:List Str},xs.Nodup->(xs.map (Sum.inr:Str->Key)).Nodup
 | [],_=>by simp
 | x::xs,h=>by
  rw [List.nodup_cons] at h
  rw [List.map_cons,List.nodup_cons]
  refine⟨fun z=>?_,nodup_inr h.2⟩
  obtain⟨y,hy,e⟩:=List.mem_map.mp z
  cases e
  exact h.1 hy
noncomputable def vTab (kvs:List (Str×P)) (b:EV):EV:=fun L S=>bnd (b L S) fun y S1=>match y with
 | .str k=>(kvs.lookup k).map fun v=>(v,S1)
 | _=>none
theorem x_tab {x:Str}{b:Expr}{fb:EV}{kvs:List (Str×P)}{p:Pos} (hg:Gl X x) (ht:GTab X.w X.K X.mg x kvs) (hd:(x == ("__debug__":Str))=false) (hb:PE X b (tV X.K fb)) (hs:PlainIx b):PE X (.Subscript (.Name x p) b pos) (tV X.K (vTab kvs fb)):=by
 obtain⟨a,o,es,ep,hm,hk,ex,ed,ge,nd⟩:=ht
 obtain⟨vs,h1,h2,h3,h4⟩:=gent_pairs (prog:=X.prog) ge
 have ix:IxR X (fun x y H Q=>∃k p,x=.ref a/\y=.str k/\kvs.lookup k=some p/\∀v,(∀K F H,RP K F H p v)->Q v H):=by
  intro value slice pins s σ H x y v u Q I rx ry h hs
  obtain⟨k,p,rfl,rfl,hl,q⟩:=h
  cases rx
  obtain⟨t,rfl⟩:=ry
  obtain⟨v,u,e1,rv,pv⟩:=h3 k p hl
  have hh:=I.kIn a o hk
  have dd:s.heap.DictOf (mixKind X.prog X.w) a vs:=by
   refine⟨o,es,ep,hh,ex,ed,fun e he=>h4 e (by simpa using he),h1,?_⟩
   rw [h2,show (kvs.map fun p=>(Sum.inr p.1:Key))=(kvs.map (·.1)).map Sum.inr by rw [List.map_map];rfl]
   exact nodup_inr nd
  exact tail_any ⟨o,hh,ex.1⟩ slot_dict_getitem.lookup (wpAny_getItem_of (knd:=mixKind X.prog X.w) (mixKind_str X.prog X.w k t) dd.mapOf e1 ⟨v,H,I.tok _,rv,q v pv⟩) hs
 exact (pe_ix ix (pe_glob (v:=.ref a) hg hm rfl hd) hb hs).imp' fun σ H Q hz=>by
  obtain⟨F,m,L,S,d,S',r,l,q,k⟩:=hz
  obtain⟨y,S1,e1,q⟩:=bnd_eq q
  refine⟨F,m,L,S,y,S1,r,l,e1,fun v F1 m1 H1 s1 r1 p1=>?_⟩
  cases y with
  | str z=>
   dsimp only at q
   cases el:kvs.lookup z with
   | none=>rw [el] at q;cases q
   | some pp=>
    rw [el] at q
    cases q
    exact⟨z,_,rfl,p1,el,fun v pv=>k v F1 m1 H1 s1 r1 (pv _ _ _)⟩
  | _=>cases q
end
noncomputable def tabP:List Key->List P->Option (List (Str×P))
 | [],[]=>some []
 | .inr k::ks,v::vs=>(tabP ks vs).map fun r=>(k,v)::r
 | _,_=>none
noncomputable def isDct:P->Bool
 | .dct _ _=>true
 | _=>false
noncomputable def GlobOk2 (w:World) (K:PySem.W.Frag) (mg:Str->Option Value) (x:Str) (v:P):Prop:=(isDct v=false->GlobOk K mg x v)/\∀ks vs,v=.dct ks vs->∃kvs,tabP ks vs=some kvs/\GTab w K mg x kvs
theorem GlobOk2.plain {w:World}{K:PySem.W.Frag}{mg:Str->Option Value}{x:Str}{v:P} (h:GlobOk K mg x v) (hv:isDct v=false):GlobOk2 w K mg x v:=⟨fun _=>h,fun ks vs e=>by subst e;cases hv⟩
theorem GlobOk2.tab {w:World}{K:PySem.W.Frag}{mg:Str->Option Value}{x:Str}{ks:List Key}{vs:List P}{kvs:List (Str×P)} (e:tabP ks vs=some kvs) (h:GTab w K mg x kvs):GlobOk2 w K mg x (.dct ks vs):=⟨(fun z=>nomatch z),fun ks' vs' z=>by cases z;exact⟨kvs,e,h⟩⟩
noncomputable def trL:List (Option EV)->Option (List EV)
 | []=>some []
 | a::r=>a.bind fun f=>(trL r).map fun g=>f::g
end Ev
namespace Ev
open PySem PySem.Spec PyProof.Rows L2
noncomputable def pureOf (g:GF) (ps:List P):Option P:=match g (ps.map .p) [] with
 | some (d,S)=>(toP 9 d S).map (·.1)
 | none=>none
noncomputable def fnR (np nn:Nat) (b:ES):GF:=fun ds S=>if ds.length=np then match b (ds.map some++List.replicate (nn-ds.length) none) S with
 | some (.rt d,_,S')=>some (d,S')
 | some (.nx,_,S')=>some (.p .non,S')
 | _=>none else none
theorem Rel.nil {K:PySem.W.Frag}{F:Addr->Prop}{H:Hp} (ft:∀a,F a->H a≠none):Rel K F H [] []:=⟨rfl,by simp,by simp,by simp,by simp,ft⟩
theorem spR_of_spV {K:PySem.W.Frag}{g:GF}{vs:List V}{H:Hp}{Q:VK}{E:XK} (h:spV K (pureOf g) vs H Q E):spR K g vs H Q E:=by
 obtain⟨F,ds,d,ft,r,q,k⟩:=h
 unfold pureOf at q
 cases e:g (ds.map .p) [] with
 | none=>rw [e] at q;cases q
 | some z=>
  obtain⟨d1,S1⟩:=z
  rw [e] at q
  dsimp only at q
  cases e2:toP 9 d1 S1 with
  | none=>rw [e2] at q;cases q
  | some z2=>
   obtain⟨p,S2⟩:=z2
   rw [e2] at q
   cases q
   refine⟨F,[],ds.map .p,[],d1,S1,.nil ft,RDs.ofP r,e,fun v F' m' H' s' r' rd=>?_⟩
   obtain⟨F2,s2,r2,_,p2⟩:=toP_ok 9 e2 r' rd
   exact k v F2 H' ((s'.trans s2).toGrow r2.ft) p2
theorem FnOk.pure {Pg:Program}{w:World}{K:PySem.W.Frag}{mg:Str->Option Value}{base:Heap}{f:Addr}{fd:FuncData}{ps:List Str}{k:Nat}{g:GF} (G:FnOk Pg w K mg base CX0 k f fd ps (spR K g)):FnOk Pg w K mg base CX0 k f fd ps (spV K (pureOf g)):=
 FnOk.imp G fun _ _ _ _ h=>spR_of_spV h
theorem RDs.toSt {K:PySem.W.Frag}{F:Addr->Prop}{H:Hp}{m:List Addr}{ds:List D}{vs:List V}{N:List Str} (r:RDs K F H m ds vs):RL K F H m (L2.start N vs) (ds.map some++List.replicate (N.length-ds.length) none):=by
 have hl:=r.length
 refine⟨by unfold L2.start;simp [hl],fun i d e=>?_⟩
 by_cases hi:i < ds.length
 ·rw [List.getElem?_append_left (by simpa using hi),List.getElem?_map] at e
  cases q:ds[i]? with
  | none=>rw [q] at e;cases e
  | some v=>
   rw [q] at e
   cases e
   obtain⟨x,e1,p⟩:=r.get q
   refine⟨x,?_,p⟩
   unfold L2.start
   rw [List.getElem?_append_left (by simpa [<- hl] using hi),List.getElem?_map,e1];rfl
 ·rw [List.getElem?_append_right (by simpa using hi),List.getElem?_replicate] at e
  split at e <;> cases e
theorem fn_okR {Pg:Program}{w:World}{K:PySem.W.Frag}{mg:Str->Option Value}{base:Heap}{x qual:Str}{st:Stmt}{f:Addr}{fd:FuncData}{N ps:List Str}{k:Nat}{b:ES} (F:Fun K x qual st f fd) (S:FnScope N ps (defScope st))
  (hb:∀(cdv:Value) (A:Around) (outer:List Env) (s:Shared) (H:Hp) (E:XK),Room k (A.deeper (envOfC qual (defScope st) s.heap.objs.size f cdv)) ->
   PSs (cxOf CX0 Pg w K mg base N qual (defScope st) f cdv A outer s H E).nox (defBody st) (tSt K b)):FnOk Pg w K mg base CX0 (k+1) f fd ps (spR K (fnR ps.length N.length b)):=by
 refine F.ok S (fun vs H Q E h=>?_) (fun cdv A outer s H vs Q E hr h=>⟨_,hb cdv A outer s H E hr,?_⟩)
 ·obtain⟨F,m,ds,S,d,S',rl,r,q,k⟩:=h
  rw [<- r.length]
  unfold fnR at q
  split at q
  ·assumption
  ·cases q
 ·obtain⟨F,m,ds,S,d,S',rl,r,q,k⟩:=h
  unfold fnR at q
  split at q
  ·refine⟨F,m,ds.map some++List.replicate (N.length-ds.length) none,S,?_⟩
   cases eb:b (ds.map some++List.replicate (N.length-ds.length) none) S with
   | none=>rw [eb] at q;cases q
   | some z=>
    obtain⟨fl,L',S1⟩:=z
    rw [eb] at q
    refine⟨fl,L',S1,rl,r.toSt,rfl,fun σ' F' m' H' s' r' l'=>?_⟩
    cases fl with
    | nx=>cases q;exact k .non F' m' H' s' r' rfl
    | bk=>cases q
    | ct=>cases q
    | rt dd=>
     intro v rd
     cases q
     exact k v F' m' H' s' r' rd
  ·cases q
theorem fn_noneR {Pg:Program}{w:World}{K:PySem.W.Frag}{mg:Str->Option Value}{base:Heap}{f:Addr}{fd:FuncData}{ps:List Str}{k:Nat}:FnOk Pg w K mg base CX0 k f fd ps (spR K fun _ _=>none):=by
 have no:∀vs H Q E,¬spR K (fun _ _=>none) vs H Q E:=fun vs H Q E h=>by
  obtain⟨F,m,ds,S,d,S',_,_,q,_⟩:=h
  cases q
 exact⟨fun vs H Q E h=>absurd h (no vs H Q E),fun A outer s H args us vs Q E _ _ _ _ h=>absurd h (no vs H Q E)⟩
structure Tr where
 v:Option EV:=none
 e:Option EE:=none
 b:Option EB:=none
 w:Option EB:=none
noncomputable def Tr.ofV (f:Option EV):Tr:=⟨f,f.map eV,f.map fun g=>bT (eV g),f.map bV⟩
noncomputable def Tr.ofC (f:Option EV):Tr:=⟨f,f.map eV,f.map bV,f.map bV⟩
noncomputable def Tr.ofE (f:Option EE):Tr:=⟨f.map vE,f,f.map bT,f.map fun g=>bV (vE g)⟩
noncomputable def Tr.ofB (b w:Option EB):Tr:=⟨w.map vB,w.map fun g=>eV (vB g),b,w⟩
structure Cn where
 N:List Str
 own:List Str
 deep:List Str
 refs:List Str
 ks:List (Str×NameKind)
 F:Str->Option GF
 G:Str->Option P
 A:Str->Str->Bool
 M:Str->Str->Option GF
 I:Str->Option GF
noncomputable def ixOf:List Str->Str->Option Nat
 | [],_=>none
 | y::r,x=>if y=x then some 0 else (ixOf r x).map (·+1)
theorem ixOf_get:∀{N:List Str}{x:Str}{i:Nat},ixOf N x=some i->N[i]? = some x
 | [],_,_,h=>by cases h
 | y::r,x,i,h=>by
  unfold ixOf at h
  split at h
  ·rename_i e;cases h;simp [e]
  ·cases q:ixOf r x with
   | none=>rw [q] at h;cases h
   | some j=>rw [q] at h;cases h;simpa using ixOf_get q
theorem ixOf_of_get:∀{N:List Str}{x:Str}{i:Nat},N.Nodup->N[i]? = some x->ixOf N x=some i
 | [],_,_,_,h=>by simp at h
 | y::r,x,0,_,h=>by
  have:y=x:=by simpa using h
  unfold ixOf;rw [if_pos this]
 | y::r,x,i+1,nd,h=>by
  have h':r[i]? = some x:=by simpa using h
  have hne:¬y=x:=fun e=>by
   subst e
   exact (List.nodup_cons.mp nd).1 (List.mem_of_getElem? h')
  unfold ixOf;rw [if_neg hne,ixOf_of_get (List.nodup_cons.mp nd).2 h'];rfl
noncomputable def kindB (ks:List (Str×NameKind)) (x:Str) (l:List NameKind):Bool:=match ks.lookup x with
 | some k=>l.contains k
 | none=>false
noncomputable def okName (x:Str):Bool:=!(x == ("__debug__":Str)) && !(x == ("__classdict__":Str))
noncomputable def bop:Operator->Option (P->P->Option P)
 | .Add=>some dAdd2
 | .Sub=>some dSub
 | .Mult=>some dMul2
 | .FloorDiv=>some dFloor
 | .Mod=>some dMod
 | .Pow=>some dPow
 | _=>none
noncomputable def cop:CmpOp->Option (P->P->Option P)
 | .Lt=>some dLt
 | .LtE=>some dLe
 | .Gt=>some dGt
 | .GtE=>some dGe
 | _=>none
noncomputable def cop2:CmpOp->Option (D->D->Sto->Option P)
 | .Eq=>some gEq
 | .NotEq=>some gNe
 | .In=>some gIn
 | .NotIn=>some gNotIn
 | _=>none
noncomputable def trAs:List (Option EV)->Option EVs
 | []=>some vsNil
 | a::r=>a.bind fun f=>(trAs r).map fun g=>vsCons f g
noncomputable def trDs:List (Option EE)->Option EDs
 | []=>some dsNil
 | a::r=>a.bind fun f=>(trDs r).map fun g=>dsCons f g
noncomputable def wFold (op:BoolOp):List (Option EB)->Option EB
 | []=>none
 | [a]=>a
 | a::r=>a.bind fun f=>(wFold op r).map fun g=>match op with | .And=>bAnd f g | .Or=>bOr f g
noncomputable def trO (o:Option (Option EV)):Option EO:=match o with
 | none=>some oNone
 | some a=>a.map oSome
noncomputable def keyStr:Option Expr->Option Str
 | some (.Constant (.str x) _ _)=>some x
 | _=>none
noncomputable def trDE:List (Option Expr)->List (Option EV)->Option DE
 | [],[]=>some dNil
 | k::ks,v::vs=>(keyStr k).bind fun x=>v.bind fun f=>(trDE ks vs).map fun r=>dCons x f r
 | _,_=>none
noncomputable def isiOf (t:Str):Option String:=
 if t=("int":Str) then some "int" else if t=("bool":Str) then some "bool" else if t=("tuple":Str) then some "tuple" else if t=("str":Str) then some "str" else none
noncomputable def bltOf (f:Str):Option (List P->Option P):=
 if f=("int":Str) then some c_int2 else if f=("max":Str) then some c_max else if f=("min":Str) then some c_min
 else if f=("str":Str) then some c_str else none
noncomputable def bltN:List Str:=["len","isinstance","int","bool","tuple","list","str","max","min","dict","range","abs","enumerate","sorted"]
noncomputable def relab (names ks:List (Str×NameKind)):List (Str×NameKind):=names.map fun (n,k)=>if (k == .free && ks.lookup n == some .cell) then (n,.cell) else (n,k)
noncomputable def blockB (Γ:Cn) (scope:Scope) (N':List Str) (ts:List Nat) (n:Nat):Bool:=
 decide (scope.kind=.function) && scope.names.all (fun x=>x.2 != .cell) && scope.names.all (fun x=>x.2 != .local || scope.names.lookup x.1 == some .local)
  && scope.names.all (fun x=>x.2 != .free || (scope.names.lookup x.1 == some .free && (Γ.ks.lookup x.1 == some .cell || Γ.ks.lookup x.1 == some .free)))
  && decide (Γ.N=N'.take Γ.N.length) && decide (N'.length=Γ.N.length+n)
  && scope.names.all (fun x=>x.2 != .local || match ixOf Γ.N x.1 with | some i=>ts.contains i | none=>true)
noncomputable def isGl (Γ:Cn) (f g:Str):Bool:=decide (f=g) && kindB Γ.ks f [.globalImplicit]
noncomputable def tabOf (Γ:Cn) (a:Expr):Option (List (Str×P)):=match a with
 | .Name x _=>if (kindB Γ.ks x [.globalImplicit] && okName x)=true then match Γ.G x with
   | some (.dct ks vs)=>tabP ks vs
   | _=>none
  else none
 | _=>none
noncomputable def trIt (Γ:Cn) (T:Expr->Tr) (tg e:Expr):Option EVs:=match e with
 | .Call (.Name f _) args [] _=>if isGl Γ f "range"=true then match args with
   | [a]=>(T a).v.map itR1
   | [a,b,c]=>(T a).v.bind fun x=>(T b).v.bind fun y=>(T c).v.map fun z=>itR3 x y z
   | _=>none
  else (T e).v.map itS
 | .Set ..=>none
 | _=>(T e).v.map itS
noncomputable def trNm (N:List Str) (ks:List (Str×NameKind)) (kinds:List NameKind):Expr->Option TGv
 | .Name x _=>if kindB ks x kinds=true then (ixOf N x).map gSet else none
 | _=>none
noncomputable def trTg (N:List Str) (ks:List (Str×NameKind)) (kinds:List NameKind):Expr->Option TGv
 | e=>trNm N ks kinds e
noncomputable def nmOf:Expr->List Str
 | .Name x _=>[x]
 | _=>[]
noncomputable def nmsOf:Expr->List Str
 | .Tuple es _ _=>es.flatMap nmOf
 | e=>nmOf e
noncomputable def cNew (N:List Str):List Str->List Str
 | []=>[]
 | t::r=>if (N.contains t || (cNew N r).contains t)=true then cNew N r else t::cNew N r
noncomputable def cTs (N:List Str) (ts:List Str):List Nat:=ts.filterMap fun t=>ixOf N t
noncomputable def trComp (Γ:Cn) (T:Cn->Expr->Tr) (elt tg iter:Expr) (ifs:List Expr) (scope:Scope):Option EV:=
 if (blockB Γ scope (Γ.N++cNew Γ.N (nmsOf tg)) (cTs Γ.N (nmsOf tg)) (cNew Γ.N (nmsOf tg)).length && decide (Γ.N++cNew Γ.N (nmsOf tg)).Nodup)=true then
  (trIt Γ (T Γ) tg iter).bind fun it=>(trTg (Γ.N++cNew Γ.N (nmsOf tg)) (relab scope.names Γ.ks) [.local] tg).bind fun g=>
   (match ifs with | []=>some bYes | [c]=>(T ⟨Γ.N++cNew Γ.N (nmsOf tg),[],[],Γ.refs,relab scope.names Γ.ks,Γ.F,Γ.G,Γ.A,Γ.M,Γ.I⟩ c).b | _=>none).bind fun c=>
   (T ⟨Γ.N++cNew Γ.N (nmsOf tg),[],[],Γ.refs,relab scope.names Γ.ks,Γ.F,Γ.G,Γ.A,Γ.M,Γ.I⟩ elt).v.map fun e=>vComp it (cTs Γ.N (nmsOf tg)) (cNew Γ.N (nmsOf tg)).length g c e
 else none
noncomputable def isOwn (Γ:Cn):Nat->Expr->Bool
 | 0,_=>false
 | _,.Name x _=>Γ.own.contains x
 | n+1,.Subscript a _ _=>isOwn Γ n a
 | n+1,.Attribute a _ _=>isOwn Γ n a
 | _,_=>false
noncomputable def isPO:Expr->Bool
 | .Name ..=>true
 | .Attribute ..=>true
 | .Subscript ..=>true
 | .Call (.Name ..) (_::_) [] _=>true
 | _=>false
noncomputable def trM (Γ:Cn) (o:Option EE) (os:Expr) (m:Str) (as:List (Option EE)) (ap cp:Pos):Tr:=
 if (isPO os && (ap.endLine == cp.line) && decide (as.length < 29))=true then .ofE (o.bind fun x=>(trDs as).map fun a=>eMeth Γ.M x m a) else {}
noncomputable def mth (Γ:Cn) (o:Expr) (m:Str) (name:Str) (ap cp:Pos):Bool:=decide (m=name) && isOwn Γ 4 o && (ap.endLine == cp.line)
noncomputable def trAt (Γ:Cn) (T:Expr->Tr) (o:Expr) (m:Str) (ap:Pos) (args:List Expr) (cp:Pos):Tr:=match args with
 | [a]=>if mth Γ o m "append" ap cp=true then .ofE ((T o).e.bind fun x=>(T a).e.map fun y=>eAppend x y) else trM Γ (T o).e o m [(T a).e] ap cp
 | []=>if mth Γ o m "pop" ap cp=true then .ofE ((T o).e.map ePop) else trM Γ (T o).e o m [] ap cp
 | [a,b]=>match o with
  | .Dict dk dv dp=>if (decide (m=("get":Str)) && (ap.endLine == cp.line))=true then .ofV ((T (.Dict dk dv dp)).v.bind fun x=>(T a).v.bind fun y=>(T b).v.map fun z=>vGet2 x y z) else {}
  | .Name gx gp=>if (decide (m=("get":Str)) && (ap.endLine == cp.line))=true then .ofV ((T (.Name gx gp)).v.bind fun x=>(T a).v.bind fun y=>(T b).v.map fun z=>vGet2 x y z) else trM Γ (T (.Name gx gp)).e (.Name gx gp) m [(T a).e,(T b).e] ap cp
  | o=>trM Γ (T o).e o m [(T a).e,(T b).e] ap cp
 | args=>trM Γ (T o).e o m (args.map fun x=>(T x).e) ap cp
noncomputable def tr (Γ:Cn):Nat->Expr->Tr
 | 0,_=>{}
 | n+1,e=>match e with
  | .Constant (.int i) _ _=>.ofV (some (vC (.int i)))
  | .Constant (.bool i) _ _=>.ofV (some (vC (.bl i)))
  | .Constant .none _ _=>.ofV (some (vC .non))
  | .Constant (.str i) _ _=>.ofV (some (vC (.str i)))
  | .Name x _=>if (kindB Γ.ks x [.local,.cell,.free] && okName x)=true then .ofE ((ixOf Γ.N x).map eVar) else
    if (kindB Γ.ks x [.globalImplicit] && okName x)=true then .ofV ((Γ.G x).bind fun v=>if isDct v=true then none else some (vC v)) else {}
  | .BinOp a op b _=>.ofV ((bop op).bind fun g=>(tr Γ n a).v.bind fun x=>(tr Γ n b).v.map fun y=>vOp g x y)
  | .UnaryOp .USub a _=>.ofV ((tr Γ n a).v.map (vUn dNeg))
  | .UnaryOp .Not a _=>.ofB ((tr Γ n a).b.map bNot) ((tr Γ n a).w.map bNot)
  | .BoolOp op es _=>.ofB (wFold op (es.map fun x=>(tr Γ n x).b)) (wFold op (es.map fun x=>(tr Γ n x).w))
  | .Compare a [op] [b] _=>.ofC (match cop op with
    | some g=>(tr Γ n a).v.bind fun x=>(tr Γ n b).v.map fun y=>vOp g x y
    | none=>(cop2 op).bind fun g=>(tr Γ n a).e.bind fun x=>(tr Γ n b).e.map fun y=>vOpE g x y)
  | .IfExp c a b _=>{ Tr.ofV ((tr Γ n c).b.bind fun q=>(tr Γ n a).v.bind fun x=>(tr Γ n b).v.map fun y=>vIf q x y) with b:=none }
  | .Tuple es _ _=>.ofV ((trAs (es.map fun x=>(tr Γ n x).v)).map vTup')
  | .List es _=>.ofV ((trAs (es.map fun x=>(tr Γ n x).v)).map vLst')
  | .Dict [] [] _=>{ e:=some eDict,v:=some (vE eDict) }
  | .Dict keys vals _=>if (keys.all (·.isSome) && decide (keys.length=vals.length) && !keys.isEmpty && decide (keys.length≤15))=true then .ofV ((trDE keys (vals.map fun x=>(tr Γ n x).v)).map vDict) else {}
  | .Subscript a (.Slice lo hi none _) _=>.ofV ((tr Γ n a).v.bind fun x=>(trO (lo.map fun y=>(tr Γ n y).v)).bind fun y=>(trO (hi.map fun z=>(tr Γ n z).v)).map fun z=>vSl2 x y z)
  | .Subscript a i _=>match tabOf Γ a with
   | some kvs=>.ofV ((tr Γ n i).v.map fun y=>vTab kvs y)
   | none=>if isOwn Γ 4 a=true then .ofE ((tr Γ n a).e.bind fun x=>(tr Γ n i).v.map fun y=>eIx x y) else .ofV ((tr Γ n a).v.bind fun x=>(tr Γ n i).v.map fun y=>vOp dIx x y)
  | .Call (.Name f _) args [] _=>if (kindB Γ.ks f [.globalImplicit] && okName f)=true then
    match Γ.I f with
    | some g=>match args with
     | []=>{}
     | _=>.ofE ((trDs (args.map fun x=>(tr Γ n x).e)).map fun a=>eMake g f a)
    | none=>match Γ.F f with
    | some g=>match args with
     | []=>{}
     | _=>.ofV ((trAs (args.map fun x=>(tr Γ n x).v)).map fun a=>vCall (pureOf g) a)
    | none=>match args with
     | []=>{}
     | [a]=>if f=("len":Str) then .ofV ((tr Γ n a).e.map vLen) else .ofV ((bltOf f).bind fun g=>(trAs [(tr Γ n a).v]).map fun x=>vCall g x)
     | [a,.Name t tp]=>if f=("isinstance":Str) then (if kindB Γ.ks t [.globalImplicit]=true then .ofV ((isiOf t).bind fun T=>(tr Γ n a).e.map fun x=>vIsi T x) else {}) else .ofV ((bltOf f).bind fun g=>(trAs [(tr Γ n a).v,(tr Γ n (.Name t tp)).v]).map fun x=>vCall g x)
     | _=>.ofV ((bltOf f).bind fun g=>(trAs (args.map fun x=>(tr Γ n x).v)).map fun x=>vCall g x)
   else {}
  | .Call (.Attribute o m ap) args [] cp=>trAt Γ (fun x=>tr Γ n x) o m ap args cp
  | .FormattedValue a (-1) none _=>.ofV ((tr Γ n a).v.map vFmt)
  | .JoinedStr (a::b::es) _=>.ofV ((trL ((a::b::es).map fun x=>(tr Γ n x).v)).map vJoin)
  | .Attribute o f _=>if isPO o=true then .ofE ((tr Γ n o).e.map fun x=>eFld Γ.A x f) else {}
  | .ListComp elt [⟨tg,iter,ifs,0⟩] scope _=>.ofV (trComp Γ (fun Γ' x=>tr Γ' n x) elt tg iter ifs scope)
  | _=>{}
noncomputable def trD (Γ:Cn) (n:Nat):Nat->Expr->Option EE
 | 0,_=>none
 | k+1,e=>match e with
  | .List es _=>(trDs (es.map fun x=>trD Γ n k x)).map eLstD
  | _=>(tr Γ n e).e
end Ev
namespace Ev
open PySem PySem.Spec PyProof.Rows L2
structure XOk (Γ:Cn) (X:Cx):Prop where
 hN:X.N=Γ.N
 nd:X.N.Nodup
 ks:X.env.scope.names=Γ.ks
 kd:X.env.scope.kind=.function
 calm:X.calm=true
 hu:X.A.units+64 < cLine
 fns:∀x g,Γ.F x=some g->∃k f fd ps,FnOk X.prog X.w X.K X.mg X.base CX0 k f fd ps (spR X.K g)/\Room k X.A/\X.mg x=some (.ref f)/\PySem.W.keepIn X.K (.ref f)=true/\Binds X.K fd ps []
 blt:∀x ∈ bltN,X.mg x=none
 glb:∀x v,Γ.G x=some v->GlobOk2 X.w X.K X.mg x v
 attrs:AOk X.K Γ.A
 meths:MOk X Γ.M
 mks:∀c g,Γ.I c=some g->∃C k f fd ps,ClsOf X.K c C/\X.mg c=some (.ref C)/\Mk X.K C f/\FnOk X.prog X.w X.K X.mg X.base CX0 k f fd ps (spR X.K g)/\Room (k+1) X.A/\Binds X.K fd ps []
structure Good (X:Cx) (ex:Expr) (t:Tr):Prop where
 v:∀f,t.v=some f->PE X ex (tV X.K f)
 e:∀f,t.e=some f->PE X ex (tE X.K f)
 b:∀f,t.b=some f->PT X ex (tQ X.K f)
 w:∀f,t.w=some f->PE X ex (tV X.K (vB f))
section
variable {X:Cx}{e:Expr}
theorem Good.no:Good X e {}:=⟨fun _ h=>(by cases h),fun _ h=>(by cases h),fun _ h=>(by cases h),fun _ h=>(by cases h)⟩
noncomputable def PlainT (e:Expr):Prop:=∀env whole,isTrue e env whole=(do let v <- whole;standAt e.pos;holding [v] (truthy v))
theorem Good.ofV {t:Option EV} (h:∀f,t=some f->PE X e (tV X.K f)) (hp:PlainT e):Good X e (.ofV t) where
 v:=h
 e:=fun f q=>by
  cases t with
  | none=>cases q
  | some g=>cases q;exact xEV (h _ rfl)
 b:=fun f q=>by
  cases t with
  | none=>cases q
  | some g=>cases q;exact yT (xEV (h _ rfl)) (hp _)
 w:=fun f q=>by
  cases t with
  | none=>cases q
  | some g=>cases q;exact xBool (h _ rfl)
theorem Good.ofC {t:Option EV} (h:∀f,t=some f->PE X e (tV X.K f)) (hb:∀f,t=some f->PT X e (tQ X.K (bV f))):Good X e (.ofC t) where
 v:=h
 e:=fun f q=>by
  cases t with
  | none=>cases q
  | some g=>cases q;exact xEV (h _ rfl)
 b:=fun f q=>by
  cases t with
  | none=>cases q
  | some g=>cases q;exact hb _ rfl
 w:=fun f q=>by
  cases t with
  | none=>cases q
  | some g=>cases q;exact xBool (h _ rfl)
theorem Good.ofE {t:Option EE} (h:∀f,t=some f->PE X e (tE X.K f)) (hp:PlainT e):Good X e (.ofE t) where
 v:=fun f q=>by
  cases t with
  | none=>cases q
  | some g=>cases q;exact xVE (h _ rfl)
 e:=h
 b:=fun f q=>by
  cases t with
  | none=>cases q
  | some g=>cases q;exact yT (h _ rfl) (hp _)
 w:=fun f q=>by
  cases t with
  | none=>cases q
  | some g=>cases q;exact xBool (xVE (h _ rfl))
theorem Good.ofB {b w:Option EB} (hb:∀f,b=some f->PT X e (tQ X.K f)) (hw:∀f,w=some f->PE X e (tV X.K (vB f))):Good X e (.ofB b w) where
 v:=fun f q=>by
  cases w with
  | none=>cases q
  | some g=>cases q;exact hw _ rfl
 e:=fun f q=>by
  cases w with
  | none=>cases q
  | some g=>cases q;exact xEV (hw _ rfl)
 b:=hb
 w:=hw
end
theorem bind_eq {α β:Type}{x:Option α}{f:α->Option β}{r:β} (h:x.bind f=some r):∃a,x=some a/\f a=some r:=by
 cases x with
 | none=>cases h
 | some a=>exact⟨a,rfl,h⟩
theorem map_eq {α β:Type}{x:Option α}{f:α->β}{r:β} (h:x.map f=some r):∃a,x=some a/\r=f a:=by
 cases x with
 | none=>cases h
 | some a=>cases h;exact⟨a,rfl,rfl⟩
noncomputable def NoStar (e:Expr):Prop:=∀es env,starEach (e::es) env=(false,eval e env)::starEach es env
theorem noStar_of {Γ:Cn}{n:Nat}{e:Expr} (h:(tr Γ n e).v.isSome=true\/(tr Γ n e).e.isSome=true):NoStar e:=by
 intro es env
 cases n with
 | zero=>rcases h with h | h <;> cases h
 | succ n=>
  cases e <;> first | rfl | (rcases h with h | h <;> cases h)
theorem plainIx_of {Γ:Cn}{n:Nat}{e:Expr} (h:(tr Γ n e).v.isSome=true):PlainIx e:=by
 intro o i
 cases n with
 | zero=>cases h
 | succ n=>
  cases e <;> first | rfl | cases h
theorem anyBack {es:List Expr}{env:Env}{pos:Pos} (h:∀e ∈ es,NoStar e):(backTo pos (starEach es env)).any (·.1)=false:=by
 induction es with
 | nil=>rfl
 | cons e es ih=>
  rw [h e List.mem_cons_self es env]
  have:=ih fun x hx=>h x (List.mem_cons_of_mem _ hx)
  unfold backTo at this ⊢
  rw [List.map_cons,List.any_cons,this];rfl
section
variable {Γ:Cn}{X:Cx} (h:XOk Γ X)
include h
theorem XOk.gl {x:Str} (q:kindB Γ.ks x [.globalImplicit]=true):Gl X x:=by
 unfold Gl Env.kindOf
 rw [h.ks]
 unfold kindB at q
 cases e:Γ.ks.lookup x with
 | none=>rw [e] at q;cases q
 | some k=>rw [e] at q;cases k <;> first | rfl | cases q
theorem XOk.vis {x:Str} (q:kindB Γ.ks x [.local,.cell,.free]=true):Vis X.env.scope x:=by
 unfold Vis
 rw [h.ks]
 unfold kindB at q
 cases e:Γ.ks.lookup x with
 | none=>rw [e] at q;cases q
 | some k=>rw [e] at q;cases k <;> first | exact .inl rfl | exact .inr (.inl rfl) | exact .inr (.inr rfl) | cases q
theorem XOk.loc {x:Str} (q:kindB Γ.ks x [.local,.cell]=true):L2.Loc X.env.scope x:=by
 unfold L2.Loc
 rw [h.ks]
 unfold kindB at q
 cases e:Γ.ks.lookup x with
 | none=>rw [e] at q;cases q
 | some k=>rw [e] at q;cases k <;> first | exact .inl rfl | exact .inr rfl | cases q
theorem XOk.local {x:Str} (q:kindB Γ.ks x [.local]=true):X.env.scope.names.lookup x=some .local:=by
 rw [h.ks]
 unfold kindB at q
 cases e:Γ.ks.lookup x with
 | none=>rw [e] at q;cases q
 | some k=>rw [e] at q;cases k <;> first | rfl | cases q
theorem XOk.bk:X.env.blockKind=.function:=by
 unfold Env.blockKind
 rw [h.kd];rfl
omit h in
theorem okName_of {x:Str} (q:okName x=true):(x == ("__debug__":Str))=false/\(x == ("__classdict__":Str))=false:=by
 unfold okName at q
 rw [Bool.and_eq_true] at q
 exact⟨by simpa using q.1,by simpa using q.2⟩
theorem XOk.get {x:Str}{i:Nat} (q:ixOf Γ.N x=some i):X.N[i]? = some x:=by rw [h.hN];exact ixOf_get q
omit h in
theorem trAs_ok {Γ:Cn}{n:Nat}:∀{es:List Expr}{fs:EVs},(∀e ∈ es,Good X e (tr Γ n e))->trAs (es.map fun x=>(tr Γ n x).v)=some fs->PA X es (tVs X.K fs)/\∀e ∈ es,NoStar e
 | [],fs,_,q=>by cases q;exact⟨aNil,fun _ z=>by cases z⟩
 | e::es,fs,g,q=>by
  obtain⟨f,q1,q2⟩:=bind_eq q
  obtain⟨r,q3,rfl⟩:=map_eq q2
  obtain⟨a1,a2⟩:=trAs_ok (fun x hx=>g x (List.mem_cons_of_mem _ hx)) q3
  have q1:(tr Γ n e).v=some f:=q1
  have ns:NoStar e:=noStar_of (.inl (by rw [q1];rfl))
  refine⟨aCons ((g e List.mem_cons_self).v f q1) a1 (ns _ _),fun x hx=>?_⟩
  rcases List.mem_cons.mp hx with hx | hx
  ·subst hx;exact ns
  ·exact a2 x hx
omit h in
theorem trDs_ok {Γ:Cn}{n:Nat}:∀{es:List Expr}{fs:EDs},(∀e ∈ es,Good X e (tr Γ n e))->trDs (es.map fun x=>(tr Γ n x).e)=some fs->PA X es (tDs X.K fs)/\∀e ∈ es,NoStar e
 | [],fs,_,q=>by cases q;exact⟨daNil,fun _ z=>by cases z⟩
 | e::es,fs,g,q=>by
  obtain⟨f,q1,q2⟩:=bind_eq q
  obtain⟨r,q3,rfl⟩:=map_eq q2
  obtain⟨a1,a2⟩:=trDs_ok (fun x hx=>g x (List.mem_cons_of_mem _ hx)) q3
  have q1:(tr Γ n e).e=some f:=q1
  have ns:NoStar e:=noStar_of (.inr (by rw [q1];rfl))
  refine⟨daCons ((g e List.mem_cons_self).e f q1) a1 (ns _ _),fun x hx=>?_⟩
  rcases List.mem_cons.mp hx with hx | hx
  ·subst hx;exact ns
  ·exact a2 x hx
omit h in
theorem wFold_pw {op:BoolOp}{pos:Pos}{Γ:Cn}{n:Nat}:∀{es:List Expr}{f:EB},(∀e ∈ es,Good X e (tr Γ n e))->wFold op (es.map fun x=>(tr Γ n x).b)=some f->PW X (.BoolOp op es pos) (tQ X.K f)
 | [],f,_,q=>by cases q
 | [a],f,g,q=>by
  cases op with
  | And=>exact yAnd1 ((g a List.mem_cons_self).b f q)
  | Or=>exact yOr1 ((g a List.mem_cons_self).b f q)
 | a::b::es,f,g,q=>by
  obtain⟨x,q1,q2⟩:=bind_eq q
  obtain⟨r,q3,rfl⟩:=map_eq q2
  have i:=wFold_pw (es:=b::es) (pos:=pos) (fun x hx=>g x (List.mem_cons_of_mem _ hx)) q3
  cases op with
  | And=>exact yAnd ((g a List.mem_cons_self).b x q1) i
  | Or=>exact yOr ((g a List.mem_cons_self).b x q1) i
omit h in
theorem wFold_pe {op:BoolOp}{pos:Pos}{Γ:Cn}{n:Nat}:∀{es:List Expr}{f:EB},(∀e ∈ es,Good X e (tr Γ n e))->wFold op (es.map fun x=>(tr Γ n x).w)=some f->PE X (.BoolOp op es pos) (tV X.K (vB f))
 | [],f,_,q=>by cases q
 | [a],f,g,q=>xAnd1 ((g a List.mem_cons_self).w f q)
 | a::b::es,f,g,q=>by
  obtain⟨x,q1,q2⟩:=bind_eq q
  obtain⟨r,q3,rfl⟩:=map_eq q2
  have i:=wFold_pe (es:=b::es) (pos:=pos) (fun x hx=>g x (List.mem_cons_of_mem _ hx)) q3
  cases op with
  | And=>exact xAnd ((g a List.mem_cons_self).w x q1) i
  | Or=>exact xOr ((g a List.mem_cons_self).w x q1) i
omit h in
theorem trDE_ok {pos:Pos}{Γ:Cn}{n:Nat}:∀{keys:List (Option Expr)}{vals:List Expr}{l:DE},(∀e ∈ vals,Good X e (tr Γ n e))->trDE keys (vals.map fun x=>(tr Γ n x).v)=some l->KD X pos keys vals l
 | [],[],l,_,q=>by cases q;exact kNil
 | [],_::_,l,_,q=>by cases q
 | k::ks,[],l,_,q=>by cases q
 | k::ks,v::vs,l,g,q=>by
  obtain⟨x,q1,q2⟩:=bind_eq q
  obtain⟨f,q3,q4⟩:=bind_eq q2
  obtain⟨r,q5,rfl⟩:=map_eq q4
  have i:=trDE_ok (pos:=pos) (fun x hx=>g x (List.mem_cons_of_mem _ hx)) q5
  have hv:=(g v List.mem_cons_self).v f q3
  unfold keyStr at q1
  split at q1
  ·cases q1
   exact kCons xStr hv i
  ·cases q1
omit h in
theorem trO_ok {Γ:Cn}{n:Nat}{o:Option Expr}{f:EO} (g:∀e,Good X e (tr Γ n e)) (q:trO (o.map fun y=>(tr Γ n y).v)=some f):PO X o (tO X.K f):=by
 cases o with
 | none=>cases q;exact oNone'
 | some e=>
  obtain⟨x,q1,rfl⟩:=map_eq (show ((tr Γ n e).v).map oSome=some f from q)
  exact oSome' ((g e).v x q1)
theorem bop_ok {op:Operator}{g:P->P->Option P} (q:bop op=some g):OpP X (binaryOp op) g:=by
 cases op <;> first | (cases q;exact opAdd2) | (cases q;exact opSub) | (cases q;exact opMul2) | (cases q;exact opFloor) | (cases q;exact opMod) | (cases q;exact opPow) | cases q
omit h in
theorem cop_ok {op:CmpOp}{g:P->P->Option P} (q:cop op=some g):OpP X (compareOp op) g:=by
 cases op <;> first | (cases q;exact opLt) | (cases q;exact opLe) | (cases q;exact opGt) | (cases q;exact opGe) | cases q
theorem cop2_ok {op:CmpOp}{g:D->D->Sto->Option P} (q:cop2 op=some g):OpR X (compareOp op) (rE X.K g):=by
 cases op <;> first | (cases q;exact opEqE h.hu) | (cases q;exact opNeE h.hu) | (cases q;exact opInE h.hu) | (cases q;exact opNotInE h.hu) | cases q
omit h in
theorem cop_mark {op:CmpOp}{g:P->P->Option P} (b:Expr) (q:cop op=some g):behindInMarks op b=false:=by
 cases op <;> first | exact nomark b | cases q
omit h in
theorem mark_of {Γ:Cn}{n:Nat}{op:CmpOp}{b:Expr} (q:(tr Γ n b).e.isSome=true):behindInMarks op b=false:=by
 cases n with
 | zero=>cases q
 | succ n=>cases b <;> first | rfl | cases q
theorem call_ok {f:Str}{g:GF}{a:Expr}{as:List Expr}{fs:EVs}{fp pos:Pos} (hg:Γ.F f=some g) (hk:kindB Γ.ks f [.globalImplicit]=true) (hn:okName f=true) (ha:PA X (a::as) (tVs X.K fs)) (ns:∀e ∈ a::as,NoStar e) :
  PE X (.Call (.Name f fp) (a::as) [] pos) (tV X.K (vCall (pureOf g) fs)):=by
 obtain⟨k,fa,fd,ps,G,hr,hm,hkp,hb⟩:=h.fns f g hg
 exact xCall (FnOk.pure G) hr (h.gl hk) hm hkp hb ha (okName_of hn).1 (ns a List.mem_cons_self _ _) (anyBack fun e he=>ns e (List.mem_cons_of_mem _ he))
theorem blt_ok {f:Str}{g:List P->Option P}{a:Expr}{as:List Expr}{fs:EVs}{fp pos:Pos} (hg:bltOf f=some g) (hk:kindB Γ.ks f [.globalImplicit]=true) (ha:PA X (a::as) (tVs X.K fs)) (ns:∀e ∈ a::as,NoStar e) :
  PE X (.Call (.Name f fp) (a::as) [] pos) (tV X.K (vCall g fs)):=by
 have he:=ns a List.mem_cons_self as X.env
 have hp:=anyBack (env:=X.env) (pos:=pos) fun e he=>ns e (List.mem_cons_of_mem _ he)
 unfold bltOf at hg
 split at hg
 ·rename_i e;subst e;cases hg;exact x_int2 (h.gl hk) (h.blt _ (by decide)) ha he hp
 split at hg
 ·rename_i e;subst e;cases hg;exact x_max (h.gl hk) (h.blt _ (by decide)) ha h.calm he hp
 split at hg
 ·rename_i e;subst e;cases hg;exact x_min (h.gl hk) (h.blt _ (by decide)) ha h.calm he hp
 split at hg
 ·rename_i e;subst e;cases hg;exact x_str (h.gl hk) (h.blt _ (by decide)) ha he hp
 ·cases hg
theorem isi_ok {t:Str}{T:String}{a:Expr}{fa:EE}{fp tp pos:Pos} (ht:isiOf t=some T) (hk:kindB Γ.ks ("isinstance":Str) [.globalImplicit]=true) (hk2:kindB Γ.ks t [.globalImplicit]=true) (ha:PE X a (tE X.K fa)) (ns:NoStar a) :
  PE X (.Call (.Name "isinstance" fp) [a,.Name t tp] [] pos) (tV X.K (vIsi T fa)):=by
 have hs:starEach [a,.Name t tp] X.env=[(false,eval a X.env),(false,eval (.Name t tp) X.env)]:=by rw [ns];rfl
 have hm:=h.blt ("isinstance":Str) (by decide)
 unfold isiOf at ht
 split at ht
 ·rename_i e;subst e;cases ht;exact yIsi kit_int (h.gl hk) hm (h.gl hk2) (h.blt _ (by decide)) PyProof.Rows.boot_int ha (by decide) (by decide) hs
 split at ht
 ·rename_i e;subst e;cases ht;exact yIsi kit_bool (h.gl hk) hm (h.gl hk2) (h.blt _ (by decide)) PyProof.Rows.boot_bool ha (by decide) (by decide) hs
 split at ht
 ·rename_i e;subst e;cases ht;exact yIsi kit_tuple (h.gl hk) hm (h.gl hk2) (h.blt _ (by decide)) PyProof.Rows.boot_tuple ha (by decide) (by decide) hs
 split at ht
 ·rename_i e;subst e;cases ht;exact yIsi kit_str (h.gl hk) hm (h.gl hk2) (h.blt _ (by decide)) PyProof.Rows.boot_str ha (by decide) (by decide) hs
 ·cases ht
omit h in
theorem isGl_of {f g:Str} (q:isGl Γ f g=true):f=g/\kindB Γ.ks f [.globalImplicit]=true:=by
 unfold isGl at q
 rw [Bool.and_eq_true] at q
 exact⟨of_decide_eq_true q.1,q.2⟩
theorem it_ok {n:Nat}{tg e:Expr}{f:EVs} (g:∀x,Good X x (tr Γ n x)) (q:trIt Γ (fun x=>tr Γ n x) tg e=some f):PI X tg e (tI X.K f):=by
 have plain:((tr Γ n e).v.map itS=some f)->PI X tg e (tI X.K f):=fun q=>by
  obtain⟨x,q1,rfl⟩:=map_eq q
  exact iS ((g e).v x q1)
 unfold trIt at q
 split at q
 ·rename_i fn fp args pos
  split at q
  ·rename_i hr
   obtain⟨rfl,hr⟩:=isGl_of hr
   have hg:=h.gl hr
   have hm:=h.blt ("range":Str) (by decide)
   split at q
   ·rename_i a
    obtain⟨x,q1,rfl⟩:=map_eq q
    exact iR1 hg hm ((g a).v x q1) (noStar_of (.inl (by rw [q1];rfl)) _ _)
   ·rename_i a b c
    obtain⟨x,q1,q⟩:=bind_eq q
    obtain⟨y,q2,q⟩:=bind_eq q
    obtain⟨z,q3,rfl⟩:=map_eq q
    have n1:NoStar a:=noStar_of (.inl (by rw [q1];rfl))
    have n2:NoStar b:=noStar_of (.inl (by rw [q2];rfl))
    have n3:NoStar c:=noStar_of (.inl (by rw [q3];rfl))
    have s3:starEach [c] X.env=[(false,eval c X.env)]:=n3 _ _
    have s2:starEach [b,c] X.env=[(false,eval b X.env),(false,eval c X.env)]:=by rw [n2,s3]
    have s1:starEach [a,b,c] X.env=[(false,eval a X.env),(false,eval b X.env),(false,eval c X.env)]:=by rw [n1,s2]
    exact iR3 hg hm ((g a).v x q1) ((g b).v y q2) ((g c).v z q3) s1 s2 s3
   ·cases q
  ·exact plain q
 ·cases q
 ·exact plain q
theorem tab_of {a:Expr}{kvs:List (Str×P)} (q:tabOf Γ a=some kvs):∃x p,a=.Name x p/\Gl X x/\GTab X.w X.K X.mg x kvs/\(x == ("__debug__":Str))=false:=by
 unfold tabOf at q
 split at q
 ·rename_i x p
  split at q
  ·rename_i hc
   rw [Bool.and_eq_true] at hc
   split at q
   ·rename_i ks vs hG
    obtain⟨kvs',e,t⟩:=(h.glb x _ hG).2 ks vs rfl
    rw [q] at e
    cases e
    exact⟨x,p,rfl,h.gl hc.1,t,(okName_of hc.2).1⟩
   ·cases q
  ·cases q
 ·cases q
omit h in
theorem trL_ok {n:Nat}:∀{es:List Expr}{fs:List EV},(∀e ∈ es,Good X e (tr Γ n e))->trL (es.map fun x=>(tr Γ n x).v)=some fs->PEs X es fs
 | [],fs,_,q=>by cases q;exact .nil
 | e::es,fs,g,q=>by
  obtain⟨f,q1,q2⟩:=bind_eq q
  obtain⟨r,q3,rfl⟩:=map_eq q2
  exact .cons ((g e List.mem_cons_self).v f q1) (trL_ok (fun x hx=>g x (List.mem_cons_of_mem _ hx)) q3)
omit h in
theorem it_noset {T:Expr->Tr}{tg e:Expr}{f:EVs} (q:trIt Γ T tg e=some f) (env:Env) (x:Value):foldedSetIterable e env x=pure x:=by
 cases e <;> first | rfl | cases q
theorem block_ok {scope:Scope}{N':List Str}{ts:List Nat}{n:Nat} (q:blockB Γ scope N' ts n=true):BlockOk X scope N' ts n:=by
 unfold blockB at q
 simp only [Bool.and_eq_true] at q
 obtain⟨⟨⟨⟨⟨⟨q1,q2⟩,q3⟩,q4⟩,q5⟩,q6⟩,q7⟩:=q
 have e5:Γ.N=N'.take Γ.N.length:=of_decide_eq_true q5
 refine⟨of_decide_eq_true q1,fun x hx=>?_,fun x hx hl=>?_,fun x hx hl=>?_,?_,?_,fun x hx hl i hi=>?_⟩
 ·simpa using List.all_eq_true.mp q2 x hx
 ·have:=List.all_eq_true.mp q3 x hx
  rw [hl] at this
  simpa using this
 ·have:=List.all_eq_true.mp q4 x hx
  rw [hl] at this
  have t:scope.names.lookup x.1=some .free/\(Γ.ks.lookup x.1=some .cell\/Γ.ks.lookup x.1=some .free):=by simpa using this
  refine⟨t.1,?_⟩
  unfold Env.kindOf
  rw [h.ks];exact t.2
 ·rw [h.hN];exact e5
 ·rw [h.hN];exact of_decide_eq_true q6
 ·have:=List.all_eq_true.mp q7 x hx
  rw [hl] at this
  have hi':ixOf Γ.N x.1=some i:=ixOf_of_get (by rw [<- h.hN];exact h.nd) (by rw [<- h.hN];exact hi)
  rw [hi'] at this
  simpa using this
end
theorem nm_ok {X:Cx}{N:List Str}{ks:List (Str×NameKind)}{kinds:List NameKind}{e:Expr}{g:TGv} (hN:X.N=N) (nd:X.N.Nodup) (hk:∀x,kindB ks x kinds=true->L2.Loc X.env.scope x/\(X.fn x=true\/X.env.scope.names.lookup x=some .local)) (q:trNm N ks kinds e=some g):isNm e=true/\PG X e (gT X.K g):=by
 unfold trNm at q
 split at q
 ·split at q
  ·rename_i hc
   obtain⟨i,q1,rfl⟩:=map_eq q
   obtain⟨h1,h2⟩:=hk _ hc
   exact⟨rfl,gName' i nd (by rw [hN];exact ixOf_get q1) h1 h2⟩
  ·cases q
 ·cases q
theorem tg_ok {X:Cx}{N:List Str}{ks:List (Str×NameKind)}{kinds:List NameKind}{e:Expr}{g:TGv} (hc:X.calm=true) (hN:X.N=N) (nd:X.N.Nodup) (hk:∀x,kindB ks x kinds=true->L2.Loc X.env.scope x/\(X.fn x=true\/X.env.scope.names.lookup x=some .local)) (q:trTg N ks kinds e=some g):PG X e (gT X.K g):=by
 unfold trTg at q
 exact (nm_ok hN nd hk q).2
theorem relab_eq {scope:Scope}{env:Env} (hk:env.scope.kind=.function):(relabel scope env).names=relab scope.names env.scope.names:=by
 unfold relabel relab Env.kindOf
 rw [hk]
 simp
theorem XOk.inn {Γ:Cn}{X:Cx} (h:XOk Γ X) {scope:Scope}{N':List Str}{ts:List Nat}{n:Nat} (B:BlockOk X scope N' ts n) (nd:N'.Nodup) (s:Shared) (H:Hp) (C:Addr) (fp:List Addr) :
  XOk ⟨N',[],[],Γ.refs,relab scope.names Γ.ks,Γ.F,Γ.G,Γ.A,Γ.M,Γ.I⟩ (Ev.inn X scope N' s H C fp) where
 hN:=rfl
 nd:=nd
 ks:=by show (relabel scope X.env).names=_;rw [relab_eq h.kd,h.ks]
 kd:=B.kind
 calm:=h.calm
 hu:=h.hu
 fns:=h.fns
 blt:=h.blt
 glb:=h.glb
 attrs:=h.attrs
 meths:=h.meths
 mks:=h.mks
theorem closure_ok {X:Cx}{scope:Scope}{N':List Str}{ts:List Nat}{n:Nat}{pins:List (Addr×Obj)}{σ:L2.St}{H:Hp}{s:Shared} (B:BlockOk X scope N' ts n) (I:Inv X pins σ H s):closureFor scope X.env=pure (clOf scope X.env):=by
 have all:∀x ∈ scope.names,x.2=.free->∃c,X.env.cells.lookup x.1=some c:=fun x hx hl=>I.ok.has x.1 (B.fr x hx hl).2
 unfold closureFor clOf
 have key:∀(l:List (Str×NameKind)) (acc:List (Str×Addr)),(∀x ∈ l,x.2=.free->∃c,X.env.cells.lookup x.1=some c) ->
   (forIn l acc fun (x:Str×NameKind) (r:List (Str×Addr))=>(do
    if x.2 == .free then do
     let c <- cellOf X.env x.1
     pure (ForInStep.yield ((x.1,c)::r))
    else pure (ForInStep.yield r):Sem (ForInStep (List (Str×Addr)))))=pure ((((l.filter fun x=>x.2 == .free).map fun x=>(x.1,(X.env.cells.lookup x.1).getD 0)).reverse)++acc):=by
  intro l
  induction l with
  | nil=>intro acc _;rfl
  | cons x l ih=>
   intro acc hl
   rw [List.forIn_cons]
   by_cases hk:(x.2 == NameKind.free)=true
   ·obtain⟨c,hc⟩:=hl x List.mem_cons_self (by simpa using hk)
    rw [if_pos hk,List.filter_cons_of_pos (p:=fun (x:Str×NameKind)=>x.2 == .free) hk,List.map_cons,List.reverse_cons,List.append_assoc]
    have e1:cellOf X.env x.1=pure c:=by unfold cellOf;rw [hc]
    rw [e1,hc]
    show (forIn l ((x.1,c)::acc) _:Sem _)=_
    rw [ih ((x.1,c)::acc) fun y hy=>hl y (List.mem_cons_of_mem _ hy)];rfl
   ·rw [if_neg hk,List.filter_cons_of_neg (p:=fun (x:Str×NameKind)=>x.2 == .free) hk]
    show (forIn l acc _:Sem _)=_
    rw [ih acc fun y hy=>hl y (List.mem_cons_of_mem _ hy)]
 have k:=key scope.names [] all
 rw [List.append_nil] at k
 show (Bind.bind (forIn scope.names [] fun (x:Str×NameKind) (r:List (Str×Addr))=>(do
    if x.2 == .free then do
     let c <- cellOf X.env x.1
     pure (ForInStep.yield ((x.1,c)::r))
    else pure (ForInStep.yield r):Sem (ForInStep (List (Str×Addr))))) fun cs=>pure cs:Sem (List (Str×Addr)))=_
 rw [k];rfl
end Ev
namespace Ev
open PySem PySem.Spec PyProof.Rows L2
theorem xComp' {X:Cx}{scope:Scope}{N':List Str}{ts:List Nat}{n:Nat}{elt iter tg:Expr}{ifs:List Expr}{pos:Pos}{fi:EVs}{g:TGv}{fc:EB}{fe:EV} (B:BlockOk X scope N' ts n) (hcalm:X.calm=true)
  (hi:PI X tg iter (tI X.K fi)) (hg:∀s H C fp,PG (inn X scope N' s H C fp) tg (gT X.K g)) (hc:∀s H C fp,PIfs (inn X scope N' s H C fp) ifs fc) (he:∀s H C fp,PE (inn X scope N' s H C fp) elt (tV X.K fe))
  (hs:∀x,foldedSetIterable iter X.env x=pure x) :
  PE X (.ListComp elt [⟨tg,iter,ifs,0⟩] scope pos) (tV X.K (vComp fi ts n g fc fe)):=fun pins s σ H Q I q=>
 xComp B hcalm hi hg hc he (closure_ok B I) hs pins s σ H Q I q
theorem zComp' {X:Cx}{scope:Scope}{N':List Str}{ts:List Nat}{n:Nat} (i:Nat) {x:Str}{px spos:Pos}{elt iter tg:Expr}{ifs:List Expr}{pos:Pos}{fi:EVs}{g:TGv}{fc:EB}{fe:EV} (hN:X.N.Nodup) (B:BlockOk X scope N' ts n) (hcalm:X.calm=true)
  (hi:PI X tg iter (tI X.K fi)) (hg:∀s H C fp,PG (inn X scope N' s H C fp) tg (gT X.K g)) (hc:∀s H C fp,PIfs (inn X scope N' s H C fp) ifs fc) (he:∀s H C fp,PE (inn X scope N' s H C fp) elt (tV X.K fe))
  (hsw:swapsWith (.ListComp elt [⟨tg,iter,ifs,0⟩] scope pos) (some (.Name x px)) spos.line X.env=pure true)
  (hs:∀x,foldedSetIterable iter X.env x=pure x) (hix:X.N[i]? = some x) (hx:L2.Loc X.env.scope x)
  (hf:X.fn x=true\/X.env.scope.names.lookup x=some .local) :
  PS X (.Assign [.Name x px] (.ListComp elt [⟨tg,iter,ifs,0⟩] scope pos) spos) (tSt X.K (sSet i (eV (vComp fi ts n g fc fe)))):=fun pins s σ H D I q=>
 zComp i hN B hcalm hi hg hc he (closure_ok B I) hsw hs hix hx hf pins s σ H D I q
noncomputable def AllGood (n:Nat):Prop:=∀(Γ:Cn) (X:Cx),XOk Γ X->∀e,Good X e (tr Γ n e)
theorem comp_pieces {Γ:Cn}{X:Cx} (h:XOk Γ X) {n:Nat} (G:AllGood n) {elt tg iter:Expr}{ifs:List Expr}{scope:Scope}{f:EV} (q:trComp Γ (fun Γ' x=>tr Γ' n x) elt tg iter ifs scope=some f) :
  ∃N' ts m fi g fc fe,BlockOk X scope N' ts m/\PI X tg iter (tI X.K fi)/\(∀s H C fp,PG (inn X scope N' s H C fp) tg (gT X.K g))/\(∀s H C fp,PIfs (inn X scope N' s H C fp) ifs fc)/\(∀s H C fp,PE (inn X scope N' s H C fp) elt (tV X.K fe)) /\
   (∀x,foldedSetIterable iter X.env x=pure x)/\f=vComp fi ts m g fc fe:=by
 unfold trComp at q
 generalize hN':Γ.N++cNew Γ.N (nmsOf tg)=N' at q
 generalize hts:cTs Γ.N (nmsOf tg)=ts at q
 generalize hm:(cNew Γ.N (nmsOf tg)).length=m at q
 split at q
 ·rename_i hc
  rw [Bool.and_eq_true] at hc
  obtain⟨it,q1,q⟩:=bind_eq q
  obtain⟨gg,q2,q⟩:=bind_eq q
  obtain⟨c,q3,q⟩:=bind_eq q
  obtain⟨e,q4,rfl⟩:=map_eq q
  have B:BlockOk X scope N' ts m:=block_ok h hc.1
  have nd:N'.Nodup:=of_decide_eq_true hc.2
  have hin:=fun s H C fp=>h.inn B nd s H C fp
  refine⟨N',ts,m,it,gg,c,e,B,it_ok h (G Γ X h) q1,fun s H C fp=>?_,fun s H C fp=>?_,fun s H C fp=>?_,fun x=>it_noset q1 _ x,rfl⟩
  ·exact tg_ok h.calm rfl nd (fun x hx=>⟨.inl ((hin s H C fp).local hx),.inr ((hin s H C fp).local hx)⟩) q2
  ·cases ifs with
   | nil=>cases q3;exact PIfs.none
   | cons a r=>
    cases r with
    | nil=>exact PIfs.one ((G _ _ (hin s H C fp) a).b c q3)
    | cons _ _=>cases q3
  ·exact (G _ _ (hin s H C fp) elt).v e q4
 ·cases q
theorem attrBase_own {o:Expr}{x:Str}{env:Env}{Γ:Cn}{n:Nat} (ho:isOwn Γ n o=true) (hx:x≠("__class__":Str)):attributeBase o x env (eval o env)=eval o env:=by
 cases n with
 | zero=>cases ho
 | succ n=>
  cases o <;> first | (cases ho;done) | rfl | skip
theorem mth_of {Γ:Cn}{o:Expr}{m name:Str}{ap cp:Pos} (h:mth Γ o m name ap cp=true):m=name/\isOwn Γ 4 o=true/\(ap.endLine == cp.line)=true:=by
 unfold mth at h
 simp only [Bool.and_eq_true] at h
 exact⟨of_decide_eq_true h.1.1,h.1.2,h.2⟩
theorem attrBase_po {o:Expr}{x:Str}{env:Env} (ho:isPO o=true):attributeBase o x env (eval o env)=eval o env:=by
 unfold isPO at ho
 split at ho
 all_goals first | rfl | cases ho
theorem form_ok {as:List Expr}{env:Env}{pos:Pos} (h:∀e ∈ as,NoStar e) (hl:as.length < 29):methodCallForm (as.length+([]:List Keyword).length) (backTo pos (starEach as env)) (backToKw pos (keywordEach [] env))=true:=by
 unfold methodCallForm
 have h1:=anyBack (env:=env) (pos:=pos) h
 have h2:(backTo pos (starEach as env)).all (fun x=>!x.1)=true:=by
  rw [List.all_eq_true]
  intro x hx
  cases hb:x.1 with
  | false=>rfl
  | true=>
   have:(backTo pos (starEach as env)).any (·.1)=true:=List.any_eq_true.mpr ⟨x,hx,hb⟩
   rw [h1] at this;cases this
 rw [h2]
 have h3:(backToKw pos (keywordEach [] env))=[]:=rfl
 rw [h3]
 simp;omega
theorem trM_ok {Γ:Cn}{X:Cx} (h:XOk Γ X) {n:Nat} (g:∀x,Good X x (tr Γ n x)) {o:Expr}{m:Str}{args:List Expr}{ap cp:Pos}:Good X (.Call (.Attribute o m ap) args [] cp) (trM Γ (tr Γ n o).e o m (args.map fun x=>(tr Γ n x).e) ap cp):=by
 unfold trM
 split
 ·rename_i hc
  simp only [Bool.and_eq_true] at hc
  have hl:args.length < 29:=by have:=of_decide_eq_true hc.2;rwa [List.length_map] at this
  refine .ofE (fun f q=>?_) fun _ _=>rfl
  obtain⟨x,q1,q⟩:=bind_eq q
  obtain⟨a,q2,rfl⟩:=map_eq q
  obtain⟨a1,a2⟩:=trDs_ok (fun e _=>g e) q2
  have he:=methEq (o:=o) (mn:=m) (apos:=ap) (pos:=cp) (args:=args) (env:=X.env) (attrBase_po hc.1.1) (form_ok a2 hl) hc.1.2
  cases args with
  | nil=>cases q2;exact xMeth0 h.meths ((g o).e x q1) he
  | cons e es=>exact xMeth h.meths ((g o).e x q1) a1 (a2 e List.mem_cons_self _ _) (anyBack fun y hy=>a2 y (List.mem_cons_of_mem _ hy)) he
 ·exact .no
theorem make_ok {Γ:Cn}{X:Cx} (h:XOk Γ X) {f:Str}{g:GF}{a:Expr}{as:List Expr}{fs:EDs}{fp pos:Pos} (hg:Γ.I f=some g) (hk:kindB Γ.ks f [.globalImplicit]=true) (hn:okName f=true) (ha:PA X (a::as) (tDs X.K fs)) (ns:∀e ∈ a::as,NoStar e) :
  PE X (.Call (.Name f fp) (a::as) [] pos) (tE X.K (eMake g f fs)):=by
 obtain⟨C,k,fa,fd,ps,hC,hm,mk,G,hr,hb⟩:=h.mks f g hg
 exact xMake mk G hr (h.gl hk) hm hC hb ha (okName_of hn).1 (ns a List.mem_cons_self _ _) (anyBack fun e he=>ns e (List.mem_cons_of_mem _ he))
theorem trAt_ok {Γ:Cn}{X:Cx} (h:XOk Γ X) {n:Nat} (g:∀x,Good X x (tr Γ n x)) {o:Expr}{m:Str}{args:List Expr}{ap cp:Pos}:Good X (.Call (.Attribute o m ap) args [] cp) (trAt Γ (fun x=>tr Γ n x) o m ap args cp):=by
 unfold trAt
 split
 ·split
  ·rename_i hc
   obtain⟨rfl,h2,h3⟩:=mth_of hc
   refine .ofE (fun f q=>?_) fun _ _=>rfl
   obtain⟨x,q1,q⟩:=bind_eq q
   obtain⟨y,q2,rfl⟩:=map_eq q
   exact xAppend ((g _).e x q1) ((g _).e y q2) (noStar_of (.inr (by rw [q2];rfl)) _ _) (attrBase_own h2 (by decide)) h3
  ·exact trM_ok h g (args:=[_])
 ·split
  ·rename_i hc
   obtain⟨rfl,h2,h3⟩:=mth_of hc
   refine .ofE (fun f q=>?_) fun _ _=>rfl
   obtain⟨x,q1,rfl⟩:=map_eq q
   exact xPop ((g _).e x q1) (attrBase_own h2 (by decide)) h3
  ·exact trM_ok h g (args:=[])
 ·rename_i a b
  split
  ·split
   ·rename_i hc
    rw [Bool.and_eq_true] at hc
    have e0:=of_decide_eq_true hc.1
    subst e0
    refine .ofV (fun f q=>?_) fun _ _=>rfl
    obtain⟨x,q1,q⟩:=bind_eq q
    obtain⟨y,q2,q⟩:=bind_eq q
    obtain⟨z,q3,rfl⟩:=map_eq q
    have n1:NoStar a:=noStar_of (.inl (by rw [q2];rfl))
    have n2:NoStar b:=noStar_of (.inl (by rw [q3];rfl))
    have s2:starEach [b] X.env=[(false,eval b X.env)]:=n2 _ _
    have s1:starEach [a,b] X.env=[(false,eval a X.env),(false,eval b X.env)]:=by rw [n1,s2]
    exact x_get2 (by have:=h.hu;omega) ((g _).v x q1) ((g _).v y q2) ((g _).v z q3) ⟨rfl,by rw [s1];rfl,hc.2,by rw [s1];rfl⟩
   ·exact .no
  ·split
   ·rename_i hc
    rw [Bool.and_eq_true] at hc
    have e0:=of_decide_eq_true hc.1
    subst e0
    refine .ofV (fun f q=>?_) fun _ _=>rfl
    obtain⟨x,q1,q⟩:=bind_eq q
    obtain⟨y,q2,q⟩:=bind_eq q
    obtain⟨z,q3,rfl⟩:=map_eq q
    have n1:NoStar a:=noStar_of (.inl (by rw [q2];rfl))
    have n2:NoStar b:=noStar_of (.inl (by rw [q3];rfl))
    have s2:starEach [b] X.env=[(false,eval b X.env)]:=n2 _ _
    have s1:starEach [a,b] X.env=[(false,eval a X.env),(false,eval b X.env)]:=by rw [n1,s2]
    exact x_get2 (by have:=h.hu;omega) ((g _).v x q1) ((g _).v y q2) ((g _).v z q3) ⟨rfl,by rw [s1];rfl,hc.2,by rw [s1];rfl⟩
   ·exact trM_ok h g (args:=[a,b])
  ·exact trM_ok h g (args:=[a,b])
 ·exact trM_ok h g
theorem tr_ok:∀n,AllGood n
 | 0=>fun Γ X h e=>Good.no
 | n+1=>by
  have G:=tr_ok n
  intro Γ X h e
  have g:=G Γ X h
  unfold tr
  split
  ·exact .ofV (fun f q=>by cases q;exact xInt) fun _ _=>rfl
  ·exact .ofV (fun f q=>by cases q;exact xBl) fun _ _=>rfl
  ·exact .ofV (fun f q=>by cases q;exact xNon) fun _ _=>rfl
  ·exact .ofV (fun f q=>by cases q;exact xStr) fun _ _=>rfl
  ·split
   ·rename_i x p hc
    rw [Bool.and_eq_true] at hc
    refine .ofE (fun f q=>?_) fun _ _=>rfl
    obtain⟨i,q1,rfl⟩:=map_eq q
    exact xVar i (h.get q1) (h.vis hc.1) (okName_of hc.2).1 (okName_of hc.2).2
   ·split
    ·rename_i hc
     rw [Bool.and_eq_true] at hc
     refine .ofV (fun f q=>?_) fun _ _=>rfl
     obtain⟨v,q1,q⟩:=bind_eq q
     split at q
     ·cases q
     ·rename_i hd
      cases q
      exact xGlob (h.gl hc.1) ((h.glb _ v q1).1 (by simpa using hd)) (okName_of hc.2).1
    ·exact .no
  ·refine .ofV (fun f q=>?_) fun _ _=>rfl
   obtain⟨o,q1,q⟩:=bind_eq q
   obtain⟨x,q2,q⟩:=bind_eq q
   obtain⟨y,q3,rfl⟩:=map_eq q
   exact xOp (bop_ok h q1) ((g _).v x q2) ((g _).v y q3)
  ·refine .ofV (fun f q=>?_) fun _ _=>rfl
   obtain⟨x,q1,rfl⟩:=map_eq q
   exact xNeg ((g _).v x q1)
  ·refine .ofB (fun f q=>?_) fun f q=>?_
   ·obtain⟨x,q1,rfl⟩:=map_eq q
    exact yNot ((g _).b x q1)
   ·obtain⟨x,q1,rfl⟩:=map_eq q
    exact xNot ((g _).w x q1)
  ·exact .ofB (fun f q=>(wFold_pw (fun e _=>g e) q).pt) fun f q=>wFold_pe (fun e _=>g e) q
  ·refine .ofC (fun f q=>?_) fun f q=>?_
   ·split at q
    ·rename_i g' q1
     obtain⟨x,q2,q⟩:=bind_eq q
     obtain⟨y,q3,rfl⟩:=map_eq q
     exact xCmp (cop_ok q1) ((g _).v x q2) ((g _).v y q3) (cop_mark _ q1)
    ·obtain⟨o,q1,q⟩:=bind_eq q
     obtain⟨x,q2,q⟩:=bind_eq q
     obtain⟨y,q3,rfl⟩:=map_eq q
     exact xCmpE (cop2_ok h q1) ((g _).e x q2) ((g _).e y q3) (mark_of (by rw [q3];rfl))
   ·split at q
    ·rename_i g' q1
     obtain⟨x,q2,q⟩:=bind_eq q
     obtain⟨y,q3,rfl⟩:=map_eq q
     exact yCmp (cop_ok q1) ((g _).v x q2) ((g _).v y q3) (cop_mark _ q1)
    ·obtain⟨o,q1,q⟩:=bind_eq q
     obtain⟨x,q2,q⟩:=bind_eq q
     obtain⟨y,q3,rfl⟩:=map_eq q
     exact yCmpE (cop2_ok h q1) ((g _).e x q2) ((g _).e y q3) (mark_of (by rw [q3];rfl))
  ·rename_i c a b p
   have hv:∀f,((tr Γ n c).b.bind fun q=>(tr Γ n a).v.bind fun x=>(tr Γ n b).v.map fun y=>vIf q x y)=some f->PE X (.IfExp c a b p) (tV X.K f):=fun f q=>by
    obtain⟨o,q1,q⟩:=bind_eq q
    obtain⟨x,q2,q⟩:=bind_eq q
    obtain⟨y,q3,rfl⟩:=map_eq q
    exact xIf ((g _).b o q1) ((g _).v x q2) ((g _).v y q3)
   refine⟨hv,fun f q=>?_,fun f q=>(by cases q),fun f q=>?_⟩
   ·obtain⟨x,q1,rfl⟩:=map_eq (show Option.map eV _=some f from q)
    exact xEV (hv _ q1)
   ·obtain⟨x,q1,rfl⟩:=map_eq (show Option.map bV _=some f from q)
    exact xBool (hv _ q1)
  ·refine .ofV (fun f q=>?_) fun _ _=>rfl
   obtain⟨x,q1,rfl⟩:=map_eq q
   exact xTup (trAs_ok (fun e _=>g e) q1).1
  ·refine .ofV (fun f q=>?_) fun _ _=>rfl
   obtain⟨x,q1,rfl⟩:=map_eq q
   exact xLst (trAs_ok (fun e _=>g e) q1).1
  ·exact⟨fun f q=>(by cases q;exact xVE xDictE),fun f q=>(by cases q;exact xDictE),fun f q=>(by cases q),fun f q=>(by cases q)⟩
  ·split
   ·rename_i hc
    simp only [Bool.and_eq_true] at hc
    obtain⟨⟨⟨h1,h2⟩,h3⟩,h4⟩:=hc
    refine .ofV (fun f q=>?_) fun _ _=>rfl
    obtain⟨l,q1,rfl⟩:=map_eq q
    refine xDict (trDE_ok (fun e _=>g e) q1) h1 (of_decide_eq_true h2) (fun z=>?_) (of_decide_eq_true h4)
    rw [z] at h3;cases h3
   ·exact .no
  ·refine .ofV (fun f q=>?_) fun _ _=>rfl
   obtain⟨x,q1,q⟩:=bind_eq q
   obtain⟨y,q2,q⟩:=bind_eq q
   obtain⟨z,q3,rfl⟩:=map_eq q
   exact xSl2 ((g _).v x q1) (trO_ok g q2) (trO_ok g q3)
  ·split
   ·rename_i kvs hk
    obtain⟨x,p,rfl,t1,t2,t3⟩:=tab_of h hk
    refine .ofV (fun f q=>?_) fun _ _=>rfl
    obtain⟨y,q2,rfl⟩:=map_eq q
    exact x_tab t1 t2 t3 ((g _).v y q2) (plainIx_of (by rw [q2];rfl))
   split
   ·refine .ofE (fun f q=>?_) fun _ _=>rfl
    obtain⟨x,q1,q⟩:=bind_eq q
    obtain⟨y,q2,rfl⟩:=map_eq q
    exact xIxE (by have:=h.hu;omega) ((g _).e x q1) ((g _).v y q2) (plainIx_of (by rw [q2];rfl))
   ·refine .ofV (fun f q=>?_) fun _ _=>rfl
    obtain⟨x,q1,q⟩:=bind_eq q
    obtain⟨y,q2,rfl⟩:=map_eq q
    exact xIx (by have:=h.hu;omega) ((g _).v x q1) ((g _).v y q2) (plainIx_of (by rw [q2];rfl))
  ·rename_i f fp args cp
   split
   ·rename_i hc
    rw [Bool.and_eq_true] at hc
    split
    ·rename_i gf hg
     split
     ·exact .no
     ·rename_i args' hne
      refine .ofE (fun f q=>?_) fun _ _=>rfl
      obtain⟨x,q1,rfl⟩:=map_eq q
      obtain⟨a1,a2⟩:=trDs_ok (fun e _=>g e) q1
      cases args with
      | nil=>exact absurd rfl hne
      | cons a as=>exact make_ok h hg hc.1 hc.2 a1 a2
    split
    ·rename_i gf hg
     split
     ·exact .no
     ·rename_i args' hne
      ·refine .ofV (fun f q=>?_) fun _ _=>rfl
       obtain⟨x,q1,rfl⟩:=map_eq q
       obtain⟨a1,a2⟩:=trAs_ok (fun e _=>g e) q1
       cases args with
       | nil=>exact absurd rfl hne
       | cons a as=>exact call_ok h hg hc.1 hc.2 a1 a2
    ·split
     ·exact .no
     ·rename_i a
      split
      ·rename_i hl
       subst hl
       refine .ofV (fun f q=>?_) fun _ _=>rfl
       obtain⟨x,q1,rfl⟩:=map_eq q
       exact xLen (h.gl hc.1) (h.blt _ (by decide)) ((g _).e x q1) (noStar_of (.inr (by rw [q1];rfl)) _ _)
      ·refine .ofV (fun f q=>?_) fun _ _=>rfl
       obtain⟨o,q1,q⟩:=bind_eq q
       obtain⟨x,q2,rfl⟩:=map_eq q
       obtain⟨a1,a2⟩:=trAs_ok (es:=[a]) (fun e _=>g e) q2
       exact blt_ok h q1 hc.1 a1 a2
     ·rename_i a t tp
      split
      ·rename_i hl
       subst hl
       split
       ·rename_i ht
        refine .ofV (fun f q=>?_) fun _ _=>rfl
        obtain⟨o,q1,q⟩:=bind_eq q
        obtain⟨x,q2,rfl⟩:=map_eq q
        exact isi_ok h q1 hc.1 ht ((g _).e x q2) (noStar_of (.inr (by rw [q2];rfl)))
       ·exact .no
      ·refine .ofV (fun f q=>?_) fun _ _=>rfl
       obtain⟨o,q1,q⟩:=bind_eq q
       obtain⟨x,q2,rfl⟩:=map_eq q
       obtain⟨a1,a2⟩:=trAs_ok (es:=[a,.Name t tp]) (fun e _=>g e) q2
       exact blt_ok h q1 hc.1 a1 a2
     ·rename_i hne _ _
      refine .ofV (fun f q=>?_) fun _ _=>rfl
      obtain⟨o,q1,q⟩:=bind_eq q
      obtain⟨x,q2,rfl⟩:=map_eq q
      obtain⟨a1,a2⟩:=trAs_ok (fun e _=>g e) q2
      cases args with
      | nil=>exact absurd rfl hne
      | cons a as=>exact blt_ok h q1 hc.1 a1 a2
   ·exact .no
  ·exact trAt_ok h g
  ·refine .ofV (fun f q=>?_) fun _ _=>rfl
   obtain⟨x,q1,rfl⟩:=map_eq q
   exact xFmt ((g _).v x q1)
  ·refine .ofV (fun f q=>?_) fun _ _=>rfl
   obtain⟨x,q1,rfl⟩:=map_eq q
   exact xJoin (trL_ok (fun e _=>g e) q1)
  ·split
   ·rename_i hc
    refine .ofE (fun f q=>?_) fun _ _=>rfl
    obtain⟨x,q1,rfl⟩:=map_eq q
    exact xFld h.attrs ((g _).e x q1) (attrBase_po hc)
   ·exact .no
  ·refine .ofV (fun f q=>?_) fun _ _=>rfl
   obtain⟨N',ts,m,fi,gg,fc,fe,B,p1,p2,p3,p4,p6,rfl⟩:=comp_pieces h G q
   exact xComp' B h.calm p1 p2 p3 p4 p6
  ·exact .no
theorem trD_star {Γ:Cn}{n k:Nat}{e:Expr}{f:EE} (h:trD Γ n k e=some f):NoStar e:=by
 intro es env
 cases k with
 | zero=>cases h
 | succ k=>
  cases e <;> first | rfl | exact noStar_of (Γ:=Γ) (n:=n) (.inr (by rw [show (tr Γ n (Expr.Starred _ _)).e=some f from h];rfl)) es env
theorem trD_ok {Γ:Cn}{X:Cx} (h:XOk Γ X) (n:Nat):∀(k:Nat) {e:Expr}{f:EE},trD Γ n k e=some f->PE X e (tE X.K f)
 | 0,_,_,q=>by cases q
 | k+1,e,f,q=>by
  have g:=tr_ok n Γ X h
  have all:∀{es:List Expr}{fs:EDs},trDs (es.map fun x=>trD Γ n k x)=some fs->PA X es (tDs X.K fs):=by
   intro es
   induction es with
   | nil=>intro fs q;cases q;exact daNil
   | cons e es ih=>
    intro fs q
    obtain⟨f,q1,q2⟩:=bind_eq q
    obtain⟨r,q3,rfl⟩:=map_eq q2
    have q1:trD Γ n k e=some f:=q1
    exact daCons (trD_ok h n k q1) (ih q3) (trD_star q1 _ _)
  unfold trD at q
  split at q
  ·obtain⟨fs,q1,rfl⟩:=map_eq q
   exact xLstD (all q1)
  ·exact (g _).e f q
end Ev
namespace Ev
open PySem PySem.Spec PyProof.Rows L2
noncomputable def trSs (T:Stmt->Option ES):List Stmt->Option ES
 | []=>some sNx
 | [s]=>T s
 | s::r=>(T s).bind fun f=>(trSs T r).map fun g=>sSeq f g
noncomputable def isLst:Expr->Option (List Expr)
 | .List es _=>some es
 | _=>none
noncomputable def isComp:Expr->Bool
 | .ListComp ..=>true
 | _=>false
theorem notComp {e:Expr} (h:isComp e=false):∀a b c d,e≠.ListComp a b c d:=fun a b c d z=>by subst z;cases h
noncomputable def trS (Γ:Cn):Nat->Stmt->Option ES
 | 0,_=>none
 | n+1,st=>match st with
  | .Assign [.Name x _] value _=>if kindB Γ.ks x [.local,.cell]=true then (ixOf Γ.N x).bind fun i=>if (Γ.deep.contains x && !isComp value)=true then (trD Γ n 5 value).map (sSet i) else match isLst value with
    | some es=>if Γ.own.contains x=true then (trAs (es.map fun y=>(tr Γ n y).v)).map fun a=>sSet i (eLst' a) else (tr Γ n value).e.map (sSet i)
    | none=>(tr Γ n value).e.map (sSet i)
   else none
  | .Assign [.Subscript o i _] value _=>(tr Γ n o).e.bind fun x=>(tr Γ n i).v.bind fun y=>if isComp value=true then none else (tr Γ n value).v.map fun z=>sPut2 x y z
  | .Assign [.Attribute o f _] value _=>if isComp value=true then none else (tr Γ n o).e.bind fun x=>(trD Γ n 5 value).map fun z=>sFld' Γ.A x f z
  | .AugAssign (.Name x _) .Add value _=>if kindB Γ.ks x [.local,.cell]=true then (ixOf Γ.N x).bind fun i=>(tr Γ n value).v.map fun z=>sAug i z else none
  | .AugAssign (.Attribute o f _) .Add value _=>(tr Γ n o).e.bind fun x=>(tr Γ n value).v.map fun z=>sAugF Γ.A x f z
  | .Return (some e) _=>(tr Γ n e).e.map sRet
  | .Expr e _=>if isComp e=true then none else (tr Γ n e).e.map sDrop
  | .If c a b _=>(tr Γ n c).b.bind fun q=>(trSs (trS Γ n) a).bind fun x=>(trSs (trS Γ n) b).map fun y=>sIf q x y
  | .For tg iter body [] _=>(trTg Γ.N Γ.ks [.local,.cell] tg).bind fun g=>(trIt Γ (fun y=>tr Γ n y) tg iter).bind fun it=>(trSs (trS Γ n) body).map fun b=>sFor it g b
  | .While c body [] _=>(tr Γ n c).b.bind fun q=>(trSs (trS Γ n) body).map fun b=>sWhile 1000 q b
  | .Continue _=>some sCt
  | .Raise ..=>some sNever
  | .Try body (_::_) [] [] _=>trSs (trS Γ n) body
  | _=>none
theorem noSwap {value:Expr}{t:Option Expr}{line:Nat}{env:Env} (h:∀a b c d,value≠.ListComp a b c d) (h2:∀a b c d,value≠.SetComp a b c d) (h3:∀a b c d e,value≠.DictComp a b c d e):swapsWith value t line env=pure false:=by
 cases value <;> first | rfl | exact absurd rfl (h _ _ _ _) | exact absurd rfl (h2 _ _ _ _) | exact absurd rfl (h3 _ _ _ _ _)
theorem noSet_of {Γ:Cn}{n:Nat}{e:Expr} (h:(tr Γ n e).e.isSome=true):(∀a b c d,e≠.SetComp a b c d)/\∀a b c d f,e≠.DictComp a b c d f:=by
 cases n with
 | zero=>cases h
 | succ n=>exact⟨fun a b c d z=>(by subst z;cases h),fun a b c d f z=>(by subst z;cases h)⟩
theorem v_e {Γ:Cn}{n:Nat}{e:Expr}{f:EV} (h:(tr Γ n e).v=some f) (hl:∀a b c d,e≠.ListComp a b c d):(∀a b c d,e≠.SetComp a b c d)/\∀a b c d g,e≠.DictComp a b c d g:=by
 cases n with
 | zero=>cases h
 | succ n=>exact⟨fun a b c d z=>(by subst z;cases h),fun a b c d f z=>(by subst z;cases h)⟩
theorem trD_e {Γ:Cn}{n k:Nat}{e:Expr}{f:EE} (h:trD Γ n k e=some f):(∀a b c d,e≠.SetComp a b c d)/\∀a b c d g,e≠.DictComp a b c d g:=by
 cases k with
 | zero=>cases h
 | succ k=>
  cases n with
  | zero=>exact⟨fun a b c d z=>(by subst z;cases h),fun a b c d f z=>(by subst z;cases h)⟩
  | succ n=>exact⟨fun a b c d z=>(by subst z;cases h),fun a b c d f z=>(by subst z;cases h)⟩
theorem tr_comp {Γ:Cn}{n:Nat}{elt:Expr}{gs:List Comprehension}{scope:Scope}{pos:Pos}{f:EE} (h:(tr Γ n (.ListComp elt gs scope pos)).e=some f) :
    ∃k tg iter ifs f',n=k+1/\gs=[⟨tg,iter,ifs,0⟩]/\trComp Γ (fun Γ' x=>tr Γ' k x) elt tg iter ifs scope=some f'/\f=eV f':=by
  cases n with
  | zero=>cases h
  | succ n=>
    unfold tr at h
    split at h
    all_goals first
      | (rename_i hh;cases hh;done)
      | (rename_i hh;cases hh
         obtain⟨x,q1,rfl⟩:=map_eq (show Option.map eV _=some f from h)
         exact⟨n,_,_,_,x,rfl,rfl,q1,rfl⟩)
      | (cases h;done)
theorem trSs_ok {X:Cx}{T:Stmt->Option ES} (h:∀st f,T st=some f->PS X st (tSt X.K f)):∀{sts:List Stmt}{f:ES},trSs T sts=some f->PSs X sts (tSt X.K f)
 | [],f,q=>by cases q;exact zNil
 | [s],f,q=>zOne (h s f q)
 | s::t::r,f,q=>by
  obtain⟨x,q1,q⟩:=bind_eq q
  obtain⟨y,q2,rfl⟩:=map_eq q
  exact zCons (h s x q1) (trSs_ok h q2)
theorem zTry {X:Cx} (hx:∀e s,X.xe e s->False) {body:List Stmt}{h:ExceptHandler}{hs:List ExceptHandler}{pos:Pos}{t:TS} (hb:PSs X body t):PS X (.Try body (h::hs) [] [] pos) t:=fun pins s σ H D I hw=>
 wpAny_Try_except (wpAny_mono (hb pins s σ H D I hw) (fun f s q=>by
  cases f with
  | next=>exact wpAny_pure q
  | _=>exact q) fun e s z=>(hx e s z).elim)
theorem trS_ok {Γ:Cn}{X:Cx} (h:XOk Γ X) (hfn:∀x,X.fn x=true) (hp:PassesOwn (model X.prog X.w) X.A X.env X.xe) (hx:∀e s,X.xe e s->False):∀n (st:Stmt) (f:ES),trS Γ n st=some f->PS X st (tSt X.K f)
 | 0,st,f,q=>by cases q
 | n+1,st,f,q=>by
  have ih:=trS_ok h hfn hp hx n
  have g:=tr_ok n Γ X h
  unfold trS at q
  split at q
  ·rename_i x px value sp
   split at q
   ·rename_i hk
    obtain⟨i,qi,q⟩:=bind_eq q
    split at q
    ·rename_i hd
     rw [Bool.and_eq_true] at hd
     obtain⟨fe,q1,rfl⟩:=map_eq q
     obtain⟨n2,n3⟩:=trD_e q1
     exact zSet i h.nd (trD_ok h n 5 q1) (h.get qi) (h.loc hk) (noSwap (notComp (by simpa using hd.2)) n2 n3) (.inl (hfn x))
    have plain:(tr Γ n value).e.map (sSet i)=some f->PS X (.Assign [.Name x px] value sp) (tSt X.K f):=fun q=>by
     obtain⟨fe,q1,rfl⟩:=map_eq q
     by_cases hl:∃a b c d,value=.ListComp a b c d
     ·obtain⟨a,b,c,d,rfl⟩:=hl
      obtain⟨k,tg,iter,ifs,f',rfl,rfl,q2,rfl⟩:=tr_comp q1
      obtain⟨N',ts,m,fi,gg,fc,fee,B,p1,p2,p3,p4,p6,rfl⟩:=comp_pieces h (tr_ok k) q2
      have sw:swapsWith (.ListComp a [⟨tg,iter,ifs,0⟩] c d) (some (.Name x px)) sp.line X.env=pure (X.env.blockKind == .function && X.env.kindOf x == some .local && px.line == (Expr.ListComp a [⟨tg,iter,ifs,0⟩] c d).pos.line
       && !(c.names.any fun (n,k)=>n == x && (k == .local || k == .cell))):=rfl
      cases hb:(X.env.blockKind == .function && X.env.kindOf x == some .local && px.line == (Expr.ListComp a [⟨tg,iter,ifs,0⟩] c d).pos.line && !(c.names.any fun (n,k)=>n == x && (k == .local || k == .cell))) with
      | true=>
       rw [hb] at sw
       exact zComp' i h.nd B h.calm p1 p2 p3 p4 sw p6 (h.get qi) (h.loc hk) (.inl (hfn x))
      | false=>
       rw [hb] at sw
       exact zSet i h.nd (xEV (xComp' B h.calm p1 p2 p3 p4 p6)) (h.get qi) (h.loc hk) sw (.inl (hfn x))
     ·have n1:∀a b c d,value≠.ListComp a b c d:=fun a b c d z=>hl ⟨a,b,c,d,z⟩
      obtain⟨n2,n3⟩:=noSet_of (show (tr Γ n value).e.isSome=true by rw [q1];rfl)
      exact zSet i h.nd ((g value).e fe q1) (h.get qi) (h.loc hk) (noSwap n1 n2 n3) (.inl (hfn x))
    split at q
    ·rename_i es hes
     split at q
     ·obtain⟨a,q1,rfl⟩:=map_eq q
      unfold isLst at hes
      split at hes
      ·cases hes
       exact zSet i h.nd (xLstE (trAs_ok (fun e _=>g e) q1).1) (h.get qi) (h.loc hk) rfl (.inl (hfn x))
      ·cases hes
     ·exact plain q
    ·exact plain q
   ·cases q
  ·rename_i o i ip value sp
   obtain⟨x,q1,q⟩:=bind_eq q
   obtain⟨y,q2,q⟩:=bind_eq q
   split at q
   ·cases q
   ·rename_i hne
    obtain⟨z,q3,rfl⟩:=map_eq q
    have n1:∀a b c d,value≠.ListComp a b c d:=notComp (by simpa using hne)
    obtain⟨n2,n3⟩:=v_e q3 n1
    exact zPut2 (by have:=h.hu;omega) ((g o).e x q1) ((g i).v y q2) ((g value).v z q3) (noSwap n1 n2 n3)
  ·rename_i o f ap value sp
   split at q
   ·cases q
   ·rename_i hne
    obtain⟨x,q1,q⟩:=bind_eq q
    obtain⟨z,q2,rfl⟩:=map_eq q
    obtain⟨n2,n3⟩:=trD_e q2
    exact zFld h.attrs ((g o).e x q1) (trD_ok h n 5 q2) (noSwap (notComp (by simpa using hne)) n2 n3)
  ·split at q
   ·rename_i hk
    obtain⟨i,qi,q⟩:=bind_eq q
    obtain⟨z,q2,rfl⟩:=map_eq q
    exact zAug i h.nd ((g _).v z q2) (h.get qi) (h.loc hk) (.inl (hfn _))
   ·cases q
  ·obtain⟨x,q1,q⟩:=bind_eq q
   obtain⟨z,q2,rfl⟩:=map_eq q
   exact zAugF h.attrs ((g _).e x q1) ((g _).v z q2)
  ·obtain⟨x,q1,rfl⟩:=map_eq q
   exact zRet ((g _).e x q1)
  ·split at q
   ·cases q
   ·rename_i hne
    obtain⟨x,q1,rfl⟩:=map_eq q
    obtain⟨n2,n3⟩:=noSet_of (by rw [q1];rfl)
    exact zDrop ((g _).e x q1) (noSwap (notComp (by simpa using hne)) n2 n3)
  ·obtain⟨c,q1,q⟩:=bind_eq q
   obtain⟨x,q2,q⟩:=bind_eq q
   obtain⟨y,q3,rfl⟩:=map_eq q
   exact zIf ((g _).b c q1) (trSs_ok ih q2) (trSs_ok ih q3)
  ·obtain⟨gg,q0,q⟩:=bind_eq q
   obtain⟨it,q1,q⟩:=bind_eq q
   obtain⟨b,q2,rfl⟩:=map_eq q
   exact zFor hp h.calm (it_ok h g q1) (tg_ok h.calm h.hN h.nd (fun x hx=>⟨h.loc hx,.inl (hfn x)⟩) q0) (trSs_ok ih q2) fun x=>it_noset q1 _ x
  ·obtain⟨c,q1,q⟩:=bind_eq q
   obtain⟨b,q2,rfl⟩:=map_eq q
   exact zWhile hp ((g _).b c q1) (trSs_ok ih q2)
  ·cases q;exact zCt
  ·cases q;exact zNever
  ·exact zTry hx (trSs_ok ih q)
  ·cases q
structure Df where
 name:Str
 short:Str
 cls:Str
 st:Stmt
 N:List Str
 ps:List Str
 own:List Str
 deep:List Str
 refs:List Str
noncomputable abbrev At:=List (Str×List Str)
noncomputable def aT (T:At) (c f:Str):Bool:=T.any fun x=>decide (x.1=c) && x.2.contains f
noncomputable def fT (D:List Df) (ψ:Str->GF) (x:Str):Option GF:=if (D.any fun d=>decide (d.name=x) && d.cls.cps.isEmpty)=true then some (ψ x) else none
noncomputable def isM (c m:Str) (d:Df):Bool:=decide (d.cls=c) && decide (d.short=m) && !d.cls.cps.isEmpty
noncomputable def mT (D:List Df) (ψ:Str->GF) (c m:Str):Option GF:=if m=("__init__":Str) then none else (D.find? (isM c m)).map fun d=>ψ d.name
noncomputable def inT (D:List Df) (ψ:Str->GF) (c:Str):Option GF:=(D.find? (isM c "__init__")).map fun d=>ψ d.name
noncomputable def bodyOf (G:Str->Option P) (T:At) (D:List Df) (ψ:Str->GF) (ι:Str->Option GF) (d:Df):ES:=(trSs (trS ⟨d.N,d.own,d.deep,d.refs,(defScope d.st).names,fT D ψ,G,aT T,mT D ψ,ι⟩ 60) (defBody d.st)).getD sNever
noncomputable def Psi2 (G:Str->Option P) (T:At) (D:List Df):Nat->(Str->GF)×(Str->Option GF)
 | 0=>(fun _ _ _=>none,fun _=>none)
 | n+1=>(fun x=>match D.find? fun d=>decide (d.name=x) with
  | some d=>fnR d.ps.length d.N.length (bodyOf G T D (Psi2 G T D n).1 (Psi2 G T D n).2 d)
  | none=>fun _ _=>none,inT D (Psi2 G T D n).1)
noncomputable def Psi (G:Str->Option P) (T:At) (D:List Df) (n:Nat):Str->GF:=(Psi2 G T D n).1
noncomputable def scB (d:Df):Bool:=decide ((defScope d.st).kind=.function) && !(defScope d.st).isCoroutine && !(defScope d.st).isGenerator && decide d.N.Nodup && decide (d.N.take d.ps.length=d.ps)
 && d.ps.all (fun x=>(defScope d.st).names.lookup x == some .local || (defScope d.st).names.lookup x == some .cell) && (defScope d.st).names.all (fun y=>y.2 != .free)
theorem scB_ok {d:Df} (h:scB d=true):FnScope d.N d.ps (defScope d.st):=by
 unfold scB at h
 simp only [Bool.and_eq_true] at h
 obtain⟨⟨⟨⟨⟨⟨h1,h2⟩,h3⟩,h4⟩,h5⟩,h6⟩,h7⟩:=h
 refine⟨of_decide_eq_true h1,by simpa using h2,by simpa using h3,of_decide_eq_true h4,of_decide_eq_true h5,fun x hx=>?_,fun y hy=>?_⟩
 ·have:=List.all_eq_true.mp h6 x hx
  simpa using this
 ·have:=List.all_eq_true.mp h7 y hy
  simpa using this
structure DOk (K:PySem.W.Frag) (mg:Str->Option Value) (d:Df) (f:Addr) (fd:FuncData):Prop where
 fn:Fun K d.short d.name d.st f fd
 bd:Binds K fd d.ps []
 gl:d.cls.cps.isEmpty=true->mg d.name=some (.ref f)
 cl:d.cls.cps.isEmpty=false->∃C,ClsOf K d.cls C/\mg d.cls=some (.ref C)/\Cls K C/\(d.short=("__init__":Str)->Mk K C f)/\(d.short≠("__init__":Str)->Meth K C d.short f)
structure TOk (w:World) (G:Str->Option P) (T:At) (D:List Df) (K:PySem.W.Frag) (mg:Str->Option Value):Prop where
 fn:∀d ∈ D,∃f fd,DOk K mg d f fd
 sc:D.all scB=true
 un:(D.map (·.name)).Nodup
 z:∀x ∈ bltN,mg x=none
 gl:∀x v,G x=some v->GlobOk2 w K mg x v
 at':AOk K (aT T)
theorem find_nodup:∀{D:List Df}{d:Df},(D.map (·.name)).Nodup->d ∈ D->(D.find? fun d'=>decide (d'.name=d.name))=some d
 | [],_,_,h=>by cases h
 | a::r,d,nd,h=>by
  rw [List.map_cons,List.nodup_cons] at nd
  rcases List.mem_cons.mp h with h | h
  ·subst h;simp
  ·have hne:¬a.name=d.name:=fun z=>nd.1 (by rw [z];exact List.mem_map.mpr ⟨d,h,rfl⟩)
   rw [List.find?_cons_of_neg (by simpa using hne)]
   exact find_nodup nd.2 h
theorem any_name {D:List Df}{x:Str}{ψ:Str->GF}{g:GF} (h:fT D ψ x=some g):∃d ∈ D,d.name=x/\d.cls.cps.isEmpty=true/\g=ψ x:=by
 unfold fT at h
 split at h
 ·rename_i hc
  cases h
  obtain⟨d,hd,e⟩:=List.any_eq_true.mp hc
  rw [Bool.and_eq_true] at e
  exact⟨d,hd,of_decide_eq_true e.1,e.2,rfl⟩
 ·cases h
theorem isM_of {c m:Str}{d:Df} (h:isM c m d=true):d.cls=c/\d.short=m/\d.cls.cps.isEmpty=false:=by
 unfold isM at h
 simp only [Bool.and_eq_true] at h
 exact⟨of_decide_eq_true h.1.1,of_decide_eq_true h.1.2,by simpa using h.2⟩
theorem any_meth {D:List Df}{ψ:Str->GF}{c m:Str}{g:GF} (h:mT D ψ c m=some g):m≠("__init__":Str)/\∃d ∈ D,d.cls=c/\d.short=m/\d.cls.cps.isEmpty=false/\g=ψ d.name:=by
 unfold mT at h
 split at h
 ·cases h
 ·rename_i hm
  obtain⟨d,q1,rfl⟩:=map_eq h
  obtain⟨h1,h2,h3⟩:=isM_of (List.find?_some q1)
  exact⟨hm,d,List.mem_of_find?_eq_some q1,h1,h2,h3,rfl⟩
theorem any_init {D:List Df}{ψ:Str->GF}{c:Str}{g:GF} (h:inT D ψ c=some g):∃d ∈ D,d.cls=c/\d.short=("__init__":Str)/\d.cls.cps.isEmpty=false/\g=ψ d.name:=by
 unfold inT at h
 obtain⟨d,q1,rfl⟩:=map_eq h
 obtain⟨h1,h2,h3⟩:=isM_of (List.find?_some q1)
 exact⟨d,List.mem_of_find?_eq_some q1,h1,h2,h3,rfl⟩
theorem defs_ok {G:Str->Option P}{T:At}{D:List Df}{Pg:Program}{w:World}{K:PySem.W.Frag}{mg:Str->Option Value}{base:Heap} (Tk:TOk w G T D K mg):∀n,(∀d ∈ D,
  ∀f fd,Fun K d.short d.name d.st f fd->FnOk Pg w K mg base CX0 n f fd d.ps (spR K (Psi G T D n d.name))) /\
  ∀c g,(Psi2 G T D n).2 c=some g->∃m,n=m+1/\∃C f fd ps,ClsOf K c C/\mg c=some (.ref C)/\Mk K C f/\FnOk Pg w K mg base CX0 m f fd ps (spR K g)/\Binds K fd ps []
 | 0=>⟨fun d hd f fd hF=>fn_noneR,fun c g h=>by cases h⟩
 | n+1=>by
  have ih:=defs_ok (Pg:=Pg) (w:=w) (base:=base) Tk n
  refine⟨fun d hd f fd hF=>?_,fun c g h=>?_⟩
  ·have e:Psi G T D (n+1) d.name=fnR d.ps.length d.N.length (bodyOf G T D (Psi2 G T D n).1 (Psi2 G T D n).2 d):=by
    show (match D.find? fun d'=>decide (d'.name=d.name) with | some d=>fnR d.ps.length d.N.length (bodyOf G T D (Psi2 G T D n).1 (Psi2 G T D n).2 d) | none=>fun _ _=>none)=_
    rw [find_nodup Tk.un hd]
   rw [e]
   have hsc:=scB_ok (List.all_eq_true.mp Tk.sc d hd)
   refine fn_okR (N:=d.N) hF hsc fun cdv A outer s H E hr=>?_
   unfold bodyOf
   have X:XOk ⟨d.N,d.own,d.deep,d.refs,(defScope d.st).names,fT D (Psi2 G T D n).1,G,aT T,mT D (Psi2 G T D n).1,(Psi2 G T D n).2⟩ (cxOf CX0 Pg w K mg base d.N d.name (defScope d.st) f cdv A outer s H E).nox:={
    hN:=rfl
    nd:=hsc.nd
    ks:=rfl
    kd:=hsc.kind
    calm:=rfl
    hu:=by have:=hr.un;show (A.deeper (envOfC d.name (defScope d.st) s.heap.objs.size f cdv)).units+64 < _;omega
    fns:=fun x g hg=>by
     obtain⟨d',hd',hn,hc,rfl⟩:=any_name hg
     obtain⟨f',fd',h1⟩:=Tk.fn d' hd'
     subst hn
     exact⟨n,f',fd',d'.ps,ih.1 d' hd' f' fd' h1.fn,hr,h1.gl hc,h1.fn.kp,h1.bd⟩
    blt:=Tk.z
    glb:=Tk.gl
    attrs:=Tk.at'
    meths:=fun c m g hg=>by
     obtain⟨hm,d',hd',rfl,rfl,hc,rfl⟩:=any_meth hg
     obtain⟨f',fd',h1⟩:=Tk.fn d' hd'
     obtain⟨C,c1,c2,c3,c4,c5⟩:=h1.cl hc
     exact⟨C,n,f',fd',d'.ps,c1,c3,c5 hm,ih.1 d' hd' f' fd' h1.fn,hr,h1.bd⟩
    mks:=fun c g hg=>by
     obtain⟨m,rfl,C,f',fd',ps,c1,c2,c3,c4,c5⟩:=ih.2 c g hg
     exact⟨C,m,f',fd',ps,c1,c2,c3,c4,hr,c5⟩ }
   cases q:trSs (trS ⟨d.N,d.own,d.deep,d.refs,(defScope d.st).names,fT D (Psi2 G T D n).1,G,aT T,mT D (Psi2 G T D n).1,(Psi2 G T D n).2⟩ 60) (defBody d.st) with
   | none=>exact pss_never.imp' fun D σ H hz=>by obtain⟨F,m,L,S,fl,L',S',r,l,q,k⟩:=hz;cases q
   | some b=>exact trSs_ok (fun st f q=>trS_ok X (fun _=>rfl) PassesOwn.never (fun _ _ z=>z) 60 st f q) q
  ·obtain⟨d,hd,rfl,hs,hc,rfl⟩:=any_init (ψ:=(Psi2 G T D n).1) h
   obtain⟨f,fd,h1⟩:=Tk.fn d hd
   obtain⟨C,c1,c2,c3,c4,c5⟩:=h1.cl hc
   exact⟨n,rfl,C,f,fd,d.ps,c1,c2,c4 hs,ih.1 d hd f fd h1.fn,h1.bd⟩
end Ev
namespace Ev
open PySem PySem.Spec PyProof.Rows L2
theorem ints_rps {K:PySem.W.Frag}{F:Addr->Prop}{H:Hp}:∀ns:List Int,RPs K F H (ns.map .int) (ns.map V.int)
 | []=>rfl
 | n::r=>⟨_,_,rfl,rfl,ints_rps r⟩
theorem law_of {K:PySem.W.Frag}{H:Hp}{a:Addr}{ns:List Int}{g:GF}{E:XK} (hO:Only H) (hS:SqL K H a (ns.map V.int)) (h:pureOf g [.ro (ns.map .int)]=some (.bl true)):spR K g [.ref a] H (fun v _=>v=.bl true) E:=by
 refine spR_of_spV ⟨fun b=>b=a/\H a≠none,[.ro (ns.map .int)],.bl true,fun b hb=>(by rw [hb.1];exact hb.2),⟨_,_,rfl,⟨a,_,rfl,?_,ints_rps ns⟩,rfl⟩,h,fun v F' H' _ r=>r⟩
 rcases hS with hS | hS
 ·rcases hO a with z | ⟨o,xs,z⟩
  ·rcases hS with hS | ⟨o,hS⟩ <;> rw [z] at hS <;> cases hS
  ·rcases hS with hS | ⟨o',hS⟩
   ·rw [z] at hS;cases hS
   ·exact .inl ⟨⟨rfl,by rw [z];exact fun q=>nomatch q⟩,o',hS⟩
 ·exact .inr (.inr hS)
end Ev
namespace Ev
open PySem L2
section
variable (L:Lc) (S:Sto)
@[simp] theorem vC_ev (v:P):vC v L S=some (v,S):=rfl
@[simp] theorem eVar_ev (i:Nat):eVar i L S=match L[i]? with | some (some d)=>some (d,S) | _=>none:=rfl
@[simp] theorem vE_ev (f:EE):vE f L S=bnd (f L S) (toP 9):=rfl
@[simp] theorem eV_ev (f:EV):eV f L S=bnd (f L S) fun v S1=>some (.p v,S1):=rfl
@[simp] theorem vVar_ev (i:Nat):vVar i L S=bnd (eVar i L S) (toP 9):=rfl
@[simp] theorem vOp_ev (g:P->P->Option P) (a b:EV):vOp g a b L S=bnd (a L S) fun x S1=>bnd (b L S1) fun y S2=>(g x y).map fun v=>(v,S2):=rfl
@[simp] theorem vUn_ev (g:P->Option P) (a:EV):vUn g a L S=bnd (a L S) fun x S1=>(g x).map fun v=>(v,S1):=rfl
@[simp] theorem bV_ev (a:EV):bV a L S=bnd (a L S) fun x S1=>match x with | .bl b=>some (b,S1) | _=>none:=rfl
@[simp] theorem bAnd_ev (a b:EB):bAnd a b L S=bnd (a L S) fun c S1=>if c=true then b L S1 else some (false,S1):=rfl
@[simp] theorem bOr_ev (a b:EB):bOr a b L S=bnd (a L S) fun c S1=>if c=true then some (true,S1) else b L S1:=rfl
@[simp] theorem bNot_ev (a:EB):bNot a L S=bnd (a L S) fun c S1=>some (!c,S1):=rfl
@[simp] theorem bYes_ev:bYes L S=some (true,S):=rfl
@[simp] theorem vB_ev (a:EB):vB a L S=bnd (a L S) fun c S1=>some (.bl c,S1):=rfl
@[simp] theorem vIf_ev (c:EB) (a b:EV):vIf c a b L S=bnd (c L S) fun k S1=>if k=true then a L S1 else b L S1:=rfl
@[simp] theorem vsNil_ev:vsNil L S=some ([],S):=rfl
@[simp] theorem vsCons_ev (a:EV) (r:EVs):vsCons a r L S=bnd (a L S) fun x S1=>bnd (r L S1) fun xs S2=>some (x::xs,S2):=rfl
@[simp] theorem vTup_ev (a:EVs):vTup' a L S=bnd (a L S) fun xs S1=>if few xs=true then some (.tup xs,S1) else none:=rfl
@[simp] theorem vLst_ev (a:EVs):vLst' a L S=bnd (a L S) fun xs S1=>if few xs=true then some (.lst xs,S1) else none:=rfl
@[simp] theorem eLst_ev (a:EVs):eLst' a L S=bnd (a L S) fun xs S1=>if few xs=true then some (.ref S1.length,S1++[.lst (xs.map .p)]) else none:=rfl
@[simp] theorem vCall_ev (g:List P->Option P) (a:EVs):vCall g a L S=bnd (a L S) fun xs S1=>(g xs).map fun v=>(v,S1):=rfl
@[simp] theorem vLen_ev (r:EE):vLen r L S=bnd (r L S) fun d S1=>match lenD d S1 with | some n=>some (.int (n:Int),S1) | none=>none:=by
 unfold vLen
 cases r L S with
 | none=>rfl
 | some z=>
  obtain⟨d,S1⟩:=z
  rw [bnd_some,bnd_some]
  cases lenD d S1 <;> rfl
@[simp] theorem vSl2_ev (a:EV) (lo hi:EO):vSl2 a lo hi L S=bnd (a L S) fun x S1=>bnd (lo L S1) fun i S2=>bnd (hi L S2) fun j S3=>(dSl2 x i j).map fun v=>(v,S3):=rfl
@[simp] theorem vFmt_ev (f:EV):vFmt f L S=bnd (f L S) fun v S1=>match v with | .str x=>if capN x.length=true then some (.str x,S1) else none | _=>none:=rfl
@[simp] theorem vJoin_ev (fs:List EV):vJoin fs L S=vJoinGo Str.empty fs L S:=rfl
@[simp] theorem vJoinGo_nil (acc:Str):vJoinGo acc [] L S=if capN acc.length=true then some (.str acc,S) else none:=rfl
@[simp] theorem vJoinGo_cons (acc:Str) (f:EV) (r:List EV):vJoinGo acc (f::r) L S=bnd (f L S) fun v S1=>match v with | .str y=>if capN (acc++y).length=true then vJoinGo (acc++y) r L S1 else none | _=>none:=rfl
@[simp] theorem vGet2_ev (a b c:EV):vGet2 a b c L S=bnd (a L S) fun d S1=>bnd (b L S1) fun y S2=>bnd (c L S2) fun z S3=>match d with
 | .dct ks vs=>match keyOf y with
  | some k=>some ((dLook k ks vs).getD z,S3)
  | none=>none
 | _=>none:=rfl
@[simp] theorem vTab_ev (kvs:List (Str×P)) (b:EV):vTab kvs b L S=bnd (b L S) fun y S1=>match y with | .str k=>(kvs.lookup k).map fun v=>(v,S1) | _=>none:=rfl
@[simp] theorem sNx_ev:sNx L S=some (.nx,L,S):=rfl
@[simp] theorem sCt_ev:sCt L S=some (.ct,L,S):=rfl
@[simp] theorem sSeq_ev (f g:ES):sSeq f g L S=match f L S with | some (.nx,L1,S1)=>g L1 S1 | r=>r:=rfl
@[simp] theorem sSet_ev (i:Nat) (f:EE):sSet i f L S=bnd (f L S) fun d S1=>some (.nx,L.set i (some d),S1):=rfl
@[simp] theorem sRet_ev (f:EE):sRet f L S=bnd (f L S) fun d S1=>some (.rt d,L,S1):=rfl
@[simp] theorem sDrop_ev (f:EE):sDrop f L S=bnd (f L S) fun _ S1=>some (.nx,L,S1):=rfl
@[simp] theorem sIf_ev (c:EB) (a b:ES):sIf c a b L S=bnd (c L S) fun k S1=>if k=true then a L S1 else b L S1:=rfl
@[simp] theorem sFor_ev (it:EVs) (g:TGv) (b:ES):sFor it g b L S=bnd (it L S) fun xs S1=>forGo g b xs L S1:=rfl
@[simp] theorem gSet_ev (i:Nat) (v:P):gSet i v L=some (L.set i (some (.p v))):=rfl
@[simp] theorem itS_ev (a:EV):itS a L S=bnd (a L S) fun v S1=>match v with | .lst xs=>some (xs,S1) | .ro xs=>some (xs,S1) | .tup xs=>some (xs,S1) | _=>none:=rfl
@[simp] theorem eIx_ev (r:EE) (k:EV):eIx r k L S=bnd (r L S) fun d S1=>bnd (k L S1) fun y S2=>match d with
 | .p v=>(dIx v y).map fun z=>(.p z,S2)
 | .ref i=>match S2[i]? with
  | some (.lst ds)=>(match y with
   | .int j=>(L2.atI ds j).map fun z=>(z,S2)
   | _=>none)
  | some (.fz v)=>(dIx v y).map fun z=>(.p z,S2)
  | _=>none:=rfl
@[simp] theorem ePop_ev (r:EE):ePop r L S=bnd (r L S) fun d S1=>match ownL d S1 with
 | some (i,ds)=>match ds[ds.length-1]? with
  | some x=>some (x,S1.set i (.lst ds.dropLast))
  | none=>none
 | none=>none:=rfl
@[simp] theorem eAppend_ev (r a:EE):eAppend r a L S=bnd (r L S) fun d S1=>match ownL d S1 with
 | none=>none
 | some _=>bnd (a L S1) fun x S2=>match ownL d S2 with
  | some (i,ds)=>if few ds=true then some (.p .non,S2.set i (.lst (ds++[x]))) else none
  | none=>none:=rfl
end
@[simp] theorem few_ev {α:Type} (xs:List α):(few xs=true)=(xs.length≤1000000):=by unfold few;simp
@[simp] theorem capN_ev (n:Nat):(capN n=true)=(n≤1000000):=by unfold capN;simp
theorem atI_nat' {α:Type}{xs:List α}{i:Int}{x:α} (h0:0≤i) (h:xs[i.toNat]? = some x):L2.atI xs i=some x:=by
 have hl:=(List.getElem?_eq_some_iff.mp h).1
 unfold L2.atI L2.ixN
 rw [if_pos h0,if_pos (by omega)]
 exact h
@[simp] theorem atI_zero {α:Type} (x:α) (xs:List α):L2.atI (x::xs) 0=some x:=atI_nat' (by omega) rfl
@[simp] theorem atI_one {α:Type} (x y:α) (xs:List α):L2.atI (x::y::xs) 1=some y:=atI_nat' (by omega) rfl
@[simp] theorem atI_two {α:Type} (x y z:α) (xs:List α):L2.atI (x::y::z::xs) 2=some z:=atI_nat' (by omega) rfl
@[simp] theorem atI_three {α:Type} (x y z w:α) (xs:List α):L2.atI (x::y::z::w::xs) 3=some w:=atI_nat' (by omega) rfl
@[simp] theorem dIx_tup (xs:List P) (i:Int):dIx (.tup xs) (.int i)=L2.atI xs i:=rfl
@[simp] theorem dIx_lst (xs:List P) (i:Int):dIx (.lst xs) (.int i)=L2.atI xs i:=rfl
@[simp] theorem dIx_ro (xs:List P) (i:Int):dIx (.ro xs) (.int i)=L2.atI xs i:=rfl
@[simp] theorem dIx_dct (ks:List Key) (vs:List P) (x:Str):dIx (.dct ks vs) (.str x)=dLook (.inr x) ks vs:=rfl
@[simp] theorem dEqD_int (i j:Int):dEqD (.int i) (.int j)=some (.bl (decide (i=j))):=rfl
@[simp] theorem dEqD_str (i j:Str):dEqD (.str i) (.str j)=some (.bl (decide (i=j))):=rfl
@[simp] theorem dEqD_bl (i j:Bool):dEqD (.bl i) (.bl j)=some (.bl (decide (i=j))):=rfl
@[simp] theorem dNe_int (i j:Int):dNe (.int i) (.int j)=some (.bl (!decide (i=j))):=rfl
@[simp] theorem dNe_str (i j:Str):dNe (.str i) (.str j)=some (.bl (!decide (i=j))):=rfl
@[simp] theorem dNe_bl (i j:Bool):dNe (.bl i) (.bl j)=some (.bl (!decide (i=j))):=rfl
@[simp] theorem dAdd_int (i j:Int):dAdd (.int i) (.int j)=some (.int (i+j)):=rfl
@[simp] theorem dMul_int (i j:Int):dMul (.int i) (.int j)=if mulOk i j=true then some (.int (i * j)) else none:=rfl
@[simp] theorem dNeg_int (i:Int):dNeg (.int i)=some (.int (-i)):=rfl
theorem pureOf_fn (np nn:Nat) (b:ES) (ps:List P):pureOf (fnR np nn b) ps=if ps.length=np then match b (ps.map (fun p=>some (.p p))++List.replicate (nn-ps.length) none) [] with
 | some (.rt d,_,S)=>(toP 9 d S).map (·.1)
 | some (.nx,_,_)=>some .non
 | _=>none else none:=by
 unfold pureOf fnR
 rw [List.length_map,List.map_map]
 by_cases h:ps.length=np
 ·rw [if_pos h,if_pos h]
  show (match (match b (ps.map (fun p=>some (D.p p))++List.replicate (nn-ps.length) none) [] with
   | some (.rt d,_,S')=>some (d,S')
   | some (.nx,_,S')=>some (.p .non,S')
   | _=>none:Option (D×Sto)) with
   | some (d,S)=>(toP 9 d S).map (fun (x:P×Sto)=>x.1)
   | none=>none)=_
  cases b (ps.map (fun p=>some (D.p p))++List.replicate (nn-ps.length) none) [] with
  | none=>rfl
  | some z=>
   obtain⟨fl,L,S⟩:=z
   cases fl <;> simp
 ·rw [if_neg h,if_neg h]
theorem forGo_nx {g:TGv}{b:ES}{v:P}{r:List P}{L L1 L2:Lc}{S S2:Sto} (h1:g v L=some L1) (h2:b L1 S=some (.nx,L2,S2)):forGo g b (v::r) L S=forGo g b r L2 S2:=by
 simp [forGo,h1,h2]
theorem whileGo_nx {c:EB}{b:ES}{n:Nat}{L L2:Lc}{S S1 S2:Sto} (h1:c L S=some (true,S1)) (h2:b L S1=some (.nx,L2,S2)):whileGo c b (n+1) L S=whileGo c b n L2 S2:=by
 simp [whileGo,h1,h2]
theorem whileGo_end {c:EB}{b:ES}{n:Nat}{L:Lc}{S S1:Sto} (h1:c L S=some (false,S1)):whileGo c b (n+1) L S=some (.nx,L,S1):=by
 simp [whileGo,h1]
section
variable (L:Lc) (S:Sto)
@[simp] theorem vOpE_ev (g:D->D->Sto->Option P) (a b:EE):vOpE g a b L S=bnd (a L S) fun x S1=>bnd (b L S1) fun y S2=>(g x y S2).map fun v=>(v,S2):=rfl
@[simp] theorem bT_ev (a:EE):bT a L S=bnd (a L S) fun d S1=>(truD d S1).map fun b=>(b,S1):=rfl
@[simp] theorem itR1_ev (a:EV):itR1 a L S=bnd (a L S) fun x S1=>match x with | .int n=>if (decide (n.natAbs < 1000000))=true then some (intsFrom 0 n.toNat,S1) else none | _=>none:=by
 unfold itR1;cases a L S with
 | none=>rfl
 | some z=>obtain⟨x,S1⟩:=z;cases x <;> first | rfl | simp
@[simp] theorem dsNil_ev:dsNil L S=some ([],S):=rfl
@[simp] theorem dsCons_ev (a:EE) (r:EDs):dsCons a r L S=bnd (a L S) fun x S1=>bnd (r L S1) fun xs S2=>some (x::xs,S2):=rfl
@[simp] theorem eLstD_ev (a:EDs):eLstD a L S=bnd (a L S) fun xs S1=>if few xs=true then some (.ref S1.length,S1++[.lst xs]) else none:=rfl
@[simp] theorem vIsi_ev (T:String) (f:EE):vIsi T f L S=bnd (f L S) fun d S1=>(isiD T d S1).map fun b=>(.bl b,S1):=rfl
@[simp] theorem gsGo_nil:gsGo [] [] L=some L:=rfl
@[simp] theorem gsGo_cons (g:TGv) (gs:List TGv) (v:P) (vs:List P):gsGo (g::gs) (v::vs) L=match g v L with | some L1=>gsGo gs vs L1 | none=>none:=rfl
@[simp] theorem isiD_p (T:String) (v:P):isiD T (.p v) S=some (isiP T v):=rfl
@[simp] theorem truD_p (v:P):truD (.p v) S=truP v:=rfl
@[simp] theorem truP_bl (b:Bool):truP (.bl b)=some b:=rfl
@[simp] theorem truP_int (i:Int):truP (.int i)=some (i != 0):=rfl
@[simp] theorem gEq_p (x y:P):gEq (.p x) (.p y) S=(eqD x y).map .bl:=rfl
@[simp] theorem gNe_p (x y:P):gNe (.p x) (.p y) S=(neD x y).map .bl:=rfl
end
@[simp] theorem eqD_int (i j:Int):eqD (.int i) (.int j)=some (decide (i=j)):=rfl
@[simp] theorem eqD_str (i j:Str):eqD (.str i) (.str j)=some (decide (i=j)):=rfl
@[simp] theorem eqD_bl (i j:Bool):eqD (.bl i) (.bl j)=some (decide (i=j)):=rfl
@[simp] theorem neD_int (i j:Int):neD (.int i) (.int j)=some (!decide (i=j)):=rfl
@[simp] theorem neD_str (i j:Str):neD (.str i) (.str j)=some (!decide (i=j)):=rfl
@[simp] theorem neD_bl (i j:Bool):neD (.bl i) (.bl j)=some (!decide (i=j)):=rfl
@[simp] theorem dAdd2_int (i j:Int):dAdd2 (.int i) (.int j)=some (.int (i+j)):=rfl
@[simp] theorem dAdd2_str (x y:Str):dAdd2 (.str x) (.str y)=dAdd (.str x) (.str y):=rfl
@[simp] theorem dAdd2_lst (x y:List P):dAdd2 (.lst x) (.lst y)=if capN (x.length+y.length)=true then some (.lst (x++y)) else none:=rfl
@[simp] theorem dMul2_int (i j:Int):dMul2 (.int i) (.int j)=if mulOk i j=true then some (.int (i * j)) else none:=rfl
@[simp] theorem dMul2_str (x:Str) (n:Int):dMul2 (.str x) (.int n)=dMul (.str x) (.int n):=rfl
theorem neD_self {v:P} (h:okP 20 v=true):neD v v=some false:=by
 unfold neD
 have e:PyData.eqv (pd v) (pd v)=true:=PySem.SeqAt.eqv_refl _ (okP_lay 20 v h).1
 cases hq:dNe v v with
 | none=>simp [h,e]
 | some z=>
  cases v with
  | int i=>cases hq;simp
  | str i=>cases hq;simp
  | bl i=>cases hq;simp
  | non=>cases hq
  | tup _=>cases hq
  | lst _=>cases hq
  | ro _=>cases hq
  | dct _ _=>cases h
section
variable (L:Lc) (S:Sto)
@[simp] theorem eFld_ev (A:Str->Str->Bool) (o:EE) (f:Str):eFld A o f L S=bnd (o L S) fun d S1=>match d with
 | .ref i=>match S1[i]? with
  | some (.ins c ks ds)=>if A c f=true then (lookF f ks ds).map fun z=>(z,S1) else none
  | _=>none
 | _=>none:=rfl
@[simp] theorem sFld_ev (A:Str->Str->Bool) (o:EE) (f:Str) (v:EE):sFld' A o f v L S=bnd (v L S) fun y S1=>bnd (o L S1) fun d S2=>match d with
 | .ref i=>match S2[i]? with
  | some (.ins c ks ds)=>if (A c f && decide (ks.length < 900))=true then some (.nx,L,S2.set i (.ins c (putK f ks) (putD f y ks ds))) else none
  | _=>none
 | _=>none:=rfl
@[simp] theorem eMeth_ev (M:Str->Str->Option GF) (o:EE) (mn:Str) (as:EDs):eMeth M o mn as L S=bnd (o L S) fun d S1=>match d with
 | .ref i=>match S1[i]? with
  | some (.ins c ks _)=>match M c mn with
   | some g=>if ks.contains mn=true then none else bnd (as L S1) fun vs S2=>g (.ref i::vs) S2
   | none=>none
  | _=>none
 | _=>none:=rfl
@[simp] theorem eMake_ev (g:GF) (c:Str) (as:EDs):eMake g c as L S=bnd (as L S) fun vs S1=>match g (.ref S1.length::vs) (S1++[.ins c [] []]) with
 | some (.p .non,S2)=>some (.ref S1.length,S2)
 | _=>none:=rfl
@[simp] theorem sAug_ev (i:Nat) (v:EV):sAug i v L S=match L[i]? with
 | some (some (.p (.int a)))=>bnd (v L S) fun y S1=>match y with
  | .int b=>some (.nx,L.set i (some (.p (.int (a+b)))),S1)
  | _=>none
 | _=>none:=rfl
@[simp] theorem sAugF_ev (A:Str->Str->Bool) (o:EE) (f:Str) (v:EV):sAugF A o f v L S=bnd (o L S) fun d S1=>match d with
 | .ref i=>match S1[i]? with
  | some (.ins c ks ds)=>if A c f=true then (match lookF f ks ds with
   | some (.p (.int a))=>bnd (v L S1) fun y S2=>match y,S2[i]? with
    | .int b,some (.ins c' ks' ds')=>if (decide (c'=c) && decide (ks'.length < 900))=true then some (.nx,L,S2.set i (.ins c (putK f ks') (putD f (.p (.int (a+b))) ks' ds'))) else none
    | _,_=>none
   | _=>none) else none
  | _=>none
 | _=>none:=rfl
end
end Ev
namespace My
theorem ex1 {n:Nat} (h:1≤n):∃m,n=m+1:=⟨n-1,by omega⟩
theorem ex2 {n:Nat} (h:2≤n):∃m,n=m+2:=⟨n-2,by omega⟩
theorem ex3 {n:Nat} (h:3≤n):∃m,n=m+3:=⟨n-3,by omega⟩
theorem ex4 {n:Nat} (h:4≤n):∃m,n=m+4:=⟨n-4,by omega⟩
open PySem L2 Ev
noncomputable def top (i:Nat):Stmt:=PySem.Challenge.pw_roadsall_k06_whole_texts_keep_their_trut.main.body.getD i (.Pass ⟨0,0,0,0⟩)
noncomputable def Gv (x:Str):Option P:=if x=("COMPARISONS":Str) then some (.tup [.str "=",.str "!=",.str "<",.str "<=",.str ">",.str ">="]) else if x=("FIGURES":Str) then some (.str "0123456789") else if x=("IS_LEVEL":Str) then some (.int 4) else if x=("KINDS":Str) then some (.dct [.inr "or",.inr "and",.inr "+",.inr "-",.inr "*"] [.str "or",.str "and",.str "plus",.str "minus",.str "times"]) else if x=("LETTERS":Str) then some (.str "abcdefghijklmnopqrstuvwxyz") else if x=("MARK_LEVELS":Str) then some (.dct [.inr "(",.inr "[",.inr "or",.inr "and",.inr "not",.inr "=",.inr "!=",.inr "<",.inr "<=",.inr ">",.inr ">=",.inr "+",.inr "-",.inr "*"] [.int 0,.int 0,.int 1,.int 2,.int 3,.int 4,.int 4,.int 4,.int 4,.int 4,.int 4,.int 5,.int 5,.int 6]) else if x=("MOST_FIGURES":Str) then some (.int 3) else if x=("MOST_LETTERS":Str) then some (.int 10) else if x=("OR_LEVEL":Str) then some (.int 1) else if x=("PLUS_LEVEL":Str) then some (.int 5) else if x=("SIGNS":Str) then some (.dct [.inr "or",.inr "and",.inr "plus",.inr "minus",.inr "times"] [.str "or",.str "and",.str "+",.str "-",.str "*"]) else if x=("SUM_KINDS":Str) then some (.tup [.str "number",.str "name",.str "plus",.str "minus",.str "times"]) else if x=("TREE_LEVELS":Str) then some (.dct [.inr "or",.inr "and",.inr "not",.inr "is",.inr "true",.inr "plus",.inr "minus",.inr "times",.inr "number",.inr "name"] [.int 1,.int 2,.int 3,.int 4,.int 4,.int 5,.int 5,.int 6,.int 7,.int 7]) else if x=("WORDS":Str) then some (.tup [.str "or",.str "and",.str "not",.str "true"]) else none
noncomputable def Rf:List Str:=["Reader.run_of","Reader.skip_blanks","Reader.fold","Reader.has_sum","Reader.last_mark","Reader.read_end","Reader.touches","Reader.keep","Reader.read_number","Reader.push","Reader.read_letters","Reader.read_beginning","Reader.read_sign","Reader.read_comparison","Reader.read_joint","Reader.read_round_end","Reader.read_square_end","Reader.read_behind","Reader.read","Reader.__init__"]
noncomputable def d_n_law_mix:Df:=⟨"_law_mix","_law_mix","",(top 30),["_law_number","_law_place","_law_turn","_law_part"],["_law_number","_law_place"],[],[],Rf⟩
noncomputable def d_n_law_folded:Df:=⟨"_law_folded","_law_folded","",(top 36),["_law_stack","_law_words","_law_shorter","_law_k"],["_law_stack","_law_words"],["_law_shorter"],[],Rf⟩
noncomputable def d_n_law_leaf:Df:=⟨"_law_leaf","_law_leaf","",(top 35),["_law_names","_law_number"],["_law_names","_law_number"],[],[],Rf⟩
noncomputable def d_n_law_small:Df:=⟨"_law_small","_law_small","",(top 38),["_law_names","_law_number","_law_one"],["_law_names","_law_number"],[],[],Rf⟩
noncomputable def d_n_law_test:Df:=⟨"_law_test","_law_test","",(top 39),["_law_names","_law_number","_law_other","_law_word"],["_law_names","_law_number","_law_other"],[],[],Rf⟩
noncomputable def d_n_law_depth:Df:=⟨"_law_depth","_law_depth","",(top 34),["_law_tree","_law_found","_law_part"],["_law_tree"],[],[],Rf⟩
noncomputable def d_n_law_condition:Df:=⟨"_law_condition","_law_condition","",(top 40),["_law_names","_law_cells","_law_most","_law_denied","_law_words","_law_stack","_law_many","_law_nots","_law_cell","_law_number","_law_deep","_law_other"],["_law_names","_law_cells","_law_most","_law_denied"],["_law_stack"],[],Rf⟩
noncomputable def d_n_law_value:Df:=⟨"_law_value","_law_value","",(top 44),["_law_tree","_law_values","_law_one","_law_other"],["_law_tree","_law_values"],[],[],Rf⟩
noncomputable def d_n_law_truth:Df:=⟨"_law_truth","_law_truth","",(top 45),["_law_tree","_law_values","_law_one","_law_other","_law_found"],["_law_tree","_law_values"],[],[],Rf⟩
noncomputable def d_n_law_level:Df:=⟨"_law_level","_law_level","",(top 41),["_law_tree"],["_law_tree"],[],[],Rf⟩
noncomputable def d_n_law_written:Df:=⟨"_law_written","_law_written","",(top 42),["_law_tree","_law_number","_law_found","_law_gap","_law_one","_law_other"],["_law_tree","_law_number"],[],[],Rf⟩
noncomputable def d_n_law_otherwise:Df:=⟨"_law_otherwise","_law_otherwise","",(top 43),["_law_tree","_law_number","_law_gap","_law_found","_law_one","_law_other"],["_law_tree","_law_number"],[],[],Rf⟩
noncomputable def d_n_Reader_run_of:Df:=⟨"Reader.run_of","run_of","Reader",(L2.inClass (top 18) 13),["self","signs","end"],["self","signs"],["self"],[],Rf⟩
noncomputable def d_n_Reader_skip_blanks:Df:=⟨"Reader.skip_blanks","skip_blanks","Reader",(L2.inClass (top 18) 12),["self"],["self"],["self"],[],Rf⟩
noncomputable def d_n_Reader_fold:Df:=⟨"Reader.fold","fold","Reader",(L2.inClass (top 18) 19),["self","level","mark","other","one"],["self","level"],["self"],["self"],Rf⟩
noncomputable def d_n_Reader_has_sum:Df:=⟨"Reader.has_sum","has_sum","Reader",(L2.inClass (top 18) 15),["self"],["self"],["self"],[],Rf⟩
noncomputable def d_n_Reader_last_mark:Df:=⟨"Reader.last_mark","last_mark","Reader",(L2.inClass (top 18) 16),["self"],["self"],["self"],[],Rf⟩
noncomputable def d_n_Reader_read_end:Df:=⟨"Reader.read_end","read_end","Reader",(L2.inClass (top 18) 11),["self"],["self"],["self"],[],Rf⟩
noncomputable def d_n_Reader_touches:Df:=⟨"Reader.touches","touches","Reader",(L2.inClass (top 18) 14),["self"],["self"],["self"],[],Rf⟩
noncomputable def d_n_Reader_keep:Df:=⟨"Reader.keep","keep","Reader",(L2.inClass (top 18) 18),["self","tree","length"],["self","tree","length"],["self"],["self"],Rf⟩
noncomputable def d_n_Reader_read_number:Df:=⟨"Reader.read_number","read_number","Reader",(L2.inClass (top 18) 3),["self","figures","length"],["self"],["self"],[],Rf⟩
noncomputable def d_n_Reader_push:Df:=⟨"Reader.push","push","Reader",(L2.inClass (top 18) 17),["self","mark","wanted"],["self","mark","wanted"],["self"],["self"],Rf⟩
noncomputable def d_n_Reader_read_letters:Df:=⟨"Reader.read_letters","read_letters","Reader",(L2.inClass (top 18) 4),["self","letters"],["self"],["self"],[],Rf⟩
noncomputable def d_n_Reader_read_beginning:Df:=⟨"Reader.read_beginning","read_beginning","Reader",(L2.inClass (top 18) 2),["self","sign"],["self","sign"],["self"],[],Rf⟩
noncomputable def d_n_Reader_read_sign:Df:=⟨"Reader.read_sign","read_sign","Reader",(L2.inClass (top 18) 6),["self","sign"],["self","sign"],["self"],[],Rf⟩
noncomputable def d_n_Reader_read_comparison:Df:=⟨"Reader.read_comparison","read_comparison","Reader",(L2.inClass (top 18) 7),["self","sign","mark","word"],["self","sign"],["self"],[],Rf⟩
noncomputable def d_n_shared_length:Df:=⟨"shared_length","shared_length","",(top 19),["one","other","length"],["one","other"],[],[],Rf⟩
noncomputable def d_n_Reader_read_joint:Df:=⟨"Reader.read_joint","read_joint","Reader",(L2.inClass (top 18) 8),["self","word","letters"],["self","word"],["self"],[],Rf⟩
noncomputable def d_n_Reader_read_round_end:Df:=⟨"Reader.read_round_end","read_round_end","Reader",(L2.inClass (top 18) 9),["self"],["self"],["self"],["self"],Rf⟩
noncomputable def d_n_Reader_read_square_end:Df:=⟨"Reader.read_square_end","read_square_end","Reader",(L2.inClass (top 18) 10),["self"],["self"],["self"],["self"],Rf⟩
noncomputable def d_n_Reader_read_behind:Df:=⟨"Reader.read_behind","read_behind","Reader",(L2.inClass (top 18) 5),["self","sign"],["self","sign"],["self"],[],Rf⟩
noncomputable def d_n_Reader_read:Df:=⟨"Reader.read","read","Reader",(L2.inClass (top 18) 1),["self"],["self"],["self"],[],Rf⟩
noncomputable def d_n_Reader_init:Df:=⟨"Reader.__init__","__init__","Reader",(L2.inClass (top 18) 0),["self","text","wanted"],["self","text","wanted"],["self"],[],Rf⟩
noncomputable def d_n_read_condition:Df:=⟨"read_condition","read_condition","",(top 20),["text"],["text"],[],[],Rf⟩
noncomputable def d_n_shown_sum:Df:=⟨"shown_sum","shown_sum","",(top 21),["tree","kind"],["tree"],[],[],Rf⟩
noncomputable def d_n_shown_from:Df:=⟨"shown_from","shown_from","",(top 24),["tree","level","bare","text"],["tree","level"],[],[],Rf⟩
noncomputable def d_n_shown_pair:Df:=⟨"shown_pair","shown_pair","",(top 23),["tree","level","sign","one","other"],["tree"],[],[],Rf⟩
noncomputable def d_n_shown_condition:Df:=⟨"shown_condition","shown_condition","",(top 22),["tree","kind","part","word","one","other"],["tree"],[],[],Rf⟩
noncomputable def d_n_law_at:Df:=⟨"_law_at","_law_at","",(top 29),["_law_script","_law_k"],["_law_script","_law_k"],[],[],Rf⟩
noncomputable def d_n_law_named:Df:=⟨"_law_named","_law_named","",(top 33),["_law_k","_law_number","_law_place"],["_law_k","_law_number"],[],[],Rf⟩
noncomputable def d_n_compared:Df:=⟨"compared","compared","",(top 27),["word","one","other"],["word","one","other"],[],[],Rf⟩
noncomputable def d_n_value_of:Df:=⟨"value_of","value_of","",(top 25),["tree","values","kind","one","other"],["tree","values"],[],[],Rf⟩
noncomputable def d_n_holds:Df:=⟨"holds","holds","",(top 26),["condition","values","kind"],["condition","values"],[],[],Rf⟩
noncomputable def d_n_law_read:Df:=⟨"_law_read","_law_read","",(top 46),["_law_written_here","_law_found"],["_law_written_here"],[],[],Rf⟩
noncomputable def d_n_law_needed:Df:=⟨"_law_needed","_law_needed","",(top 47),["_law_tree","_law_told","_law_opened","_law_k","_law_first","_law_inner"],["_law_tree","_law_told"],["_law_opened"],[],Rf⟩
noncomputable def d_n_law:Df:=⟨"law","law","",(top 48),["_law_script","_law_number","_law_names","_law_values","_law_k","_law_tree","_law_due","_law_written_here","_law_found","_law_told","_law_both","_law_other"],["_law_script"],["_law_values"],[],Rf⟩
noncomputable def Att:At:=[("Reader",["marks","sought","spot","text","trees","wanted"])]
noncomputable def Tb:List Df:=[d_n_law_mix,d_n_law_folded,d_n_law_leaf,d_n_law_small,d_n_law_test,d_n_law_depth,d_n_law_condition,d_n_law_value,d_n_law_truth,d_n_law_level,d_n_law_written,d_n_law_otherwise,d_n_Reader_run_of,d_n_Reader_skip_blanks,d_n_Reader_fold,d_n_Reader_has_sum,d_n_Reader_last_mark,d_n_Reader_read_end,d_n_Reader_touches,d_n_Reader_keep,d_n_Reader_read_number,d_n_Reader_push,d_n_Reader_read_letters,d_n_Reader_read_beginning,d_n_Reader_read_sign,d_n_Reader_read_comparison,d_n_shared_length,d_n_Reader_read_joint,d_n_Reader_read_round_end,d_n_Reader_read_square_end,d_n_Reader_read_behind,d_n_Reader_read,d_n_Reader_init,d_n_read_condition,d_n_shown_sum,d_n_shown_from,d_n_shown_pair,d_n_shown_condition,d_n_law_at,d_n_law_named,d_n_compared,d_n_value_of,d_n_holds,d_n_law_read,d_n_law_needed,d_n_law]
noncomputable def b_n_law_mix_L1 (ψ ι:Str->GF):ES:=(sSet 0 (eV (vOp dFloor (vE (eVar 0)) (vC (.int 2147483648)))))
noncomputable def b_n_law_mix (ψ ι:Str->GF):ES:=(sSeq (sIf (bV (vOp dGe (vE (eVar 0)) (vOp dPow (vC (.int 10)) (vC (.int 12))))) (sSeq (sSet 0 (eV (vOp dSub (vOp dFloor (vE (eVar 0)) (vOp dPow (vC (.int 10)) (vC (.int 12)))) (vC (.int 1)))))
  (sSeq (sFor (itR1 (vOp dMod (vE (eVar 1)) (vC (.int 61)))) (gSet 2) (b_n_law_mix_L1 ψ ι))
  (sRet (eV (vOp dMod (vE (eVar 0)) (vC (.int 2147483648))))))) sNx)
  (sSeq (sSet 3 (eV (vOp dMod (vOp dMul2 (vOp dAdd2 (vOp dAdd2 (vOp dMod (vE (eVar 0)) (vC (.int 2147483629))) (vE (eVar 1))) (vC (.int 1))) (vOp dAdd2 (vOp dMul2 (vOp dMul2 (vC (.int 8)) (vE (eVar 1))) (vE (eVar 1))) (vC (.int 48271)))) (vC (.int 2147483647)))))
  (sSeq (sSet 3 (eV (vOp dMod (vOp dMul2 (vE (eVar 3)) (vE (eVar 3))) (vC (.int 2147483587)))))
  (sRet (eV (vOp dMod (vOp dMul2 (vE (eVar 3)) (vOp dAdd2 (vE (eVar 3)) (vC (.int 2)))) (vC (.int 2147483579))))))))
theorem e_n_law_mix (n:Nat):Psi Gv Att Tb (n+2) "_law_mix"=fnR 2 4 (b_n_law_mix (Psi Gv Att Tb (n+1)) (Psi Gv Att Tb n)):=by kernel_rfl
noncomputable def b_n_law_folded_L1 (ψ ι:Str->GF):ES:=(sDrop (eAppend (eVar 2) (eV (vTup' (vsCons (vOp dIx (vE (eVar 1)) (vOp dMod (vE (eVar 3)) (vLen (eVar 1)))) (vsCons (vOp dIx (vE (eVar 0)) (vE (eVar 3))) (vsCons (vOp dIx (vE (eVar 0)) (vOp dAdd2 (vE (eVar 3)) (vC (.int 1)))) vsNil)))))))
noncomputable def b_n_law_folded_L2 (ψ ι:Str->GF):ES:=(sSeq (sSet 2 (eLst' vsNil))
  (sSeq (sFor (itR3 (vC (.int 0)) (vOp dSub (vLen (eVar 0)) (vC (.int 1))) (vC (.int 2))) (gSet 3) (b_n_law_folded_L1 ψ ι))
  (sSeq (sIf (bV (vOpE gEq (eV (vOp dMod (vLen (eVar 0)) (vC (.int 2)))) (eV (vC (.int 1))))) (sDrop (eAppend (eVar 2) (eV (vOp dIx (vE (eVar 0)) (vUn dNeg (vC (.int 1))))))) sNx)
  (sSet 0 (eVar 2)))))
noncomputable def b_n_law_folded (ψ ι:Str->GF):ES:=(sSeq (sWhile 1000 (bV (vOp dGt (vLen (eVar 0)) (vC (.int 1)))) (b_n_law_folded_L2 ψ ι))
  (sRet (eV (vOp dIx (vE (eVar 0)) (vC (.int 0))))))
theorem e_n_law_folded (n:Nat):Psi Gv Att Tb (n+2) "_law_folded"=fnR 2 4 (b_n_law_folded (Psi Gv Att Tb (n+1)) (Psi Gv Att Tb n)):=by kernel_rfl
noncomputable def b_n_law_leaf (ψ ι:Str->GF):ES:=(sSeq (sIf (bV (vOpE gEq (eV (vOp dMod (vE (eVar 1)) (vC (.int 2)))) (eV (vC (.int 0))))) (sRet (eV (vTup' (vsCons (vC (.str "name")) (vsCons (vOp dIx (vE (eVar 0)) (vOp dMod (vOp dFloor (vE (eVar 1)) (vC (.int 2))) (vLen (eVar 0)))) vsNil))))) sNx)
  (sRet (eV (vTup' (vsCons (vC (.str "number")) (vsCons (vOp dIx (vLst' (vsCons (vOp dMod (vOp dFloor (vE (eVar 1)) (vC (.int 2))) (vC (.int 10))) (vsCons (vOp dMod (vOp dFloor (vE (eVar 1)) (vC (.int 20))) (vC (.int 1000))) vsNil))) (vOp dFloor (vOp dMod (vOp dFloor (vE (eVar 1)) (vC (.int 16))) (vC (.int 4))) (vC (.int 3)))) vsNil))))))
theorem e_n_law_leaf (n:Nat):Psi Gv Att Tb (n+2) "_law_leaf"=fnR 2 2 (b_n_law_leaf (Psi Gv Att Tb (n+1)) (Psi Gv Att Tb n)):=by kernel_rfl
noncomputable def b_n_law_small (ψ ι:Str->GF):ES:=(sSeq (sSet 2 (eV (vCall (pureOf (ψ "_law_leaf")) (vsCons (vE (eVar 0)) (vsCons (vOp dFloor (vE (eVar 1)) (vC (.int 4))) vsNil)))))
  (sSeq (sIf (bV (vOp dGt (vOp dMod (vE (eVar 1)) (vC (.int 4))) (vC (.int 0)))) (sRet (eVar 2)) sNx)
  (sRet (eV (vTup' (vsCons (vOp dIx (vLst' (vsCons (vC (.str "plus")) (vsCons (vC (.str "minus")) (vsCons (vC (.str "times")) vsNil)))) (vOp dMod (vOp dFloor (vE (eVar 1)) (vC (.int 4096))) (vC (.int 3)))) (vsCons (vE (eVar 2)) (vsCons (vCall (pureOf (ψ "_law_leaf")) (vsCons (vE (eVar 0)) (vsCons (vOp dFloor (vE (eVar 1)) (vC (.int 16384))) vsNil))) vsNil))))))))
theorem e_n_law_small (n:Nat):Psi Gv Att Tb (n+2) "_law_small"=fnR 2 3 (b_n_law_small (Psi Gv Att Tb (n+1)) (Psi Gv Att Tb n)):=by kernel_rfl
noncomputable def b_n_law_test (ψ ι:Str->GF):ES:=(sSeq (sIf (bV (vOpE gEq (eV (vOp dMod (vE (eVar 1)) (vC (.int 8)))) (eV (vC (.int 0))))) (sRet (eV (vTup' (vsCons (vC (.str "true")) vsNil)))) sNx)
  (sSeq (sSet 3 (eV (vOp dIx (vLst' (vsCons (vC (.str "=")) (vsCons (vC (.str "!=")) (vsCons (vC (.str "<")) (vsCons (vC (.str "<=")) (vsCons (vC (.str ">")) (vsCons (vC (.str ">=")) vsNil))))))) (vOp dMod (vOp dFloor (vE (eVar 1)) (vC (.int 8))) (vC (.int 6))))))
  (sRet (eV (vTup' (vsCons (vC (.str "is")) (vsCons (vE (eVar 3)) (vsCons (vCall (pureOf (ψ "_law_small")) (vsCons (vE (eVar 0)) (vsCons (vOp dFloor (vE (eVar 1)) (vC (.int 64))) vsNil))) (vsCons (vCall (pureOf (ψ "_law_small")) (vsCons (vE (eVar 0)) (vsCons (vE (eVar 2)) vsNil))) vsNil)))))))))
theorem e_n_law_test (n:Nat):Psi Gv Att Tb (n+2) "_law_test"=fnR 3 4 (b_n_law_test (Psi Gv Att Tb (n+1)) (Psi Gv Att Tb n)):=by kernel_rfl
noncomputable def b_n_law_depth_L1 (ψ ι:Str->GF):ES:=(sIf (bT (eV (vIsi "tuple" (eVar 2)))) (sSet 1 (eV (vCall c_max (vsCons (vE (eVar 1)) (vsCons (vCall (pureOf (ψ "_law_depth")) (vsCons (vE (eVar 2)) vsNil)) vsNil))))) sNx)
noncomputable def b_n_law_depth (ψ ι:Str->GF):ES:=(sSeq (sSet 1 (eV (vC (.int 0))))
  (sSeq (sFor (itS (vSl2 (vE (eVar 0)) (oSome (vC (.int 1))) oNone)) (gSet 2) (b_n_law_depth_L1 ψ ι))
  (sRet (eV (vOp dAdd2 (vC (.int 1)) (vE (eVar 1)))))))
theorem e_n_law_depth (n:Nat):Psi Gv Att Tb (n+2) "_law_depth"=fnR 1 3 (b_n_law_depth (Psi Gv Att Tb (n+1)) (Psi Gv Att Tb n)):=by kernel_rfl
noncomputable def b_n_law_condition_L1 (ψ ι:Str->GF):ES:=(sSeq (sSet 9 (eV (vCall (pureOf (ψ "_law_mix")) (vsCons (vE (eVar 8)) (vsCons (vC (.int 4)) vsNil)))))
  (sSeq (sSet 10 (eV (vCall (pureOf (ψ "_law_depth")) (vsCons (vE (eIx (eVar 5) (vUn dNeg (vC (.int 1))))) vsNil))))
  (sIf (bAnd (bV (vOp dLt (vOp dMod (vE (eVar 9)) (vC (.int 6))) (vC (.int 2)))) (bAnd (bV (vOp dLt (vE (eVar 7)) (vE (eVar 3)))) (bV (vOp dLt (vE (eVar 10)) (vC (.int 6)))))) (sSeq (sDrop (eAppend (eVar 5) (eV (vTup' (vsCons (vC (.str "not")) (vsCons (vE (ePop (eVar 5))) vsNil))))))
  (sSet 7 (eV (vOp dAdd2 (vE (eVar 7)) (vC (.int 1)))))) (sIf (bAnd (bV (vOp dGt (vLen (eVar 5)) (vC (.int 1)))) (bAnd (bV (vOp dLt (vOp dMod (vE (eVar 9)) (vC (.int 6))) (vC (.int 4)))) (bV (vOp dLt (vCall c_max (vsCons (vE (eVar 10)) (vsCons (vCall (pureOf (ψ "_law_depth")) (vsCons (vE (eIx (eVar 5) (vUn dNeg (vC (.int 2))))) vsNil)) vsNil))) (vC (.int 7)))))) (sSeq (sSet 11 (ePop (eVar 5)))
  (sDrop (eAppend (eVar 5) (eV (vTup' (vsCons (vOp dIx (vE (eVar 4)) (vOp dMod (vOp dFloor (vE (eVar 9)) (vC (.int 6))) (vC (.int 2)))) (vsCons (vE (ePop (eVar 5))) (vsCons (vE (eVar 11)) vsNil)))))))) (sIf (bV (vOp dLt (vE (eVar 6)) (vE (eVar 2)))) (sSeq (sSet 6 (eV (vOp dAdd2 (vE (eVar 6)) (vC (.int 1)))))
  (sDrop (eAppend (eVar 5) (eV (vCall (pureOf (ψ "_law_test")) (vsCons (vE (eVar 0)) (vsCons (vOp dFloor (vE (eVar 9)) (vC (.int 6))) (vsCons (vCall (pureOf (ψ "_law_mix")) (vsCons (vE (eVar 8)) (vsCons (vC (.int 5)) vsNil))) vsNil)))))))) sNx)))))
noncomputable def b_n_law_condition (ψ ι:Str->GF):ES:=(sSeq (sSet 4 (eV (vLst' (vsCons (vC (.str "or")) (vsCons (vC (.str "and")) vsNil)))))
  (sSeq (sSet 5 (eLst' (vsCons (vCall (pureOf (ψ "_law_test")) (vsCons (vE (eVar 0)) (vsCons (vCall (pureOf (ψ "_law_mix")) (vsCons (vLen (eVar 1)) (vsCons (vC (.int 8)) vsNil))) (vsCons (vC (.int 5)) vsNil)))) vsNil)))
  (sSeq (sSet 6 (eV (vC (.int 1))))
  (sSeq (sSet 7 (eV (vC (.int 0))))
  (sSeq (sFor (itS (vE (eVar 1))) (gSet 8) (b_n_law_condition_L1 ψ ι))
  (sRet (eV (vCall (pureOf (ψ "_law_folded")) (vsCons (vE (eVar 5)) (vsCons (vE (eVar 4)) vsNil))))))))))
theorem e_n_law_condition (n:Nat):Psi Gv Att Tb (n+2) "_law_condition"=fnR 4 12 (b_n_law_condition (Psi Gv Att Tb (n+1)) (Psi Gv Att Tb n)):=by kernel_rfl
noncomputable def b_n_law_value (ψ ι:Str->GF):ES:=(sSeq (sIf (bV (vOpE gEq (eV (vOp dIx (vE (eVar 0)) (vC (.int 0)))) (eV (vC (.str "number"))))) (sRet (eV (vOp dIx (vE (eVar 0)) (vC (.int 1))))) sNx)
  (sSeq (sIf (bV (vOpE gEq (eV (vOp dIx (vE (eVar 0)) (vC (.int 0)))) (eV (vC (.str "name"))))) (sRet (eV (vOp dIx (vE (eVar 1)) (vOp dIx (vE (eVar 0)) (vC (.int 1)))))) sNx)
  (sSeq (sSet 2 (eV (vCall (pureOf (ψ "_law_value")) (vsCons (vOp dIx (vE (eVar 0)) (vC (.int 1))) (vsCons (vE (eVar 1)) vsNil)))))
  (sSeq (sSet 3 (eV (vCall (pureOf (ψ "_law_value")) (vsCons (vOp dIx (vE (eVar 0)) (vC (.int 2))) (vsCons (vE (eVar 1)) vsNil)))))
  (sRet (eV (vOp dIx (vDict (dCons "plus" (vOp dAdd2 (vE (eVar 2)) (vE (eVar 3))) (dCons "minus" (vOp dSub (vE (eVar 2)) (vE (eVar 3))) (dCons "times" (vOp dMul2 (vE (eVar 2)) (vE (eVar 3))) dNil)))) (vOp dIx (vE (eVar 0)) (vC (.int 0))))))))))
theorem e_n_law_value (n:Nat):Psi Gv Att Tb (n+2) "_law_value"=fnR 2 4 (b_n_law_value (Psi Gv Att Tb (n+1)) (Psi Gv Att Tb n)):=by kernel_rfl
noncomputable def b_n_law_truth (ψ ι:Str->GF):ES:=(sSeq (sIf (bV (vOpE gEq (eV (vOp dIx (vE (eVar 0)) (vC (.int 0)))) (eV (vC (.str "true"))))) (sRet (eV (vC (.bl true)))) sNx)
  (sSeq (sIf (bV (vOpE gEq (eV (vOp dIx (vE (eVar 0)) (vC (.int 0)))) (eV (vC (.str "is"))))) (sSeq (sSet 2 (eV (vCall (pureOf (ψ "_law_value")) (vsCons (vOp dIx (vE (eVar 0)) (vC (.int 2))) (vsCons (vE (eVar 1)) vsNil)))))
  (sSeq (sSet 3 (eV (vCall (pureOf (ψ "_law_value")) (vsCons (vOp dIx (vE (eVar 0)) (vC (.int 3))) (vsCons (vE (eVar 1)) vsNil)))))
  (sSeq (sSet 4 (eV (vDict (dCons "=" (vOpE gEq (eVar 2) (eVar 3)) (dCons "!=" (vOpE gNe (eVar 2) (eVar 3)) (dCons "<" (vOp dLt (vE (eVar 2)) (vE (eVar 3))) (dCons "<=" (vOp dLe (vE (eVar 2)) (vE (eVar 3))) dNil)))))))
  (sRet (eV (vGet2 (vE (eVar 4)) (vOp dIx (vE (eVar 0)) (vC (.int 1))) (vB (bOr (bV (vOp dGt (vE (eVar 2)) (vE (eVar 3)))) (bAnd (bV (vOpE gEq (eV (vOp dIx (vE (eVar 0)) (vC (.int 1)))) (eV (vC (.str ">="))))) (bV (vOpE gEq (eVar 2) (eVar 3)))))))))))) sNx)
  (sSeq (sSet 2 (eV (vCall (pureOf (ψ "_law_truth")) (vsCons (vOp dIx (vE (eVar 0)) (vC (.int 1))) (vsCons (vE (eVar 1)) vsNil)))))
  (sSeq (sIf (bV (vOpE gEq (eV (vOp dIx (vE (eVar 0)) (vC (.int 0)))) (eV (vC (.str "not"))))) (sRet (eV (vB (bNot (bV (vE (eVar 2))))))) sNx)
  (sSeq (sIf (bV (vOpE gEq (eV (vOp dIx (vE (eVar 0)) (vC (.int 0)))) (eV (vC (.str "and"))))) (sRet (eV (vB (bAnd (bV (vE (eVar 2))) (bV (vCall (pureOf (ψ "_law_truth")) (vsCons (vOp dIx (vE (eVar 0)) (vC (.int 2))) (vsCons (vE (eVar 1)) vsNil)))))))) sNx)
  (sRet (eV (vB (bOr (bV (vE (eVar 2))) (bV (vCall (pureOf (ψ "_law_truth")) (vsCons (vOp dIx (vE (eVar 0)) (vC (.int 2))) (vsCons (vE (eVar 1)) vsNil)))))))))))))
theorem e_n_law_truth (n:Nat):Psi Gv Att Tb (n+2) "_law_truth"=fnR 2 5 (b_n_law_truth (Psi Gv Att Tb (n+1)) (Psi Gv Att Tb n)):=by kernel_rfl
noncomputable def b_n_law_level (ψ ι:Str->GF):ES:=(sRet (eV (vGet2 (vDict (dCons "plus" (vC (.int 1)) (dCons "minus" (vC (.int 1)) (dCons "times" (vC (.int 2)) (dCons "or" (vC (.int 1)) (dCons "and" (vC (.int 2)) dNil)))))) (vOp dIx (vE (eVar 0)) (vC (.int 0))) (vC (.int 3)))))
theorem e_n_law_level (n:Nat):Psi Gv Att Tb (n+2) "_law_level"=fnR 1 1 (b_n_law_level (Psi Gv Att Tb (n+1)) (Psi Gv Att Tb n)):=by kernel_rfl
noncomputable def b_n_law_written (ψ ι:Str->GF):ES:=(sSeq (sIf (bV (vOpE gEq (eV (vOp dIx (vE (eVar 0)) (vC (.int 0)))) (eV (vC (.str "number"))))) (sSet 2 (eV (vCall c_str (vsCons (vOp dIx (vE (eVar 0)) (vC (.int 1))) vsNil)))) (sIf (bV (vOpE gEq (eV (vOp dIx (vE (eVar 0)) (vC (.int 0)))) (eV (vC (.str "name"))))) (sSet 2 (eV (vOp dIx (vE (eVar 0)) (vC (.int 1))))) (sSeq (sSet 3 (eV (vOp dMul2 (vC (.str " ")) (vOp dIx (vLst' (vsCons (vC (.int 0)) (vsCons (vC (.int 1)) (vsCons (vC (.int 1)) (vsCons (vC (.int 2)) vsNil))))) (vOp dMod (vCall (pureOf (ψ "_law_mix")) (vsCons (vE (eVar 1)) (vsCons (vC (.int 1)) vsNil))) (vC (.int 4)))))))
  (sSeq (sSet 4 (eV (vCall (pureOf (ψ "_law_written")) (vsCons (vOp dIx (vE (eVar 0)) (vC (.int 1))) (vsCons (vCall (pureOf (ψ "_law_mix")) (vsCons (vE (eVar 1)) (vsCons (vC (.int 2)) vsNil))) vsNil)))))
  (sSeq (sSet 5 (eV (vCall (pureOf (ψ "_law_written")) (vsCons (vOp dIx (vE (eVar 0)) (vC (.int 2))) (vsCons (vCall (pureOf (ψ "_law_mix")) (vsCons (vE (eVar 1)) (vsCons (vC (.int 3)) vsNil))) vsNil)))))
  (sSeq (sIf (bV (vOp dLt (vCall (pureOf (ψ "_law_level")) (vsCons (vOp dIx (vE (eVar 0)) (vC (.int 1))) vsNil)) (vCall (pureOf (ψ "_law_level")) (vsCons (vE (eVar 0)) vsNil)))) (sSet 4 (eV (vOp dAdd2 (vOp dAdd2 (vC (.str "(")) (vE (eVar 4))) (vC (.str ")"))))) sNx)
  (sSeq (sIf (bAnd (bV (vOp dLe (vCall (pureOf (ψ "_law_level")) (vsCons (vOp dIx (vE (eVar 0)) (vC (.int 2))) vsNil)) (vCall (pureOf (ψ "_law_level")) (vsCons (vE (eVar 0)) vsNil)))) (bV (vOp dLt (vCall (pureOf (ψ "_law_level")) (vsCons (vOp dIx (vE (eVar 0)) (vC (.int 2))) vsNil)) (vC (.int 3))))) (sSet 5 (eV (vOp dAdd2 (vOp dAdd2 (vC (.str "( ")) (vE (eVar 5))) (vC (.str ")"))))) sNx)
  (sSet 2 (eV (vOp dAdd2 (vOp dAdd2 (vOp dAdd2 (vOp dAdd2 (vE (eVar 4)) (vE (eVar 3))) (vOp dIx (vDict (dCons "plus" (vC (.str "+")) (dCons "minus" (vC (.str "-")) (dCons "times" (vC (.str "*")) dNil)))) (vOp dIx (vE (eVar 0)) (vC (.int 0))))) (vE (eVar 3))) (vE (eVar 5))))))))))))
  (sSeq (sIf (bV (vOpE gEq (eV (vOp dMod (vE (eVar 1)) (vC (.int 7)))) (eV (vC (.int 0))))) (sRet (eV (vOp dAdd2 (vOp dAdd2 (vC (.str "(")) (vE (eVar 2))) (vC (.str " )"))))) sNx)
  (sRet (eVar 2))))
theorem e_n_law_written (n:Nat):Psi Gv Att Tb (n+2) "_law_written"=fnR 2 6 (b_n_law_written (Psi Gv Att Tb (n+1)) (Psi Gv Att Tb n)):=by kernel_rfl
noncomputable def b_n_law_otherwise_L1 (ψ ι:Str->GF):ES:=(sIf (bV (vOpE gIn (eV (vOp dIx (vE (eVar 0)) (vC (.int 0)))) (eV (vTup' (vsCons (vC (.str "and")) (vsCons (vC (.str "or")) vsNil)))))) (sSeq (sSet 5 (eV (vCall (pureOf (ψ "_law_otherwise")) (vsCons (vOp dIx (vE (eVar 0)) (vC (.int 2))) (vsCons (vCall (pureOf (ψ "_law_mix")) (vsCons (vE (eVar 1)) (vsCons (vC (.int 8)) vsNil))) vsNil)))))
  (sSeq (sIf (bV (vOp dLe (vCall (pureOf (ψ "_law_level")) (vsCons (vOp dIx (vE (eVar 0)) (vC (.int 2))) vsNil)) (vCall (pureOf (ψ "_law_level")) (vsCons (vE (eVar 0)) vsNil)))) (sSet 5 (eV (vOp dAdd2 (vOp dAdd2 (vOp dAdd2 (vC (.str "[")) (vE (eVar 5))) (vE (eVar 2))) (vC (.str "]"))))) sNx)
  (sSet 3 (eV (vOp dAdd2 (vOp dAdd2 (vOp dAdd2 (vOp dAdd2 (vOp dAdd2 (vOp dAdd2 (vE (eVar 4)) (vC (.str " "))) (vE (eVar 2))) (vOp dIx (vE (eVar 0)) (vC (.int 0)))) (vE (eVar 2))) (vC (.str " "))) (vE (eVar 5))))))) sNx)
noncomputable def b_n_law_otherwise (ψ ι:Str->GF):ES:=(sSeq (sSet 2 (eV (vOp dMul2 (vC (.str " ")) (vOp dIx (vLst' (vsCons (vC (.int 0)) (vsCons (vC (.int 1)) (vsCons (vC (.int 2)) vsNil)))) (vOp dMod (vCall (pureOf (ψ "_law_mix")) (vsCons (vE (eVar 1)) (vsCons (vC (.int 4)) vsNil))) (vC (.int 3)))))))
  (sSeq (sIf (bV (vOpE gEq (eV (vOp dIx (vE (eVar 0)) (vC (.int 0)))) (eV (vC (.str "true"))))) (sSet 3 (eV (vC (.str "true")))) (sIf (bV (vOpE gEq (eV (vOp dIx (vE (eVar 0)) (vC (.int 0)))) (eV (vC (.str "is"))))) (sSeq (sSet 4 (eV (vCall (pureOf (ψ "_law_written")) (vsCons (vOp dIx (vE (eVar 0)) (vC (.int 2))) (vsCons (vCall (pureOf (ψ "_law_mix")) (vsCons (vE (eVar 1)) (vsCons (vC (.int 5)) vsNil))) vsNil)))))
  (sSet 3 (eV (vOp dAdd2 (vOp dAdd2 (vOp dAdd2 (vOp dAdd2 (vE (eVar 4)) (vE (eVar 2))) (vOp dIx (vE (eVar 0)) (vC (.int 1)))) (vE (eVar 2))) (vCall (pureOf (ψ "_law_written")) (vsCons (vOp dIx (vE (eVar 0)) (vC (.int 3))) (vsCons (vCall (pureOf (ψ "_law_mix")) (vsCons (vE (eVar 1)) (vsCons (vC (.int 6)) vsNil))) vsNil))))))) (sSeq (sSet 4 (eV (vCall (pureOf (ψ "_law_otherwise")) (vsCons (vOp dIx (vE (eVar 0)) (vC (.int 1))) (vsCons (vCall (pureOf (ψ "_law_mix")) (vsCons (vE (eVar 1)) (vsCons (vC (.int 7)) vsNil))) vsNil)))))
  (sSeq (sIf (bV (vOp dLt (vCall (pureOf (ψ "_law_level")) (vsCons (vOp dIx (vE (eVar 0)) (vC (.int 1))) vsNil)) (vCall (pureOf (ψ "_law_level")) (vsCons (vE (eVar 0)) vsNil)))) (sSet 4 (eV (vOp dAdd2 (vOp dAdd2 (vOp dAdd2 (vC (.str "[")) (vE (eVar 2))) (vE (eVar 4))) (vC (.str "]"))))) sNx)
  (sSet 3 (eV (vOp dAdd2 (vOp dAdd2 (vC (.str "not ")) (vE (eVar 2))) (vE (eVar 4)))))))))
  (sSeq (b_n_law_otherwise_L1 ψ ι)
  (sSeq (sIf (bV (vOpE gEq (eV (vOp dMod (vE (eVar 1)) (vC (.int 7)))) (eV (vC (.int 0))))) (sRet (eV (vOp dAdd2 (vOp dAdd2 (vC (.str "[")) (vE (eVar 3))) (vC (.str "]"))))) sNx)
  (sRet (eVar 3))))))
theorem e_n_law_otherwise (n:Nat):Psi Gv Att Tb (n+2) "_law_otherwise"=fnR 2 6 (b_n_law_otherwise (Psi Gv Att Tb (n+1)) (Psi Gv Att Tb n)):=by kernel_rfl
noncomputable def b_n_Reader_run_of_L1 (ψ ι:Str->GF):ES:=(sAug 2 (vC (.int 1)))
noncomputable def b_n_Reader_run_of (ψ ι:Str->GF):ES:=(sSeq (sSet 2 (eFld (aT Att) (eVar 0) "spot"))
  (sSeq (sWhile 1000 (bAnd (bV (vOp dLt (vE (eVar 2)) (vLen (eFld (aT Att) (eVar 0) "text")))) (bV (vOpE gIn (eIx (eFld (aT Att) (eVar 0) "text") (vE (eVar 2))) (eVar 1)))) (b_n_Reader_run_of_L1 ψ ι))
  (sRet (eV (vSl2 (vE (eFld (aT Att) (eVar 0) "text")) (oSome (vE (eFld (aT Att) (eVar 0) "spot"))) (oSome (vE (eVar 2))))))))
theorem e_n_Reader_run_of (n:Nat):Psi Gv Att Tb (n+2) "Reader.run_of"=fnR 2 3 (b_n_Reader_run_of (Psi Gv Att Tb (n+1)) (Psi Gv Att Tb n)):=by kernel_rfl
noncomputable def b_n_Reader_skip_blanks (ψ ι:Str->GF):ES:=(sAugF (aT Att) (eVar 0) "spot" (vLen (eMeth (mT Tb ψ) (eVar 0) "run_of" (dsCons (eV (vC (.str " "))) dsNil))))
theorem e_n_Reader_skip_blanks (n:Nat):Psi Gv Att Tb (n+2) "Reader.skip_blanks"=fnR 1 1 (b_n_Reader_skip_blanks (Psi Gv Att Tb (n+1)) (Psi Gv Att Tb n)):=by kernel_rfl
noncomputable def b_n_Reader_fold_L1 (ψ ι:Str->GF):ES:=(sSeq (sSet 2 (ePop (eFld (aT Att) (eVar 0) "marks")))
  (sSeq (sSet 3 (ePop (eFld (aT Att) (eVar 0) "trees")))
  (sSeq (sIf (bV (vOpE gEq (eVar 2) (eV (vC (.str "not"))))) (sSeq (sDrop (eAppend (eFld (aT Att) (eVar 0) "trees") (eV (vTup' (vsCons (vC (.str "not")) (vsCons (vE (eVar 3)) vsNil))))))
  sCt) sNx)
  (sSeq (sSet 4 (ePop (eFld (aT Att) (eVar 0) "trees")))
  (sIf (bV (vOpE gIn (eVar 2) (eV (vC (.tup [.str "=",.str "!=",.str "<",.str "<=",.str ">",.str ">="]))))) (sDrop (eAppend (eFld (aT Att) (eVar 0) "trees") (eV (vTup' (vsCons (vC (.str "is")) (vsCons (vE (eVar 2)) (vsCons (vE (eVar 4)) (vsCons (vE (eVar 3)) vsNil)))))))) (sDrop (eAppend (eFld (aT Att) (eVar 0) "trees") (eV (vTup' (vsCons (vTab [("or",.str "or"),("and",.str "and"),("+",.str "plus"),("-",.str "minus"),("*",.str "times")] (vE (eVar 2))) (vsCons (vE (eVar 4)) (vsCons (vE (eVar 3)) vsNil))))))))))))
noncomputable def b_n_Reader_fold (ψ ι:Str->GF):ES:=(sWhile 1000 (bAnd (bT (eFld (aT Att) (eVar 0) "marks")) (bV (vOp dGe (vTab [("(",.int 0),("[",.int 0),("or",.int 1),("and",.int 2),("not",.int 3),("=",.int 4),("!=",.int 4),("<",.int 4),("<=",.int 4),(">",.int 4),(">=",.int 4),("+",.int 5),("-",.int 5),("*",.int 6)] (vE (eIx (eFld (aT Att) (eVar 0) "marks") (vUn dNeg (vC (.int 1)))))) (vE (eVar 1))))) (b_n_Reader_fold_L1 ψ ι))
theorem e_n_Reader_fold (n:Nat):Psi Gv Att Tb (n+2) "Reader.fold"=fnR 2 5 (b_n_Reader_fold (Psi Gv Att Tb (n+1)) (Psi Gv Att Tb n)):=by kernel_rfl
noncomputable def b_n_Reader_has_sum (ψ ι:Str->GF):ES:=(sRet (eV (vOpE gIn (eIx (eIx (eFld (aT Att) (eVar 0) "trees") (vUn dNeg (vC (.int 1)))) (vC (.int 0))) (eV (vC (.tup [.str "number",.str "name",.str "plus",.str "minus",.str "times"]))))))
theorem e_n_Reader_has_sum (n:Nat):Psi Gv Att Tb (n+2) "Reader.has_sum"=fnR 1 1 (b_n_Reader_has_sum (Psi Gv Att Tb (n+1)) (Psi Gv Att Tb n)):=by kernel_rfl
noncomputable def b_n_Reader_last_mark (ψ ι:Str->GF):ES:=(sRet (eV (vIf (bT (eFld (aT Att) (eVar 0) "marks")) (vE (eIx (eFld (aT Att) (eVar 0) "marks") (vUn dNeg (vC (.int 1))))) (vC (.str "")))))
theorem e_n_Reader_last_mark (n:Nat):Psi Gv Att Tb (n+2) "Reader.last_mark"=fnR 1 1 (b_n_Reader_last_mark (Psi Gv Att Tb (n+1)) (Psi Gv Att Tb n)):=by kernel_rfl
noncomputable def b_n_Reader_read_end (ψ ι:Str->GF):ES:=(sSeq (sDrop (eMeth (mT Tb ψ) (eVar 0) "fold" (dsCons (eV (vC (.int 4))) dsNil)))
  (sSeq (sIf (bAnd (bV (vOpE gEq (eFld (aT Att) (eVar 0) "sought") (eV (vC (.str "part"))))) (bT (eMeth (mT Tb ψ) (eVar 0) "has_sum" dsNil))) sNever sNx)
  (sSeq (sDrop (eMeth (mT Tb ψ) (eVar 0) "fold" (dsCons (eV (vC (.int 1))) dsNil)))
  (sSeq (sIf (bV (vOpE gNe (eMeth (mT Tb ψ) (eVar 0) "last_mark" dsNil) (eV (vC (.str ""))))) sNever sNx)
  (sRet (eIx (eFld (aT Att) (eVar 0) "trees") (vC (.int 0))))))))
theorem e_n_Reader_read_end (n:Nat):Psi Gv Att Tb (n+2) "Reader.read_end"=fnR 1 1 (b_n_Reader_read_end (Psi Gv Att Tb (n+1)) (Psi Gv Att Tb n)):=by kernel_rfl
noncomputable def b_n_Reader_touches (ψ ι:Str->GF):ES:=(sRet (eV (vB (bAnd (bV (vOp dGt (vE (eFld (aT Att) (eVar 0) "spot")) (vC (.int 0)))) (bV (vOpE gIn (eIx (eFld (aT Att) (eVar 0) "text") (vOp dSub (vE (eFld (aT Att) (eVar 0) "spot")) (vC (.int 1)))) (eV (vOp dAdd2 (vC (.str "abcdefghijklmnopqrstuvwxyz")) (vC (.str "0123456789"))))))))))
theorem e_n_Reader_touches (n:Nat):Psi Gv Att Tb (n+2) "Reader.touches"=fnR 1 1 (b_n_Reader_touches (Psi Gv Att Tb (n+1)) (Psi Gv Att Tb n)):=by kernel_rfl
noncomputable def b_n_Reader_keep (ψ ι:Str->GF):ES:=(sSeq (sDrop (eAppend (eFld (aT Att) (eVar 0) "trees") (eVar 1)))
  (sSeq (sAugF (aT Att) (eVar 0) "spot" (vE (eVar 2)))
  (sFld' (aT Att) (eVar 0) "wanted" (eV (vC (.str ""))))))
theorem e_n_Reader_keep (n:Nat):Psi Gv Att Tb (n+2) "Reader.keep"=fnR 3 3 (b_n_Reader_keep (Psi Gv Att Tb (n+1)) (Psi Gv Att Tb n)):=by kernel_rfl
noncomputable def b_n_Reader_read_number (ψ ι:Str->GF):ES:=(sSeq (sIf (bT (eMeth (mT Tb ψ) (eVar 0) "touches" dsNil)) sNever sNx)
  (sSeq (sSet 1 (eMeth (mT Tb ψ) (eVar 0) "run_of" (dsCons (eV (vC (.str "0123456789"))) dsNil)))
  (sSeq (sSet 2 (eV (vIf (bV (vOpE gEq (eV (vOp dIx (vE (eVar 1)) (vC (.int 0)))) (eV (vC (.str "0"))))) (vC (.int 1)) (vCall c_min (vsCons (vLen (eVar 1)) (vsCons (vC (.int 3)) vsNil))))))
  (sSeq (sIf (bV (vOp dLt (vE (eVar 2)) (vLen (eVar 1)))) sNever sNx)
  (sDrop (eMeth (mT Tb ψ) (eVar 0) "keep" (dsCons (eV (vTup' (vsCons (vC (.str "number")) (vsCons (vCall c_int2 (vsCons (vE (eVar 1)) vsNil)) vsNil)))) (dsCons (eVar 2) dsNil))))))))
theorem e_n_Reader_read_number (n:Nat):Psi Gv Att Tb (n+2) "Reader.read_number"=fnR 1 3 (b_n_Reader_read_number (Psi Gv Att Tb (n+1)) (Psi Gv Att Tb n)):=by kernel_rfl
noncomputable def b_n_Reader_push (ψ ι:Str->GF):ES:=(sSeq (sDrop (eAppend (eFld (aT Att) (eVar 0) "marks") (eVar 1)))
  (sSeq (sAugF (aT Att) (eVar 0) "spot" (vLen (eVar 1)))
  (sFld' (aT Att) (eVar 0) "wanted" (eVar 2))))
theorem e_n_Reader_push (n:Nat):Psi Gv Att Tb (n+2) "Reader.push"=fnR 3 3 (b_n_Reader_push (Psi Gv Att Tb (n+1)) (Psi Gv Att Tb n)):=by kernel_rfl
noncomputable def b_n_Reader_read_letters (ψ ι:Str->GF):ES:=(sSeq (sSet 1 (eMeth (mT Tb ψ) (eVar 0) "run_of" (dsCons (eV (vC (.str "abcdefghijklmnopqrstuvwxyz"))) dsNil)))
  (sSeq (sIf (bV (vOp dGt (vLen (eVar 1)) (vC (.int 10)))) sNever sNx)
  (sIf (bAnd (bV (vOpE gEq (eVar 1) (eV (vC (.str "true"))))) (bV (vOpE gEq (eFld (aT Att) (eVar 0) "wanted") (eV (vC (.str "part")))))) (sDrop (eMeth (mT Tb ψ) (eVar 0) "keep" (dsCons (eV (vTup' (vsCons (vC (.str "true")) vsNil))) (dsCons (eV (vLen (eVar 1))) dsNil)))) (sIf (bAnd (bV (vOpE gEq (eVar 1) (eV (vC (.str "not"))))) (bV (vOpE gEq (eFld (aT Att) (eVar 0) "wanted") (eV (vC (.str "part")))))) (sDrop (eMeth (mT Tb ψ) (eVar 0) "push" (dsCons (eV (vC (.str "not"))) (dsCons (eV (vC (.str "part"))) dsNil)))) (sIf (bV (vOpE gIn (eVar 1) (eV (vC (.tup [.str "or",.str "and",.str "not",.str "true"]))))) sNever (sDrop (eMeth (mT Tb ψ) (eVar 0) "keep" (dsCons (eV (vTup' (vsCons (vC (.str "name")) (vsCons (vE (eVar 1)) vsNil)))) (dsCons (eV (vLen (eVar 1))) dsNil)))))))))
theorem e_n_Reader_read_letters (n:Nat):Psi Gv Att Tb (n+2) "Reader.read_letters"=fnR 1 2 (b_n_Reader_read_letters (Psi Gv Att Tb (n+1)) (Psi Gv Att Tb n)):=by kernel_rfl
noncomputable def b_n_Reader_read_beginning (ψ ι:Str->GF):ES:=(sIf (bV (vOpE gIn (eVar 1) (eV (vC (.str "0123456789"))))) (sDrop (eMeth (mT Tb ψ) (eVar 0) "read_number" dsNil)) (sIf (bV (vOpE gIn (eVar 1) (eV (vC (.str "abcdefghijklmnopqrstuvwxyz"))))) (sDrop (eMeth (mT Tb ψ) (eVar 0) "read_letters" dsNil)) (sIf (bV (vOpE gEq (eVar 1) (eV (vC (.str "("))))) (sDrop (eMeth (mT Tb ψ) (eVar 0) "push" (dsCons (eV (vC (.str "("))) (dsCons (eV (vC (.str "factor"))) dsNil)))) (sIf (bAnd (bV (vOpE gEq (eVar 1) (eV (vC (.str "["))))) (bV (vOpE gEq (eFld (aT Att) (eVar 0) "wanted") (eV (vC (.str "part")))))) (sDrop (eMeth (mT Tb ψ) (eVar 0) "push" (dsCons (eV (vC (.str "["))) (dsCons (eV (vC (.str "part"))) dsNil)))) sNever))))
theorem e_n_Reader_read_beginning (n:Nat):Psi Gv Att Tb (n+2) "Reader.read_beginning"=fnR 2 2 (b_n_Reader_read_beginning (Psi Gv Att Tb (n+1)) (Psi Gv Att Tb n)):=by kernel_rfl
noncomputable def b_n_Reader_read_sign (ψ ι:Str->GF):ES:=(sSeq (sIf (bNot (bT (eMeth (mT Tb ψ) (eVar 0) "has_sum" dsNil))) sNever sNx)
  (sSeq (sDrop (eMeth (mT Tb ψ) (eVar 0) "fold" (dsCons (eV (vTab [("(",.int 0),("[",.int 0),("or",.int 1),("and",.int 2),("not",.int 3),("=",.int 4),("!=",.int 4),("<",.int 4),("<=",.int 4),(">",.int 4),(">=",.int 4),("+",.int 5),("-",.int 5),("*",.int 6)] (vE (eVar 1)))) dsNil)))
  (sDrop (eMeth (mT Tb ψ) (eVar 0) "push" (dsCons (eVar 1) (dsCons (eV (vC (.str "factor"))) dsNil))))))
theorem e_n_Reader_read_sign (n:Nat):Psi Gv Att Tb (n+2) "Reader.read_sign"=fnR 2 2 (b_n_Reader_read_sign (Psi Gv Att Tb (n+1)) (Psi Gv Att Tb n)):=by kernel_rfl
noncomputable def b_n_Reader_read_comparison (ψ ι:Str->GF):ES:=(sSeq (sDrop (eMeth (mT Tb ψ) (eVar 0) "fold" (dsCons (eV (vC (.int 5))) dsNil)))
  (sSeq (sSet 2 (eMeth (mT Tb ψ) (eVar 0) "last_mark" dsNil))
  (sSeq (sIf (bOr (bV (vOpE gEq (eFld (aT Att) (eVar 0) "sought") (eV (vC (.str "factor"))))) (bOr (bNot (bT (eMeth (mT Tb ψ) (eVar 0) "has_sum" dsNil))) (bOr (bV (vOpE gEq (eVar 2) (eV (vC (.str "("))))) (bV (vOpE gIn (eVar 2) (eV (vC (.tup [.str "=",.str "!=",.str "<",.str "<=",.str ">",.str ">="])))))))) sNever sNx)
  (sSeq (sSet 3 (eV (vSl2 (vE (eFld (aT Att) (eVar 0) "text")) (oSome (vE (eFld (aT Att) (eVar 0) "spot"))) (oSome (vOp dAdd2 (vE (eFld (aT Att) (eVar 0) "spot")) (vC (.int 2)))))))
  (sSeq (sIf (bV (vOpE gNotIn (eVar 3) (eV (vC (.tup [.str "=",.str "!=",.str "<",.str "<=",.str ">",.str ">="]))))) (sSet 3 (eVar 1)) sNx)
  (sSeq (sIf (bV (vOpE gNotIn (eVar 3) (eV (vC (.tup [.str "=",.str "!=",.str "<",.str "<=",.str ">",.str ">="]))))) sNever sNx)
  (sDrop (eMeth (mT Tb ψ) (eVar 0) "push" (dsCons (eVar 3) (dsCons (eV (vC (.str "factor"))) dsNil))))))))))
theorem e_n_Reader_read_comparison (n:Nat):Psi Gv Att Tb (n+2) "Reader.read_comparison"=fnR 2 4 (b_n_Reader_read_comparison (Psi Gv Att Tb (n+1)) (Psi Gv Att Tb n)):=by kernel_rfl
noncomputable def b_n_Reader_read_joint (ψ ι:Str->GF):ES:=(sSeq (sDrop (eMeth (mT Tb ψ) (eVar 0) "fold" (dsCons (eV (vC (.int 4))) dsNil)))
  (sSeq (sIf (bOr (bT (eMeth (mT Tb ψ) (eVar 0) "touches" dsNil)) (bT (eMeth (mT Tb ψ) (eVar 0) "has_sum" dsNil))) sNever sNx)
  (sSeq (sSet 2 (eMeth (mT Tb ψ) (eVar 0) "run_of" (dsCons (eV (vC (.str "abcdefghijklmnopqrstuvwxyz"))) dsNil)))
  (sSeq (sIf (bV (vOpE gNe (eVar 2) (eVar 1))) sNever sNx)
  (sSeq (sDrop (eMeth (mT Tb ψ) (eVar 0) "fold" (dsCons (eV (vTab [("(",.int 0),("[",.int 0),("or",.int 1),("and",.int 2),("not",.int 3),("=",.int 4),("!=",.int 4),("<",.int 4),("<=",.int 4),(">",.int 4),(">=",.int 4),("+",.int 5),("-",.int 5),("*",.int 6)] (vE (eVar 1)))) dsNil)))
  (sDrop (eMeth (mT Tb ψ) (eVar 0) "push" (dsCons (eVar 1) (dsCons (eV (vC (.str "part"))) dsNil)))))))))
theorem e_n_Reader_read_joint (n:Nat):Psi Gv Att Tb (n+2) "Reader.read_joint"=fnR 2 3 (b_n_Reader_read_joint (Psi Gv Att Tb (n+1)) (Psi Gv Att Tb n)):=by kernel_rfl
noncomputable def b_n_Reader_read_round_end (ψ ι:Str->GF):ES:=(sSeq (sDrop (eMeth (mT Tb ψ) (eVar 0) "fold" (dsCons (eV (vC (.int 5))) dsNil)))
  (sSeq (sIf (bV (vOpE gNe (eMeth (mT Tb ψ) (eVar 0) "last_mark" dsNil) (eV (vC (.str "("))))) sNever sNx)
  (sSeq (sDrop (ePop (eFld (aT Att) (eVar 0) "marks")))
  (sAugF (aT Att) (eVar 0) "spot" (vC (.int 1))))))
theorem e_n_Reader_read_round_end (n:Nat):Psi Gv Att Tb (n+2) "Reader.read_round_end"=fnR 1 1 (b_n_Reader_read_round_end (Psi Gv Att Tb (n+1)) (Psi Gv Att Tb n)):=by kernel_rfl
noncomputable def b_n_Reader_read_square_end (ψ ι:Str->GF):ES:=(sSeq (sDrop (eMeth (mT Tb ψ) (eVar 0) "fold" (dsCons (eV (vC (.int 4))) dsNil)))
  (sSeq (sIf (bT (eMeth (mT Tb ψ) (eVar 0) "has_sum" dsNil)) sNever sNx)
  (sSeq (sDrop (eMeth (mT Tb ψ) (eVar 0) "fold" (dsCons (eV (vC (.int 1))) dsNil)))
  (sSeq (sIf (bV (vOpE gNe (eMeth (mT Tb ψ) (eVar 0) "last_mark" dsNil) (eV (vC (.str "["))))) sNever sNx)
  (sSeq (sDrop (ePop (eFld (aT Att) (eVar 0) "marks")))
  (sAugF (aT Att) (eVar 0) "spot" (vC (.int 1))))))))
theorem e_n_Reader_read_square_end (n:Nat):Psi Gv Att Tb (n+2) "Reader.read_square_end"=fnR 1 1 (b_n_Reader_read_square_end (Psi Gv Att Tb (n+1)) (Psi Gv Att Tb n)):=by kernel_rfl
noncomputable def b_n_Reader_read_behind (ψ ι:Str->GF):ES:=(sIf (bV (vOpE gIn (eVar 1) (eV (vC (.str "+-*"))))) (sDrop (eMeth (mT Tb ψ) (eVar 0) "read_sign" (dsCons (eVar 1) dsNil))) (sIf (bV (vOpE gIn (eVar 1) (eV (vC (.str "=!<>"))))) (sDrop (eMeth (mT Tb ψ) (eVar 0) "read_comparison" (dsCons (eVar 1) dsNil))) (sIf (bV (vOpE gIn (eVar 1) (eV (vC (.str "abcdefghijklmnopqrstuvwxyz"))))) (sDrop (eMeth (mT Tb ψ) (eVar 0) "read_joint" (dsCons (eV (vIf (bV (vOpE gEq (eVar 1) (eV (vC (.str "a"))))) (vC (.str "and")) (vC (.str "or")))) dsNil))) (sIf (bV (vOpE gEq (eVar 1) (eV (vC (.str ")"))))) (sDrop (eMeth (mT Tb ψ) (eVar 0) "read_round_end" dsNil)) (sIf (bV (vOpE gEq (eVar 1) (eV (vC (.str "]"))))) (sDrop (eMeth (mT Tb ψ) (eVar 0) "read_square_end" dsNil)) sNever)))))
theorem e_n_Reader_read_behind (n:Nat):Psi Gv Att Tb (n+2) "Reader.read_behind"=fnR 2 2 (b_n_Reader_read_behind (Psi Gv Att Tb (n+1)) (Psi Gv Att Tb n)):=by kernel_rfl
noncomputable def b_n_Reader_read_L1 (ψ ι:Str->GF):ES:=(sSeq (sIf (bV (vOpE gEq (eFld (aT Att) (eVar 0) "spot") (eV (vLen (eFld (aT Att) (eVar 0) "text"))))) sNever sNx)
  (sSeq (sIf (bV (vOpE gNe (eFld (aT Att) (eVar 0) "wanted") (eV (vC (.str ""))))) (sDrop (eMeth (mT Tb ψ) (eVar 0) "read_beginning" (dsCons (eIx (eFld (aT Att) (eVar 0) "text") (vE (eFld (aT Att) (eVar 0) "spot"))) dsNil))) (sDrop (eMeth (mT Tb ψ) (eVar 0) "read_behind" (dsCons (eIx (eFld (aT Att) (eVar 0) "text") (vE (eFld (aT Att) (eVar 0) "spot"))) dsNil))))
  (sDrop (eMeth (mT Tb ψ) (eVar 0) "skip_blanks" dsNil))))
noncomputable def b_n_Reader_read (ψ ι:Str->GF):ES:=(sSeq (sDrop (eMeth (mT Tb ψ) (eVar 0) "skip_blanks" dsNil))
  (sSeq (sWhile 1000 (bOr (bV (vOpE gNe (eFld (aT Att) (eVar 0) "wanted") (eV (vC (.str ""))))) (bV (vOp dLt (vE (eFld (aT Att) (eVar 0) "spot")) (vLen (eFld (aT Att) (eVar 0) "text"))))) (b_n_Reader_read_L1 ψ ι))
  (sRet (eMeth (mT Tb ψ) (eVar 0) "read_end" dsNil))))
theorem e_n_Reader_read (n:Nat):Psi Gv Att Tb (n+2) "Reader.read"=fnR 1 1 (b_n_Reader_read (Psi Gv Att Tb (n+1)) (Psi Gv Att Tb n)):=by kernel_rfl
noncomputable def b_n_Reader_init (ψ ι:Str->GF):ES:=(sSeq (sFld' (aT Att) (eVar 0) "text" (eVar 1))
  (sSeq (sFld' (aT Att) (eVar 0) "spot" (eV (vC (.int 0))))
  (sSeq (sFld' (aT Att) (eVar 0) "sought" (eVar 2))
  (sSeq (sFld' (aT Att) (eVar 0) "wanted" (eVar 2))
  (sSeq (sFld' (aT Att) (eVar 0) "trees" (eLstD dsNil))
  (sFld' (aT Att) (eVar 0) "marks" (eLstD dsNil)))))))
theorem e_n_Reader_init (n:Nat):Psi Gv Att Tb (n+2) "Reader.__init__"=fnR 3 3 (b_n_Reader_init (Psi Gv Att Tb (n+1)) (Psi Gv Att Tb n)):=by kernel_rfl
noncomputable def b_n_read_condition (ψ ι:Str->GF):ES:=(sRet (eMeth (mT Tb ψ) (eMake (ι "Reader.__init__") "Reader" (dsCons (eVar 0) (dsCons (eV (vC (.str "part"))) dsNil))) "read" dsNil))
theorem e_n_read_condition (n:Nat):Psi Gv Att Tb (n+2) "read_condition"=fnR 1 1 (b_n_read_condition (Psi Gv Att Tb (n+1)) (Psi Gv Att Tb n)):=by kernel_rfl
noncomputable def b_n_shown_sum (ψ ι:Str->GF):ES:=(sSeq (sSet 1 (eV (vOp dIx (vE (eVar 0)) (vC (.int 0)))))
  (sSeq (sIf (bV (vOpE gEq (eVar 1) (eV (vC (.str "number"))))) (sRet (eV (vCall c_str (vsCons (vOp dIx (vE (eVar 0)) (vC (.int 1))) vsNil)))) sNx)
  (sSeq (sIf (bV (vOpE gEq (eVar 1) (eV (vC (.str "name"))))) (sRet (eV (vOp dIx (vE (eVar 0)) (vC (.int 1))))) sNx)
  (sRet (eV (vCall (pureOf (ψ "shown_pair")) (vsCons (vE (eVar 0)) vsNil)))))))
theorem e_n_shown_sum (n:Nat):Psi Gv Att Tb (n+2) "shown_sum"=fnR 1 2 (b_n_shown_sum (Psi Gv Att Tb (n+1)) (Psi Gv Att Tb n)):=by kernel_rfl
noncomputable def b_n_shown_from (ψ ι:Str->GF):ES:=(sSeq (sSet 2 (eV (vOp dGe (vTab [("or",.int 1),("and",.int 2),("not",.int 3),("is",.int 4),("true",.int 4),("plus",.int 5),("minus",.int 5),("times",.int 6),("number",.int 7),("name",.int 7)] (vOp dIx (vE (eVar 0)) (vC (.int 0)))) (vE (eVar 1)))))
  (sSeq (sIf (bV (vOpE gIn (eV (vOp dIx (vE (eVar 0)) (vC (.int 0)))) (eV (vC (.tup [.str "number",.str "name",.str "plus",.str "minus",.str "times"]))))) (sSeq (sSet 3 (eV (vCall (pureOf (ψ "shown_sum")) (vsCons (vE (eVar 0)) vsNil))))
  (sRet (eV (vIf (bT (eVar 2)) (vE (eVar 3)) (vJoin [(vC (.str "(")),(vFmt (vE (eVar 3))),(vC (.str ")"))]))))) sNx)
  (sSeq (sSet 3 (eV (vCall (pureOf (ψ "shown_condition")) (vsCons (vE (eVar 0)) vsNil))))
  (sRet (eV (vIf (bT (eVar 2)) (vE (eVar 3)) (vJoin [(vC (.str "[")),(vFmt (vE (eVar 3))),(vC (.str "]"))])))))))
theorem e_n_shown_from (n:Nat):Psi Gv Att Tb (n+2) "shown_from"=fnR 2 4 (b_n_shown_from (Psi Gv Att Tb (n+1)) (Psi Gv Att Tb n)):=by kernel_rfl
noncomputable def b_n_shown_pair (ψ ι:Str->GF):ES:=(sSeq (sSet 1 (eV (vTab [("or",.int 1),("and",.int 2),("not",.int 3),("is",.int 4),("true",.int 4),("plus",.int 5),("minus",.int 5),("times",.int 6),("number",.int 7),("name",.int 7)] (vOp dIx (vE (eVar 0)) (vC (.int 0))))))
  (sSeq (sSet 2 (eV (vTab [("or",.str "or"),("and",.str "and"),("plus",.str "+"),("minus",.str "-"),("times",.str "*")] (vOp dIx (vE (eVar 0)) (vC (.int 0))))))
  (sSeq (sSet 3 (eV (vCall (pureOf (ψ "shown_from")) (vsCons (vOp dIx (vE (eVar 0)) (vC (.int 1))) (vsCons (vE (eVar 1)) vsNil)))))
  (sSeq (sSet 4 (eV (vCall (pureOf (ψ "shown_from")) (vsCons (vOp dIx (vE (eVar 0)) (vC (.int 2))) (vsCons (vOp dAdd2 (vE (eVar 1)) (vC (.int 1))) vsNil)))))
  (sRet (eV (vJoin [(vFmt (vE (eVar 3))),(vC (.str " ")),(vFmt (vE (eVar 2))),(vC (.str " ")),(vFmt (vE (eVar 4)))])))))))
theorem e_n_shown_pair (n:Nat):Psi Gv Att Tb (n+2) "shown_pair"=fnR 1 5 (b_n_shown_pair (Psi Gv Att Tb (n+1)) (Psi Gv Att Tb n)):=by kernel_rfl
noncomputable def b_n_shown_condition (ψ ι:Str->GF):ES:=(sSeq (sSet 1 (eV (vOp dIx (vE (eVar 0)) (vC (.int 0)))))
  (sSeq (sIf (bV (vOpE gEq (eVar 1) (eV (vC (.str "true"))))) (sRet (eV (vC (.str "true")))) sNx)
  (sSeq (sIf (bV (vOpE gEq (eVar 1) (eV (vC (.str "not"))))) (sSeq (sSet 2 (eV (vCall (pureOf (ψ "shown_from")) (vsCons (vOp dIx (vE (eVar 0)) (vC (.int 1))) (vsCons (vTab [("or",.int 1),("and",.int 2),("not",.int 3),("is",.int 4),("true",.int 4),("plus",.int 5),("minus",.int 5),("times",.int 6),("number",.int 7),("name",.int 7)] (vC (.str "not"))) vsNil)))))
  (sRet (eV (vJoin [(vC (.str "not ")),(vFmt (vE (eVar 2)))])))) sNx)
  (sSeq (sIf (bV (vOpE gEq (eVar 1) (eV (vC (.str "is"))))) (sSeq (sSet 3 (eV (vOp dIx (vE (eVar 0)) (vC (.int 1)))))
  (sSeq (sSet 4 (eV (vCall (pureOf (ψ "shown_sum")) (vsCons (vOp dIx (vE (eVar 0)) (vC (.int 2))) vsNil))))
  (sSeq (sSet 5 (eV (vCall (pureOf (ψ "shown_sum")) (vsCons (vOp dIx (vE (eVar 0)) (vC (.int 3))) vsNil))))
  (sRet (eV (vJoin [(vFmt (vE (eVar 4))),(vC (.str " ")),(vFmt (vE (eVar 3))),(vC (.str " ")),(vFmt (vE (eVar 5)))])))))) sNx)
  (sRet (eV (vCall (pureOf (ψ "shown_pair")) (vsCons (vE (eVar 0)) vsNil))))))))
theorem e_n_shown_condition (n:Nat):Psi Gv Att Tb (n+2) "shown_condition"=fnR 1 6 (b_n_shown_condition (Psi Gv Att Tb (n+1)) (Psi Gv Att Tb n)):=by kernel_rfl
noncomputable def b_n_law_at (ψ ι:Str->GF):ES:=(sSeq (sIf (bV (vOp dLt (vE (eVar 1)) (vLen (eVar 0)))) (sRet (eV (vOp dIx (vE (eVar 0)) (vE (eVar 1))))) sNx)
  (sRet (eV (vOp dAdd2 (vOp dMul2 (vC (.int 23)) (vE (eVar 1))) (vC (.int 6))))))
theorem e_n_law_at (n:Nat):Psi Gv Att Tb (n+2) "_law_at"=fnR 2 2 (b_n_law_at (Psi Gv Att Tb (n+1)) (Psi Gv Att Tb n)):=by kernel_rfl
noncomputable def b_n_law_named (ψ ι:Str->GF):ES:=(sSeq (sIf (bV (vOpE gEq (eV (vOp dMod (vE (eVar 1)) (vC (.int 2)))) (eV (vC (.int 0))))) (sRet (eV (vOp dAdd2 (vOp dMul2 (vOp dIx (vC (.str "abcdefgh")) (vE (eVar 0))) (vOp dAdd2 (vC (.int 1)) (vOp dMod (vOp dFloor (vE (eVar 1)) (vC (.int 2))) (vC (.int 9))))) (vOp dIx (vC (.str "xvz")) (vOp dMod (vOp dFloor (vE (eVar 1)) (vC (.int 18))) (vC (.int 3))))))) sNx)
  (sSeq (sSet 2 (eV (vOp dMod (vOp dFloor (vE (eVar 1)) (vC (.int 2))) (vC (.int 10)))))
  (sRet (eV (vOp dAdd2 (vOp dAdd2 (vOp dMul2 (vC (.str "m")) (vE (eVar 2))) (vOp dIx (vC (.str "abcdefgh")) (vE (eVar 0)))) (vOp dMul2 (vC (.str "m")) (vOp dSub (vC (.int 9)) (vE (eVar 2)))))))))
theorem e_n_law_named (n:Nat):Psi Gv Att Tb (n+2) "_law_named"=fnR 2 3 (b_n_law_named (Psi Gv Att Tb (n+1)) (Psi Gv Att Tb n)):=by kernel_rfl
noncomputable def b_n_compared (ψ ι:Str->GF):ES:=(sSeq (sIf (bV (vOpE gEq (eVar 0) (eV (vC (.str "="))))) (sRet (eV (vOpE gEq (eVar 1) (eVar 2)))) sNx)
  (sSeq (sIf (bV (vOpE gEq (eVar 0) (eV (vC (.str "!="))))) (sRet (eV (vOpE gNe (eVar 1) (eVar 2)))) sNx)
  (sSeq (sIf (bV (vOpE gEq (eVar 0) (eV (vC (.str "<"))))) (sRet (eV (vOp dLt (vE (eVar 1)) (vE (eVar 2))))) sNx)
  (sSeq (sIf (bV (vOpE gEq (eVar 0) (eV (vC (.str "<="))))) (sRet (eV (vOp dLe (vE (eVar 1)) (vE (eVar 2))))) sNx)
  (sSeq (sIf (bV (vOpE gEq (eVar 0) (eV (vC (.str ">"))))) (sRet (eV (vOp dGt (vE (eVar 1)) (vE (eVar 2))))) sNx)
  (sRet (eV (vOp dGe (vE (eVar 1)) (vE (eVar 2))))))))))
theorem e_n_compared (n:Nat):Psi Gv Att Tb (n+2) "compared"=fnR 3 3 (b_n_compared (Psi Gv Att Tb (n+1)) (Psi Gv Att Tb n)):=by kernel_rfl
noncomputable def b_n_value_of (ψ ι:Str->GF):ES:=(sSeq (sSet 2 (eV (vOp dIx (vE (eVar 0)) (vC (.int 0)))))
  (sSeq (sIf (bV (vOpE gEq (eVar 2) (eV (vC (.str "number"))))) (sRet (eV (vOp dIx (vE (eVar 0)) (vC (.int 1))))) sNx)
  (sSeq (sIf (bV (vOpE gEq (eVar 2) (eV (vC (.str "name"))))) (sRet (eV (vOp dIx (vE (eVar 1)) (vOp dIx (vE (eVar 0)) (vC (.int 1)))))) sNx)
  (sSeq (sSet 3 (eV (vCall (pureOf (ψ "value_of")) (vsCons (vOp dIx (vE (eVar 0)) (vC (.int 1))) (vsCons (vE (eVar 1)) vsNil)))))
  (sSeq (sSet 4 (eV (vCall (pureOf (ψ "value_of")) (vsCons (vOp dIx (vE (eVar 0)) (vC (.int 2))) (vsCons (vE (eVar 1)) vsNil)))))
  (sSeq (sIf (bV (vOpE gEq (eVar 2) (eV (vC (.str "plus"))))) (sRet (eV (vOp dAdd2 (vE (eVar 3)) (vE (eVar 4))))) sNx)
  (sSeq (sIf (bV (vOpE gEq (eVar 2) (eV (vC (.str "minus"))))) (sRet (eV (vOp dSub (vE (eVar 3)) (vE (eVar 4))))) sNx)
  (sRet (eV (vOp dMul2 (vE (eVar 3)) (vE (eVar 4))))))))))))
theorem e_n_value_of (n:Nat):Psi Gv Att Tb (n+2) "value_of"=fnR 2 5 (b_n_value_of (Psi Gv Att Tb (n+1)) (Psi Gv Att Tb n)):=by kernel_rfl
noncomputable def b_n_holds (ψ ι:Str->GF):ES:=(sSeq (sSet 2 (eV (vOp dIx (vE (eVar 0)) (vC (.int 0)))))
  (sSeq (sIf (bV (vOpE gEq (eVar 2) (eV (vC (.str "true"))))) (sRet (eV (vC (.bl true)))) sNx)
  (sSeq (sIf (bV (vOpE gEq (eVar 2) (eV (vC (.str "not"))))) (sRet (eV (vB (bNot (bV (vCall (pureOf (ψ "holds")) (vsCons (vOp dIx (vE (eVar 0)) (vC (.int 1))) (vsCons (vE (eVar 1)) vsNil)))))))) sNx)
  (sSeq (sIf (bV (vOpE gEq (eVar 2) (eV (vC (.str "and"))))) (sRet (eV (vB (bAnd (bV (vCall (pureOf (ψ "holds")) (vsCons (vOp dIx (vE (eVar 0)) (vC (.int 1))) (vsCons (vE (eVar 1)) vsNil)))) (bV (vCall (pureOf (ψ "holds")) (vsCons (vOp dIx (vE (eVar 0)) (vC (.int 2))) (vsCons (vE (eVar 1)) vsNil)))))))) sNx)
  (sSeq (sIf (bV (vOpE gEq (eVar 2) (eV (vC (.str "or"))))) (sRet (eV (vB (bOr (bV (vCall (pureOf (ψ "holds")) (vsCons (vOp dIx (vE (eVar 0)) (vC (.int 1))) (vsCons (vE (eVar 1)) vsNil)))) (bV (vCall (pureOf (ψ "holds")) (vsCons (vOp dIx (vE (eVar 0)) (vC (.int 2))) (vsCons (vE (eVar 1)) vsNil)))))))) sNx)
  (sRet (eV (vCall (pureOf (ψ "compared")) (vsCons (vOp dIx (vE (eVar 0)) (vC (.int 1))) (vsCons (vCall (pureOf (ψ "value_of")) (vsCons (vOp dIx (vE (eVar 0)) (vC (.int 2))) (vsCons (vE (eVar 1)) vsNil))) (vsCons (vCall (pureOf (ψ "value_of")) (vsCons (vOp dIx (vE (eVar 0)) (vC (.int 3))) (vsCons (vE (eVar 1)) vsNil))) vsNil)))))))))))
theorem e_n_holds (n:Nat):Psi Gv Att Tb (n+2) "holds"=fnR 2 3 (b_n_holds (Psi Gv Att Tb (n+1)) (Psi Gv Att Tb n)):=by kernel_rfl
noncomputable def b_n_law_read (ψ ι:Str->GF):ES:=(sSeq (sSet 1 (eV (vC (.non))))
  (sSeq (sSet 1 (eV (vCall (pureOf (ψ "read_condition")) (vsCons (vE (eVar 0)) vsNil))))
  (sRet (eVar 1))))
theorem e_n_law_read (n:Nat):Psi Gv Att Tb (n+2) "_law_read"=fnR 1 2 (b_n_law_read (Psi Gv Att Tb (n+1)) (Psi Gv Att Tb n)):=by kernel_rfl
noncomputable def b_n_law_needed_L1 (ψ ι:Str->GF):ES:=(sIf (bOr (bV (vOpE gEq (eV (vOp dIx (vE (eVar 1)) (vE (eVar 3)))) (eV (vC (.str "]"))))) (bV (vOpE gEq (eV (vOp dIx (vE (eVar 1)) (vE (eVar 3)))) (eV (vC (.str ")")))))) (sSeq (sSet 4 (ePop (eVar 2)))
  (sSeq (sSet 5 (eV (vOp dAdd2 (vOp dAdd2 (vC (.str " ")) (vSl2 (vE (eVar 1)) (oSome (vOp dAdd2 (vE (eVar 4)) (vC (.int 1)))) (oSome (vE (eVar 3))))) (vC (.str " ")))))
  (sIf (bV (vOpE gEq (eV (vCall (pureOf (ψ "_law_read")) (vsCons (vOp dAdd2 (vOp dAdd2 (vSl2 (vE (eVar 1)) oNone (oSome (vE (eVar 4)))) (vE (eVar 5))) (vSl2 (vE (eVar 1)) (oSome (vOp dAdd2 (vE (eVar 3)) (vC (.int 1)))) oNone)) vsNil))) (eVar 0))) (sRet (eV (vC (.bl false)))) sNx))) sNx)
noncomputable def b_n_law_needed_L2 (ψ ι:Str->GF):ES:=(sSeq (sIf (bOr (bV (vOpE gEq (eV (vOp dIx (vE (eVar 1)) (vE (eVar 3)))) (eV (vC (.str "["))))) (bV (vOpE gEq (eV (vOp dIx (vE (eVar 1)) (vE (eVar 3)))) (eV (vC (.str "(")))))) (sDrop (eAppend (eVar 2) (eVar 3))) sNx)
  (b_n_law_needed_L1 ψ ι))
noncomputable def b_n_law_needed (ψ ι:Str->GF):ES:=(sSeq (sSet 2 (eLst' vsNil))
  (sSeq (sFor (itR1 (vLen (eVar 1))) (gSet 3) (b_n_law_needed_L2 ψ ι))
  (sRet (eV (vC (.bl true))))))
theorem e_n_law_needed (n:Nat):Psi Gv Att Tb (n+2) "_law_needed"=fnR 2 6 (b_n_law_needed (Psi Gv Att Tb (n+1)) (Psi Gv Att Tb n)):=by kernel_rfl
noncomputable def b_n_law_L1 (ψ ι:Str->GF):ES:=(sPut2 (eVar 3) (vOp dIx (vE (eVar 2)) (vE (eVar 4))) (vOp dSub (vOp dMod (vCall (pureOf (ψ "_law_mix")) (vsCons (vCall (pureOf (ψ "_law_at")) (vsCons (vE (eVar 0)) (vsCons (vC (.int 0)) vsNil))) (vsCons (vOp dAdd2 (vC (.int 2)) (vE (eVar 4))) vsNil))) (vC (.int 199))) (vC (.int 99))))
noncomputable def b_n_law (ψ ι:Str->GF):ES:=(sSeq (sSet 1 (eV (vCall (pureOf (ψ "_law_mix")) (vsCons (vCall (pureOf (ψ "_law_at")) (vsCons (vE (eVar 0)) (vsCons (vC (.int 0)) vsNil))) (vsCons (vC (.int 1)) vsNil)))))
  (sSeq (sSet 2 (eV (vComp (itR1 (vOp dAdd2 (vC (.int 1)) (vOp dMod (vE (eVar 1)) (vC (.int 4))))) [4] 0 (gSet 4) bYes (vCall (pureOf (ψ "_law_named")) (vsCons (vE (eVar 4)) (vsCons (vOp dFloor (vE (eVar 1)) (vC (.int 4))) vsNil))))))
  (sSeq (sSet 3 eDict)
  (sSeq (sFor (itR1 (vLen (eVar 2))) (gSet 4) (b_n_law_L1 ψ ι))
  (sSeq (sSet 5 (eV (vCall (pureOf (ψ "_law_condition")) (vsCons (vE (eVar 2)) (vsCons (vSl2 (vE (eVar 0)) (oSome (vC (.int 2))) (oSome (vC (.int 62)))) (vsCons (vC (.int 2)) (vsCons (vC (.int 1)) vsNil)))))))
  (sSeq (sSet 6 (eV (vCall (pureOf (ψ "_law_truth")) (vsCons (vE (eVar 5)) (vsCons (vE (eVar 3)) vsNil)))))
  (sSeq (sSet 7 (eV (vCall (pureOf (ψ "_law_otherwise")) (vsCons (vE (eVar 5)) (vsCons (vCall (pureOf (ψ "_law_mix")) (vsCons (vCall (pureOf (ψ "_law_at")) (vsCons (vE (eVar 0)) (vsCons (vC (.int 1)) vsNil))) (vsCons (vC (.int 5)) vsNil))) vsNil)))))
  (sSeq (sIf (bV (vOp dGt (vLen (eVar 7)) (vC (.int 2900)))) (sRet (eV (vC (.bl true)))) sNx)
  (sSeq (sSet 8 (eV (vCall (pureOf (ψ "read_condition")) (vsCons (vE (eVar 7)) vsNil))))
  (sSeq (sSet 9 (eV (vCall (pureOf (ψ "shown_condition")) (vsCons (vE (eVar 8)) vsNil))))
  (sSeq (sIf (bOr (bV (vOpE gNe (eV (vCall (pureOf (ψ "holds")) (vsCons (vE (eVar 8)) (vsCons (vE (eVar 3)) vsNil)))) (eVar 6))) (bOr (bV (vOpE gNe (eV (vCall (pureOf (ψ "read_condition")) (vsCons (vE (eVar 9)) vsNil))) (eVar 8))) (bNot (bT (eV (vCall (pureOf (ψ "_law_needed")) (vsCons (vE (eVar 8)) (vsCons (vE (eVar 9)) vsNil)))))))) (sRet (eV (vC (.bl false)))) sNx)
  (sSeq (sIf (bV (vOpE gEq (eV (vCall (pureOf (ψ "holds")) (vsCons (vCall (pureOf (ψ "read_condition")) (vsCons (vOp dAdd2 (vOp dAdd2 (vC (.str "not [")) (vE (eVar 7))) (vC (.str "]"))) vsNil)) (vsCons (vE (eVar 3)) vsNil)))) (eVar 6))) (sRet (eV (vC (.bl false)))) sNx)
  (sSeq (sSet 10 (eV (vCall (pureOf (ψ "read_condition")) (vsCons (vOp dAdd2 (vOp dAdd2 (vOp dAdd2 (vOp dAdd2 (vC (.str "[")) (vE (eVar 7))) (vC (.str "] and "))) (vE (eVar 9))) (vC (.str " or not true"))) vsNil))))
  (sSeq (sSet 11 (eV (vCall (pureOf (ψ "read_condition")) (vsCons (vOp dAdd2 (vOp dAdd2 (vOp dAdd2 (vOp dAdd2 (vC (.str "not true or [ ")) (vE (eVar 9))) (vC (.str "]and["))) (vE (eVar 7))) (vC (.str " ]"))) vsNil))))
  (sRet (eV (vB (bAnd (bV (vOpE gEq (eV (vCall (pureOf (ψ "holds")) (vsCons (vE (eVar 10)) (vsCons (vE (eVar 3)) vsNil)))) (eVar 6))) (bV (vOpE gEq (eV (vCall (pureOf (ψ "holds")) (vsCons (vE (eVar 11)) (vsCons (vE (eVar 3)) vsNil)))) (eVar 6)))))))))))))))))))))
theorem e_n_law (n:Nat):Psi Gv Att Tb (n+2) "law"=fnR 1 12 (b_n_law (Psi Gv Att Tb (n+1)) (Psi Gv Att Tb n)):=by kernel_rfl
theorem ln1 {α:Type}{us:List α} (h:us.length=1):∃a,us=[a]:=by
 match us,h with
 | [a],_=>exact⟨a,rfl⟩
theorem ln2 {α:Type}{us:List α} (h:us.length=2):∃a b,us=[a,b]:=by
 match us,h with
 | [a,b],_=>exact⟨a,b,rfl⟩
theorem ln3 {α:Type}{us:List α} (h:us.length=3):∃a b c,us=[a,b,c]:=by
 match us,h with
 | [a,b,c],_=>exact⟨a,b,c,rfl⟩
theorem ln4 {α:Type}{us:List α} (h:us.length=4):∃a b c d,us=[a,b,c,d]:=by
 match us,h with
 | [a,b,c,d],_=>exact⟨a,b,c,d,rfl⟩
theorem sc:Tb.all scB=true:=by decide +kernel
theorem un:(Tb.map (·.name)).Nodup:=by decide +kernel
open PySem.W in
theorem all_mk {w:World}{K:Frag}{h:Heap}{mg:Str->Option Value} (X:K.In h) (G:h.Ns mainGlobals mg)
  {C0:Addr}
  {f0 f1 f2 f3 f4 f5 f6 f7 f8 f9 f10 f11 f12 f13 f14 f15 f16 f17 f18 f19 f20 f21 f22 f23 f24 f25 f26 f27 f28 f29 f30 f31 f32 f33 f34 f35 f36 f37 f38 f39 f40 f41 f42 f43 f44 f45:Addr}{od0 an0 od1 an1 od2 an2 od3 an3 od4 an4 od5 an5 od6 an6 od7 an7 od8 an8 od9 an9 od10 an10 od11 an11 od12 an12 od13 an13 od14 an14 od15 an15 od16 an16 od17 an17 od18 an18 od19 an19 od20 an20 od21 an21 od22 an22 od23 an23 od24 an24 od25 an25 od26 an26 od27 an27 od28 an28 od29 an29 od30 an30 od31 an31 od32 an32 od33 an33 od34 an34 od35 an35 od36 an36 od37 an37 od38 an38 od39 an39 od40 an40 od41 an41 od42 an42 od43 an43 od44 an44 od45 an45:Option Addr}{sl0 sl1 sl2 sl3 sl4 sl5 sl6 sl7 sl8 sl9 sl10 sl11 sl12 sl13 sl14 sl15 sl16 sl17 sl18 sl19 sl20 sl21 sl22 sl23 sl24 sl25 sl26 sl27 sl28 sl29 sl30 sl31 sl32 sl33 sl34 sl35 sl36 sl37 sl38 sl39 sl40 sl41 sl42 sl43 sl44 sl45:Array (Option Value)}{oc0 kV0 dc0 pm0 cd0 ct0 oc1 kV1 dc1 pm1 cd1 ct1 oc2 kV2 dc2 pm2 cd2 ct2 oc3 kV3 dc3 pm3 cd3 ct3 oc4 kV4 dc4 pm4 cd4 ct4 oc5 kV5 dc5 pm5 cd5 ct5 oc6 kV6 dc6 pm6 cd6 ct6 oc7 kV7 dc7 pm7 cd7 ct7 oc8 kV8 dc8 pm8 cd8 ct8 oc9 kV9 dc9 pm9 cd9 ct9 oc10 kV10 dc10 pm10 cd10 ct10 oc11 kV11 dc11 pm11 cd11 ct11 oc12 kV12 dc12 pm12 cd12 ct12 oc13 kV13 dc13 pm13 cd13 ct13 oc14 kV14 dc14 pm14 cd14 ct14 oc15 kV15 dc15 pm15 cd15 ct15 oc16 kV16 dc16 pm16 cd16 ct16 oc17 kV17 dc17 pm17 cd17 ct17 oc18 kV18 dc18 pm18 cd18 ct18 oc19 kV19 dc19 pm19 cd19 ct19 oc20 kV20 dc20 pm20 cd20 ct20 oc21 kV21 dc21 pm21 cd21 ct21 oc22 kV22 dc22 pm22 cd22 ct22 oc23 kV23 dc23 pm23 cd23 ct23 oc24 kV24 dc24 pm24 cd24 ct24 oc25 kV25 dc25 pm25 cd25 ct25 oc26 kV26 dc26 pm26 cd26 ct26 oc27 kV27 dc27 pm27 cd27 ct27 oc28 kV28 dc28 pm28 cd28 ct28 oc29 kV29 dc29 pm29 cd29 ct29 oc30 kV30 dc30 pm30 cd30 ct30 oc31 kV31 dc31 pm31 cd31 ct31 oc32 kV32 dc32 pm32 cd32 ct32 oc33 kV33 dc33 pm33 cd33 ct33 oc34 kV34 dc34 pm34 cd34 ct34 oc35 kV35 dc35 pm35 cd35 ct35 oc36 kV36 dc36 pm36 cd36 ct36 oc37 kV37 dc37 pm37 cd37 ct37 oc38 kV38 dc38 pm38 cd38 ct38 oc39 kV39 dc39 pm39 cd39 ct39 oc40 kV40 dc40 pm40 cd40 ct40 oc41 kV41 dc41 pm41 cd41 ct41 oc42 kV42 dc42 pm42 cd42 ct42 oc43 kV43 dc43 pm43 cd43 ct43 oc44 kV44 dc44 pm44 cd44 ct44 oc45 kV45 dc45 pm45 cd45 ct45:Value}
  (ca0:nsIn K mainGlobals "Reader"=some (some (.ref C0))) (cb0:plainGet K C0 Str.empty=true) (cc0:hasDictIn K C0=true) (cd0':plainOver K C0=true) (ce0:findIn K (.ref C0) "__setattr__"=some (some (.builtin "object.__setattr__"))) (cf0:makesIn K C0=true) (cg0:keepIn K (.ref C0)=true)
  (na0_0:findIn K (.ref C0) "marks"=some none)
  (na0_1:findIn K (.ref C0) "sought"=some none)
  (na0_2:findIn K (.ref C0) "spot"=some none)
  (na0_3:findIn K (.ref C0) "text"=some none)
  (na0_4:findIn K (.ref C0) "trees"=some none)
  (na0_5:findIn K (.ref C0) "wanted"=some none)
  (a0:nsIn K mainGlobals "_law_mix"=some (some (.ref f0)))
  (l0:K.lookup f0=some ⟨oc0,od0,.func (fnOf "_law_mix" "_law_mix" (defArgs (top 30)) (defBody (top 30)) (defScope (top 30)) .none kV0 dc0 pm0 an0 cd0 ct0),sl0⟩) (c0:codeIn K cd0 "_law_mix"=true) (k0:keepIn K (.ref f0)=true)
  (a1:nsIn K mainGlobals "_law_folded"=some (some (.ref f1)))
  (l1:K.lookup f1=some ⟨oc1,od1,.func (fnOf "_law_folded" "_law_folded" (defArgs (top 36)) (defBody (top 36)) (defScope (top 36)) .none kV1 dc1 pm1 an1 cd1 ct1),sl1⟩) (c1:codeIn K cd1 "_law_folded"=true) (k1:keepIn K (.ref f1)=true)
  (a2:nsIn K mainGlobals "_law_leaf"=some (some (.ref f2)))
  (l2:K.lookup f2=some ⟨oc2,od2,.func (fnOf "_law_leaf" "_law_leaf" (defArgs (top 35)) (defBody (top 35)) (defScope (top 35)) .none kV2 dc2 pm2 an2 cd2 ct2),sl2⟩) (c2:codeIn K cd2 "_law_leaf"=true) (k2:keepIn K (.ref f2)=true)
  (a3:nsIn K mainGlobals "_law_small"=some (some (.ref f3)))
  (l3:K.lookup f3=some ⟨oc3,od3,.func (fnOf "_law_small" "_law_small" (defArgs (top 38)) (defBody (top 38)) (defScope (top 38)) .none kV3 dc3 pm3 an3 cd3 ct3),sl3⟩) (c3:codeIn K cd3 "_law_small"=true) (k3:keepIn K (.ref f3)=true)
  (a4:nsIn K mainGlobals "_law_test"=some (some (.ref f4)))
  (l4:K.lookup f4=some ⟨oc4,od4,.func (fnOf "_law_test" "_law_test" (defArgs (top 39)) (defBody (top 39)) (defScope (top 39)) .none kV4 dc4 pm4 an4 cd4 ct4),sl4⟩) (c4:codeIn K cd4 "_law_test"=true) (k4:keepIn K (.ref f4)=true)
  (a5:nsIn K mainGlobals "_law_depth"=some (some (.ref f5)))
  (l5:K.lookup f5=some ⟨oc5,od5,.func (fnOf "_law_depth" "_law_depth" (defArgs (top 34)) (defBody (top 34)) (defScope (top 34)) .none kV5 dc5 pm5 an5 cd5 ct5),sl5⟩) (c5:codeIn K cd5 "_law_depth"=true) (k5:keepIn K (.ref f5)=true)
  (a6:nsIn K mainGlobals "_law_condition"=some (some (.ref f6)))
  (l6:K.lookup f6=some ⟨oc6,od6,.func (fnOf "_law_condition" "_law_condition" (defArgs (top 40)) (defBody (top 40)) (defScope (top 40)) .none kV6 dc6 pm6 an6 cd6 ct6),sl6⟩) (c6:codeIn K cd6 "_law_condition"=true) (k6:keepIn K (.ref f6)=true)
  (a7:nsIn K mainGlobals "_law_value"=some (some (.ref f7)))
  (l7:K.lookup f7=some ⟨oc7,od7,.func (fnOf "_law_value" "_law_value" (defArgs (top 44)) (defBody (top 44)) (defScope (top 44)) .none kV7 dc7 pm7 an7 cd7 ct7),sl7⟩) (c7:codeIn K cd7 "_law_value"=true) (k7:keepIn K (.ref f7)=true)
  (a8:nsIn K mainGlobals "_law_truth"=some (some (.ref f8)))
  (l8:K.lookup f8=some ⟨oc8,od8,.func (fnOf "_law_truth" "_law_truth" (defArgs (top 45)) (defBody (top 45)) (defScope (top 45)) .none kV8 dc8 pm8 an8 cd8 ct8),sl8⟩) (c8:codeIn K cd8 "_law_truth"=true) (k8:keepIn K (.ref f8)=true)
  (a9:nsIn K mainGlobals "_law_level"=some (some (.ref f9)))
  (l9:K.lookup f9=some ⟨oc9,od9,.func (fnOf "_law_level" "_law_level" (defArgs (top 41)) (defBody (top 41)) (defScope (top 41)) .none kV9 dc9 pm9 an9 cd9 ct9),sl9⟩) (c9:codeIn K cd9 "_law_level"=true) (k9:keepIn K (.ref f9)=true)
  (a10:nsIn K mainGlobals "_law_written"=some (some (.ref f10)))
  (l10:K.lookup f10=some ⟨oc10,od10,.func (fnOf "_law_written" "_law_written" (defArgs (top 42)) (defBody (top 42)) (defScope (top 42)) .none kV10 dc10 pm10 an10 cd10 ct10),sl10⟩) (c10:codeIn K cd10 "_law_written"=true) (k10:keepIn K (.ref f10)=true)
  (a11:nsIn K mainGlobals "_law_otherwise"=some (some (.ref f11)))
  (l11:K.lookup f11=some ⟨oc11,od11,.func (fnOf "_law_otherwise" "_law_otherwise" (defArgs (top 43)) (defBody (top 43)) (defScope (top 43)) .none kV11 dc11 pm11 an11 cd11 ct11),sl11⟩) (c11:codeIn K cd11 "_law_otherwise"=true) (k11:keepIn K (.ref f11)=true)
  (a12:findIn K (.ref C0) "run_of"=some (some (.ref f12))) (w12:isFn K (.ref f12)=true)
  (l12:K.lookup f12=some ⟨oc12,od12,.func (fnOf "run_of" "Reader.run_of" (defArgs (L2.inClass (top 18) 13)) (defBody (L2.inClass (top 18) 13)) (defScope (L2.inClass (top 18) 13)) .none kV12 dc12 pm12 an12 cd12 ct12),sl12⟩) (c12:codeIn K cd12 "Reader.run_of"=true) (k12:keepIn K (.ref f12)=true)
  (a13:findIn K (.ref C0) "skip_blanks"=some (some (.ref f13))) (w13:isFn K (.ref f13)=true)
  (l13:K.lookup f13=some ⟨oc13,od13,.func (fnOf "skip_blanks" "Reader.skip_blanks" (defArgs (L2.inClass (top 18) 12)) (defBody (L2.inClass (top 18) 12)) (defScope (L2.inClass (top 18) 12)) .none kV13 dc13 pm13 an13 cd13 ct13),sl13⟩) (c13:codeIn K cd13 "Reader.skip_blanks"=true) (k13:keepIn K (.ref f13)=true)
  (a14:findIn K (.ref C0) "fold"=some (some (.ref f14))) (w14:isFn K (.ref f14)=true)
  (l14:K.lookup f14=some ⟨oc14,od14,.func (fnOf "fold" "Reader.fold" (defArgs (L2.inClass (top 18) 19)) (defBody (L2.inClass (top 18) 19)) (defScope (L2.inClass (top 18) 19)) .none kV14 dc14 pm14 an14 cd14 ct14),sl14⟩) (c14:codeIn K cd14 "Reader.fold"=true) (k14:keepIn K (.ref f14)=true)
  (a15:findIn K (.ref C0) "has_sum"=some (some (.ref f15))) (w15:isFn K (.ref f15)=true)
  (l15:K.lookup f15=some ⟨oc15,od15,.func (fnOf "has_sum" "Reader.has_sum" (defArgs (L2.inClass (top 18) 15)) (defBody (L2.inClass (top 18) 15)) (defScope (L2.inClass (top 18) 15)) .none kV15 dc15 pm15 an15 cd15 ct15),sl15⟩) (c15:codeIn K cd15 "Reader.has_sum"=true) (k15:keepIn K (.ref f15)=true)
  (a16:findIn K (.ref C0) "last_mark"=some (some (.ref f16))) (w16:isFn K (.ref f16)=true)
  (l16:K.lookup f16=some ⟨oc16,od16,.func (fnOf "last_mark" "Reader.last_mark" (defArgs (L2.inClass (top 18) 16)) (defBody (L2.inClass (top 18) 16)) (defScope (L2.inClass (top 18) 16)) .none kV16 dc16 pm16 an16 cd16 ct16),sl16⟩) (c16:codeIn K cd16 "Reader.last_mark"=true) (k16:keepIn K (.ref f16)=true)
  (a17:findIn K (.ref C0) "read_end"=some (some (.ref f17))) (w17:isFn K (.ref f17)=true)
  (l17:K.lookup f17=some ⟨oc17,od17,.func (fnOf "read_end" "Reader.read_end" (defArgs (L2.inClass (top 18) 11)) (defBody (L2.inClass (top 18) 11)) (defScope (L2.inClass (top 18) 11)) .none kV17 dc17 pm17 an17 cd17 ct17),sl17⟩) (c17:codeIn K cd17 "Reader.read_end"=true) (k17:keepIn K (.ref f17)=true)
  (a18:findIn K (.ref C0) "touches"=some (some (.ref f18))) (w18:isFn K (.ref f18)=true)
  (l18:K.lookup f18=some ⟨oc18,od18,.func (fnOf "touches" "Reader.touches" (defArgs (L2.inClass (top 18) 14)) (defBody (L2.inClass (top 18) 14)) (defScope (L2.inClass (top 18) 14)) .none kV18 dc18 pm18 an18 cd18 ct18),sl18⟩) (c18:codeIn K cd18 "Reader.touches"=true) (k18:keepIn K (.ref f18)=true)
  (a19:findIn K (.ref C0) "keep"=some (some (.ref f19))) (w19:isFn K (.ref f19)=true)
  (l19:K.lookup f19=some ⟨oc19,od19,.func (fnOf "keep" "Reader.keep" (defArgs (L2.inClass (top 18) 18)) (defBody (L2.inClass (top 18) 18)) (defScope (L2.inClass (top 18) 18)) .none kV19 dc19 pm19 an19 cd19 ct19),sl19⟩) (c19:codeIn K cd19 "Reader.keep"=true) (k19:keepIn K (.ref f19)=true)
  (a20:findIn K (.ref C0) "read_number"=some (some (.ref f20))) (w20:isFn K (.ref f20)=true)
  (l20:K.lookup f20=some ⟨oc20,od20,.func (fnOf "read_number" "Reader.read_number" (defArgs (L2.inClass (top 18) 3)) (defBody (L2.inClass (top 18) 3)) (defScope (L2.inClass (top 18) 3)) .none kV20 dc20 pm20 an20 cd20 ct20),sl20⟩) (c20:codeIn K cd20 "Reader.read_number"=true) (k20:keepIn K (.ref f20)=true)
  (a21:findIn K (.ref C0) "push"=some (some (.ref f21))) (w21:isFn K (.ref f21)=true)
  (l21:K.lookup f21=some ⟨oc21,od21,.func (fnOf "push" "Reader.push" (defArgs (L2.inClass (top 18) 17)) (defBody (L2.inClass (top 18) 17)) (defScope (L2.inClass (top 18) 17)) .none kV21 dc21 pm21 an21 cd21 ct21),sl21⟩) (c21:codeIn K cd21 "Reader.push"=true) (k21:keepIn K (.ref f21)=true)
  (a22:findIn K (.ref C0) "read_letters"=some (some (.ref f22))) (w22:isFn K (.ref f22)=true)
  (l22:K.lookup f22=some ⟨oc22,od22,.func (fnOf "read_letters" "Reader.read_letters" (defArgs (L2.inClass (top 18) 4)) (defBody (L2.inClass (top 18) 4)) (defScope (L2.inClass (top 18) 4)) .none kV22 dc22 pm22 an22 cd22 ct22),sl22⟩) (c22:codeIn K cd22 "Reader.read_letters"=true) (k22:keepIn K (.ref f22)=true)
  (a23:findIn K (.ref C0) "read_beginning"=some (some (.ref f23))) (w23:isFn K (.ref f23)=true)
  (l23:K.lookup f23=some ⟨oc23,od23,.func (fnOf "read_beginning" "Reader.read_beginning" (defArgs (L2.inClass (top 18) 2)) (defBody (L2.inClass (top 18) 2)) (defScope (L2.inClass (top 18) 2)) .none kV23 dc23 pm23 an23 cd23 ct23),sl23⟩) (c23:codeIn K cd23 "Reader.read_beginning"=true) (k23:keepIn K (.ref f23)=true)
  (a24:findIn K (.ref C0) "read_sign"=some (some (.ref f24))) (w24:isFn K (.ref f24)=true)
  (l24:K.lookup f24=some ⟨oc24,od24,.func (fnOf "read_sign" "Reader.read_sign" (defArgs (L2.inClass (top 18) 6)) (defBody (L2.inClass (top 18) 6)) (defScope (L2.inClass (top 18) 6)) .none kV24 dc24 pm24 an24 cd24 ct24),sl24⟩) (c24:codeIn K cd24 "Reader.read_sign"=true) (k24:keepIn K (.ref f24)=true)
  (a25:findIn K (.ref C0) "read_comparison"=some (some (.ref f25))) (w25:isFn K (.ref f25)=true)
  (l25:K.lookup f25=some ⟨oc25,od25,.func (fnOf "read_comparison" "Reader.read_comparison" (defArgs (L2.inClass (top 18) 7)) (defBody (L2.inClass (top 18) 7)) (defScope (L2.inClass (top 18) 7)) .none kV25 dc25 pm25 an25 cd25 ct25),sl25⟩) (c25:codeIn K cd25 "Reader.read_comparison"=true) (k25:keepIn K (.ref f25)=true)
  (a26:nsIn K mainGlobals "shared_length"=some (some (.ref f26)))
  (l26:K.lookup f26=some ⟨oc26,od26,.func (fnOf "shared_length" "shared_length" (defArgs (top 19)) (defBody (top 19)) (defScope (top 19)) .none kV26 dc26 pm26 an26 cd26 ct26),sl26⟩) (c26:codeIn K cd26 "shared_length"=true) (k26:keepIn K (.ref f26)=true)
  (a27:findIn K (.ref C0) "read_joint"=some (some (.ref f27))) (w27:isFn K (.ref f27)=true)
  (l27:K.lookup f27=some ⟨oc27,od27,.func (fnOf "read_joint" "Reader.read_joint" (defArgs (L2.inClass (top 18) 8)) (defBody (L2.inClass (top 18) 8)) (defScope (L2.inClass (top 18) 8)) .none kV27 dc27 pm27 an27 cd27 ct27),sl27⟩) (c27:codeIn K cd27 "Reader.read_joint"=true) (k27:keepIn K (.ref f27)=true)
  (a28:findIn K (.ref C0) "read_round_end"=some (some (.ref f28))) (w28:isFn K (.ref f28)=true)
  (l28:K.lookup f28=some ⟨oc28,od28,.func (fnOf "read_round_end" "Reader.read_round_end" (defArgs (L2.inClass (top 18) 9)) (defBody (L2.inClass (top 18) 9)) (defScope (L2.inClass (top 18) 9)) .none kV28 dc28 pm28 an28 cd28 ct28),sl28⟩) (c28:codeIn K cd28 "Reader.read_round_end"=true) (k28:keepIn K (.ref f28)=true)
  (a29:findIn K (.ref C0) "read_square_end"=some (some (.ref f29))) (w29:isFn K (.ref f29)=true)
  (l29:K.lookup f29=some ⟨oc29,od29,.func (fnOf "read_square_end" "Reader.read_square_end" (defArgs (L2.inClass (top 18) 10)) (defBody (L2.inClass (top 18) 10)) (defScope (L2.inClass (top 18) 10)) .none kV29 dc29 pm29 an29 cd29 ct29),sl29⟩) (c29:codeIn K cd29 "Reader.read_square_end"=true) (k29:keepIn K (.ref f29)=true)
  (a30:findIn K (.ref C0) "read_behind"=some (some (.ref f30))) (w30:isFn K (.ref f30)=true)
  (l30:K.lookup f30=some ⟨oc30,od30,.func (fnOf "read_behind" "Reader.read_behind" (defArgs (L2.inClass (top 18) 5)) (defBody (L2.inClass (top 18) 5)) (defScope (L2.inClass (top 18) 5)) .none kV30 dc30 pm30 an30 cd30 ct30),sl30⟩) (c30:codeIn K cd30 "Reader.read_behind"=true) (k30:keepIn K (.ref f30)=true)
  (a31:findIn K (.ref C0) "read"=some (some (.ref f31))) (w31:isFn K (.ref f31)=true)
  (l31:K.lookup f31=some ⟨oc31,od31,.func (fnOf "read" "Reader.read" (defArgs (L2.inClass (top 18) 1)) (defBody (L2.inClass (top 18) 1)) (defScope (L2.inClass (top 18) 1)) .none kV31 dc31 pm31 an31 cd31 ct31),sl31⟩) (c31:codeIn K cd31 "Reader.read"=true) (k31:keepIn K (.ref f31)=true)
  (a32:findIn K (.ref C0) "__init__"=some (some (.ref f32))) (w32:isFn K (.ref f32)=true)
  (l32:K.lookup f32=some ⟨oc32,od32,.func (fnOf "__init__" "Reader.__init__" (defArgs (L2.inClass (top 18) 0)) (defBody (L2.inClass (top 18) 0)) (defScope (L2.inClass (top 18) 0)) .none kV32 dc32 pm32 an32 cd32 ct32),sl32⟩) (c32:codeIn K cd32 "Reader.__init__"=true) (k32:keepIn K (.ref f32)=true)
  (a33:nsIn K mainGlobals "read_condition"=some (some (.ref f33)))
  (l33:K.lookup f33=some ⟨oc33,od33,.func (fnOf "read_condition" "read_condition" (defArgs (top 20)) (defBody (top 20)) (defScope (top 20)) .none kV33 dc33 pm33 an33 cd33 ct33),sl33⟩) (c33:codeIn K cd33 "read_condition"=true) (k33:keepIn K (.ref f33)=true)
  (a34:nsIn K mainGlobals "shown_sum"=some (some (.ref f34)))
  (l34:K.lookup f34=some ⟨oc34,od34,.func (fnOf "shown_sum" "shown_sum" (defArgs (top 21)) (defBody (top 21)) (defScope (top 21)) .none kV34 dc34 pm34 an34 cd34 ct34),sl34⟩) (c34:codeIn K cd34 "shown_sum"=true) (k34:keepIn K (.ref f34)=true)
  (a35:nsIn K mainGlobals "shown_from"=some (some (.ref f35)))
  (l35:K.lookup f35=some ⟨oc35,od35,.func (fnOf "shown_from" "shown_from" (defArgs (top 24)) (defBody (top 24)) (defScope (top 24)) .none kV35 dc35 pm35 an35 cd35 ct35),sl35⟩) (c35:codeIn K cd35 "shown_from"=true) (k35:keepIn K (.ref f35)=true)
  (a36:nsIn K mainGlobals "shown_pair"=some (some (.ref f36)))
  (l36:K.lookup f36=some ⟨oc36,od36,.func (fnOf "shown_pair" "shown_pair" (defArgs (top 23)) (defBody (top 23)) (defScope (top 23)) .none kV36 dc36 pm36 an36 cd36 ct36),sl36⟩) (c36:codeIn K cd36 "shown_pair"=true) (k36:keepIn K (.ref f36)=true)
  (a37:nsIn K mainGlobals "shown_condition"=some (some (.ref f37)))
  (l37:K.lookup f37=some ⟨oc37,od37,.func (fnOf "shown_condition" "shown_condition" (defArgs (top 22)) (defBody (top 22)) (defScope (top 22)) .none kV37 dc37 pm37 an37 cd37 ct37),sl37⟩) (c37:codeIn K cd37 "shown_condition"=true) (k37:keepIn K (.ref f37)=true)
  (a38:nsIn K mainGlobals "_law_at"=some (some (.ref f38)))
  (l38:K.lookup f38=some ⟨oc38,od38,.func (fnOf "_law_at" "_law_at" (defArgs (top 29)) (defBody (top 29)) (defScope (top 29)) .none kV38 dc38 pm38 an38 cd38 ct38),sl38⟩) (c38:codeIn K cd38 "_law_at"=true) (k38:keepIn K (.ref f38)=true)
  (a39:nsIn K mainGlobals "_law_named"=some (some (.ref f39)))
  (l39:K.lookup f39=some ⟨oc39,od39,.func (fnOf "_law_named" "_law_named" (defArgs (top 33)) (defBody (top 33)) (defScope (top 33)) .none kV39 dc39 pm39 an39 cd39 ct39),sl39⟩) (c39:codeIn K cd39 "_law_named"=true) (k39:keepIn K (.ref f39)=true)
  (a40:nsIn K mainGlobals "compared"=some (some (.ref f40)))
  (l40:K.lookup f40=some ⟨oc40,od40,.func (fnOf "compared" "compared" (defArgs (top 27)) (defBody (top 27)) (defScope (top 27)) .none kV40 dc40 pm40 an40 cd40 ct40),sl40⟩) (c40:codeIn K cd40 "compared"=true) (k40:keepIn K (.ref f40)=true)
  (a41:nsIn K mainGlobals "value_of"=some (some (.ref f41)))
  (l41:K.lookup f41=some ⟨oc41,od41,.func (fnOf "value_of" "value_of" (defArgs (top 25)) (defBody (top 25)) (defScope (top 25)) .none kV41 dc41 pm41 an41 cd41 ct41),sl41⟩) (c41:codeIn K cd41 "value_of"=true) (k41:keepIn K (.ref f41)=true)
  (a42:nsIn K mainGlobals "holds"=some (some (.ref f42)))
  (l42:K.lookup f42=some ⟨oc42,od42,.func (fnOf "holds" "holds" (defArgs (top 26)) (defBody (top 26)) (defScope (top 26)) .none kV42 dc42 pm42 an42 cd42 ct42),sl42⟩) (c42:codeIn K cd42 "holds"=true) (k42:keepIn K (.ref f42)=true)
  (a43:nsIn K mainGlobals "_law_read"=some (some (.ref f43)))
  (l43:K.lookup f43=some ⟨oc43,od43,.func (fnOf "_law_read" "_law_read" (defArgs (top 46)) (defBody (top 46)) (defScope (top 46)) .none kV43 dc43 pm43 an43 cd43 ct43),sl43⟩) (c43:codeIn K cd43 "_law_read"=true) (k43:keepIn K (.ref f43)=true)
  (a44:nsIn K mainGlobals "_law_needed"=some (some (.ref f44)))
  (l44:K.lookup f44=some ⟨oc44,od44,.func (fnOf "_law_needed" "_law_needed" (defArgs (top 47)) (defBody (top 47)) (defScope (top 47)) .none kV44 dc44 pm44 an44 cd44 ct44),sl44⟩) (c44:codeIn K cd44 "_law_needed"=true) (k44:keepIn K (.ref f44)=true)
  (a45:nsIn K mainGlobals "law"=some (some (.ref f45)))
  (l45:K.lookup f45=some ⟨oc45,od45,.func (fnOf "law" "law" (defArgs (top 48)) (defBody (top 48)) (defScope (top 48)) .none kV45 dc45 pm45 an45 cd45 ct45),sl45⟩) (c45:codeIn K cd45 "law"=true) (k45:keepIn K (.ref f45)=true)
  {ga0:Addr}{go0:Option Addr}{gn0:Nat}{gs0:Array (Option Value)}{gt0_0 gt0_1 gt0_2 gt0_3 gt0_4 gt0_5:Tok} (glb0:nsIn K mainGlobals "COMPARISONS"=some (some (.ref ga0))) (glt0:K.lookup ga0=some ⟨.type "tuple",go0,.seq #[.str "=" gt0_0,.str "!=" gt0_1,.str "<" gt0_2,.str "<=" gt0_3,.str ">" gt0_4,.str ">=" gt0_5] gn0,gs0⟩)
  {gt1:Tok} (glb1:nsIn K mainGlobals "FIGURES"=some (some (.str "0123456789" gt1)))
  {gt2:Tok} (glb2:nsIn K mainGlobals "IS_LEVEL"=some (some (.int 4 gt2)))
  {ga3:Addr}{gn3:Nat}{gh3_0 gh3_1 gh3_2 gh3_3 gh3_4:Int}{gt3_0 gu3_0 gt3_1 gu3_1 gt3_2 gu3_2 gt3_3 gu3_3 gt3_4 gu3_4:Tok} (glb3:nsIn K mainGlobals "KINDS"=some (some (.ref ga3))) (glt3:K.lookup ga3=some ⟨.type "dict",none,.dict #[⟨gh3_0,.str "or" gt3_0,.str "or" gu3_0⟩,⟨gh3_1,.str "and" gt3_1,.str "and" gu3_1⟩,⟨gh3_2,.str "+" gt3_2,.str "plus" gu3_2⟩,⟨gh3_3,.str "-" gt3_3,.str "minus" gu3_3⟩,⟨gh3_4,.str "*" gt3_4,.str "times" gu3_4⟩] gn3,#[]⟩)
  (gq3_0:gh3_0=hashStr w "or")
  (gq3_1:gh3_1=hashStr w "and")
  (gq3_2:gh3_2=hashStr w "+")
  (gq3_3:gh3_3=hashStr w "-")
  (gq3_4:gh3_4=hashStr w "*")
  {gt4:Tok} (glb4:nsIn K mainGlobals "LETTERS"=some (some (.str "abcdefghijklmnopqrstuvwxyz" gt4)))
  {ga5:Addr}{gn5:Nat}{gh5_0 gh5_1 gh5_2 gh5_3 gh5_4 gh5_5 gh5_6 gh5_7 gh5_8 gh5_9 gh5_10 gh5_11 gh5_12 gh5_13:Int}{gt5_0 gu5_0 gt5_1 gu5_1 gt5_2 gu5_2 gt5_3 gu5_3 gt5_4 gu5_4 gt5_5 gu5_5 gt5_6 gu5_6 gt5_7 gu5_7 gt5_8 gu5_8 gt5_9 gu5_9 gt5_10 gu5_10 gt5_11 gu5_11 gt5_12 gu5_12 gt5_13 gu5_13:Tok} (glb5:nsIn K mainGlobals "MARK_LEVELS"=some (some (.ref ga5))) (glt5:K.lookup ga5=some ⟨.type "dict",none,.dict #[⟨gh5_0,.str "(" gt5_0,.int 0 gu5_0⟩,⟨gh5_1,.str "[" gt5_1,.int 0 gu5_1⟩,⟨gh5_2,.str "or" gt5_2,.int 1 gu5_2⟩,⟨gh5_3,.str "and" gt5_3,.int 2 gu5_3⟩,⟨gh5_4,.str "not" gt5_4,.int 3 gu5_4⟩,⟨gh5_5,.str "=" gt5_5,.int 4 gu5_5⟩,⟨gh5_6,.str "!=" gt5_6,.int 4 gu5_6⟩,⟨gh5_7,.str "<" gt5_7,.int 4 gu5_7⟩,⟨gh5_8,.str "<=" gt5_8,.int 4 gu5_8⟩,⟨gh5_9,.str ">" gt5_9,.int 4 gu5_9⟩,⟨gh5_10,.str ">=" gt5_10,.int 4 gu5_10⟩,⟨gh5_11,.str "+" gt5_11,.int 5 gu5_11⟩,⟨gh5_12,.str "-" gt5_12,.int 5 gu5_12⟩,⟨gh5_13,.str "*" gt5_13,.int 6 gu5_13⟩] gn5,#[]⟩)
  (gq5_0:gh5_0=hashStr w "(")
  (gq5_1:gh5_1=hashStr w "[")
  (gq5_2:gh5_2=hashStr w "or")
  (gq5_3:gh5_3=hashStr w "and")
  (gq5_4:gh5_4=hashStr w "not")
  (gq5_5:gh5_5=hashStr w "=")
  (gq5_6:gh5_6=hashStr w "!=")
  (gq5_7:gh5_7=hashStr w "<")
  (gq5_8:gh5_8=hashStr w "<=")
  (gq5_9:gh5_9=hashStr w ">")
  (gq5_10:gh5_10=hashStr w ">=")
  (gq5_11:gh5_11=hashStr w "+")
  (gq5_12:gh5_12=hashStr w "-")
  (gq5_13:gh5_13=hashStr w "*")
  {gt6:Tok} (glb6:nsIn K mainGlobals "MOST_FIGURES"=some (some (.int 3 gt6)))
  {gt7:Tok} (glb7:nsIn K mainGlobals "MOST_LETTERS"=some (some (.int 10 gt7)))
  {gt8:Tok} (glb8:nsIn K mainGlobals "OR_LEVEL"=some (some (.int 1 gt8)))
  {gt9:Tok} (glb9:nsIn K mainGlobals "PLUS_LEVEL"=some (some (.int 5 gt9)))
  {ga10:Addr}{gn10:Nat}{gh10_0 gh10_1 gh10_2 gh10_3 gh10_4:Int}{gt10_0 gu10_0 gt10_1 gu10_1 gt10_2 gu10_2 gt10_3 gu10_3 gt10_4 gu10_4:Tok} (glb10:nsIn K mainGlobals "SIGNS"=some (some (.ref ga10))) (glt10:K.lookup ga10=some ⟨.type "dict",none,.dict #[⟨gh10_0,.str "or" gt10_0,.str "or" gu10_0⟩,⟨gh10_1,.str "and" gt10_1,.str "and" gu10_1⟩,⟨gh10_2,.str "plus" gt10_2,.str "+" gu10_2⟩,⟨gh10_3,.str "minus" gt10_3,.str "-" gu10_3⟩,⟨gh10_4,.str "times" gt10_4,.str "*" gu10_4⟩] gn10,#[]⟩)
  (gq10_0:gh10_0=hashStr w "or")
  (gq10_1:gh10_1=hashStr w "and")
  (gq10_2:gh10_2=hashStr w "plus")
  (gq10_3:gh10_3=hashStr w "minus")
  (gq10_4:gh10_4=hashStr w "times")
  {ga11:Addr}{go11:Option Addr}{gn11:Nat}{gs11:Array (Option Value)}{gt11_0 gt11_1 gt11_2 gt11_3 gt11_4:Tok} (glb11:nsIn K mainGlobals "SUM_KINDS"=some (some (.ref ga11))) (glt11:K.lookup ga11=some ⟨.type "tuple",go11,.seq #[.str "number" gt11_0,.str "name" gt11_1,.str "plus" gt11_2,.str "minus" gt11_3,.str "times" gt11_4] gn11,gs11⟩)
  {ga12:Addr}{gn12:Nat}{gh12_0 gh12_1 gh12_2 gh12_3 gh12_4 gh12_5 gh12_6 gh12_7 gh12_8 gh12_9:Int}{gt12_0 gu12_0 gt12_1 gu12_1 gt12_2 gu12_2 gt12_3 gu12_3 gt12_4 gu12_4 gt12_5 gu12_5 gt12_6 gu12_6 gt12_7 gu12_7 gt12_8 gu12_8 gt12_9 gu12_9:Tok} (glb12:nsIn K mainGlobals "TREE_LEVELS"=some (some (.ref ga12))) (glt12:K.lookup ga12=some ⟨.type "dict",none,.dict #[⟨gh12_0,.str "or" gt12_0,.int 1 gu12_0⟩,⟨gh12_1,.str "and" gt12_1,.int 2 gu12_1⟩,⟨gh12_2,.str "not" gt12_2,.int 3 gu12_2⟩,⟨gh12_3,.str "is" gt12_3,.int 4 gu12_3⟩,⟨gh12_4,.str "true" gt12_4,.int 4 gu12_4⟩,⟨gh12_5,.str "plus" gt12_5,.int 5 gu12_5⟩,⟨gh12_6,.str "minus" gt12_6,.int 5 gu12_6⟩,⟨gh12_7,.str "times" gt12_7,.int 6 gu12_7⟩,⟨gh12_8,.str "number" gt12_8,.int 7 gu12_8⟩,⟨gh12_9,.str "name" gt12_9,.int 7 gu12_9⟩] gn12,#[]⟩)
  (gq12_0:gh12_0=hashStr w "or")
  (gq12_1:gh12_1=hashStr w "and")
  (gq12_2:gh12_2=hashStr w "not")
  (gq12_3:gh12_3=hashStr w "is")
  (gq12_4:gh12_4=hashStr w "true")
  (gq12_5:gh12_5=hashStr w "plus")
  (gq12_6:gh12_6=hashStr w "minus")
  (gq12_7:gh12_7=hashStr w "times")
  (gq12_8:gh12_8=hashStr w "number")
  (gq12_9:gh12_9=hashStr w "name")
  {ga13:Addr}{go13:Option Addr}{gn13:Nat}{gs13:Array (Option Value)}{gt13_0 gt13_1 gt13_2 gt13_3:Tok} (glb13:nsIn K mainGlobals "WORDS"=some (some (.ref ga13))) (glt13:K.lookup ga13=some ⟨.type "tuple",go13,.seq #[.str "or" gt13_0,.str "and" gt13_1,.str "not" gt13_2,.str "true" gt13_3] gn13,gs13⟩)
  (z:∀x ∈ bltN,nsIn K mainGlobals x=some none)
  : TOk w Gv Att Tb K mg:=by
 refine⟨fun d hd=>?_,sc,un,fun x hx=>mg_none_of X G (z x hx),fun x v hv=>?_,fun c f hc=>?_⟩
 ·rcases List.mem_cons.mp hd with hd | hd
  ·subst hd;exact⟨_,_,⟨fun_mk (st:=(top 30)) l0 c0 k0,(fun_mk (st:=(top 30)) l0 c0 k0).binds (ps:=["_law_number","_law_place"]) fun _ _ _ _ _ _ us hl=>by obtain⟨_,_,rfl⟩:=ln2 hl;rfl,fun _=>mg_of X G a0,fun h=>absurd h (by decide +kernel)⟩⟩
  rcases List.mem_cons.mp hd with hd | hd
  ·subst hd;exact⟨_,_,⟨fun_mk (st:=(top 36)) l1 c1 k1,(fun_mk (st:=(top 36)) l1 c1 k1).binds (ps:=["_law_stack","_law_words"]) fun _ _ _ _ _ _ us hl=>by obtain⟨_,_,rfl⟩:=ln2 hl;rfl,fun _=>mg_of X G a1,fun h=>absurd h (by decide +kernel)⟩⟩
  rcases List.mem_cons.mp hd with hd | hd
  ·subst hd;exact⟨_,_,⟨fun_mk (st:=(top 35)) l2 c2 k2,(fun_mk (st:=(top 35)) l2 c2 k2).binds (ps:=["_law_names","_law_number"]) fun _ _ _ _ _ _ us hl=>by obtain⟨_,_,rfl⟩:=ln2 hl;rfl,fun _=>mg_of X G a2,fun h=>absurd h (by decide +kernel)⟩⟩
  rcases List.mem_cons.mp hd with hd | hd
  ·subst hd;exact⟨_,_,⟨fun_mk (st:=(top 38)) l3 c3 k3,(fun_mk (st:=(top 38)) l3 c3 k3).binds (ps:=["_law_names","_law_number"]) fun _ _ _ _ _ _ us hl=>by obtain⟨_,_,rfl⟩:=ln2 hl;rfl,fun _=>mg_of X G a3,fun h=>absurd h (by decide +kernel)⟩⟩
  rcases List.mem_cons.mp hd with hd | hd
  ·subst hd;exact⟨_,_,⟨fun_mk (st:=(top 39)) l4 c4 k4,(fun_mk (st:=(top 39)) l4 c4 k4).binds (ps:=["_law_names","_law_number","_law_other"]) fun _ _ _ _ _ _ us hl=>by obtain⟨_,_,_,rfl⟩:=ln3 hl;rfl,fun _=>mg_of X G a4,fun h=>absurd h (by decide +kernel)⟩⟩
  rcases List.mem_cons.mp hd with hd | hd
  ·subst hd;exact⟨_,_,⟨fun_mk (st:=(top 34)) l5 c5 k5,(fun_mk (st:=(top 34)) l5 c5 k5).binds (ps:=["_law_tree"]) fun _ _ _ _ _ _ us hl=>by obtain⟨_,rfl⟩:=ln1 hl;rfl,fun _=>mg_of X G a5,fun h=>absurd h (by decide +kernel)⟩⟩
  rcases List.mem_cons.mp hd with hd | hd
  ·subst hd;exact⟨_,_,⟨fun_mk (st:=(top 40)) l6 c6 k6,(fun_mk (st:=(top 40)) l6 c6 k6).binds (ps:=["_law_names","_law_cells","_law_most","_law_denied"]) fun _ _ _ _ _ _ us hl=>by obtain⟨_,_,_,_,rfl⟩:=ln4 hl;rfl,fun _=>mg_of X G a6,fun h=>absurd h (by decide +kernel)⟩⟩
  rcases List.mem_cons.mp hd with hd | hd
  ·subst hd;exact⟨_,_,⟨fun_mk (st:=(top 44)) l7 c7 k7,(fun_mk (st:=(top 44)) l7 c7 k7).binds (ps:=["_law_tree","_law_values"]) fun _ _ _ _ _ _ us hl=>by obtain⟨_,_,rfl⟩:=ln2 hl;rfl,fun _=>mg_of X G a7,fun h=>absurd h (by decide +kernel)⟩⟩
  rcases List.mem_cons.mp hd with hd | hd
  ·subst hd;exact⟨_,_,⟨fun_mk (st:=(top 45)) l8 c8 k8,(fun_mk (st:=(top 45)) l8 c8 k8).binds (ps:=["_law_tree","_law_values"]) fun _ _ _ _ _ _ us hl=>by obtain⟨_,_,rfl⟩:=ln2 hl;rfl,fun _=>mg_of X G a8,fun h=>absurd h (by decide +kernel)⟩⟩
  rcases List.mem_cons.mp hd with hd | hd
  ·subst hd;exact⟨_,_,⟨fun_mk (st:=(top 41)) l9 c9 k9,(fun_mk (st:=(top 41)) l9 c9 k9).binds (ps:=["_law_tree"]) fun _ _ _ _ _ _ us hl=>by obtain⟨_,rfl⟩:=ln1 hl;rfl,fun _=>mg_of X G a9,fun h=>absurd h (by decide +kernel)⟩⟩
  rcases List.mem_cons.mp hd with hd | hd
  ·subst hd;exact⟨_,_,⟨fun_mk (st:=(top 42)) l10 c10 k10,(fun_mk (st:=(top 42)) l10 c10 k10).binds (ps:=["_law_tree","_law_number"]) fun _ _ _ _ _ _ us hl=>by obtain⟨_,_,rfl⟩:=ln2 hl;rfl,fun _=>mg_of X G a10,fun h=>absurd h (by decide +kernel)⟩⟩
  rcases List.mem_cons.mp hd with hd | hd
  ·subst hd;exact⟨_,_,⟨fun_mk (st:=(top 43)) l11 c11 k11,(fun_mk (st:=(top 43)) l11 c11 k11).binds (ps:=["_law_tree","_law_number"]) fun _ _ _ _ _ _ us hl=>by obtain⟨_,_,rfl⟩:=ln2 hl;rfl,fun _=>mg_of X G a11,fun h=>absurd h (by decide +kernel)⟩⟩
  rcases List.mem_cons.mp hd with hd | hd
  ·subst hd;exact⟨_,_,⟨fun_mk (st:=(L2.inClass (top 18) 13)) l12 c12 k12,(fun_mk (st:=(L2.inClass (top 18) 13)) l12 c12 k12).binds (ps:=["self","signs"]) fun _ _ _ _ _ _ us hl=>by obtain⟨_,_,rfl⟩:=ln2 hl;rfl,fun h=>absurd h (by decide +kernel),fun _=>⟨_,ca0,mg_of X G ca0,⟨cb0,cc0,cd0',ce0⟩,fun h=>absurd h (by decide +kernel),fun _=>⟨a12,w12,k12⟩⟩⟩⟩
  rcases List.mem_cons.mp hd with hd | hd
  ·subst hd;exact⟨_,_,⟨fun_mk (st:=(L2.inClass (top 18) 12)) l13 c13 k13,(fun_mk (st:=(L2.inClass (top 18) 12)) l13 c13 k13).binds (ps:=["self"]) fun _ _ _ _ _ _ us hl=>by obtain⟨_,rfl⟩:=ln1 hl;rfl,fun h=>absurd h (by decide +kernel),fun _=>⟨_,ca0,mg_of X G ca0,⟨cb0,cc0,cd0',ce0⟩,fun h=>absurd h (by decide +kernel),fun _=>⟨a13,w13,k13⟩⟩⟩⟩
  rcases List.mem_cons.mp hd with hd | hd
  ·subst hd;exact⟨_,_,⟨fun_mk (st:=(L2.inClass (top 18) 19)) l14 c14 k14,(fun_mk (st:=(L2.inClass (top 18) 19)) l14 c14 k14).binds (ps:=["self","level"]) fun _ _ _ _ _ _ us hl=>by obtain⟨_,_,rfl⟩:=ln2 hl;rfl,fun h=>absurd h (by decide +kernel),fun _=>⟨_,ca0,mg_of X G ca0,⟨cb0,cc0,cd0',ce0⟩,fun h=>absurd h (by decide +kernel),fun _=>⟨a14,w14,k14⟩⟩⟩⟩
  rcases List.mem_cons.mp hd with hd | hd
  ·subst hd;exact⟨_,_,⟨fun_mk (st:=(L2.inClass (top 18) 15)) l15 c15 k15,(fun_mk (st:=(L2.inClass (top 18) 15)) l15 c15 k15).binds (ps:=["self"]) fun _ _ _ _ _ _ us hl=>by obtain⟨_,rfl⟩:=ln1 hl;rfl,fun h=>absurd h (by decide +kernel),fun _=>⟨_,ca0,mg_of X G ca0,⟨cb0,cc0,cd0',ce0⟩,fun h=>absurd h (by decide +kernel),fun _=>⟨a15,w15,k15⟩⟩⟩⟩
  rcases List.mem_cons.mp hd with hd | hd
  ·subst hd;exact⟨_,_,⟨fun_mk (st:=(L2.inClass (top 18) 16)) l16 c16 k16,(fun_mk (st:=(L2.inClass (top 18) 16)) l16 c16 k16).binds (ps:=["self"]) fun _ _ _ _ _ _ us hl=>by obtain⟨_,rfl⟩:=ln1 hl;rfl,fun h=>absurd h (by decide +kernel),fun _=>⟨_,ca0,mg_of X G ca0,⟨cb0,cc0,cd0',ce0⟩,fun h=>absurd h (by decide +kernel),fun _=>⟨a16,w16,k16⟩⟩⟩⟩
  rcases List.mem_cons.mp hd with hd | hd
  ·subst hd;exact⟨_,_,⟨fun_mk (st:=(L2.inClass (top 18) 11)) l17 c17 k17,(fun_mk (st:=(L2.inClass (top 18) 11)) l17 c17 k17).binds (ps:=["self"]) fun _ _ _ _ _ _ us hl=>by obtain⟨_,rfl⟩:=ln1 hl;rfl,fun h=>absurd h (by decide +kernel),fun _=>⟨_,ca0,mg_of X G ca0,⟨cb0,cc0,cd0',ce0⟩,fun h=>absurd h (by decide +kernel),fun _=>⟨a17,w17,k17⟩⟩⟩⟩
  rcases List.mem_cons.mp hd with hd | hd
  ·subst hd;exact⟨_,_,⟨fun_mk (st:=(L2.inClass (top 18) 14)) l18 c18 k18,(fun_mk (st:=(L2.inClass (top 18) 14)) l18 c18 k18).binds (ps:=["self"]) fun _ _ _ _ _ _ us hl=>by obtain⟨_,rfl⟩:=ln1 hl;rfl,fun h=>absurd h (by decide +kernel),fun _=>⟨_,ca0,mg_of X G ca0,⟨cb0,cc0,cd0',ce0⟩,fun h=>absurd h (by decide +kernel),fun _=>⟨a18,w18,k18⟩⟩⟩⟩
  rcases List.mem_cons.mp hd with hd | hd
  ·subst hd;exact⟨_,_,⟨fun_mk (st:=(L2.inClass (top 18) 18)) l19 c19 k19,(fun_mk (st:=(L2.inClass (top 18) 18)) l19 c19 k19).binds (ps:=["self","tree","length"]) fun _ _ _ _ _ _ us hl=>by obtain⟨_,_,_,rfl⟩:=ln3 hl;rfl,fun h=>absurd h (by decide +kernel),fun _=>⟨_,ca0,mg_of X G ca0,⟨cb0,cc0,cd0',ce0⟩,fun h=>absurd h (by decide +kernel),fun _=>⟨a19,w19,k19⟩⟩⟩⟩
  rcases List.mem_cons.mp hd with hd | hd
  ·subst hd;exact⟨_,_,⟨fun_mk (st:=(L2.inClass (top 18) 3)) l20 c20 k20,(fun_mk (st:=(L2.inClass (top 18) 3)) l20 c20 k20).binds (ps:=["self"]) fun _ _ _ _ _ _ us hl=>by obtain⟨_,rfl⟩:=ln1 hl;rfl,fun h=>absurd h (by decide +kernel),fun _=>⟨_,ca0,mg_of X G ca0,⟨cb0,cc0,cd0',ce0⟩,fun h=>absurd h (by decide +kernel),fun _=>⟨a20,w20,k20⟩⟩⟩⟩
  rcases List.mem_cons.mp hd with hd | hd
  ·subst hd;exact⟨_,_,⟨fun_mk (st:=(L2.inClass (top 18) 17)) l21 c21 k21,(fun_mk (st:=(L2.inClass (top 18) 17)) l21 c21 k21).binds (ps:=["self","mark","wanted"]) fun _ _ _ _ _ _ us hl=>by obtain⟨_,_,_,rfl⟩:=ln3 hl;rfl,fun h=>absurd h (by decide +kernel),fun _=>⟨_,ca0,mg_of X G ca0,⟨cb0,cc0,cd0',ce0⟩,fun h=>absurd h (by decide +kernel),fun _=>⟨a21,w21,k21⟩⟩⟩⟩
  rcases List.mem_cons.mp hd with hd | hd
  ·subst hd;exact⟨_,_,⟨fun_mk (st:=(L2.inClass (top 18) 4)) l22 c22 k22,(fun_mk (st:=(L2.inClass (top 18) 4)) l22 c22 k22).binds (ps:=["self"]) fun _ _ _ _ _ _ us hl=>by obtain⟨_,rfl⟩:=ln1 hl;rfl,fun h=>absurd h (by decide +kernel),fun _=>⟨_,ca0,mg_of X G ca0,⟨cb0,cc0,cd0',ce0⟩,fun h=>absurd h (by decide +kernel),fun _=>⟨a22,w22,k22⟩⟩⟩⟩
  rcases List.mem_cons.mp hd with hd | hd
  ·subst hd;exact⟨_,_,⟨fun_mk (st:=(L2.inClass (top 18) 2)) l23 c23 k23,(fun_mk (st:=(L2.inClass (top 18) 2)) l23 c23 k23).binds (ps:=["self","sign"]) fun _ _ _ _ _ _ us hl=>by obtain⟨_,_,rfl⟩:=ln2 hl;rfl,fun h=>absurd h (by decide +kernel),fun _=>⟨_,ca0,mg_of X G ca0,⟨cb0,cc0,cd0',ce0⟩,fun h=>absurd h (by decide +kernel),fun _=>⟨a23,w23,k23⟩⟩⟩⟩
  rcases List.mem_cons.mp hd with hd | hd
  ·subst hd;exact⟨_,_,⟨fun_mk (st:=(L2.inClass (top 18) 6)) l24 c24 k24,(fun_mk (st:=(L2.inClass (top 18) 6)) l24 c24 k24).binds (ps:=["self","sign"]) fun _ _ _ _ _ _ us hl=>by obtain⟨_,_,rfl⟩:=ln2 hl;rfl,fun h=>absurd h (by decide +kernel),fun _=>⟨_,ca0,mg_of X G ca0,⟨cb0,cc0,cd0',ce0⟩,fun h=>absurd h (by decide +kernel),fun _=>⟨a24,w24,k24⟩⟩⟩⟩
  rcases List.mem_cons.mp hd with hd | hd
  ·subst hd;exact⟨_,_,⟨fun_mk (st:=(L2.inClass (top 18) 7)) l25 c25 k25,(fun_mk (st:=(L2.inClass (top 18) 7)) l25 c25 k25).binds (ps:=["self","sign"]) fun _ _ _ _ _ _ us hl=>by obtain⟨_,_,rfl⟩:=ln2 hl;rfl,fun h=>absurd h (by decide +kernel),fun _=>⟨_,ca0,mg_of X G ca0,⟨cb0,cc0,cd0',ce0⟩,fun h=>absurd h (by decide +kernel),fun _=>⟨a25,w25,k25⟩⟩⟩⟩
  rcases List.mem_cons.mp hd with hd | hd
  ·subst hd;exact⟨_,_,⟨fun_mk (st:=(top 19)) l26 c26 k26,(fun_mk (st:=(top 19)) l26 c26 k26).binds (ps:=["one","other"]) fun _ _ _ _ _ _ us hl=>by obtain⟨_,_,rfl⟩:=ln2 hl;rfl,fun _=>mg_of X G a26,fun h=>absurd h (by decide +kernel)⟩⟩
  rcases List.mem_cons.mp hd with hd | hd
  ·subst hd;exact⟨_,_,⟨fun_mk (st:=(L2.inClass (top 18) 8)) l27 c27 k27,(fun_mk (st:=(L2.inClass (top 18) 8)) l27 c27 k27).binds (ps:=["self","word"]) fun _ _ _ _ _ _ us hl=>by obtain⟨_,_,rfl⟩:=ln2 hl;rfl,fun h=>absurd h (by decide +kernel),fun _=>⟨_,ca0,mg_of X G ca0,⟨cb0,cc0,cd0',ce0⟩,fun h=>absurd h (by decide +kernel),fun _=>⟨a27,w27,k27⟩⟩⟩⟩
  rcases List.mem_cons.mp hd with hd | hd
  ·subst hd;exact⟨_,_,⟨fun_mk (st:=(L2.inClass (top 18) 9)) l28 c28 k28,(fun_mk (st:=(L2.inClass (top 18) 9)) l28 c28 k28).binds (ps:=["self"]) fun _ _ _ _ _ _ us hl=>by obtain⟨_,rfl⟩:=ln1 hl;rfl,fun h=>absurd h (by decide +kernel),fun _=>⟨_,ca0,mg_of X G ca0,⟨cb0,cc0,cd0',ce0⟩,fun h=>absurd h (by decide +kernel),fun _=>⟨a28,w28,k28⟩⟩⟩⟩
  rcases List.mem_cons.mp hd with hd | hd
  ·subst hd;exact⟨_,_,⟨fun_mk (st:=(L2.inClass (top 18) 10)) l29 c29 k29,(fun_mk (st:=(L2.inClass (top 18) 10)) l29 c29 k29).binds (ps:=["self"]) fun _ _ _ _ _ _ us hl=>by obtain⟨_,rfl⟩:=ln1 hl;rfl,fun h=>absurd h (by decide +kernel),fun _=>⟨_,ca0,mg_of X G ca0,⟨cb0,cc0,cd0',ce0⟩,fun h=>absurd h (by decide +kernel),fun _=>⟨a29,w29,k29⟩⟩⟩⟩
  rcases List.mem_cons.mp hd with hd | hd
  ·subst hd;exact⟨_,_,⟨fun_mk (st:=(L2.inClass (top 18) 5)) l30 c30 k30,(fun_mk (st:=(L2.inClass (top 18) 5)) l30 c30 k30).binds (ps:=["self","sign"]) fun _ _ _ _ _ _ us hl=>by obtain⟨_,_,rfl⟩:=ln2 hl;rfl,fun h=>absurd h (by decide +kernel),fun _=>⟨_,ca0,mg_of X G ca0,⟨cb0,cc0,cd0',ce0⟩,fun h=>absurd h (by decide +kernel),fun _=>⟨a30,w30,k30⟩⟩⟩⟩
  rcases List.mem_cons.mp hd with hd | hd
  ·subst hd;exact⟨_,_,⟨fun_mk (st:=(L2.inClass (top 18) 1)) l31 c31 k31,(fun_mk (st:=(L2.inClass (top 18) 1)) l31 c31 k31).binds (ps:=["self"]) fun _ _ _ _ _ _ us hl=>by obtain⟨_,rfl⟩:=ln1 hl;rfl,fun h=>absurd h (by decide +kernel),fun _=>⟨_,ca0,mg_of X G ca0,⟨cb0,cc0,cd0',ce0⟩,fun h=>absurd h (by decide +kernel),fun _=>⟨a31,w31,k31⟩⟩⟩⟩
  rcases List.mem_cons.mp hd with hd | hd
  ·subst hd;exact⟨_,_,⟨fun_mk (st:=(L2.inClass (top 18) 0)) l32 c32 k32,(fun_mk (st:=(L2.inClass (top 18) 0)) l32 c32 k32).binds (ps:=["self","text","wanted"]) fun _ _ _ _ _ _ us hl=>by obtain⟨_,_,_,rfl⟩:=ln3 hl;rfl,fun h=>absurd h (by decide +kernel),fun _=>⟨_,ca0,mg_of X G ca0,⟨cb0,cc0,cd0',ce0⟩,fun _=>⟨cf0,a32,w32,cg0⟩,fun h=>absurd rfl h⟩⟩⟩
  rcases List.mem_cons.mp hd with hd | hd
  ·subst hd;exact⟨_,_,⟨fun_mk (st:=(top 20)) l33 c33 k33,(fun_mk (st:=(top 20)) l33 c33 k33).binds (ps:=["text"]) fun _ _ _ _ _ _ us hl=>by obtain⟨_,rfl⟩:=ln1 hl;rfl,fun _=>mg_of X G a33,fun h=>absurd h (by decide +kernel)⟩⟩
  rcases List.mem_cons.mp hd with hd | hd
  ·subst hd;exact⟨_,_,⟨fun_mk (st:=(top 21)) l34 c34 k34,(fun_mk (st:=(top 21)) l34 c34 k34).binds (ps:=["tree"]) fun _ _ _ _ _ _ us hl=>by obtain⟨_,rfl⟩:=ln1 hl;rfl,fun _=>mg_of X G a34,fun h=>absurd h (by decide +kernel)⟩⟩
  rcases List.mem_cons.mp hd with hd | hd
  ·subst hd;exact⟨_,_,⟨fun_mk (st:=(top 24)) l35 c35 k35,(fun_mk (st:=(top 24)) l35 c35 k35).binds (ps:=["tree","level"]) fun _ _ _ _ _ _ us hl=>by obtain⟨_,_,rfl⟩:=ln2 hl;rfl,fun _=>mg_of X G a35,fun h=>absurd h (by decide +kernel)⟩⟩
  rcases List.mem_cons.mp hd with hd | hd
  ·subst hd;exact⟨_,_,⟨fun_mk (st:=(top 23)) l36 c36 k36,(fun_mk (st:=(top 23)) l36 c36 k36).binds (ps:=["tree"]) fun _ _ _ _ _ _ us hl=>by obtain⟨_,rfl⟩:=ln1 hl;rfl,fun _=>mg_of X G a36,fun h=>absurd h (by decide +kernel)⟩⟩
  rcases List.mem_cons.mp hd with hd | hd
  ·subst hd;exact⟨_,_,⟨fun_mk (st:=(top 22)) l37 c37 k37,(fun_mk (st:=(top 22)) l37 c37 k37).binds (ps:=["tree"]) fun _ _ _ _ _ _ us hl=>by obtain⟨_,rfl⟩:=ln1 hl;rfl,fun _=>mg_of X G a37,fun h=>absurd h (by decide +kernel)⟩⟩
  rcases List.mem_cons.mp hd with hd | hd
  ·subst hd;exact⟨_,_,⟨fun_mk (st:=(top 29)) l38 c38 k38,(fun_mk (st:=(top 29)) l38 c38 k38).binds (ps:=["_law_script","_law_k"]) fun _ _ _ _ _ _ us hl=>by obtain⟨_,_,rfl⟩:=ln2 hl;rfl,fun _=>mg_of X G a38,fun h=>absurd h (by decide +kernel)⟩⟩
  rcases List.mem_cons.mp hd with hd | hd
  ·subst hd;exact⟨_,_,⟨fun_mk (st:=(top 33)) l39 c39 k39,(fun_mk (st:=(top 33)) l39 c39 k39).binds (ps:=["_law_k","_law_number"]) fun _ _ _ _ _ _ us hl=>by obtain⟨_,_,rfl⟩:=ln2 hl;rfl,fun _=>mg_of X G a39,fun h=>absurd h (by decide +kernel)⟩⟩
  rcases List.mem_cons.mp hd with hd | hd
  ·subst hd;exact⟨_,_,⟨fun_mk (st:=(top 27)) l40 c40 k40,(fun_mk (st:=(top 27)) l40 c40 k40).binds (ps:=["word","one","other"]) fun _ _ _ _ _ _ us hl=>by obtain⟨_,_,_,rfl⟩:=ln3 hl;rfl,fun _=>mg_of X G a40,fun h=>absurd h (by decide +kernel)⟩⟩
  rcases List.mem_cons.mp hd with hd | hd
  ·subst hd;exact⟨_,_,⟨fun_mk (st:=(top 25)) l41 c41 k41,(fun_mk (st:=(top 25)) l41 c41 k41).binds (ps:=["tree","values"]) fun _ _ _ _ _ _ us hl=>by obtain⟨_,_,rfl⟩:=ln2 hl;rfl,fun _=>mg_of X G a41,fun h=>absurd h (by decide +kernel)⟩⟩
  rcases List.mem_cons.mp hd with hd | hd
  ·subst hd;exact⟨_,_,⟨fun_mk (st:=(top 26)) l42 c42 k42,(fun_mk (st:=(top 26)) l42 c42 k42).binds (ps:=["condition","values"]) fun _ _ _ _ _ _ us hl=>by obtain⟨_,_,rfl⟩:=ln2 hl;rfl,fun _=>mg_of X G a42,fun h=>absurd h (by decide +kernel)⟩⟩
  rcases List.mem_cons.mp hd with hd | hd
  ·subst hd;exact⟨_,_,⟨fun_mk (st:=(top 46)) l43 c43 k43,(fun_mk (st:=(top 46)) l43 c43 k43).binds (ps:=["_law_written_here"]) fun _ _ _ _ _ _ us hl=>by obtain⟨_,rfl⟩:=ln1 hl;rfl,fun _=>mg_of X G a43,fun h=>absurd h (by decide +kernel)⟩⟩
  rcases List.mem_cons.mp hd with hd | hd
  ·subst hd;exact⟨_,_,⟨fun_mk (st:=(top 47)) l44 c44 k44,(fun_mk (st:=(top 47)) l44 c44 k44).binds (ps:=["_law_tree","_law_told"]) fun _ _ _ _ _ _ us hl=>by obtain⟨_,_,rfl⟩:=ln2 hl;rfl,fun _=>mg_of X G a44,fun h=>absurd h (by decide +kernel)⟩⟩
  rcases List.mem_cons.mp hd with hd | hd
  ·subst hd;exact⟨_,_,⟨fun_mk (st:=(top 48)) l45 c45 k45,(fun_mk (st:=(top 48)) l45 c45 k45).binds (ps:=["_law_script"]) fun _ _ _ _ _ _ us hl=>by obtain⟨_,rfl⟩:=ln1 hl;rfl,fun _=>mg_of X G a45,fun h=>absurd h (by decide +kernel)⟩⟩
  cases hd
 ·unfold Gv at hv
  by_cases e:x=("COMPARISONS":Str)
  ·rw [if_pos e] at hv;subst e;cases hv;exact .plain (glob_strs ["=","!=","<","<=",">",">="] (mg_of X G glb0) glt0 (by show 6≤sizeLine;decide) (.cons ⟨_,rfl⟩ (.cons ⟨_,rfl⟩ (.cons ⟨_,rfl⟩ (.cons ⟨_,rfl⟩ (.cons ⟨_,rfl⟩ (.cons ⟨_,rfl⟩ (.nil)))))))) rfl
  rw [if_neg e] at hv;clear e
  by_cases e:x=("FIGURES":Str)
  ·rw [if_pos e] at hv;subst e;cases hv;exact .plain ⟨_,.str "0123456789",mg_of X G glb1,by first | exact rfl | exact⟨_,rfl⟩,fun _ _=>rfl⟩ rfl
  rw [if_neg e] at hv;clear e
  by_cases e:x=("IS_LEVEL":Str)
  ·rw [if_pos e] at hv;subst e;cases hv;exact .plain ⟨_,.int 4,mg_of X G glb2,by first | exact rfl | exact⟨_,rfl⟩,fun _ _=>rfl⟩ rfl
  rw [if_neg e] at hv;clear e
  by_cases e:x=("KINDS":Str)
  ·rw [if_pos e] at hv;subst e;cases hv;exact GlobOk2.tab rfl ⟨_,_,_,_,mg_of X G glb3,glt3,⟨rfl,rfl,rfl⟩,rfl,⟨⟨_,rfl⟩,gq3_0,⟨.str "or",⟨_,rfl⟩,fun _ _ _=>rfl⟩,⟨⟨_,rfl⟩,gq3_1,⟨.str "and",⟨_,rfl⟩,fun _ _ _=>rfl⟩,⟨⟨_,rfl⟩,gq3_2,⟨.str "plus",⟨_,rfl⟩,fun _ _ _=>rfl⟩,⟨⟨_,rfl⟩,gq3_3,⟨.str "minus",⟨_,rfl⟩,fun _ _ _=>rfl⟩,⟨⟨_,rfl⟩,gq3_4,⟨.str "times",⟨_,rfl⟩,fun _ _ _=>rfl⟩,trivial⟩⟩⟩⟩⟩,by decide +kernel⟩
  rw [if_neg e] at hv;clear e
  by_cases e:x=("LETTERS":Str)
  ·rw [if_pos e] at hv;subst e;cases hv;exact .plain ⟨_,.str "abcdefghijklmnopqrstuvwxyz",mg_of X G glb4,by first | exact rfl | exact⟨_,rfl⟩,fun _ _=>rfl⟩ rfl
  rw [if_neg e] at hv;clear e
  by_cases e:x=("MARK_LEVELS":Str)
  ·rw [if_pos e] at hv;subst e;cases hv;exact GlobOk2.tab rfl ⟨_,_,_,_,mg_of X G glb5,glt5,⟨rfl,rfl,rfl⟩,rfl,⟨⟨_,rfl⟩,gq5_0,⟨.int 0,⟨_,rfl⟩,fun _ _ _=>rfl⟩,⟨⟨_,rfl⟩,gq5_1,⟨.int 0,⟨_,rfl⟩,fun _ _ _=>rfl⟩,⟨⟨_,rfl⟩,gq5_2,⟨.int 1,⟨_,rfl⟩,fun _ _ _=>rfl⟩,⟨⟨_,rfl⟩,gq5_3,⟨.int 2,⟨_,rfl⟩,fun _ _ _=>rfl⟩,⟨⟨_,rfl⟩,gq5_4,⟨.int 3,⟨_,rfl⟩,fun _ _ _=>rfl⟩,⟨⟨_,rfl⟩,gq5_5,⟨.int 4,⟨_,rfl⟩,fun _ _ _=>rfl⟩,⟨⟨_,rfl⟩,gq5_6,⟨.int 4,⟨_,rfl⟩,fun _ _ _=>rfl⟩,⟨⟨_,rfl⟩,gq5_7,⟨.int 4,⟨_,rfl⟩,fun _ _ _=>rfl⟩,⟨⟨_,rfl⟩,gq5_8,⟨.int 4,⟨_,rfl⟩,fun _ _ _=>rfl⟩,⟨⟨_,rfl⟩,gq5_9,⟨.int 4,⟨_,rfl⟩,fun _ _ _=>rfl⟩,⟨⟨_,rfl⟩,gq5_10,⟨.int 4,⟨_,rfl⟩,fun _ _ _=>rfl⟩,⟨⟨_,rfl⟩,gq5_11,⟨.int 5,⟨_,rfl⟩,fun _ _ _=>rfl⟩,⟨⟨_,rfl⟩,gq5_12,⟨.int 5,⟨_,rfl⟩,fun _ _ _=>rfl⟩,⟨⟨_,rfl⟩,gq5_13,⟨.int 6,⟨_,rfl⟩,fun _ _ _=>rfl⟩,trivial⟩⟩⟩⟩⟩⟩⟩⟩⟩⟩⟩⟩⟩⟩,by decide +kernel⟩
  rw [if_neg e] at hv;clear e
  by_cases e:x=("MOST_FIGURES":Str)
  ·rw [if_pos e] at hv;subst e;cases hv;exact .plain ⟨_,.int 3,mg_of X G glb6,by first | exact rfl | exact⟨_,rfl⟩,fun _ _=>rfl⟩ rfl
  rw [if_neg e] at hv;clear e
  by_cases e:x=("MOST_LETTERS":Str)
  ·rw [if_pos e] at hv;subst e;cases hv;exact .plain ⟨_,.int 10,mg_of X G glb7,by first | exact rfl | exact⟨_,rfl⟩,fun _ _=>rfl⟩ rfl
  rw [if_neg e] at hv;clear e
  by_cases e:x=("OR_LEVEL":Str)
  ·rw [if_pos e] at hv;subst e;cases hv;exact .plain ⟨_,.int 1,mg_of X G glb8,by first | exact rfl | exact⟨_,rfl⟩,fun _ _=>rfl⟩ rfl
  rw [if_neg e] at hv;clear e
  by_cases e:x=("PLUS_LEVEL":Str)
  ·rw [if_pos e] at hv;subst e;cases hv;exact .plain ⟨_,.int 5,mg_of X G glb9,by first | exact rfl | exact⟨_,rfl⟩,fun _ _=>rfl⟩ rfl
  rw [if_neg e] at hv;clear e
  by_cases e:x=("SIGNS":Str)
  ·rw [if_pos e] at hv;subst e;cases hv;exact GlobOk2.tab rfl ⟨_,_,_,_,mg_of X G glb10,glt10,⟨rfl,rfl,rfl⟩,rfl,⟨⟨_,rfl⟩,gq10_0,⟨.str "or",⟨_,rfl⟩,fun _ _ _=>rfl⟩,⟨⟨_,rfl⟩,gq10_1,⟨.str "and",⟨_,rfl⟩,fun _ _ _=>rfl⟩,⟨⟨_,rfl⟩,gq10_2,⟨.str "+",⟨_,rfl⟩,fun _ _ _=>rfl⟩,⟨⟨_,rfl⟩,gq10_3,⟨.str "-",⟨_,rfl⟩,fun _ _ _=>rfl⟩,⟨⟨_,rfl⟩,gq10_4,⟨.str "*",⟨_,rfl⟩,fun _ _ _=>rfl⟩,trivial⟩⟩⟩⟩⟩,by decide +kernel⟩
  rw [if_neg e] at hv;clear e
  by_cases e:x=("SUM_KINDS":Str)
  ·rw [if_pos e] at hv;subst e;cases hv;exact .plain (glob_strs ["number","name","plus","minus","times"] (mg_of X G glb11) glt11 (by show 5≤sizeLine;decide) (.cons ⟨_,rfl⟩ (.cons ⟨_,rfl⟩ (.cons ⟨_,rfl⟩ (.cons ⟨_,rfl⟩ (.cons ⟨_,rfl⟩ (.nil))))))) rfl
  rw [if_neg e] at hv;clear e
  by_cases e:x=("TREE_LEVELS":Str)
  ·rw [if_pos e] at hv;subst e;cases hv;exact GlobOk2.tab rfl ⟨_,_,_,_,mg_of X G glb12,glt12,⟨rfl,rfl,rfl⟩,rfl,⟨⟨_,rfl⟩,gq12_0,⟨.int 1,⟨_,rfl⟩,fun _ _ _=>rfl⟩,⟨⟨_,rfl⟩,gq12_1,⟨.int 2,⟨_,rfl⟩,fun _ _ _=>rfl⟩,⟨⟨_,rfl⟩,gq12_2,⟨.int 3,⟨_,rfl⟩,fun _ _ _=>rfl⟩,⟨⟨_,rfl⟩,gq12_3,⟨.int 4,⟨_,rfl⟩,fun _ _ _=>rfl⟩,⟨⟨_,rfl⟩,gq12_4,⟨.int 4,⟨_,rfl⟩,fun _ _ _=>rfl⟩,⟨⟨_,rfl⟩,gq12_5,⟨.int 5,⟨_,rfl⟩,fun _ _ _=>rfl⟩,⟨⟨_,rfl⟩,gq12_6,⟨.int 5,⟨_,rfl⟩,fun _ _ _=>rfl⟩,⟨⟨_,rfl⟩,gq12_7,⟨.int 6,⟨_,rfl⟩,fun _ _ _=>rfl⟩,⟨⟨_,rfl⟩,gq12_8,⟨.int 7,⟨_,rfl⟩,fun _ _ _=>rfl⟩,⟨⟨_,rfl⟩,gq12_9,⟨.int 7,⟨_,rfl⟩,fun _ _ _=>rfl⟩,trivial⟩⟩⟩⟩⟩⟩⟩⟩⟩⟩,by decide +kernel⟩
  rw [if_neg e] at hv;clear e
  by_cases e:x=("WORDS":Str)
  ·rw [if_pos e] at hv;subst e;cases hv;exact .plain (glob_strs ["or","and","not","true"] (mg_of X G glb13) glt13 (by show 4≤sizeLine;decide) (.cons ⟨_,rfl⟩ (.cons ⟨_,rfl⟩ (.cons ⟨_,rfl⟩ (.cons ⟨_,rfl⟩ (.nil)))))) rfl
  rw [if_neg e] at hv;clear e
  cases hv
 ·obtain⟨x,hx,e⟩:=List.any_eq_true.mp hc
  rw [Bool.and_eq_true] at e
  have e1:=of_decide_eq_true e.1
  have e2:f ∈ x.2:=by simpa using e.2
  subst e1
  rcases List.mem_cons.mp hx with hx | hx
  ·subst hx
   simp only [List.mem_cons,List.not_mem_nil,or_false] at e2
   rcases e2 with rfl | rfl | rfl | rfl | rfl | rfl
   ·exact⟨_,ca0,⟨cb0,cc0,cd0',ce0⟩,na0_0⟩
   ·exact⟨_,ca0,⟨cb0,cc0,cd0',ce0⟩,na0_1⟩
   ·exact⟨_,ca0,⟨cb0,cc0,cd0',ce0⟩,na0_2⟩
   ·exact⟨_,ca0,⟨cb0,cc0,cd0',ce0⟩,na0_3⟩
   ·exact⟨_,ca0,⟨cb0,cc0,cd0',ce0⟩,na0_4⟩
   ·exact⟨_,ca0,⟨cb0,cc0,cd0',ce0⟩,na0_5⟩
  cases hx
end My
namespace My
open PySem L2 Ev
noncomputable def txt (cs:List Nat):Str:=⟨cs.toArray⟩
noncomputable def RK:List Str:=["text","spot","sought","wanted","trees","marks"]
noncomputable def St (so:Str) (cs:List Nat) (i:Nat) (w:Str) (ts:List P) (ms:List Str):Sto:=
 [.ins "Reader" RK [.p (.str (txt cs)),.p (.int (i:Int)),.p (.str so),.p (.str w),.ref 1,.ref 2],.lst (ts.map .p),.lst (ms.map fun m=>.p (.str m))]
section
variable (a b c d e f:D) (y:D) (ψ:Str->GF)
@[simp] theorem lk1:lookF "text" RK [a,b,c,d,e,f]=some a:=by kernel_rfl
@[simp] theorem lk2:lookF "spot" RK [a,b,c,d,e,f]=some b:=by kernel_rfl
@[simp] theorem lk3:lookF "sought" RK [a,b,c,d,e,f]=some c:=by kernel_rfl
@[simp] theorem lk4:lookF "wanted" RK [a,b,c,d,e,f]=some d:=by kernel_rfl
@[simp] theorem lk5:lookF "trees" RK [a,b,c,d,e,f]=some e:=by kernel_rfl
@[simp] theorem lk6:lookF "marks" RK [a,b,c,d,e,f]=some f:=by kernel_rfl
@[simp] theorem pk2:putK "spot" RK=RK:=by kernel_rfl
@[simp] theorem pk4:putK "wanted" RK=RK:=by kernel_rfl
@[simp] theorem pd2:putD "spot" y RK [a,b,c,d,e,f]=[a,y,c,d,e,f]:=by kernel_rfl
@[simp] theorem pd4:putD "wanted" y RK [a,b,c,d,e,f]=[a,b,c,y,e,f]:=by kernel_rfl
@[simp] theorem rkl:RK.length=6:=rfl
@[simp] theorem at1:aT Att "Reader" "text"=true:=by kernel_rfl
@[simp] theorem at2:aT Att "Reader" "spot"=true:=by kernel_rfl
@[simp] theorem at3:aT Att "Reader" "sought"=true:=by kernel_rfl
@[simp] theorem at4:aT Att "Reader" "wanted"=true:=by kernel_rfl
@[simp] theorem at5:aT Att "Reader" "trees"=true:=by kernel_rfl
@[simp] theorem at6:aT Att "Reader" "marks"=true:=by kernel_rfl
@[simp] theorem mt1:mT Tb ψ "Reader" "run_of"=some (ψ "Reader.run_of"):=by kernel_rfl
@[simp] theorem mt2:mT Tb ψ "Reader" "skip_blanks"=some (ψ "Reader.skip_blanks"):=by kernel_rfl
@[simp] theorem mt3:mT Tb ψ "Reader" "fold"=some (ψ "Reader.fold"):=by kernel_rfl
@[simp] theorem mt4:mT Tb ψ "Reader" "has_sum"=some (ψ "Reader.has_sum"):=by kernel_rfl
@[simp] theorem mt5:mT Tb ψ "Reader" "last_mark"=some (ψ "Reader.last_mark"):=by kernel_rfl
@[simp] theorem mt6:mT Tb ψ "Reader" "read_end"=some (ψ "Reader.read_end"):=by kernel_rfl
@[simp] theorem mt7:mT Tb ψ "Reader" "touches"=some (ψ "Reader.touches"):=by kernel_rfl
@[simp] theorem mt8:mT Tb ψ "Reader" "keep"=some (ψ "Reader.keep"):=by kernel_rfl
@[simp] theorem mt9:mT Tb ψ "Reader" "read_number"=some (ψ "Reader.read_number"):=by kernel_rfl
@[simp] theorem mt10:mT Tb ψ "Reader" "push"=some (ψ "Reader.push"):=by kernel_rfl
@[simp] theorem mt11:mT Tb ψ "Reader" "read_letters"=some (ψ "Reader.read_letters"):=by kernel_rfl
@[simp] theorem mt12:mT Tb ψ "Reader" "read_beginning"=some (ψ "Reader.read_beginning"):=by kernel_rfl
@[simp] theorem mt13:mT Tb ψ "Reader" "read_sign"=some (ψ "Reader.read_sign"):=by kernel_rfl
@[simp] theorem mt14:mT Tb ψ "Reader" "read_round_end"=some (ψ "Reader.read_round_end"):=by kernel_rfl
@[simp] theorem mt15:mT Tb ψ "Reader" "read_behind"=some (ψ "Reader.read_behind"):=by kernel_rfl
@[simp] theorem mt16:mT Tb ψ "Reader" "read"=some (ψ "Reader.read"):=by kernel_rfl
@[simp] theorem mt17:mT Tb ψ "Reader" "read_comparison"=some (ψ "Reader.read_comparison"):=by kernel_rfl
@[simp] theorem mt18:mT Tb ψ "Reader" "read_joint"=some (ψ "Reader.read_joint"):=by kernel_rfl
@[simp] theorem mt19:mT Tb ψ "Reader" "read_square_end"=some (ψ "Reader.read_square_end"):=by kernel_rfl
@[simp] theorem rc17:("read_comparison":Str) ∈ RK↔False:=by simp only [iff_false];decide +kernel
@[simp] theorem rc18:("read_joint":Str) ∈ RK↔False:=by simp only [iff_false];decide +kernel
@[simp] theorem rc19:("read_square_end":Str) ∈ RK↔False:=by simp only [iff_false];decide +kernel
@[simp] theorem rc1:("run_of":Str) ∈ RK↔False:=by simp only [iff_false];decide +kernel
@[simp] theorem rc2:("skip_blanks":Str) ∈ RK↔False:=by simp only [iff_false];decide +kernel
@[simp] theorem rc3:("fold":Str) ∈ RK↔False:=by simp only [iff_false];decide +kernel
@[simp] theorem rc4:("has_sum":Str) ∈ RK↔False:=by simp only [iff_false];decide +kernel
@[simp] theorem rc5:("last_mark":Str) ∈ RK↔False:=by simp only [iff_false];decide +kernel
@[simp] theorem rc6:("read_end":Str) ∈ RK↔False:=by simp only [iff_false];decide +kernel
@[simp] theorem rc7:("touches":Str) ∈ RK↔False:=by simp only [iff_false];decide +kernel
@[simp] theorem rc8:("keep":Str) ∈ RK↔False:=by simp only [iff_false];decide +kernel
@[simp] theorem rc9:("read_number":Str) ∈ RK↔False:=by simp only [iff_false];decide +kernel
@[simp] theorem rc10:("push":Str) ∈ RK↔False:=by simp only [iff_false];decide +kernel
@[simp] theorem rc11:("read_letters":Str) ∈ RK↔False:=by simp only [iff_false];decide +kernel
@[simp] theorem rc12:("read_beginning":Str) ∈ RK↔False:=by simp only [iff_false];decide +kernel
@[simp] theorem rc13:("read_sign":Str) ∈ RK↔False:=by simp only [iff_false];decide +kernel
@[simp] theorem rc14:("read_round_end":Str) ∈ RK↔False:=by simp only [iff_false];decide +kernel
@[simp] theorem rc15:("read_behind":Str) ∈ RK↔False:=by simp only [iff_false];decide +kernel
@[simp] theorem rc16:("read":Str) ∈ RK↔False:=by simp only [iff_false];decide +kernel
end
@[simp] theorem atI_last {α:Type} (xs:List α) (x:α):L2.atI (xs++[x]) (-1)=some x:=by
 have h:L2.ixN (xs++[x]).length (-1)=some xs.length:=by
  unfold L2.ixN
  rw [if_neg (by decide)]
  rw [List.length_append,List.length_singleton]
  first
   | (rw [if_pos (by lia)];congr 1;lia)
   | simp
 unfold L2.atI
 rw [h]
 simp
variable {so w:Str}{cs:List Nat}{i:Nat}{ts:List P}{ms:List Str}
theorem push_ok {n:Nat} (hn:2≤n) (m w':Str) (hm:ms.length≤1000) (hl:m.length≤1000000):Psi Gv Att Tb n "Reader.push" [.ref 0,.p (.str m),.p (.str w')] (St so cs i w ts ms)=some (.p .non,St so cs (i+m.length) w' ts (ms++[m])):=by
 obtain⟨n,rfl⟩:=ex2 (n:=n) (by first | assumption | lia)
 have h1:ms.length≤1000000:=by lia
 rw [e_n_Reader_push]
 simp [fnR,b_n_Reader_push,St,ownL,h1,lenD,lenP,hl]
theorem keep_ok {n:Nat} (hn:2≤n) (t:P) (k:Nat) (hm:ts.length≤1000):Psi Gv Att Tb n "Reader.keep" [.ref 0,.p t,.p (.int (k:Int))] (St so cs i w ts ms)=some (.p .non,St so cs (i+k) "" (ts++[t]) ms):=by
 obtain⟨n,rfl⟩:=ex2 (n:=n) (by first | assumption | lia)
 have h1:ts.length≤1000000:=by lia
 rw [e_n_Reader_keep]
 simp [fnR,b_n_Reader_keep,St,ownL,h1]
theorem last_nil {n:Nat} (hn:2≤n):Psi Gv Att Tb n "Reader.last_mark" [.ref 0] (St so cs i w ts [])=some (.p (.str ""),St so cs i w ts []):=by
 obtain⟨n,rfl⟩:=ex2 (n:=n) (by first | assumption | lia)
 rw [e_n_Reader_last_mark]
 simp [fnR,b_n_Reader_last_mark,St,truD]
theorem last_some {n:Nat} (hn:2≤n) (m:Str):Psi Gv Att Tb n "Reader.last_mark" [.ref 0] (St so cs i w ts (ms++[m]))=some (.p (.str m),St so cs i w ts (ms++[m])):=by
 obtain⟨n,rfl⟩:=ex2 (n:=n) (by first | assumption | lia)
 rw [e_n_Reader_last_mark]
 simp [fnR,b_n_Reader_last_mark,St,truD]
inductive Mk where
 | lp | lb | or | an | no | eq | ne | lt | le | gt | ge | pl | mi | ti
noncomputable def Mk.s:Mk->Str
 | .lp=>"("
 | .lb=>"["
 | .or=>"or"
 | .an=>"and"
 | .no=>"not"
 | .eq=>"="
 | .ne=>"!="
 | .lt=>"<"
 | .le=>"<="
 | .gt=>">"
 | .ge=>">="
 | .pl=>"+"
 | .mi=>"-"
 | .ti=>"*"
noncomputable def Mk.l:Mk->Nat
 | .lp | .lb=>0
 | .or=>1
 | .an=>2
 | .no=>3
 | .eq | .ne | .lt | .le | .gt | .ge=>4
 | .pl | .mi=>5
 | .ti=>6
noncomputable def Mk.k:Mk->Str
 | .lp | .lb=>""
 | .or=>"or"
 | .an=>"and"
 | .no=>"not"
 | .eq | .ne | .lt | .le | .gt | .ge=>"is"
 | .pl=>"plus"
 | .mi=>"minus"
 | .ti=>"times"
noncomputable def Mk.f (m:Mk) (e o:P):P:=if m.l=4 then .tup [.str "is",.str m.s,e,o] else .tup [.str m.k,e,o]
noncomputable def Mk.two (m:Mk):Bool:=!(m.l == 0 || m.l == 3)
noncomputable def ops:List Mk->Nat
 | []=>0
 | m::r=>ops r+(if m.two then 1 else 0)
noncomputable def foldR (l:Nat):List Mk->List P->List Mk×List P
 | m::ms,o::ts=>if l≤m.l then (if m.l=3 then foldR l ms (.tup [.str "not",o]::ts) else match ts with
   | e::ts=>foldR l ms (m.f e o::ts)
   | []=>(m::ms,[o])) else (m::ms,o::ts)
 | ms,ts=>(ms,ts)
noncomputable def Sr (so:Str) (cs:List Nat) (i:Nat) (w:Str) (s:List Mk×List P):Sto:=St so cs i w s.2.reverse (s.1.reverse.map Mk.s)
theorem lkL (m:Mk):List.lookup m.s [(("(":Str),P.int 0),("[",.int 0),("or",.int 1),("and",.int 2),("not",.int 3),("=",.int 4),("!=",.int 4),("<",.int 4),("<=",.int 4),(">",.int 4),(">=",.int 4),("+",.int 5),("-",.int 5),("*",.int 6)]=some (.int (m.l:Int)):=by cases m <;> kernel_rfl
theorem lkK {m:Mk} (h:m.two=true) (h4:m.l≠4):List.lookup m.s [(("or":Str),P.str "or"),("and",.str "and"),("+",.str "plus"),("-",.str "minus"),("*",.str "times")]=some (.str m.k):=by cases m <;> first | exact absurd rfl h4 | exact absurd h (by decide) | kernel_rfl
theorem mk_not {m:Mk} (h:m.l≠3):¬m.s=("not":Str):=by cases m <;> first | exact absurd rfl h | decide +kernel
theorem mk_no {m:Mk} (h:m.l=3):m=.no:=by cases m <;> first | rfl | exact absurd h (by decide)
theorem mk_cmp (m:Mk) (S:Sto):gIn (.p (.str m.s)) (.p (.tup [.str "=",.str "!=",.str "<",.str "<=",.str ">",.str ">="])) S=some (.bl (decide (m.l=4))):=by cases m <;> kernel_rfl
theorem whileGo_ct {c:EB}{b:ES}{n:Nat}{L L2:Lc}{S S1 S2:Sto} (h1:c L S=some (true,S1)) (h2:b L S1=some (.ct,L2,S2)):whileGo c b (n+1) L S=whileGo c b n L2 S2:=by
 simp [whileGo,h1,h2]
theorem fold_go (ψ ι:Str->GF) (l:Nat) (hl:1≤l):∀(ms:List Mk) (ts:List P) (f:Nat) (q2 q3 q4:Option D),ops ms < ts.length->ms.length < f->ts.length≤1000 ->
  ∃q2' q3' q4',whileGo (bAnd (bT (eFld (aT Att) (eVar 0) "marks")) (bV (vOp dGe (vTab [("(",.int 0),("[",.int 0),("or",.int 1),("and",.int 2),("not",.int 3),("=",.int 4),("!=",.int 4),("<",.int 4),("<=",.int 4),(">",.int 4),(">=",.int 4),("+",.int 5),("-",.int 5),("*",.int 6)] (vE (eIx (eFld (aT Att) (eVar 0) "marks") (vUn dNeg (vC (.int 1)))))) (vE (eVar 1))))) (b_n_Reader_fold_L1 ψ ι) f
   [some (.ref 0),some (.p (.int (l:Int))),q2,q3,q4] (Sr so cs i w (ms,ts))=some (.nx,[some (.ref 0),some (.p (.int (l:Int))),q2',q3',q4'],Sr so cs i w (foldR l ms ts))
 | ms,ts,0,q2,q3,q4,_,h,_=>by lia
 | [],ts,f+1,q2,q3,q4,_,_,_=>by
  refine⟨q2,q3,q4,?_⟩
  rw [whileGo_end (S1:=Sr so cs i w ([],ts)) (by simp [Sr,St,truD])]
  cases ts <;> rfl
 | m::ms,ts,f+1,q2,q3,q4,ho,hf,ht=>by
  by_cases hm:l≤m.l
  ·have hge:(l:Int)≤(m.l:Int):=by lia
   have k1:=lkL m
   by_cases h3:m.l=3
   ·have:=mk_no h3
    subst this
    match ts,ho,ht with
    | [],ho,_=>simp at ho
    | o::ts,ho,ht=>
     have hop:ops (.no::ms)=ops ms:=rfl
     rw [hop] at ho
     simp only [List.length_cons] at ho ht hf
     obtain⟨q2',q3',q4',e1⟩:=fold_go ψ ι l hl ms (.tup [.str "not",o]::ts) f (some (.p (.str Mk.no.s))) (some (.p o)) q4 (by simpa using ho) (by lia) (by simpa using ht)
     refine⟨q2',q3',q4',?_⟩
     rw [show foldR l (.no::ms) (o::ts)=foldR l ms (.tup [.str "not",o]::ts) by simp only [foldR];rw [if_pos hm,if_pos h3],<- e1]
     have hlt:ts.length≤1000000:=by lia
     have k3:Mk.no.s=("not":Str):=rfl
     refine whileGo_ct (S1:=Sr so cs i w (.no::ms,o::ts)) ?_ ?_
     ·simp [Sr,St,truD,k1,hge,hm]
     ·simp [b_n_Reader_fold_L1,Sr,St,ownL,k3,hlt]
   ·have h0:m.two=true:=by
     have:m.l≠0:=by lia
     simp [Mk.two,this,h3]
    have hop:ops (m::ms)=ops ms+1:=by simp [ops,h0]
    rw [hop] at ho
    match ts,ho,ht with
    | [o],ho,_=>simp at ho
    | [],ho,_=>simp at ho
    | o::e::ts,ho,ht=>
     simp only [List.length_cons] at ho ht hf
     obtain⟨q2',q3',q4',e1⟩:=fold_go ψ ι l hl ms (m.f e o::ts) f (some (.p (.str m.s))) (some (.p o)) (some (.p e)) (by simp;lia) (by lia) (by simp;lia)
     refine⟨q2',q3',q4',?_⟩
     rw [show foldR l (m::ms) (o::e::ts)=foldR l ms (m.f e o::ts) by simp only [foldR];rw [if_pos hm,if_neg h3],<- e1]
     have hlt:ts.length≤1000000:=by lia
     have k3:=mk_not h3
     have k4:=mk_cmp m
     refine whileGo_nx (S1:=Sr so cs i w (m::ms,o::e::ts)) ?_ ?_
     ·simp [Sr,St,truD,k1,hge,hm]
     ·by_cases h4:m.l=4
      ·simp only [h4,decide_true] at k4
       simp [b_n_Reader_fold_L1,Sr,St,ownL,k3,k4,hlt,Mk.f,h4]
      ·simp only [h4,decide_false] at k4
       have k2:=lkK h0 h4
       simp [b_n_Reader_fold_L1,Sr,St,ownL,k2,k3,k4,hlt,Mk.f,h4]
  ·refine⟨q2,q3,q4,?_⟩
   have k1:=lkL m
   have hge:¬(l:Int)≤(m.l:Int):=by lia
   rw [whileGo_end (S1:=Sr so cs i w (m::ms,ts)) (by simp [Sr,St,truD,k1,hge,hm])]
   match ts with
   | []=>rfl
   | o::ts=>simp [foldR,hm]
theorem fold_ok {n:Nat} (hn:2≤n) (l:Nat) (hl:1≤l) (ms:List Mk) (ts:List P) (ho:ops ms < ts.length) (hm:ms.length < 1000) (ht:ts.length≤1000):Psi Gv Att Tb n "Reader.fold" [.ref 0,.p (.int (l:Int))] (Sr so cs i w (ms,ts))=some (.p .non,Sr so cs i w (foldR l ms ts)):=by
 obtain⟨n,rfl⟩:=ex2 (n:=n) (by first | assumption | lia)
 obtain⟨q2,q3,q4,e⟩:=fold_go (so:=so) (cs:=cs) (i:=i) (w:=w) (Psi Gv Att Tb (n+1)) (Psi Gv Att Tb n) l hl ms ts 1000 none none none ho hm ht
 rw [e_n_Reader_fold]
 unfold fnR b_n_Reader_fold sWhile
 simp only [List.length_cons,List.length_nil,List.map_cons,List.map_nil,List.cons_append,List.nil_append,Nat.reduceSub,List.replicate,Nat.reduceAdd,if_true]
 rw [e]
end My
namespace My
open PySem L2 Ev
variable {so w:Str}{cs:List Nat}{i:Nat}{ts:List P}{ms:List Str}
noncomputable def inS (c:Nat) (y:Str):Bool:=!(Builtin.Str.occurrences y ⟨#[c]⟩ 0 y.length 1).isEmpty
theorem gIn_c (c:Nat) (y:Str) (S:Sto):gIn (.p (.str ⟨#[c]⟩)) (.p (.str y)) S=some (.bl (inS c y)):=rfl
@[simp] theorem txt_len (cs:List Nat):(txt cs).length=cs.length:=by simp [txt,Str.length]
@[simp] theorem txt_list (cs:List Nat):(txt cs).cps.toList=cs:=by simp [txt]
theorem atI_mid {α:Type} (pre:List α) (c:α) (r:List α):L2.atI (pre++c::r) (pre.length:Int)=some c:=atI_nat' (by lia) (by simp)
theorem dIx_txt {cs:List Nat}{k:Int}{c:Nat} (hc:cs.length≤1000000) (h:L2.atI cs k=some c):dIx (.str (txt cs)) (.int k)=some (.str ⟨#[c]⟩):=by
 simp only [dIx,txt_len,txt_list,h]
 rw [if_pos (by rw [capN_ev];exact hc)]
 rfl
theorem f_spot {L:Lc} (h:L[0]? = some (some (.ref 0))):eFld (aT Att) (eVar 0) "spot" L (St so cs i w ts ms)=some (.p (.int (i:Int)),St so cs i w ts ms):=by simp [h,St]
theorem f_text {L:Lc} (h:L[0]? = some (some (.ref 0))):eFld (aT Att) (eVar 0) "text" L (St so cs i w ts ms)=some (.p (.str (txt cs)),St so cs i w ts ms):=by simp [h,St]
theorem run_go (ψ ι:Str->GF) (y:Str) (hcap:cs.length≤1000000):∀(run pre post:List Nat) (f:Nat),cs=pre++(run++post)->(∀c ∈ run,inS c y=true)->(∀c r,post=c::r->inS c y=false)->run.length < f ->
  whileGo (bAnd (bV (vOp dLt (vE (eVar 2)) (vLen (eFld (aT Att) (eVar 0) "text")))) (bV (vOpE gIn (eIx (eFld (aT Att) (eVar 0) "text") (vE (eVar 2))) (eVar 1)))) (b_n_Reader_run_of_L1 ψ ι) f
   [some (.ref 0),some (.p (.str y)),some (.p (.int (pre.length:Int)))] (St so cs i w ts ms)=some (.nx,[some (.ref 0),some (.p (.str y)),some (.p (.int ((pre.length+run.length:Nat):Int)))],St so cs i w ts ms)
 | run,pre,post,0,_,_,_,h=>by lia
 | [],pre,post,f+1,hc,_,hp,_=>by
  cases post with
  | nil=>
   have hl:cs.length=pre.length:=by rw [hc];simp
   have hcap':pre.length≤1000000:=by lia
   rw [whileGo_end (S1:=St so cs i w ts ms) (by simp [St,lenD,lenP,hcap,hl,hcap'])]
   simp
  | cons c r=>
   have hl:pre.length < cs.length:=by rw [hc];simp
   have hl':(pre.length:Int) < (cs.length:Int):=by lia
   have hx:L2.atI cs (pre.length:Int)=some c:=by rw [hc];exact atI_mid pre c r
   have hd:=dIx_txt hcap hx
   have hn:=hp c r rfl
   rw [whileGo_end (S1:=St so cs i w ts ms) (by simp [St,lenD,lenP,hcap,hl,hl',hd,gIn_c,hn])]
   simp
 | c::run,pre,post,f+1,hc,hr,hp,hf=>by
  have e:=run_go ψ ι y hcap run (pre++[c]) post f (by rw [hc];simp) (fun x hx=>hr x (List.mem_cons_of_mem _ hx)) hp (by simp at hf;lia)
  have hl:pre.length < cs.length:=by rw [hc];simp
  have hl':(pre.length:Int) < (cs.length:Int):=by lia
  have hx:L2.atI cs (pre.length:Int)=some c:=by rw [hc];exact atI_mid pre c _
  have hd:=dIx_txt hcap hx
  have hn:=hr c List.mem_cons_self
  rw [whileGo_nx (S1:=St so cs i w ts ms) (L2:=[some (.ref 0),some (.p (.str y)),some (.p (.int ((pre++[c]).length:Int)))]) (S2:=St so cs i w ts ms) (by simp [St,lenD,lenP,hcap,hl,hl',hd,gIn_c,hn]) (by simp [b_n_Reader_run_of_L1])]
  rw [e]
  simp
  lia
theorem slice_mid (pre run post:List Nat):Txt.slice (txt (pre++(run++post))) (some (pre.length:Int)) (some ((pre.length+run.length:Nat):Int))=txt run:=by
 have h:=PySem.StrLaws.sliceText_plain (x:=txt (pre++(run++post))) (i:=(pre.length:Int)) (j:=((pre.length+run.length:Nat):Int)) ⟨by lia,by lia,by simp;lia⟩
 have e:Txt.slice (txt (pre++(run++post))) (some (pre.length:Int)) (some ((pre.length+run.length:Nat):Int))=PySem.StrLaws.sliceText (txt (pre++(run++post))) (some (pre.length:Int)) (some ((pre.length+run.length:Nat):Int)):=rfl
 rw [e,h]
 have e1:((pre.length:Int)).toNat=pre.length:=by lia
 have e2:(((pre.length+run.length:Nat):Int)-(pre.length:Int)).toNat=run.length:=by lia
 rw [e1,e2]
 simp [txt]
theorem run_ok {n:Nat} (hn:2≤n) (y:Str) (pre run post:List Nat) (hcap:(pre++(run++post)).length≤1000000) (hr:∀c ∈ run,inS c y=true) (hp:∀c r,post=c::r->inS c y=false) (hf:run.length < 1000) :
  Psi Gv Att Tb n "Reader.run_of" [.ref 0,.p (.str y)] (St so (pre++(run++post)) pre.length w ts ms)=some (.p (.str (txt run)),St so (pre++(run++post)) pre.length w ts ms):=by
 obtain⟨n,rfl⟩:=ex2 (n:=n) (by first | assumption | lia)
 have e:=run_go (so:=so) (w:=w) (i:=pre.length) (ts:=ts) (ms:=ms) (Psi Gv Att Tb (n+1)) (Psi Gv Att Tb n) y hcap run pre post 1000 rfl hr hp hf
 have es:=slice_mid pre run post
 rw [e_n_Reader_run_of]
 generalize hcs:pre++(run++post)=cs at *
 have hc2:cs.length≤1000000:=hcap
 have e0:=f_spot (so:=so) (cs:=cs) (i:=pre.length) (w:=w) (ts:=ts) (ms:=ms) (L:=[some (.ref 0),some (.p (.str y)),none]) rfl
 have e1:=f_spot (so:=so) (cs:=cs) (i:=pre.length) (w:=w) (ts:=ts) (ms:=ms) (L:=[some (.ref 0),some (.p (.str y)),some (.p (.int ((pre.length+run.length:Nat):Int)))]) rfl
 have e2:=f_text (so:=so) (cs:=cs) (i:=pre.length) (w:=w) (ts:=ts) (ms:=ms) (L:=[some (.ref 0),some (.p (.str y)),some (.p (.int ((pre.length+run.length:Nat):Int)))]) rfl
 have hd:dSl2 (.str (txt cs)) (some (pre.length:Int)) (some ((pre.length+run.length:Nat):Int))=some (.str (txt run)):=by
  simp only [dSl2,txt_len]
  rw [if_pos (by rw [capN_ev];exact hc2),es]
 simp only [fnR,b_n_Reader_run_of,sWhile,sSeq_ev,sSet_ev,sRet_ev,eV_ev,vSl2_ev,vE_ev,oSome,eVar_ev,List.length_cons,List.length_nil,List.map_cons,List.map_nil,List.cons_append,List.nil_append,Nat.reduceSub,List.replicate,Nat.reduceAdd,if_true,e0,bnd_some,List.set_cons_succ,List.set_cons_zero,e,e1,e2,toP_p,List.getElem?_cons_succ,List.getElem?_cons_zero,hd,Option.map_some]
theorem skip_ok {n:Nat} (hn:3≤n) (pre post:List Nat) (k:Nat) (hcap:(pre++(List.replicate k 32++post)).length≤1000000) (hp:∀c r,post=c::r->inS c " "=false) (hk:k < 1000) :
  Psi Gv Att Tb n "Reader.skip_blanks" [.ref 0] (St so (pre++(List.replicate k 32++post)) pre.length w ts ms)=some (.p .non,St so (pre++(List.replicate k 32++post)) (pre.length+k) w ts ms):=by
 obtain⟨n,rfl⟩:=ex2 (n:=n) (by first | assumption | lia)
 have e:=run_ok (so:=so) (w:=w) (ts:=ts) (ms:=ms) (n:=n+1) (by lia) " " pre (List.replicate k 32) post hcap (fun c hc=>by rw [(List.mem_replicate.mp hc).2];decide +kernel) hp (by simpa using hk)
 rw [e_n_Reader_skip_blanks]
 have hk2:k≤1000000:=by lia
 generalize pre++(List.replicate k 32++post)=cs at *
 simp only [St] at e
 simp [fnR,b_n_Reader_skip_blanks,St,e,lenD,lenP,hk2]
end My
namespace My
open PySem L2 Ev
variable {so w:Str}{cs:List Nat}{i:Nat}
inductive T where
 | num (n:Nat) | nam (c:List Nat) | bin (m:Mk) (l r:T)
noncomputable def T.p:T->P
 | .num n=>.tup [.str "number",.int (n:Int)]
 | .nam c=>.tup [.str "name",.str (txt c)]
 | .bin m l r=>m.f l.p r.p
noncomputable def SumP (t:P):Prop:=∃k r,t=.tup (.str k::r)/\∀S,gIn (.p (.str k)) (.p (.tup [.str "number",.str "name",.str "plus",.str "minus",.str "times"])) S=some (.bl true)
theorem sumP_bin {m:Mk} (hm:5≤m.l) (a b:P):SumP (m.f a b):=by
 have h4:¬m.l=4:=by lia
 exact⟨m.k,[a,b],by simp [Mk.f,h4],fun S=>by cases m <;> first | exact absurd hm (by decide) | kernel_rfl⟩
noncomputable def NoSum (t:P):Prop:=∃k r,t=.tup (.str k::r)/\∀S,gIn (.p (.str k)) (.p (.tup [.str "number",.str "name",.str "plus",.str "minus",.str "times"])) S=some (.bl false)
theorem noSum_true:NoSum (.tup [.str "true"]):=⟨_,_,rfl,fun S=>by kernel_rfl⟩
theorem noSum_not (a:P):NoSum (.tup [.str "not",a]):=⟨_,_,rfl,fun S=>by kernel_rfl⟩
theorem noSum_bin {m:Mk} (h1:1≤m.l) (h2:m.l≤4) (a b:P):NoSum (m.f a b):=by
 by_cases h4:m.l=4
 ·exact⟨"is",[.str m.s,a,b],by simp [Mk.f,h4],fun S=>by kernel_rfl⟩
 ·exact⟨m.k,[a,b],by simp [Mk.f,h4],fun S=>by cases m <;> first | exact absurd h1 (by decide) | exact absurd h2 (by decide) | exact absurd rfl h4 | kernel_rfl⟩
theorem sumP_num (n:Int):SumP (.tup [.str "number",.int n]):=⟨_,_,rfl,fun S=>by kernel_rfl⟩
theorem sumP_nam (x:Str):SumP (.tup [.str "name",.str x]):=⟨_,_,rfl,fun S=>by kernel_rfl⟩
theorem has_ok {n:Nat} (hn:2≤n) (ms:List Mk) (t:P) (ts:List P) (h:SumP t):Psi Gv Att Tb n "Reader.has_sum" [.ref 0] (Sr so cs i w (ms,t::ts))=some (.p (.bl true),Sr so cs i w (ms,t::ts)):=by
 obtain⟨n,rfl⟩:=ex2 (n:=n) (by first | assumption | lia)
 obtain⟨k,r,rfl,hk⟩:=h
 rw [e_n_Reader_has_sum]
 simp [fnR,b_n_Reader_has_sum,Sr,St,hk]
theorem has_no {n:Nat} (hn:2≤n) (ms:List Mk) (t:P) (ts:List P) (h:NoSum t):Psi Gv Att Tb n "Reader.has_sum" [.ref 0] (Sr so cs i w (ms,t::ts))=some (.p (.bl false),Sr so cs i w (ms,t::ts)):=by
 obtain⟨n,rfl⟩:=ex2 (n:=n) (by first | assumption | lia)
 obtain⟨k,r,rfl,hk⟩:=h
 rw [e_n_Reader_has_sum]
 simp [fnR,b_n_Reader_has_sum,Sr,St,hk]
theorem touch_no {n:Nat} (hn:2≤n) {ts:List P}{ms:List Str} (hcap:cs.length≤1000000) (h:i=0\/∃c,L2.atI cs ((i:Int)-1)=some c/\inS c ("abcdefghijklmnopqrstuvwxyz"++"0123456789")=false) :
  Psi Gv Att Tb n "Reader.touches" [.ref 0] (St so cs i w ts ms)=some (.p (.bl false),St so cs i w ts ms):=by
 obtain⟨n,rfl⟩:=ex2 (n:=n) (by first | assumption | lia)
 rw [e_n_Reader_touches]
 by_cases h0:i=0
 ·subst h0
  simp [fnR,b_n_Reader_touches,St]
 ·rcases h with h | ⟨c,h1,h2⟩
  ·exact absurd h h0
  ·have hd:=dIx_txt hcap h1
   have hp:(0:Int) < (i:Int):=by lia
   have hp2:0 < i:=by lia
   have ha:dAdd2 (.str ("abcdefghijklmnopqrstuvwxyz":Str)) (.str ("0123456789":Str))=some (.str ("abcdefghijklmnopqrstuvwxyz"++"0123456789")):=by kernel_rfl
   have hg:=fun S=>gIn_c c ("abcdefghijklmnopqrstuvwxyz"++"0123456789":Str) S
   rw [h2] at hg
   simp [fnR,b_n_Reader_touches,St,hd,hp,hp2,-dAdd2_str,ha,hg]
noncomputable def dg (n:Nat):List Nat:=(Nat.toDigits 10 n).map Char.toNat
structure Num (n:Nat) (c:List Nat):Prop where
 lt:∀x ∈ c,x < 128
 ne:c≠[]
 le:c.length≤3
 al:∀x ∈ c,inS x "0123456789"=true
 nb:∀x ∈ c,inS x " "=false
 z:c[0]? = some 48->c.length=1
 v:c_int2 [.str (txt c)]=some (.int (n:Int))
theorem num_ok {n:Nat} (hn:3≤n) {ms:List Mk}{ts:List P} (k:Nat) (pre run post:List Nat) (hN:Num k run) (hcap:(pre++(run++post)).length≤1000000) (hp:∀c r,post=c::r->inS c "0123456789"=false) (ht:ts.length≤1000)
  (hpre:pre.length=0\/∃c,L2.atI (pre++(run++post)) ((pre.length:Int)-1)=some c/\inS c ("abcdefghijklmnopqrstuvwxyz"++"0123456789")=false) :
  Psi Gv Att Tb n "Reader.read_number" [.ref 0] (Sr so (pre++(run++post)) pre.length w (ms,ts))=some (.p .non,Sr so (pre++(run++post)) (pre.length+run.length) "" (ms,.tup [.str "number",.int (k:Int)]::ts)):=by
 obtain⟨n,rfl⟩:=ex2 (n:=n) (by first | assumption | lia)
 have hle:=hN.le
 have e1:=touch_no (so:=so) (w:=w) (n:=n+1) (by lia) (ts:=ts.reverse) (ms:=ms.reverse.map Mk.s) hcap hpre
 have e2:=run_ok (so:=so) (w:=w) (n:=n+1) (by lia) (ts:=ts.reverse) (ms:=ms.reverse.map Mk.s) "0123456789" pre run post hcap hN.al hp (by lia)
 have e3:=keep_ok (so:=so) (w:=w) (cs:=pre++(run++post)) (i:=pre.length) (n:=n+1) (by lia) (ts:=ts.reverse) (ms:=ms.reverse.map Mk.s) (.tup [.str "number",.int (k:Int)]) run.length (by simpa using ht)
 have hv:=hN.v
 rw [e_n_Reader_read_number]
 obtain⟨c0,h0⟩:∃a,run[0]? = some a:=by
  cases run with
  | nil=>exact absurd rfl hN.ne
  | cons a b=>exact⟨a,rfl⟩
 have hd:dIx (.str (txt run)) (.int 0)=some (.str ⟨#[c0]⟩):=dIx_txt (by lia) (atI_nat' (by decide) h0)
 have hm:c_min [.int (run.length:Int),.int 3]=some (.int (run.length:Int)):=by
  simp only [c_min]
  first
   | (rw [if_pos (by lia)])
   | (rw [if_neg (by lia)])
   | (congr 2;lia)
 have hle2:run.length≤1000000:=by lia
 have hz0:=hN.z
 generalize hcs:pre++(run++post)=cs at *
 rw [show Sr so cs (pre.length+run.length) "" (ms,.tup [.str "number",.int (k:Int)]::ts)=St so cs (pre.length+run.length) "" (ts.reverse++[.tup [.str "number",.int (k:Int)]]) (ms.reverse.map Mk.s) by simp [Sr]]
 unfold Sr
 dsimp only
 have ht':ts.reverse.length≤1000:=by simpa using ht
 clear ht
 generalize ts.reverse=rt at *
 generalize ms.reverse.map Mk.s=rm at *
 have htl:(txt run).length=run.length:=txt_len run
 generalize txt run=tr at *
 by_cases hz:(⟨#[c0]⟩:Str)="0"
 ·have hc0:c0=48:=by
   have:=congrArg (fun x:Str=>x.cps.toList) hz
   have h2:(("0":Str)).cps.toList=[48]:=by decide +kernel
   rw [h2] at this
   simpa using this
  have hl1:run.length=1:=hz0 (by rw [h0,hc0])
  rw [hl1] at e3 htl ⊢
  simp only [St] at e1 e2 e3 ⊢
  simp at e3
  simp [fnR,b_n_Reader_read_number,e1,e2,hd,hz,lenD,lenP,htl,hv,e3]
 ·simp only [St] at e1 e2 e3 ⊢
  simp at e3
  simp [fnR,b_n_Reader_read_number,e1,e2,hd,hz,lenD,lenP,htl,hle2,hm,hv,e3]
end My
namespace My
open PySem L2 Ev
variable {so w:Str}{cs:List Nat}{i:Nat}
structure Nam (c:List Nat):Prop where
 lt:∀x ∈ c,x < 128
 ne:c≠[]
 le:c.length≤10
 al:∀x ∈ c,inS x "abcdefghijklmnopqrstuvwxyz"=true
 nf:∀x ∈ c,inS x "0123456789"=false
 nb:∀x ∈ c,inS x " "=false
 nw:∀S,gIn (.p (.str (txt c))) (.p (.tup [.str "or",.str "and",.str "not",.str "true"])) S=some (.bl false)
theorem nam_no {c:List Nat} (h:Nam c):¬txt c=("true":Str)/\¬txt c=("not":Str):=by
 constructor
 ·intro e
  have:=h.nw []
  rw [e] at this
  have k:gIn (.p (.str ("true":Str))) (.p (.tup [.str "or",.str "and",.str "not",.str "true"])) []=some (.bl true):=by kernel_rfl
  rw [k] at this
  simp at this
 ·intro e
  have:=h.nw []
  rw [e] at this
  have k:gIn (.p (.str ("not":Str))) (.p (.tup [.str "or",.str "and",.str "not",.str "true"])) []=some (.bl true):=by kernel_rfl
  rw [k] at this
  simp at this
theorem let_ok {n:Nat} (hn:3≤n) {ms:List Mk}{ts:List P} (pre run post:List Nat) (hN:Nam run) (hcap:(pre++(run++post)).length≤1000000) (hp:∀c r,post=c::r->inS c "abcdefghijklmnopqrstuvwxyz"=false) (ht:ts.length≤1000) :
  Psi Gv Att Tb n "Reader.read_letters" [.ref 0] (Sr so (pre++(run++post)) pre.length w (ms,ts))=some (.p .non,Sr so (pre++(run++post)) (pre.length+run.length) "" (ms,.tup [.str "name",.str (txt run)]::ts)):=by
 obtain⟨n,rfl⟩:=ex2 (n:=n) (by first | assumption | lia)
 have hle:=hN.le
 have e2:=run_ok (so:=so) (w:=w) (n:=n+1) (by lia) (ts:=ts.reverse) (ms:=ms.reverse.map Mk.s) "abcdefghijklmnopqrstuvwxyz" pre run post hcap hN.al hp (by lia)
 have e3:=keep_ok (so:=so) (w:=w) (cs:=pre++(run++post)) (i:=pre.length) (n:=n+1) (by lia) (ts:=ts.reverse) (ms:=ms.reverse.map Mk.s) (.tup [.str "name",.str (txt run)]) run.length (by simpa using ht)
 have hw:=hN.nw
 have ht1:=(nam_no hN).1
 have ht2:=(nam_no hN).2
 rw [e_n_Reader_read_letters]
 have hle2:run.length≤1000000:=by lia
 have hg:¬(10:Int) < (run.length:Int):=by lia
 have hg2:¬10 < run.length:=by lia
 generalize hcs:pre++(run++post)=cs at *
 rw [show Sr so cs (pre.length+run.length) "" (ms,.tup [.str "name",.str (txt run)]::ts)=St so cs (pre.length+run.length) "" (ts.reverse++[.tup [.str "name",.str (txt run)]]) (ms.reverse.map Mk.s) by simp [Sr]]
 unfold Sr
 dsimp only
 generalize ts.reverse=rt at *
 generalize ms.reverse.map Mk.s=rm at *
 have htl:(txt run).length=run.length:=txt_len run
 generalize txt run=tr at *
 simp only [St] at e2 e3 ⊢
 simp at e3
 simp [fnR,b_n_Reader_read_letters,e2,lenD,lenP,htl,hle2,hg,hg2,ht1,ht2,hw,e3]
theorem c_lp (S:Sto):gIn (.p (.str ⟨#[40]⟩)) (.p (.str "0123456789")) S=some (.bl false)/\gIn (.p (.str ⟨#[40]⟩)) (.p (.str "abcdefghijklmnopqrstuvwxyz")) S=some (.bl false):=⟨by kernel_rfl,by kernel_rfl⟩
theorem beg_num {n:Nat} (hn:2≤n) {S S':Sto}{c:Nat} (hc:inS c "0123456789"=true) (hS:∃ks ds,S[0]? = some (.ins "Reader" RK ds)/\ks=RK) (h:Psi Gv Att Tb (n-1) "Reader.read_number" [.ref 0] S=some (.p .non,S')) :
  Psi Gv Att Tb n "Reader.read_beginning" [.ref 0,.p (.str ⟨#[c]⟩)] S=some (.p .non,S'):=by
 obtain⟨n,rfl⟩:=ex2 (n:=n) (by first | assumption | lia)
 obtain⟨_,ds,h0,_⟩:=hS
 have hg:=fun S=>gIn_c c "0123456789" S
 rw [hc] at hg
 rw [show n+2-1=n+1 by lia] at h
 rw [e_n_Reader_read_beginning]
 simp [fnR,b_n_Reader_read_beginning,hg,h0,h]
theorem beg_let {n:Nat} (hn:2≤n) {S S':Sto}{c:Nat} (hc:inS c "0123456789"=false) (hc2:inS c "abcdefghijklmnopqrstuvwxyz"=true) (hS:∃ks ds,S[0]? = some (.ins "Reader" RK ds)/\ks=RK) (h:Psi Gv Att Tb (n-1) "Reader.read_letters" [.ref 0] S=some (.p .non,S')) :
  Psi Gv Att Tb n "Reader.read_beginning" [.ref 0,.p (.str ⟨#[c]⟩)] S=some (.p .non,S'):=by
 obtain⟨n,rfl⟩:=ex2 (n:=n) (by first | assumption | lia)
 obtain⟨_,ds,h0,_⟩:=hS
 have hg:=fun S=>gIn_c c "0123456789" S
 rw [hc] at hg
 have hg2:=fun S=>gIn_c c "abcdefghijklmnopqrstuvwxyz" S
 rw [hc2] at hg2
 rw [show n+2-1=n+1 by lia] at h
 rw [e_n_Reader_read_beginning]
 simp [fnR,b_n_Reader_read_beginning,hg,hg2,h0,h]
theorem lp_s:(⟨#[40]⟩:Str)="(":=by decide +kernel
theorem beg_lp {n:Nat} (hn:3≤n) (ms:List Mk) (ts:List P) (hm:ms.length≤1000):Psi Gv Att Tb n "Reader.read_beginning" [.ref 0,.p (.str ⟨#[40]⟩)] (Sr so cs i w (ms,ts))=some (.p .non,Sr so cs (i+1) "factor" (.lp::ms,ts)):=by
 obtain⟨n,rfl⟩:=ex2 (n:=n) (by first | assumption | lia)
 have e:=push_ok (so:=so) (cs:=cs) (i:=i) (w:=w) (ts:=ts.reverse) (ms:=ms.reverse.map Mk.s) (n:=n+1) (by lia) "(" "factor" (by simpa using hm) (by decide +kernel)
 have hl:("(":Str).length=1:=by decide +kernel
 rw [hl] at e
 rw [e_n_Reader_read_beginning]
 rw [show Sr so cs (i+1) "factor" (.lp::ms,ts)=St so cs (i+1) "factor" ts.reverse (ms.reverse.map Mk.s++[("(":Str)]) by simp [Sr,Mk.s]]
 unfold Sr
 dsimp only
 generalize ts.reverse=rt at *
 generalize ms.reverse.map Mk.s=rm at *
 have h1:=fun S=>(c_lp S).1
 have h2:=fun S=>(c_lp S).2
 have h3:=lp_s
 rw [h3] at h1 h2
 simp only [St] at e ⊢
 simp at e
 simp [fnR,b_n_Reader_read_beginning,h1,h2,h3,e]
noncomputable def Mk.c:Mk->Nat
 | .lp=>40
 | .lb=>91
 | .or=>111
 | .an=>97
 | .no=>110
 | .eq=>61
 | .ne=>33
 | .lt | .le=>60
 | .gt | .ge=>62
 | .pl=>43
 | .mi=>45
 | .ti=>42
theorem mk_c {m:Mk} (h:5≤m.l):(⟨#[m.c]⟩:Str)=m.s:=by cases m <;> first | exact absurd h (by decide) | decide +kernel
theorem op_in {m:Mk} (hm:5≤m.l) (S:Sto):gIn (.p (.str m.s)) (.p (.str "+-*")) S=some (.bl true):=by cases m <;> first | exact absurd hm (by decide) | kernel_rfl
theorem mk_len {m:Mk} (h:5≤m.l):m.s.length=1:=by cases m <;> first | exact absurd h (by decide) | decide +kernel
theorem foldR_len (l:Nat):∀(ms:List Mk) (ts:List P),(foldR l ms ts).1.length≤ms.length/\(foldR l ms ts).2.length≤ts.length
 | [],ts=>by cases ts <;> simp [foldR]
 | m::ms,[]=>by simp [foldR]
 | m::ms,[o]=>by
  unfold foldR
  split
  ·split
   ·have:=foldR_len l ms [.tup [.str "not",o]]
    simp only [List.length_cons] at this ⊢
    lia
   ·exact⟨Nat.le_refl _,Nat.le_refl _⟩
  ·exact⟨Nat.le_refl _,Nat.le_refl _⟩
 | m::ms,o::e::ts=>by
  unfold foldR
  split
  ·split
   ·have:=foldR_len l ms (.tup [.str "not",o]::e::ts)
    simp only [List.length_cons] at this ⊢
    lia
   ·have:=foldR_len l ms (m.f e o::ts)
    simp only [List.length_cons] at this ⊢
    lia
  ·exact⟨Nat.le_refl _,Nat.le_refl _⟩
theorem sign_ok {n:Nat} (hn:3≤n) {m:Mk} (hm:5≤m.l) (ms:List Mk) (t:P) (ts:List P) (h:SumP t) (ho:ops ms < (t::ts).length) (hms:ms.length < 1000) (ht:(t::ts).length≤1000) :
  Psi Gv Att Tb n "Reader.read_sign" [.ref 0,.p (.str m.s)] (Sr so cs i w (ms,t::ts))=some (.p .non,Sr so cs (i+1) "factor" (m::(foldR m.l ms (t::ts)).1,(foldR m.l ms (t::ts)).2)):=by
 obtain⟨n,rfl⟩:=ex2 (n:=n) (by first | assumption | lia)
 have e1:=has_ok (so:=so) (cs:=cs) (i:=i) (w:=w) (n:=n+1) (by lia) ms t ts h
 have e2:=fold_ok (so:=so) (cs:=cs) (i:=i) (w:=w) (n:=n+1) (by lia) m.l (by lia) ms (t::ts) ho hms ht
 have hfl:=(foldR_len m.l ms (t::ts)).1
 generalize foldR m.l ms (t::ts)=r at *
 obtain⟨ms',ts'⟩:=r
 have hml:ms'.length≤1000:=Nat.le_trans hfl (by lia)
 have e3:=push_ok (so:=so) (cs:=cs) (i:=i) (w:=w) (ts:=ts'.reverse) (ms:=ms'.reverse.map Mk.s) (n:=n+1) (by lia) m.s "factor" (by simpa using hml) (by rw [mk_len hm];decide)
 rw [mk_len hm] at e3
 have k1:=lkL m
 rw [e_n_Reader_read_sign]
 rw [show Sr so cs (i+1) "factor" (m::(ms',ts').1,(ms',ts').2)=St so cs (i+1) "factor" ts'.reverse (ms'.reverse.map Mk.s++[m.s]) by simp [Sr]]
 unfold Sr at e1 e2 ⊢
 dsimp only at e1 e2 ⊢
 generalize ts'.reverse=rt' at *
 generalize ms'.reverse.map Mk.s=rm' at *
 generalize (t::ts).reverse=rt at *
 generalize ms.reverse.map Mk.s=rm at *
 simp only [St] at e1 e2 e3 ⊢
 simp at e3
 simp [fnR,b_n_Reader_read_sign,e1,k1,e2,e3]
theorem beh_op {n:Nat} (hn:4≤n) {m:Mk} (hm:5≤m.l) (ms:List Mk) (t:P) (ts:List P) (h:SumP t) (ho:ops ms < (t::ts).length) (hms:ms.length < 1000) (ht:(t::ts).length≤1000) :
  Psi Gv Att Tb n "Reader.read_behind" [.ref 0,.p (.str ⟨#[m.c]⟩)] (Sr so cs i w (ms,t::ts))=some (.p .non,Sr so cs (i+1) "factor" (m::(foldR m.l ms (t::ts)).1,(foldR m.l ms (t::ts)).2)):=by
 obtain⟨n,rfl⟩:=ex2 (n:=n) (by first | assumption | lia)
 have e:=sign_ok (so:=so) (cs:=cs) (i:=i) (w:=w) (n:=n+1) (by lia) hm ms t ts h ho hms ht
 have k1:=op_in hm
 rw [mk_c hm,e_n_Reader_read_behind]
 generalize Sr so cs (i+1) "factor" (m::(foldR m.l ms (t::ts)).1,(foldR m.l ms (t::ts)).2)=S' at *
 unfold Sr at e ⊢
 dsimp only at e ⊢
 generalize (t::ts).reverse=rt at *
 generalize ms.reverse.map Mk.s=rm at *
 simp only [St] at e ⊢
 simp [fnR,b_n_Reader_read_behind,k1,e]
theorem c_rp (S:Sto):gIn (.p (.str ⟨#[41]⟩)) (.p (.str "+-*")) S=some (.bl false)/\gIn (.p (.str ⟨#[41]⟩)) (.p (.str "=!<>")) S=some (.bl false)/\gIn (.p (.str ⟨#[41]⟩)) (.p (.str "abcdefghijklmnopqrstuvwxyz")) S=some (.bl false):=⟨by kernel_rfl,by kernel_rfl,by kernel_rfl⟩
theorem rp_s:(⟨#[41]⟩:Str)=")":=by decide +kernel
theorem rend_ok {n:Nat} (hn:3≤n) (ms:List Mk) (ts:List P) (ho:ops ms < ts.length) (hms:ms.length < 1000) (ht:ts.length≤1000) (ms':List Mk) (ts':List P) (hf:foldR 5 ms ts=(.lp::ms',ts')) :
  Psi Gv Att Tb n "Reader.read_round_end" [.ref 0] (Sr so cs i w (ms,ts))=some (.p .non,Sr so cs (i+1) w (ms',ts')):=by
 obtain⟨n,rfl⟩:=ex2 (n:=n) (by first | assumption | lia)
 have e2:=fold_ok (so:=so) (cs:=cs) (i:=i) (w:=w) (n:=n+1) (by lia) 5 (by lia) ms ts ho hms ht
 rw [hf] at e2
 have e3:=last_some (so:=so) (cs:=cs) (i:=i) (w:=w) (ts:=ts'.reverse) (ms:=ms'.reverse.map Mk.s) (n:=n+1) (by lia) "("
 rw [e_n_Reader_read_round_end]
 unfold Sr at e2 ⊢
 simp only [List.reverse_cons,List.map_append,List.map_cons,List.map_nil,Mk.s] at e2 e3 ⊢
 generalize ts'.reverse=rt' at *
 generalize ms'.reverse.map Mk.s=rm' at *
 generalize ts.reverse=rt at *
 generalize ms.reverse.map Mk.s=rm at *
 rw [show ((5:Nat):Int)=5 from rfl] at e2
 simp only [St,List.map_append,List.map_cons,List.map_nil] at e2 e3 ⊢
 simp [fnR,b_n_Reader_read_round_end,e2,e3,ownL]
theorem beh_rp {n:Nat} (hn:4≤n) (ms:List Mk) (ts:List P) (ho:ops ms < ts.length) (hms:ms.length < 1000) (ht:ts.length≤1000) (ms':List Mk) (ts':List P) (hf:foldR 5 ms ts=(.lp::ms',ts')) :
  Psi Gv Att Tb n "Reader.read_behind" [.ref 0,.p (.str ⟨#[41]⟩)] (Sr so cs i w (ms,ts))=some (.p .non,Sr so cs (i+1) w (ms',ts')):=by
 obtain⟨n,rfl⟩:=ex2 (n:=n) (by first | assumption | lia)
 have e:=rend_ok (so:=so) (cs:=cs) (i:=i) (w:=w) (n:=n+1) (by lia) ms ts ho hms ht ms' ts' hf
 have h1:=fun S=>(c_rp S).1
 have h2:=fun S=>(c_rp S).2.1
 have h3:=fun S=>(c_rp S).2.2
 have h4:=rp_s
 rw [e_n_Reader_read_behind]
 generalize Sr so cs (i+1) w (ms',ts')=S' at *
 unfold Sr at e ⊢
 dsimp only at e ⊢
 generalize ts.reverse=rt at *
 generalize ms.reverse.map Mk.s=rm at *
 simp only [St] at e ⊢
 rw [h4] at h1 h2 h3
 simp [fnR,b_n_Reader_read_behind,h4,h1,h2,h3,e]
end My
namespace My
open PySem L2 Ev
variable {so w:Str}{cs:List Nat}{i:Nat}
theorem c_lb (S:Sto):gIn (.p (.str ⟨#[91]⟩)) (.p (.str "0123456789")) S=some (.bl false)/\gIn (.p (.str ⟨#[91]⟩)) (.p (.str "abcdefghijklmnopqrstuvwxyz")) S=some (.bl false):=⟨by kernel_rfl,by kernel_rfl⟩
theorem lb_s:(⟨#[91]⟩:Str)="[":=by decide +kernel
theorem lb_lp:¬("[":Str)="(":=by decide +kernel
theorem beg_lb {n:Nat} (hn:3≤n) (ms:List Mk) (ts:List P) (hm:ms.length≤1000):Psi Gv Att Tb n "Reader.read_beginning" [.ref 0,.p (.str ⟨#[91]⟩)] (Sr so cs i "part" (ms,ts))=some (.p .non,Sr so cs (i+1) "part" (.lb::ms,ts)):=by
 obtain⟨n,rfl⟩:=ex2 (n:=n) (by first | assumption | lia)
 have e:=push_ok (so:=so) (cs:=cs) (i:=i) (w:="part") (ts:=ts.reverse) (ms:=ms.reverse.map Mk.s) (n:=n+1) (by lia) "[" "part" (by simpa using hm) (by decide +kernel)
 have hl:("[":Str).length=1:=by decide +kernel
 rw [hl] at e
 rw [e_n_Reader_read_beginning]
 rw [show Sr so cs (i+1) "part" (.lb::ms,ts)=St so cs (i+1) "part" ts.reverse (ms.reverse.map Mk.s++[("[":Str)]) by simp [Sr,Mk.s]]
 unfold Sr
 dsimp only
 generalize ts.reverse=rt at *
 generalize ms.reverse.map Mk.s=rm at *
 have h1:=fun S=>(c_lb S).1
 have h2:=fun S=>(c_lb S).2
 have h3:=lb_s
 have h4:=lb_lp
 rw [h3] at h1 h2
 simp only [St] at e ⊢
 simp at e
 simp [fnR,b_n_Reader_read_beginning,h1,h2,h3,h4,e]
noncomputable def tTrue:List Nat:=[116,114,117,101]
noncomputable def tNot:List Nat:=[110,111,116]
theorem s_true:txt tTrue=("true":Str):=by decide +kernel
theorem s_not:txt tNot=("not":Str):=by decide +kernel
theorem not_true:¬("not":Str)="true":=by decide +kernel
theorem al_true:∀c ∈ tTrue,inS c "abcdefghijklmnopqrstuvwxyz"=true:=by decide +kernel
theorem al_not:∀c ∈ tNot,inS c "abcdefghijklmnopqrstuvwxyz"=true:=by decide +kernel
theorem true_ok {n:Nat} (hn:3≤n) {ms:List Mk}{ts:List P} (pre post:List Nat) (hcap:(pre++(tTrue++post)).length≤1000000) (hp:∀c r,post=c::r->inS c "abcdefghijklmnopqrstuvwxyz"=false) (ht:ts.length≤1000) :
  Psi Gv Att Tb n "Reader.read_letters" [.ref 0] (Sr so (pre++(tTrue++post)) pre.length "part" (ms,ts))=some (.p .non,Sr so (pre++(tTrue++post)) (pre.length+4) "" (ms,.tup [.str "true"]::ts)):=by
 obtain⟨n,rfl⟩:=ex2 (n:=n) (by first | assumption | lia)
 have e2:=run_ok (so:=so) (w:="part") (n:=n+1) (by lia) (ts:=ts.reverse) (ms:=ms.reverse.map Mk.s) "abcdefghijklmnopqrstuvwxyz" pre tTrue post hcap al_true hp (by decide)
 rw [s_true] at e2
 have e3:=keep_ok (so:=so) (w:="part") (cs:=pre++(tTrue++post)) (i:=pre.length) (n:=n+1) (by lia) (ts:=ts.reverse) (ms:=ms.reverse.map Mk.s) (.tup [.str "true"]) 4 (by simpa using ht)
 rw [e_n_Reader_read_letters]
 generalize hcs:pre++(tTrue++post)=cs at *
 rw [show Sr so cs (pre.length+4) "" (ms,.tup [.str "true"]::ts)=St so cs (pre.length+4) "" (ts.reverse++[.tup [.str "true"]]) (ms.reverse.map Mk.s) by simp [Sr]]
 unfold Sr
 dsimp only
 generalize ts.reverse=rt at *
 generalize ms.reverse.map Mk.s=rm at *
 have htl:("true":Str).length=4:=by decide +kernel
 simp only [St] at e2 e3 ⊢
 simp at e3
 simp [fnR,b_n_Reader_read_letters,e2,lenD,lenP,htl,e3]
theorem not_ok {n:Nat} (hn:3≤n) {ms:List Mk}{ts:List P} (pre post:List Nat) (hcap:(pre++(tNot++post)).length≤1000000) (hp:∀c r,post=c::r->inS c "abcdefghijklmnopqrstuvwxyz"=false) (hm:ms.length≤1000) :
  Psi Gv Att Tb n "Reader.read_letters" [.ref 0] (Sr so (pre++(tNot++post)) pre.length "part" (ms,ts))=some (.p .non,Sr so (pre++(tNot++post)) (pre.length+3) "part" (.no::ms,ts)):=by
 obtain⟨n,rfl⟩:=ex2 (n:=n) (by first | assumption | lia)
 have e2:=run_ok (so:=so) (w:="part") (n:=n+1) (by lia) (ts:=ts.reverse) (ms:=ms.reverse.map Mk.s) "abcdefghijklmnopqrstuvwxyz" pre tNot post hcap al_not hp (by decide)
 rw [s_not] at e2
 have e3:=push_ok (so:=so) (w:="part") (cs:=pre++(tNot++post)) (i:=pre.length) (n:=n+1) (by lia) (ts:=ts.reverse) (ms:=ms.reverse.map Mk.s) "not" "part" (by simpa using hm) (by decide +kernel)
 have htl:("not":Str).length=3:=by decide +kernel
 rw [htl] at e3
 rw [e_n_Reader_read_letters]
 generalize hcs:pre++(tNot++post)=cs at *
 rw [show Sr so cs (pre.length+3) "part" (.no::ms,ts)=St so cs (pre.length+3) "part" ts.reverse (ms.reverse.map Mk.s++[("not":Str)]) by simp [Sr,Mk.s]]
 unfold Sr
 dsimp only
 generalize ts.reverse=rt at *
 generalize ms.reverse.map Mk.s=rm at *
 have h4:=not_true
 simp only [St] at e2 e3 ⊢
 simp at e3
 simp [fnR,b_n_Reader_read_letters,e2,lenD,lenP,htl,h4,e3]
noncomputable def lastS:List Mk->Str
 | []=>""
 | m::_=>m.s
theorem last_ok {n:Nat} (hn:2≤n) (ms:List Mk) (ts:List P):Psi Gv Att Tb n "Reader.last_mark" [.ref 0] (Sr so cs i w (ms,ts))=some (.p (.str (lastS ms)),Sr so cs i w (ms,ts)):=by
 cases ms with
 | nil=>exact last_nil hn
 | cons m ms=>
  have e:=last_some (so:=so) (cs:=cs) (i:=i) (w:=w) (ts:=ts.reverse) (ms:=ms.reverse.map Mk.s) hn m.s
  rw [show Sr so cs i w (m::ms,ts)=St so cs i w ts.reverse (ms.reverse.map Mk.s++[m.s]) by simp [Sr]]
  exact e
theorem last_lp {ms:List Mk} (h:∀m r,ms=m::r->m.l≠4/\m≠.lp):¬lastS ms=("(":Str)/\∀S,gIn (.p (.str (lastS ms))) (.p (.tup [.str "=",.str "!=",.str "<",.str "<=",.str ">",.str ">="])) S=some (.bl false):=by
 cases ms with
 | nil=>exact⟨by decide +kernel,fun S=>by kernel_rfl⟩
 | cons m r=>
  have ⟨h1,h2⟩:=h m r rfl
  refine⟨?_,fun S=>?_⟩
  ·show ¬m.s=("(":Str)
   clear h
   cases m <;> first | exact absurd rfl h2 | decide +kernel
  ·have:=mk_cmp m S
   rw [decide_eq_false h1] at this
   exact this
noncomputable def Mk.tx:Mk->List Nat
 | .lp=>[40]
 | .lb=>[91]
 | .or=>[111,114]
 | .an=>[97,110,100]
 | .no=>[110,111,116]
 | .eq=>[61]
 | .ne=>[33,61]
 | .lt=>[60]
 | .le=>[60,61]
 | .gt=>[62]
 | .ge=>[62,61]
 | .pl=>[43]
 | .mi=>[45]
 | .ti=>[42]
theorem mk_tx (m:Mk):txt m.tx=m.s:=by cases m <;> decide +kernel
theorem mk_txl (m:Mk):m.s.length=m.tx.length:=by cases m <;> decide +kernel
theorem fac_part':¬("part":Str)="factor":=by decide +kernel
noncomputable def cB (c:List Nat):Option Bool:=inP (.str (txt c)) (.tup [.str "=",.str "!=",.str "<",.str "<=",.str ">",.str ">="])
theorem cB_all:∀d < 128,d≠61->cB [61,d]=some false/\cB [60,d]=some false/\cB [62,d]=some false:=by decide +kernel
theorem cB_g {c:List Nat}{b:Bool} (h:cB c=some b) (S:Sto):gIn (.p (.str (txt c))) (.p (.tup [.str "=",.str "!=",.str "<",.str "<=",.str ">",.str ">="])) S=some (.bl b):=by
 show (inP (.str (txt c)) (.tup [.str "=",.str "!=",.str "<",.str "<=",.str ">",.str ">="])).map P.bl=some (.bl b)
 unfold cB at h
 rw [h]
 rfl
theorem cm_c {m:Mk} (h:m.l=4) (S:Sto):gIn (.p (.str ⟨#[m.c]⟩)) (.p (.str "+-*")) S=some (.bl false)/\gIn (.p (.str ⟨#[m.c]⟩)) (.p (.str "=!<>")) S=some (.bl true):=by cases m <;> first | exact absurd h (by decide) | exact⟨by kernel_rfl,by kernel_rfl⟩
theorem cm_word {m:Mk} (h:m.l=4) (post:List Nat) (hp:∃d r,post=d::r/\d < 128/\d≠61):∃x q,m.tx++post=x++q/\x.length=2/\((x=m.tx)\/(cB x=some false/\(⟨#[m.c]⟩:Str)=m.s)):=by
 obtain⟨d,r,rfl,hd,h61⟩:=hp
 have hc:=cB_all d hd h61
 cases m <;> first | exact absurd h (by decide) | exact⟨_,d::r,rfl,rfl,.inl rfl⟩ | exact⟨[61,d],r,rfl,rfl,.inr ⟨hc.1,by decide +kernel⟩⟩ | exact⟨[60,d],r,rfl,rfl,.inr ⟨hc.2.1,by decide +kernel⟩⟩ | exact⟨[62,d],r,rfl,rfl,.inr ⟨hc.2.2,by decide +kernel⟩⟩
end My
namespace My
open PySem L2 Ev
variable {so w:Str}{cs:List Nat}{i:Nat}
theorem notIn_of {d c:D}{S:Sto}{b:Bool} (h:gIn d c S=some (.bl b)):gNotIn d c S=some (.bl (!b)):=by
 unfold gIn at h
 unfold gNotIn
 cases e:inG d c S with
 | none=>rw [e] at h;cases h
 | some x=>
  rw [e] at h
  simp at h
  rw [h]
  rfl
theorem cmp_ok {n:Nat} (hn:3≤n) {m:Mk} (hm:m.l=4) (ms:List Mk) (ts:List P) (pre post:List Nat) (hcap:(pre++(m.tx++post)).length≤1000000) (hp:∃d r,post=d::r/\d < 128/\d≠61) (ho:ops ms < ts.length) (hms:ms.length < 1000) (ht:ts.length≤1000)
  {ms':List Mk}{t:P}{ts':List P} (hf:foldR 5 ms ts=(ms',t::ts')) (hs:SumP t) (hl:∀m r,ms'=m::r->m.l≠4/\m≠.lp) :
  Psi Gv Att Tb n "Reader.read_comparison" [.ref 0,.p (.str ⟨#[m.c]⟩)] (Sr "part" (pre++(m.tx++post)) pre.length w (ms,ts))=some (.p .non,Sr "part" (pre++(m.tx++post)) (pre.length+m.tx.length) "factor" (m::ms',t::ts')):=by
 obtain⟨n,rfl⟩:=ex2 (n:=n) (by first | assumption | lia)
 have e2:=fold_ok (so:="part") (cs:=pre++(m.tx++post)) (i:=pre.length) (w:=w) (n:=n+1) (by lia) 5 (by lia) ms ts ho hms ht
 rw [hf] at e2
 have hfl:=(foldR_len 5 ms ts).1
 rw [hf] at hfl
 have e3:=last_ok (so:="part") (cs:=pre++(m.tx++post)) (i:=pre.length) (w:=w) (n:=n+1) (by lia) ms' (t::ts')
 have e4:=has_ok (so:="part") (cs:=pre++(m.tx++post)) (i:=pre.length) (w:=w) (n:=n+1) (by lia) ms' t ts' hs
 have e5:=push_ok (so:="part") (cs:=pre++(m.tx++post)) (i:=pre.length) (w:=w) (ts:=(t::ts').reverse) (ms:=ms'.reverse.map Mk.s) (n:=n+1) (by lia) m.s "factor" (by simp only [List.length_map,List.length_reverse];exact Nat.le_trans hfl (by lia)) (by rw [mk_txl];cases m <;> decide)
 rw [mk_txl] at e5
 obtain⟨k1,k2⟩:=last_lp hl
 obtain⟨x,q,hx,hx2,hx3⟩:=cm_word hm post hp
 have es:=slice_mid pre x q
 rw [<- hx,hx2] at es
 have hmi:gIn (.p (.str m.s)) (.p (.tup [.str "=",.str "!=",.str "<",.str "<=",.str ">",.str ">="]))=fun S=>some (.bl true):=by
  funext S
  have:=mk_cmp m S
  rw [decide_eq_true hm] at this
  exact this
 have hmi':=fun S=>notIn_of (congrFun hmi S)
 simp only [Bool.not_true] at hmi'
 have hfp:=fac_part'
 generalize hcs:pre++(m.tx++post)=cs at *
 have hd:dSl2 (.str (txt cs)) (some (pre.length:Int)) (some ((pre.length:Int)+2))=some (.str (txt x)):=by
  simp only [dSl2,txt_len]
  rw [if_pos (by rw [capN_ev];exact hcap)]
  rw [show ((pre.length:Int)+2)=((pre.length+2:Nat):Int) by lia,es]
 rw [e_n_Reader_read_comparison]
 rw [show Sr "part" cs (pre.length+m.tx.length) "factor" (m::ms',t::ts')=St "part" cs (pre.length+m.tx.length) "factor" (t::ts').reverse (ms'.reverse.map Mk.s++[m.s]) by simp [Sr]]
 unfold Sr at e2 e3 e4 ⊢
 dsimp only at e2 e3 e4 ⊢
 generalize (t::ts').reverse=rt' at *
 generalize ms'.reverse.map Mk.s=rm' at *
 generalize ts.reverse=rt at *
 generalize ms.reverse.map Mk.s=rm at *
 rw [show ((5:Nat):Int)=5 from rfl] at e2
 simp only [St] at e2 e3 e4 e5 ⊢
 simp at e5
 rcases hx3 with rfl | ⟨hb,hc⟩
 ·rw [mk_tx] at hd
  simp [fnR,b_n_Reader_read_comparison,e2,e3,e4,hfp,k1,k2,oSome,hd,hmi',e5]
 ·have hg:=fun S=>notIn_of (cB_g hb S)
  simp only [Bool.not_false] at hg
  simp [fnR,b_n_Reader_read_comparison,e2,e3,e4,hfp,k1,k2,oSome,hd,hg,hc,hmi',e5]
end My
namespace My
open PySem L2 Ev
variable {so w:Str}{cs:List Nat}{i:Nat}
theorem beh_cm {n:Nat} (hn:4≤n) {m:Mk} (hm:m.l=4) (ms:List Mk) (ts:List P) (pre post:List Nat) (hcap:(pre++(m.tx++post)).length≤1000000) (hp:∃d r,post=d::r/\d < 128/\d≠61) (ho:ops ms < ts.length) (hms:ms.length < 1000) (ht:ts.length≤1000)
  {ms':List Mk}{t:P}{ts':List P} (hf:foldR 5 ms ts=(ms',t::ts')) (hs:SumP t) (hl:∀m r,ms'=m::r->m.l≠4/\m≠.lp) :
  Psi Gv Att Tb n "Reader.read_behind" [.ref 0,.p (.str ⟨#[m.c]⟩)] (Sr "part" (pre++(m.tx++post)) pre.length w (ms,ts))=some (.p .non,Sr "part" (pre++(m.tx++post)) (pre.length+m.tx.length) "factor" (m::ms',t::ts')):=by
 obtain⟨n,rfl⟩:=ex2 (n:=n) (by first | assumption | lia)
 have e:=cmp_ok (w:=w) (n:=n+1) (by lia) hm ms ts pre post hcap hp ho hms ht hf hs hl
 have h1:=fun S=>(cm_c hm S).1
 have h2:=fun S=>(cm_c hm S).2
 rw [e_n_Reader_read_behind]
 generalize Sr "part" (pre++(m.tx++post)) (pre.length+m.tx.length) "factor" (m::ms',t::ts')=S' at *
 generalize pre++(m.tx++post)=cs at *
 unfold Sr at e ⊢
 dsimp only at e ⊢
 generalize ts.reverse=rt at *
 generalize ms.reverse.map Mk.s=rm at *
 simp only [St] at e ⊢
 simp [fnR,b_n_Reader_read_behind,h1,h2,e]
theorem al_jn {m:Mk} (h1:1≤m.l) (h2:m.l≤2):∀c ∈ m.tx,inS c "abcdefghijklmnopqrstuvwxyz"=true:=by cases m <;> first | exact absurd h1 (by decide) | exact absurd h2 (by decide) | decide +kernel
theorem joint_ok {n:Nat} (hn:3≤n) {m:Mk} (h1:1≤m.l) (h2:m.l≤2) (ms:List Mk) (ts:List P) (pre post:List Nat) (hcap:(pre++(m.tx++post)).length≤1000000) (hp:∀c r,post=c::r->inS c "abcdefghijklmnopqrstuvwxyz"=false)
  (hpre:pre.length=0\/∃c,L2.atI (pre++(m.tx++post)) ((pre.length:Int)-1)=some c/\inS c ("abcdefghijklmnopqrstuvwxyz"++"0123456789")=false) (ho:ops ms < ts.length) (hms:ms.length < 1000) (ht:ts.length≤1000)
  {ms':List Mk}{t:P}{ts':List P} (hf:foldR 4 ms ts=(ms',t::ts')) (hs:NoSum t) (ho':ops ms' < (t::ts').length) :
  Psi Gv Att Tb n "Reader.read_joint" [.ref 0,.p (.str m.s)] (Sr so (pre++(m.tx++post)) pre.length w (ms,ts))=some (.p .non,Sr so (pre++(m.tx++post)) (pre.length+m.tx.length) "part" (m::(foldR m.l ms' (t::ts')).1,(foldR m.l ms' (t::ts')).2)):=by
 obtain⟨n,rfl⟩:=ex2 (n:=n) (by first | assumption | lia)
 have e2:=fold_ok (so:=so) (cs:=pre++(m.tx++post)) (i:=pre.length) (w:=w) (n:=n+1) (by lia) 4 (by lia) ms ts ho hms ht
 rw [hf] at e2
 have hfl:=foldR_len 4 ms ts
 rw [hf] at hfl
 have e3:=touch_no (so:=so) (w:=w) (n:=n+1) (by lia) (ts:=(t::ts').reverse) (ms:=ms'.reverse.map Mk.s) hcap hpre
 have e4:=has_no (so:=so) (cs:=pre++(m.tx++post)) (i:=pre.length) (w:=w) (n:=n+1) (by lia) ms' t ts' hs
 have e5:=run_ok (so:=so) (w:=w) (n:=n+1) (by lia) (ts:=(t::ts').reverse) (ms:=ms'.reverse.map Mk.s) "abcdefghijklmnopqrstuvwxyz" pre m.tx post hcap (al_jn h1 h2) hp (by cases m <;> decide)
 rw [mk_tx] at e5
 have hms':ms'.length < 1000:=Nat.lt_of_le_of_lt hfl.1 hms
 have ht':(t::ts').length≤1000:=Nat.le_trans hfl.2 ht
 have e6:=fold_ok (so:=so) (cs:=pre++(m.tx++post)) (i:=pre.length) (w:=w) (n:=n+1) (by lia) m.l h1 ms' (t::ts') ho' hms' ht'
 have hfl2:=(foldR_len m.l ms' (t::ts')).1
 generalize foldR m.l ms' (t::ts')=r at *
 obtain⟨ms2,ts2⟩:=r
 have e7:=push_ok (so:=so) (cs:=pre++(m.tx++post)) (i:=pre.length) (w:=w) (ts:=ts2.reverse) (ms:=ms2.reverse.map Mk.s) (n:=n+1) (by lia) m.s "part" (by simp only [List.length_map,List.length_reverse];exact Nat.le_trans hfl2 (by lia)) (by rw [mk_txl];cases m <;> decide)
 rw [mk_txl] at e7
 have k1:=lkL m
 generalize pre++(m.tx++post)=cs at *
 rw [e_n_Reader_read_joint]
 rw [show Sr so cs (pre.length+m.tx.length) "part" (m::(ms2,ts2).1,(ms2,ts2).2)=St so cs (pre.length+m.tx.length) "part" ts2.reverse (ms2.reverse.map Mk.s++[m.s]) by simp [Sr]]
 unfold Sr at e2 e4 e6 ⊢
 dsimp only at e2 e4 e6 ⊢
 generalize (t::ts').reverse=rt' at *
 generalize ms'.reverse.map Mk.s=rm' at *
 generalize ts.reverse=rt at *
 generalize ms.reverse.map Mk.s=rm at *
 generalize ts2.reverse=rt2 at *
 generalize ms2.reverse.map Mk.s=rm2 at *
 rw [show ((4:Nat):Int)=4 from rfl] at e2
 simp only [St] at e2 e3 e4 e5 e6 e7 ⊢
 simp at e7
 simp [fnR,b_n_Reader_read_joint,e2,e3,e4,e5,k1,e6,e7]
theorem jn_c {m:Mk} (h1:1≤m.l) (h2:m.l≤2):(∀S,gIn (.p (.str ⟨#[m.c]⟩)) (.p (.str "+-*")) S=some (.bl false)/\gIn (.p (.str ⟨#[m.c]⟩)) (.p (.str "=!<>")) S=some (.bl false)/\gIn (.p (.str ⟨#[m.c]⟩)) (.p (.str "abcdefghijklmnopqrstuvwxyz")) S=some (.bl true))/\((⟨#[m.c]⟩:Str)="a"/\m.s="and"\/¬(⟨#[m.c]⟩:Str)="a"/\m.s="or"):=by
 cases m <;> first | exact absurd h1 (by decide) | exact absurd h2 (by decide) | exact⟨fun S=>⟨by kernel_rfl,by kernel_rfl,by kernel_rfl⟩,.inl ⟨by decide +kernel,rfl⟩⟩ | exact⟨fun S=>⟨by kernel_rfl,by kernel_rfl,by kernel_rfl⟩,.inr ⟨by decide +kernel,rfl⟩⟩
theorem beh_jn {n:Nat} (hn:4≤n) {m:Mk} (h1:1≤m.l) (h2:m.l≤2) (ms:List Mk) (ts:List P) (pre post:List Nat) (hcap:(pre++(m.tx++post)).length≤1000000) (hp:∀c r,post=c::r->inS c "abcdefghijklmnopqrstuvwxyz"=false)
  (hpre:pre.length=0\/∃c,L2.atI (pre++(m.tx++post)) ((pre.length:Int)-1)=some c/\inS c ("abcdefghijklmnopqrstuvwxyz"++"0123456789")=false) (ho:ops ms < ts.length) (hms:ms.length < 1000) (ht:ts.length≤1000)
  {ms':List Mk}{t:P}{ts':List P} (hf:foldR 4 ms ts=(ms',t::ts')) (hs:NoSum t) (ho':ops ms' < (t::ts').length) :
  Psi Gv Att Tb n "Reader.read_behind" [.ref 0,.p (.str ⟨#[m.c]⟩)] (Sr so (pre++(m.tx++post)) pre.length w (ms,ts))=some (.p .non,Sr so (pre++(m.tx++post)) (pre.length+m.tx.length) "part" (m::(foldR m.l ms' (t::ts')).1,(foldR m.l ms' (t::ts')).2)):=by
 obtain⟨n,rfl⟩:=ex2 (n:=n) (by first | assumption | lia)
 have e:=joint_ok (so:=so) (w:=w) (n:=n+1) (by lia) h1 h2 ms ts pre post hcap hp hpre ho hms ht hf hs ho'
 obtain⟨k,k4⟩:=jn_c h1 h2
 have k1:=fun S=>(k S).1
 have k2:=fun S=>(k S).2.1
 have k3:=fun S=>(k S).2.2
 rw [e_n_Reader_read_behind]
 generalize Sr so (pre++(m.tx++post)) (pre.length+m.tx.length) "part" (m::(foldR m.l ms' (t::ts')).1,(foldR m.l ms' (t::ts')).2)=S' at *
 generalize pre++(m.tx++post)=cs at *
 unfold Sr at e ⊢
 dsimp only at e ⊢
 generalize ts.reverse=rt at *
 generalize ms.reverse.map Mk.s=rm at *
 simp only [St] at e ⊢
 rcases k4 with ⟨k4,k5⟩ | ⟨k4,k5⟩
 ·rw [k4] at k1 k2 k3 ⊢
  rw [k5] at e
  simp [fnR,b_n_Reader_read_behind,k1,k2,k3,e]
 ·rw [k5] at e
  simp [fnR,b_n_Reader_read_behind,k1,k2,k3,k4,e]
theorem c_rb (S:Sto):gIn (.p (.str ⟨#[93]⟩)) (.p (.str "+-*")) S=some (.bl false)/\gIn (.p (.str ⟨#[93]⟩)) (.p (.str "=!<>")) S=some (.bl false)/\gIn (.p (.str ⟨#[93]⟩)) (.p (.str "abcdefghijklmnopqrstuvwxyz")) S=some (.bl false):=⟨by kernel_rfl,by kernel_rfl,by kernel_rfl⟩
theorem rb_s:(⟨#[93]⟩:Str)="]":=by decide +kernel
theorem rb_rp:¬("]":Str)=")":=by decide +kernel
theorem send_ok {n:Nat} (hn:3≤n) (ms:List Mk) (ts:List P) (ho:ops ms < ts.length) (hms:ms.length < 1000) (ht:ts.length≤1000) {ms1 ms':List Mk}{t:P}{ts1 ts':List P} (hf:foldR 4 ms ts=(ms1,t::ts1)) (hs:NoSum t) (ho1:ops ms1 < (t::ts1).length) (hf1:foldR 1 ms1 (t::ts1)=(.lb::ms',ts')) :
  Psi Gv Att Tb n "Reader.read_square_end" [.ref 0] (Sr so cs i w (ms,ts))=some (.p .non,Sr so cs (i+1) w (ms',ts')):=by
 obtain⟨n,rfl⟩:=ex2 (n:=n) (by first | assumption | lia)
 have e2:=fold_ok (so:=so) (cs:=cs) (i:=i) (w:=w) (n:=n+1) (by lia) 4 (by lia) ms ts ho hms ht
 have hfl:=foldR_len 4 ms ts
 rw [hf] at e2 hfl
 have e4:=has_no (so:=so) (cs:=cs) (i:=i) (w:=w) (n:=n+1) (by lia) ms1 t ts1 hs
 have e5:=fold_ok (so:=so) (cs:=cs) (i:=i) (w:=w) (n:=n+1) (by lia) 1 (by lia) ms1 (t::ts1) ho1 (Nat.lt_of_le_of_lt hfl.1 hms) (Nat.le_trans hfl.2 ht)
 rw [hf1] at e5
 have e3:=last_some (so:=so) (cs:=cs) (i:=i) (w:=w) (ts:=ts'.reverse) (ms:=ms'.reverse.map Mk.s) (n:=n+1) (by lia) "["
 rw [e_n_Reader_read_square_end]
 unfold Sr at e2 e4 e5 ⊢
 dsimp only at e2 e4 e5 ⊢
 generalize (t::ts1).reverse=rt1 at *
 simp only [List.reverse_cons,List.map_append,List.map_cons,List.map_nil,Mk.s] at e3 e5 ⊢
 generalize ts'.reverse=rt' at *
 generalize ms'.reverse.map Mk.s=rm' at *
 generalize ms1.reverse.map Mk.s=rm1 at *
 generalize ts.reverse=rt at *
 generalize ms.reverse.map Mk.s=rm at *
 rw [show ((4:Nat):Int)=4 from rfl] at e2
 rw [show ((1:Nat):Int)=1 from rfl] at e5
 simp only [St,List.map_append,List.map_cons,List.map_nil] at e2 e3 e4 e5 ⊢
 simp [fnR,b_n_Reader_read_square_end,e2,e4,e5,e3,ownL]
theorem beh_rb {n:Nat} (hn:4≤n) (ms:List Mk) (ts:List P) (ho:ops ms < ts.length) (hms:ms.length < 1000) (ht:ts.length≤1000) {ms1 ms':List Mk}{t:P}{ts1 ts':List P} (hf:foldR 4 ms ts=(ms1,t::ts1)) (hs:NoSum t) (ho1:ops ms1 < (t::ts1).length) (hf1:foldR 1 ms1 (t::ts1)=(.lb::ms',ts')) :
  Psi Gv Att Tb n "Reader.read_behind" [.ref 0,.p (.str ⟨#[93]⟩)] (Sr so cs i w (ms,ts))=some (.p .non,Sr so cs (i+1) w (ms',ts')):=by
 obtain⟨n,rfl⟩:=ex2 (n:=n) (by first | assumption | lia)
 have e:=send_ok (so:=so) (cs:=cs) (i:=i) (w:=w) (n:=n+1) (by lia) ms ts ho hms ht hf hs ho1 hf1
 have h1:=fun S=>(c_rb S).1
 have h2:=fun S=>(c_rb S).2.1
 have h3:=fun S=>(c_rb S).2.2
 have h4:=rb_s
 have h5:=rb_rp
 rw [e_n_Reader_read_behind]
 generalize Sr so cs (i+1) w (ms',ts')=S' at *
 unfold Sr at e ⊢
 dsimp only at e ⊢
 generalize ts.reverse=rt at *
 generalize ms.reverse.map Mk.s=rm at *
 simp only [St] at e ⊢
 rw [h4] at h1 h2 h3
 simp [fnR,b_n_Reader_read_behind,h4,h1,h2,h3,h5,e]
theorem end_ok {n:Nat} (hn:3≤n) (ms:List Mk) (ts:List P) (ho:ops ms < ts.length) (hms:ms.length < 1000) (ht:ts.length≤1000) {ms1:List Mk}{t z:P}{ts1:List P} (hf:foldR 4 ms ts=(ms1,t::ts1)) (hs:NoSum t) (ho1:ops ms1 < (t::ts1).length) (hf1:foldR 1 ms1 (t::ts1)=([],[z])) :
  Psi Gv Att Tb n "Reader.read_end" [.ref 0] (Sr "part" cs i w (ms,ts))=some (.p z,Sr "part" cs i w ([],[z])):=by
 obtain⟨n,rfl⟩:=ex2 (n:=n) (by first | assumption | lia)
 have e2:=fold_ok (so:="part") (cs:=cs) (i:=i) (w:=w) (n:=n+1) (by lia) 4 (by lia) ms ts ho hms ht
 have hfl:=foldR_len 4 ms ts
 rw [hf] at e2 hfl
 have e4:=has_no (so:="part") (cs:=cs) (i:=i) (w:=w) (n:=n+1) (by lia) ms1 t ts1 hs
 have e5:=fold_ok (so:="part") (cs:=cs) (i:=i) (w:=w) (n:=n+1) (by lia) 1 (by lia) ms1 (t::ts1) ho1 (Nat.lt_of_le_of_lt hfl.1 hms) (Nat.le_trans hfl.2 ht)
 rw [hf1] at e5
 have e3:=last_nil (so:="part") (cs:=cs) (i:=i) (w:=w) (ts:=[z]) (n:=n+1) (by lia)
 rw [e_n_Reader_read_end]
 unfold Sr at e2 e4 e5 ⊢
 dsimp only at e2 e4 e5 ⊢
 generalize (t::ts1).reverse=rt1 at *
 generalize ms1.reverse.map Mk.s=rm1 at *
 generalize ts.reverse=rt at *
 generalize ms.reverse.map Mk.s=rm at *
 rw [show ((4:Nat):Int)=4 from rfl] at e2
 rw [show ((1:Nat):Int)=1 from rfl] at e5
 simp only [St,List.reverse_cons,List.reverse_nil,List.nil_append,List.map_cons,List.map_nil] at e2 e3 e4 e5 ⊢
 simp [fnR,b_n_Reader_read_end,e2,e4,e5,e3]
end My
namespace My
open PySem L2 Ev
variable {so:Str}{cs:List Nat}{i:Nat}
inductive Tk where
 | num (n:Nat) (c:List Nat) | nam (c:List Nat) | tru | no | lp | lb | op (m:Mk) | cm (m:Mk) | jn (m:Mk) | rp | rb
noncomputable def Tk.tx:Tk->List Nat
 | .num _ c=>c
 | .nam c=>c
 | .tru=>tTrue
 | .no=>tNot
 | .lp=>[40]
 | .lb=>[91]
 | .op m=>[m.c]
 | .cm m=>m.tx
 | .jn m=>m.tx
 | .rp=>[41]
 | .rb=>[93]
noncomputable def Tk.ok:Tk->Prop
 | .num n c=>Num n c
 | .nam c=>Nam c
 | .op m=>5≤m.l
 | .cm m=>m.l=4
 | .jn m=>1≤m.l/\m.l≤2
 | _=>True
inductive W where
 | fac | par | done
 deriving DecidableEq
noncomputable def wS:W->Str
 | .fac=>"factor"
 | .par=>"part"
 | .done=>""
inductive Step:Tk->W->List Mk->List P->W->List Mk->List P->Prop
 | num {n c w ms ts}:w≠.done->Step (.num n c) w ms ts .done ms (.tup [.str "number",.int (n:Int)]::ts)
 | nam {c w ms ts}:w≠.done->Step (.nam c) w ms ts .done ms (.tup [.str "name",.str (txt c)]::ts)
 | tru {ms ts}:Step .tru .par ms ts .done ms (.tup [.str "true"]::ts)
 | no {ms ts}:Step .no .par ms ts .par (.no::ms) ts
 | lp {w ms ts}:w≠.done->Step .lp w ms ts .fac (.lp::ms) ts
 | lb {ms ts}:Step .lb .par ms ts .par (.lb::ms) ts
 | op {m ms t ts}:SumP t->Step (.op m) .done ms (t::ts) .fac (m::(foldR m.l ms (t::ts)).1) (foldR m.l ms (t::ts)).2
 | cm {m ms ts ms' t ts'}:foldR 5 ms ts=(ms',t::ts')->SumP t->(∀m r,ms'=m::r->m.l≠4/\m≠.lp)->Step (.cm m) .done ms ts .fac (m::ms') (t::ts')
 | jn {m ms ts ms' t ts'}:foldR 4 ms ts=(ms',t::ts')->NoSum t->Step (.jn m) .done ms ts .par (m::(foldR m.l ms' (t::ts')).1) (foldR m.l ms' (t::ts')).2
 | rp {ms ts ms' ts'}:foldR 5 ms ts=(.lp::ms',ts')->Step .rp .done ms ts .done ms' ts'
 | rb {ms ts ms1 t ts1 ms' ts'}:foldR 4 ms ts=(ms1,t::ts1)->NoSum t->foldR 1 ms1 (t::ts1)=(.lb::ms',ts')->Step .rb .done ms ts .done ms' ts'
noncomputable def Iv (w:W) (ms:List Mk) (ts:List P):Prop:=ts.length=ops ms+(if w=.done then 1 else 0)
theorem foldR_ops (l:Nat) (hl:1≤l):∀(ms:List Mk) (ts:List P),ts.length=ops ms+1->(foldR l ms ts).2.length=ops (foldR l ms ts).1+1
 | [],ts,h=>by cases ts <;> simpa [foldR] using h
 | m::ms,[],h=>by simp at h
 | m::ms,[o],h=>by
  unfold foldR
  split
  ·split
   ·rename_i hm h3
    refine foldR_ops l hl ms _ ?_
    simpa [ops,Mk.two,h3] using h
   ·exact h
  ·exact h
 | m::ms,o::e::ts,h=>by
  unfold foldR
  split
  ·rename_i hm
   split
   ·rename_i h3
    refine foldR_ops l hl ms _ ?_
    simpa [ops,Mk.two,h3] using h
   ·rename_i h3
    refine foldR_ops l hl ms _ ?_
    have h0:m.two=true:=by
     have:m.l≠0:=by lia
     simp [Mk.two,this,h3]
    simp only [ops,h0,if_true,List.length_cons] at h ⊢
    lia
  ·exact h
theorem two_of {m:Mk} (h:m.l≠0) (h3:m.l≠3):m.two=true:=by simp [Mk.two,h,h3]
theorem step_iv {tk:Tk} (hk:tk.ok) {w w':W}{ms ms':List Mk}{ts ts':List P} (hs:Step tk w ms ts w' ms' ts') (h:Iv w ms ts):Iv w' ms' ts'/\ms'.length≤ms.length+1/\ts'.length≤ts.length+1:=by
 unfold Iv at h ⊢
 cases hs with
 | num hw=>simp [hw] at h ⊢;lia
 | nam hw=>simp [hw] at h ⊢;lia
 | tru=>simp at h ⊢;lia
 | no=>simp [ops,Mk.two,Mk.l] at h ⊢;lia
 | lp hw=>simp [ops,Mk.two,Mk.l,hw] at h ⊢;lia
 | lb=>simp [ops,Mk.two,Mk.l] at h ⊢;lia
 | @op m _ t ts hS=>
  have hm:5≤m.l:=hk
  have f:=foldR_ops m.l (by lia) ms (t::ts) (by simpa using h)
  have fl:=foldR_len m.l ms (t::ts)
  refine⟨?_,by simp only [List.length_cons];lia,by lia⟩
  simp only [ops,two_of (m:=m) (by lia) (by lia),if_true,reduceCtorEq,if_false]
  lia
 | @cm m _ _ ms' t ts' hf hS hl=>
  have hm:m.l=4:=hk
  have f:=foldR_ops 5 (by lia) ms ts (by simpa using h)
  have fl:=foldR_len 5 ms ts
  rw [hf] at f fl
  dsimp only at f fl
  refine⟨?_,by simp only [List.length_cons];lia,by lia⟩
  simp only [ops,two_of (m:=m) (by lia) (by lia),if_true,reduceCtorEq,if_false]
  lia
 | @jn m _ _ ms' t ts' hf hS=>
  obtain⟨hm1,hm2⟩:1≤m.l/\m.l≤2:=hk
  have f:=foldR_ops 4 (by lia) ms ts (by simpa using h)
  have fl:=foldR_len 4 ms ts
  rw [hf] at f fl
  dsimp only at f fl
  have f2:=foldR_ops m.l (by lia) ms' (t::ts') f
  have fl2:=foldR_len m.l ms' (t::ts')
  refine⟨?_,by simp only [List.length_cons];lia,by lia⟩
  simp only [ops,two_of (m:=m) (by lia) (by lia),if_true,reduceCtorEq,if_false]
  lia
 | rp hf=>
  have f:=foldR_ops 5 (by lia) ms ts (by simpa using h)
  have fl:=foldR_len 5 ms ts
  rw [hf] at f fl
  simp only [ops,List.length_cons] at f fl
  simp [Mk.two,Mk.l] at f
  simp
  lia
 | @rb _ _ ms1 t ts1 ms' ts' hf hS hf1=>
  have f:=foldR_ops 4 (by lia) ms ts (by simpa using h)
  have fl:=foldR_len 4 ms ts
  rw [hf] at f fl
  dsimp only at f fl
  have f2:=foldR_ops 1 (by lia) ms1 (t::ts1) f
  have fl2:=foldR_len 1 ms1 (t::ts1)
  rw [hf1] at f2 fl2
  simp only [ops,List.length_cons] at f2 fl2 fl
  simp [Mk.two,Mk.l] at f2
  simp
  lia
theorem sr0 (so:Str) (cs:List Nat) (i:Nat) (w:Str) (s:List Mk×List P):∃ks ds,(Sr so cs i w s)[0]? = some (.ins "Reader" RK ds)/\ks=RK:=⟨_,_,rfl,rfl⟩
theorem wS_eq (w:W) (S:Sto):gNe (.p (.str (wS w))) (.p (.str "")) S=some (.bl (decide (w≠.done))):=by cases w <;> kernel_rfl
theorem body_ok {n:Nat} (ι:Str->GF) (w:W) (ms:List Mk) (ts:List P) {c:Nat} (h0:i < cs.length) (hcap:cs.length≤1000000) (hc:L2.atI cs (i:Int)=some c) {i1:Nat}{w1:Str}{s1:List Mk×List P}{S2:Sto}
  (hcall:Psi Gv Att Tb n (if w≠.done then "Reader.read_beginning" else "Reader.read_behind") [.ref 0,.p (.str ⟨#[c]⟩)] (Sr "part" cs i (wS w) (ms,ts))=some (.p .non,Sr "part" cs i1 w1 s1))
  (hskip:Psi Gv Att Tb n "Reader.skip_blanks" [.ref 0] (Sr "part" cs i1 w1 s1)=some (.p .non,S2)) :
  b_n_Reader_read_L1 (Psi Gv Att Tb n) ι [some (.ref 0)] (Sr "part" cs i (wS w) (ms,ts))=some (.nx,[some (.ref 0)],S2):=by
 have hd:=dIx_txt hcap hc
 have hw:=wS_eq w
 have hne:¬i=cs.length:=by lia
 have hne2:¬(i:Int)=(cs.length:Int):=by lia
 unfold Sr at hcall hskip ⊢
 dsimp only at hcall hskip ⊢
 generalize ts.reverse=rt at *
 generalize ms.reverse.map Mk.s=rm at *
 generalize s1.2.reverse=rt1 at *
 generalize s1.1.reverse.map Mk.s=rm1 at *
 simp only [St] at hcall hskip ⊢
 by_cases hwd:w=.done
 ·subst hwd
  simp only [ne_eq,not_true_eq_false,if_false,decide_false] at hcall hw
  simp [b_n_Reader_read_L1,lenD,lenP,hcap,hne,hne2,hw,hd,hcall,hskip]
 ·rw [if_pos hwd] at hcall
  rw [show decide (w≠.done)=true from decide_eq_true hwd] at hw
  simp [b_n_Reader_read_L1,lenD,lenP,hcap,hne,hne2,hw,hd,hcall,hskip]
end My
namespace My
open PySem L2 Ev
variable {cs:List Nat}{i:Nat}
noncomputable def Fin' (c:Nat):Prop:=inS c "0123456789"=false/\inS c "abcdefghijklmnopqrstuvwxyz"=false/\inS c " "=false
noncomputable instance (c:Nat):Decidable (Fin' c):=by unfold Fin';infer_instance
noncomputable def AL:Str:="abcdefghijklmnopqrstuvwxyz"++"0123456789"
theorem b32:inS 32 "0123456789"=false/\inS 32 "abcdefghijklmnopqrstuvwxyz"=false/\inS 32 AL=false:=by decide +kernel
theorem fl_61:inS 61 "0123456789"=false/\inS 61 "abcdefghijklmnopqrstuvwxyz"=false:=by decide +kernel
theorem fl_all (c:Nat) (h:c < 128) (ho:inS c "0123456789"=true\/inS c "abcdefghijklmnopqrstuvwxyz"=true):c < 128/\c≠61:=by
 refine⟨h,fun e=>?_⟩
 rw [e,fl_61.1,fl_61.2] at ho
 cases ho <;> contradiction
theorem op_c {m:Mk} (h:5≤m.l):Fin' m.c/\inS m.c AL=false:=by cases m <;> first | exact absurd h (by decide) | decide +kernel
theorem cm_t {m:Mk} (h:m.l=4):(∀c r,m.tx=c::r->Fin' c/\c=m.c)/\∃p c,m.tx=p++[c]/\inS c AL=false:=by
 cases m <;> first | exact absurd h (by decide) | exact⟨fun c r e=>by cases e;decide +kernel,[],_,rfl,by decide +kernel⟩ | exact⟨fun c r e=>by cases e;decide +kernel,[_],_,rfl,by decide +kernel⟩
theorem jn_t {m:Mk} (h:1≤m.l/\m.l≤2):∀c r,m.tx=c::r->inS c " "=false/\c=m.c:=by
 intro c r e
 cases m <;> first | exact absurd h (by decide) | (cases e;decide +kernel)
theorem c41:Fin' 41/\Fin' 93/\inS 40 " "=false/\inS 91 " "=false/\inS 40 AL=false/\inS 91 AL=false:=by decide +kernel
theorem tn_c:inS 116 " "=false/\inS 110 " "=false/\inS 116 "0123456789"=false/\inS 110 "0123456789"=false/\inS 116 "abcdefghijklmnopqrstuvwxyz"=true/\inS 110 "abcdefghijklmnopqrstuvwxyz"=true:=by decide +kernel
noncomputable def Tk.isJ:Tk->Bool
 | .jn _=>true
 | _=>false
noncomputable def Tk.isC:Tk->Bool
 | .cm _=>true
 | _=>false
noncomputable def Tk.wd:Tk->Bool
 | .jn _=>true
 | .no=>true
 | _=>false
noncomputable def Tk.b:Tk->Nat
 | .rp=>1
 | .rb=>1
 | _=>0
noncomputable def Tk.o:Tk->Nat
 | .lp=>1
 | .lb=>1
 | _=>0
theorem c93:inS 41 AL=false/\inS 93 AL=false/\inS 40 "abcdefghijklmnopqrstuvwxyz"=false/\inS 91 "abcdefghijklmnopqrstuvwxyz"=false:=by decide +kernel
theorem Tk.ne {t:Tk} (h:t.ok):t.tx≠[]:=by
 cases t with
 | num n c=>exact h.ne
 | nam c=>exact h.ne
 | cm m=>cases m <;> exact fun z=>nomatch z
 | jn m=>cases m <;> exact fun z=>nomatch z
 | _=>exact fun z=>nomatch z
theorem nb_of {t:Tk} (hk:t.ok):∀c r,t.tx=c::r->inS c " "=false:=by
 intro c r e
 cases t with
 | num n x=>exact hk.nb c (by rw [show x=c::r from e];exact List.mem_cons_self)
 | nam x=>exact hk.nb c (by rw [show x=c::r from e];exact List.mem_cons_self)
 | tru=>cases e;exact tn_c.1
 | no=>cases e;exact tn_c.2.1
 | lp=>cases e;exact c41.2.2.1
 | lb=>cases e;exact c41.2.2.2.1
 | op m=>cases e;exact (op_c hk).1.2.2
 | cm m=>exact ((cm_t hk).1 c r e).1.2.2
 | jn m=>exact (jn_t hk c r e).1
 | rp=>cases e;exact c41.1.2.2
 | rb=>cases e;exact c41.2.1.2.2
theorem fin_of {t:Tk} (hk:t.ok) {ms ms':List Mk}{ts ts':List P}{w':W} (h:Step t .done ms ts w' ms' ts') (hj:t.isJ=false):∀c r,t.tx=c::r->Fin' c:=by
 intro c r e
 cases h with
 | num hw=>exact absurd rfl hw
 | nam hw=>exact absurd rfl hw
 | lp hw=>exact absurd rfl hw
 | op=>cases e;exact (op_c hk).1
 | cm=>exact ((cm_t hk).1 c r e).1
 | jn=>cases hj
 | rp=>cases e;exact c41.1
 | rb=>cases e;exact c41.2.1
theorem fac_head {t:Tk} (hk:t.ok) {ms ms':List Mk}{ts ts':List P}{w':W} (h:Step t .fac ms ts w' ms' ts'):∀c r,t.tx=c::r->c < 128/\c≠61:=by
 intro c r e
 cases h with
 | @num n x=>
  have hm:c ∈ x:=by rw [show x=c::r from e];exact List.mem_cons_self
  exact fl_all c (hk.lt c hm) (.inl (hk.al c hm))
 | @nam x=>
  have hm:c ∈ x:=by rw [show x=c::r from e];exact List.mem_cons_self
  exact fl_all c (hk.lt c hm) (.inr (hk.al c hm))
 | lp=>cases e;decide
noncomputable def PreOk (cs:List Nat) (i:Nat):Prop:=i=0\/∃c,L2.atI cs ((i:Int)-1)=some c/\inS c ("abcdefghijklmnopqrstuvwxyz"++"0123456789")=false
theorem rep_head {k:Nat}{post:List Nat}{c:Nat}{r:List Nat} (h:List.replicate k 32++post=c::r):c=32\/(k=0/\post=c::r):=by
 cases k with
 | zero=>exact .inr ⟨rfl,by simpa using h⟩
 | succ k=>rw [List.replicate_succ,List.cons_append] at h;cases h;exact .inl rfl
theorem tok_ok {n:Nat} (hn:6≤n) (ι:Str->GF) (t:Tk) (hk:t.ok) (pre post:List Nat) (k:Nat) {w w':W}{ms ms':List Mk}{ts ts':List P} (hs:Step t w ms ts w' ms' ts') (hi:Iv w ms ts) (hm:ms.length < 1000) (ht:ts.length≤1000)
  (hcap:(pre++(t.tx++(List.replicate k 32++post))).length≤1000000) (hkk:k < 1000) (hb:∀c r,post=c::r->inS c " "=false) (hf:w'=.done->t.b=0->k=0->∀c r,post=c::r->Fin' c) (hwd:t.wd=true->k=0->∀c r,post=c::r->inS c "abcdefghijklmnopqrstuvwxyz"=false)
  (hcm:t.isC=true->∃d r,List.replicate k 32++post=d::r/\d < 128/\d≠61)
  (hpre:(w≠.done/\t.o=0)\/t.isJ=true->PreOk (pre++(t.tx++(List.replicate k 32++post))) pre.length) :
  b_n_Reader_read_L1 (Psi Gv Att Tb n) ι [some (.ref 0)] (Sr "part" (pre++(t.tx++(List.replicate k 32++post))) pre.length (wS w) (ms,ts)) =
   some (.nx,[some (.ref 0)],Sr "part" (pre++(t.tx++(List.replicate k 32++post))) (pre.length+t.tx.length+k) (wS w') (ms',ts')):=by
 obtain⟨c0,cr,e0⟩:∃a b,t.tx=a::b:=by
  cases e:t.tx with
  | nil=>exact absurd e (Tk.ne hk)
  | cons a b=>exact⟨a,b,rfl⟩
 have hc:L2.atI (pre++(t.tx++(List.replicate k 32++post))) (pre.length:Int)=some c0:=by rw [e0];exact atI_mid pre c0 _
 have hlt:pre.length < (pre++(t.tx++(List.replicate k 32++post))).length:=by rw [e0];simp
 have hskip:∀(w1:Str) (s1:List Mk×List P),Psi Gv Att Tb n "Reader.skip_blanks" [.ref 0] (Sr "part" (pre++(t.tx++(List.replicate k 32++post))) (pre.length+t.tx.length) w1 s1) =
   some (.p .non,Sr "part" (pre++(t.tx++(List.replicate k 32++post))) (pre.length+t.tx.length+k) w1 s1):=fun w1 s1=>by
  have h:=skip_ok (so:="part") (w:=w1) (ts:=s1.2.reverse) (ms:=s1.1.reverse.map Mk.s) (n:=n) (by lia) (pre++t.tx) post k (by simpa using hcap) hb hkk
  rw [List.append_assoc,List.length_append] at h
  exact h
 have hfin:w'=.done->t.b=0->∀c r,List.replicate k 32++post=c::r->inS c "0123456789"=false/\inS c "abcdefghijklmnopqrstuvwxyz"=false:=fun hw hb c r e=>by
  rcases rep_head e with rfl | ⟨h0,e⟩
  ·exact⟨b32.1,b32.2.1⟩
  ·exact⟨(hf hw hb h0 c r e).1,(hf hw hb h0 c r e).2.1⟩
 have hblk:t.wd=true->∀c r,List.replicate k 32++post=c::r->inS c "abcdefghijklmnopqrstuvwxyz"=false:=fun hw c r e=>by
  rcases rep_head e with rfl | ⟨h0,e⟩
  ·exact b32.2.1
  ·exact hwd hw h0 c r e
 have ha:w=.done->ops ms < ts.length:=fun hw=>by
  unfold Iv at hi
  rw [if_pos hw] at hi
  lia
 cases hs with
 | @num q c _ _ _ hw=>
  have e:=num_ok (so:="part") (w:=wS w) (n:=n-1) (by lia) (ms:=ms) (ts:=ts) q pre c (List.replicate k 32++post) hk hcap (fun c r e=>(hfin rfl rfl c r e).1) ht (hpre (.inl ⟨hw,rfl⟩))
  have e1:=beg_num (n:=n) (by lia) (hk.al c0 (by rw [show c=c0::cr from e0];exact List.mem_cons_self)) (sr0 ..) e
  exact body_ok ι w ms ts hlt hcap hc (by rw [if_pos hw];exact e1) (hskip "" _)
 | @nam c _ _ _ hw=>
  have hmem:c0 ∈ c:=by rw [show c=c0::cr from e0];exact List.mem_cons_self
  have e:=let_ok (so:="part") (w:=wS w) (n:=n-1) (by lia) (ms:=ms) (ts:=ts) pre c (List.replicate k 32++post) hk hcap (fun c r e=>(hfin rfl rfl c r e).2) ht
  have e1:=beg_let (n:=n) (by lia) (hk.nf c0 hmem) (hk.al c0 hmem) (sr0 ..) e
  exact body_ok ι w ms ts hlt hcap hc (by rw [if_pos hw];exact e1) (hskip "" _)
 | tru=>
  cases e0
  have e:=true_ok (so:="part") (n:=n-1) (by lia) (ms:=ms) (ts:=ts) pre (List.replicate k 32++post) hcap (fun c r e=>(hfin rfl rfl c r e).2) ht
  have e1:=beg_let (n:=n) (by lia) tn_c.2.2.1 tn_c.2.2.2.2.1 (sr0 ..) e
  exact body_ok ι .par ms ts hlt hcap hc (by rw [if_pos (by decide)];exact e1) (hskip "" _)
 | no=>
  cases e0
  have e:=not_ok (so:="part") (n:=n-1) (by lia) (ms:=ms) (ts:=ts) pre (List.replicate k 32++post) hcap (hblk rfl) (by lia)
  have e1:=beg_let (n:=n) (by lia) tn_c.2.2.2.1 tn_c.2.2.2.2.2 (sr0 ..) e
  exact body_ok ι .par ms ts hlt hcap hc (by rw [if_pos (by decide)];exact e1) (hskip "part" _)
 | lp hw=>
  cases e0
  have e1:=beg_lp (so:="part") (cs:=pre++(Tk.lp.tx++(List.replicate k 32++post))) (i:=pre.length) (w:=wS w) (n:=n) (by lia) ms ts (by lia)
  exact body_ok ι w ms ts hlt hcap hc (by rw [if_pos hw];exact e1) (hskip "factor" _)
 | lb=>
  cases e0
  have e1:=beg_lb (so:="part") (cs:=pre++(Tk.lb.tx++(List.replicate k 32++post))) (i:=pre.length) (n:=n) (by lia) ms ts (by lia)
  exact body_ok ι .par ms ts hlt hcap hc (by rw [if_pos (by decide)];exact e1) (hskip "part" _)
 | @op m _ t0 ts hS=>
  cases e0
  have e1:=beh_op (so:="part") (cs:=pre++((Tk.op m).tx++(List.replicate k 32++post))) (i:=pre.length) (w:=wS .done) (n:=n) (by lia) (m:=m) hk ms t0 ts hS (ha rfl) hm ht
  exact body_ok ι .done ms (t0::ts) hlt hcap hc (by rw [if_neg (by decide)];exact e1) (hskip "factor" _)
 | @cm m _ _ ms1 t1 ts1 hfo hS hl=>
  have hcc:=((cm_t hk).1 c0 cr e0).2
  have e1:=beh_cm (w:=wS .done) (n:=n) (by lia) (m:=m) hk ms ts pre (List.replicate k 32++post) hcap (hcm rfl) (ha rfl) hm ht hfo hS hl
  exact body_ok ι .done ms ts hlt hcap hc (by rw [if_neg (by decide),hcc];exact e1) (hskip "factor" _)
 | @jn m _ _ ms1 t1 ts1 hfo hS=>
  have hcc:=(jn_t hk c0 cr e0).2
  have hks:1≤m.l/\m.l≤2:=hk
  have f:=foldR_ops 4 (by lia) ms ts (by unfold Iv at hi;simpa using hi)
  rw [hfo] at f
  have e1:=beh_jn (so:="part") (w:=wS .done) (n:=n) (by lia) (m:=m) hks.1 hks.2 ms ts pre (List.replicate k 32++post) hcap (hblk rfl) (hpre (.inr rfl)) (ha rfl) hm ht hfo hS (by simp only at f;lia)
  exact body_ok ι .done ms ts hlt hcap hc (by rw [if_neg (by decide),hcc];exact e1) (hskip "part" _)
 | rp hfo=>
  cases e0
  have e1:=beh_rp (so:="part") (cs:=pre++(Tk.rp.tx++(List.replicate k 32++post))) (i:=pre.length) (w:=wS .done) (n:=n) (by lia) ms ts (ha rfl) hm ht _ _ hfo
  exact body_ok ι .done ms ts hlt hcap hc (by rw [if_neg (by decide)];exact e1) (hskip "" _)
 | rb hfo hS hf1=>
  cases e0
  have f:=foldR_ops 4 (by lia) ms ts (by unfold Iv at hi;simpa using hi)
  rw [hfo] at f
  have e1:=beh_rb (so:="part") (cs:=pre++(Tk.rb.tx++(List.replicate k 32++post))) (i:=pre.length) (w:=wS .done) (n:=n) (by lia) ms ts (ha rfl) hm ht hfo hS (by simp only at f;lia) hf1
  exact body_ok ι .done ms ts hlt hcap hc (by rw [if_neg (by decide)];exact e1) (hskip "" _)
end My
namespace My
open PySem L2 Ev
variable {cs:List Nat}{i:Nat}
noncomputable def Tx:List (Tk×Nat)->List Nat
 | []=>[]
 | (t,k)::r=>t.tx++(List.replicate k 32++Tx r)
noncomputable def headJ:List (Tk×Nat)->Bool
 | (t,_)::_=>t.isJ
 | []=>false
noncomputable def headO:List (Tk×Nat)->Nat
 | (t,_)::_=>t.o
 | []=>0
inductive Run:List (Tk×Nat)->W->List Mk->List P->W->List Mk->List P->Prop
 | nil {w ms ts}:Run [] w ms ts w ms ts
 | cons {t k r w ms ts w1 m1 t1 w' ms' ts'}:Step t w ms ts w1 m1 t1->(t.wd=true->1≤k+headO r)->(headJ r=true->1≤k+t.b)->Run r w1 m1 t1 w' ms' ts'->Run ((t,k)::r) w ms ts w' ms' ts'
theorem tx_nb:∀{r:List (Tk×Nat)},(∀x ∈ r,x.1.ok)->∀c q,Tx r=c::q->inS c " "=false
 | [],_,c,q,e=>by cases e
 | (t,k)::r,h,c,q,e=>by
  have hk:=h (t,k) List.mem_cons_self
  cases et:t.tx with
  | nil=>exact absurd et (Tk.ne hk)
  | cons a b=>
   simp only [Tx,et,List.cons_append] at e
   cases e
   exact nb_of hk c b et
theorem tx_open {r:List (Tk×Nat)} (h:1≤headO r):∀c q,Tx r=c::q->inS c "abcdefghijklmnopqrstuvwxyz"=false:=by
 intro c q e
 cases r with
 | nil=>cases e
 | cons a r=>
  obtain⟨t,k⟩:=a
  have h':1≤t.o:=h
  cases t with
  | lp=>cases e;exact c93.2.2.1
  | lb=>cases e;exact c93.2.2.2
  | _=>exact absurd h' (by simp [Tk.o])
theorem tx_fin {r:List (Tk×Nat)} (h:∀x ∈ r,x.1.ok) {ms ms':List Mk}{ts ts':List P}{w':W} (hr:Run r .done ms ts w' ms' ts') (hj:headJ r=false):∀c q,Tx r=c::q->Fin' c:=by
 intro c q e
 cases hr with
 | nil=>cases e
 | @cons t k r _ _ _ w1 m1 t1 _ _ _ hs _ _ _=>
  have hk:=h (t,k) List.mem_cons_self
  cases et:t.tx with
  | nil=>exact absurd et (Tk.ne hk)
  | cons a b=>
   simp only [Tx,et,List.cons_append] at e
   cases e
   exact fin_of hk hs hj c b et
theorem tx_fac {r:List (Tk×Nat)} (h:∀x ∈ r,x.1.ok) {ms ms':List Mk}{ts ts':List P} (hr:Run r .fac ms ts .done ms' ts'):∃c q,Tx r=c::q/\c < 128/\c≠61:=by
 cases hr with
 | @cons t k r _ _ _ w1 m1 t1 _ _ _ hs _ _ _=>
  have hk:=h (t,k) List.mem_cons_self
  cases et:t.tx with
  | nil=>exact absurd et (Tk.ne hk)
  | cons a b=>exact⟨a,b++(List.replicate k 32++Tx r),by simp only [Tx,et,List.cons_append],fac_head hk hs a b et⟩
theorem pre_next {t:Tk}{w w':W}{ms ms':List Mk}{ts ts':List P} (hk:t.ok) (hs:Step t w ms ts w' ms' ts') (pre post:List Nat) (k:Nat) (hw:(w'≠.done/\(t.wd=true->1≤k))\/1≤k+t.b):PreOk (pre++(t.tx++(List.replicate k 32++post))) (pre.length+t.tx.length+k):=by
 right
 cases k with
 | succ k=>
  refine⟨32,atI_nat' (by lia) ?_,b32.2.2⟩
  have:(((pre.length+t.tx.length+(k+1):Nat):Int)-1).toNat=pre.length+(t.tx.length+k):=by lia
  rw [this,List.getElem?_append_right (by lia),show pre.length+(t.tx.length+k)-pre.length=t.tx.length+k by lia,List.getElem?_append_right (by lia),show t.tx.length+k-t.tx.length=k by lia,List.getElem?_append_left (by simp)]
  simp
 | zero=>
  have one:∃p c,t.tx=p++[c]/\inS c AL=false:=by
   cases hs with
   | lp=>exact⟨[],40,rfl,c41.2.2.2.2.1⟩
   | lb=>exact⟨[],91,rfl,c41.2.2.2.2.2⟩
   | @op m=>exact⟨[],m.c,rfl,(op_c hk).2⟩
   | cm=>exact (cm_t hk).2
   | rp=>exact⟨[],41,rfl,c93.1⟩
   | rb=>exact⟨[],93,rfl,c93.2.1⟩
   | no=>rcases hw with ⟨_,h⟩ | h;(have:=h rfl;lia);exact absurd h (by simp [Tk.b])
   | jn=>rcases hw with ⟨_,h⟩ | h;(have:=h rfl;lia);exact absurd h (by simp [Tk.b])
   | num=>rcases hw with ⟨h,_⟩ | h;exact absurd rfl h;exact absurd h (by simp [Tk.b])
   | nam=>rcases hw with ⟨h,_⟩ | h;exact absurd rfl h;exact absurd h (by simp [Tk.b])
   | tru=>rcases hw with ⟨h,_⟩ | h;exact absurd rfl h;exact absurd h (by simp [Tk.b])
  obtain⟨p,c,e,hc⟩:=one
  refine⟨c,atI_nat' (by rw [e];simp;lia) ?_,hc⟩
  rw [e]
  have:(((pre.length+(p++[c]).length+0:Nat):Int)-1).toNat=pre.length+p.length:=by simp;lia
  rw [this,List.getElem?_append_right (by lia),show pre.length+p.length-pre.length=p.length by lia,List.append_assoc,List.getElem?_append_right (by lia)]
  simp
theorem loop_ok {n:Nat} (hn:6≤n) (ι:Str->GF) (hcap:cs.length≤1000000):∀(r:List (Tk×Nat)) (pre:List Nat) (f:Nat) {w:W}{ms ms':List Mk}{ts ts':List P},cs=pre++Tx r->(∀x ∈ r,x.1.ok/\x.2 < 1000)->Run r w ms ts .done ms' ts'->Iv w ms ts ->
  ms.length+r.length < 1000->ts.length+r.length≤1000->r.length < f->((w≠.done/\headO r=0)\/headJ r=true->PreOk cs pre.length) ->
  whileGo (bOr (bV (vOpE gNe (eFld (aT Att) (eVar 0) "wanted") (eV (vC (.str ""))))) (bV (vOp dLt (vE (eFld (aT Att) (eVar 0) "spot")) (vLen (eFld (aT Att) (eVar 0) "text"))))) (b_n_Reader_read_L1 (Psi Gv Att Tb n) ι) f [some (.ref 0)] (Sr "part" cs pre.length (wS w) (ms,ts)) =
   some (.nx,[some (.ref 0)],Sr "part" cs cs.length "" (ms',ts'))/\Iv .done ms' ts'/\ms'.length < 1000/\ts'.length≤1000
 | r,pre,0,w,ms,ms',ts,ts',_,_,_,_,_,_,hf,_=>by lia
 | [],pre,f+1,w,ms,ms',ts,ts',hc,_,hr,hi,hm,ht,_,_=>by
  cases hr
  have hl:pre.length=cs.length:=by rw [hc];simp [Tx]
  refine⟨?_,hi,by simpa using hm,by simpa using ht⟩
  have hw:∀S,gNe (.p (.str (wS .done))) (.p (.str "")) S=some (.bl false):=fun S=>wS_eq .done S
  rw [hl]
  refine whileGo_end ?_
  unfold Sr
  dsimp only
  generalize ts.reverse=rt at *
  generalize ms.reverse.map Mk.s=rm at *
  simp [St,hw,lenD,lenP,hcap]
  rfl
 | (t,k)::r,pre,f+1,w,ms,ms',ts,ts',hc,hk,hr,hi,hm,ht,hf,hp=>by
  cases hr with
  | @cons _ _ _ _ _ _ w1 m1 t1 _ _ _ hs hwd hj hr=>
   have hk0:=hk (t,k) List.mem_cons_self
   have hkr:∀x ∈ r,x.1.ok/\x.2 < 1000:=fun x hx=>hk x (List.mem_cons_of_mem _ hx)
   obtain⟨i1,l1,l2⟩:=step_iv hk0.1 hs hi
   have hc1:cs=pre++(t.tx++(List.replicate k 32++Tx r)):=hc
   simp only [List.length_cons] at hm ht hf
   have hpn:(w1≠.done/\headO r=0)\/headJ r=true->PreOk cs (pre++(t.tx++List.replicate k 32)).length:=fun z=>by
    have:=pre_next hk0.1 hs pre (Tx r) k (z.imp (fun ⟨h1,h2⟩=>⟨h1,fun h=>by have:=hwd h;lia⟩) hj)
    rw [<- hc1] at this
    simpa [Nat.add_assoc] using this
   obtain⟨e,q1,q2,q3⟩:=loop_ok hn ι hcap r (pre++(t.tx++List.replicate k 32)) f (by rw [hc1];simp) hkr hr i1 (by lia) (by lia) (by lia) hpn
   refine⟨?_,q1,q2,q3⟩
   have hcm:t.isC=true->∃d q,List.replicate k 32++Tx r=d::q/\d < 128/\d≠61:=fun hC=>by
    cases k with
    | succ k=>exact⟨32,List.replicate k 32++Tx r,rfl,by decide,by decide⟩
    | zero=>
     cases hs with
     | cm=>simpa using tx_fac (fun x hx=>(hkr x hx).1) hr
     | _=>cases hC
   have b:=tok_ok hn ι t hk0.1 pre (Tx r) k hs hi (by lia) (by lia) (by rw [<- hc1];exact hcap) hk0.2 (tx_nb fun x hx=>(hkr x hx).1)
    (fun z hb h0=>by subst z;exact tx_fin (fun x hx=>(hkr x hx).1) hr (by cases hh:headJ r with | false=>rfl | true=>have:=hj hh;lia)) (fun hw h0=>tx_open (by have:=hwd hw;lia)) hcm (fun z=>by rw [<- hc1];exact hp z)
   rw [<- hc1] at b
   have hlt:pre.length < cs.length:=by
    rw [hc1]
    have:=List.length_pos_iff.mpr (Tk.ne (t:=t) hk0.1)
    simp
    lia
   rw [show (pre++(t.tx++List.replicate k 32):List Nat).length=pre.length+t.tx.length+k by simp [Nat.add_assoc]] at e
   refine (whileGo_nx (S1:=Sr "part" cs pre.length (wS w) (ms,ts)) ?_ b).trans e
   have hw:=wS_eq w
   have hlt2:(pre.length:Int) < (cs.length:Int):=by lia
   unfold Sr
   dsimp only
   generalize ts.reverse=rt at *
   generalize ms.reverse.map Mk.s=rm at *
   cases w <;> simp [St,hw,lenD,lenP,hcap,hlt,hlt2]
section
variable (y a b c d e:D)
@[simp] theorem ip1:putK "text" []=(["text"]:List Str):=rfl
@[simp] theorem ip2:putK "spot" ["text"]=(["text","spot"]:List Str):=by kernel_rfl
@[simp] theorem ip3:putK "sought" ["text","spot"]=(["text","spot","sought"]:List Str):=by kernel_rfl
@[simp] theorem ip4:putK "wanted" ["text","spot","sought"]=(["text","spot","sought","wanted"]:List Str):=by kernel_rfl
@[simp] theorem ip5:putK "trees" ["text","spot","sought","wanted"]=(["text","spot","sought","wanted","trees"]:List Str):=by kernel_rfl
@[simp] theorem ip6:putK "marks" ["text","spot","sought","wanted","trees"]=RK:=by kernel_rfl
@[simp] theorem iq1:putD "text" y [] []=[y]:=rfl
@[simp] theorem iq2:putD "spot" y ["text"] [a]=[a,y]:=by kernel_rfl
@[simp] theorem iq3:putD "sought" y ["text","spot"] [a,b]=[a,b,y]:=by kernel_rfl
@[simp] theorem iq4:putD "wanted" y ["text","spot","sought"] [a,b,c]=[a,b,c,y]:=by kernel_rfl
@[simp] theorem iq5:putD "trees" y ["text","spot","sought","wanted"] [a,b,c,d]=[a,b,c,d,y]:=by kernel_rfl
@[simp] theorem iq6:putD "marks" y ["text","spot","sought","wanted","trees"] [a,b,c,d,e]=[a,b,c,d,e,y]:=by kernel_rfl
end
theorem init_ok {n:Nat} (hn:2≤n) (so:Str):Psi Gv Att Tb n "Reader.__init__" [.ref 0,.p (.str (txt cs)),.p (.str so)] [.ins "Reader" [] []]=some (.p .non,Sr so cs 0 so ([],[])):=by
 obtain⟨n,rfl⟩:=ex2 (n:=n) (by first | assumption | lia)
 rw [e_n_Reader_init]
 simp [fnR,b_n_Reader_init,Sr,St,few]
theorem read_ok {n:Nat} (hn:8≤n) (b:Nat) (r:List (Tk×Nat)) (hk:∀x ∈ r,x.1.ok/\x.2 < 1000) {ms' ms1:List Mk}{ts' ts1:List P}{t z:P} (hr:Run r .par [] [] .done ms' ts') (hf:foldR 4 ms' ts'=(ms1,t::ts1)) (hs:NoSum t) (hf1:foldR 1 ms1 (t::ts1)=([],[z])) (hl:r.length < 990) (hb:b < 1000)
  (hcap:(List.replicate b 32++Tx r).length≤1000000):∃S,Psi Gv Att Tb n "Reader.read" [.ref 0] (Sr "part" (List.replicate b 32++Tx r) 0 "part" ([],[]))=some (.p z,S):=by
 obtain⟨n,rfl⟩:=ex2 (n:=n) (by first | assumption | lia)
 have e1:=skip_ok (so:="part") (w:="part") (ts:=[]) (ms:=[]) (n:=n+1) (by lia) [] (Tx r) b hcap (tx_nb fun x hx=>(hk x hx).1) hb
 have hpre:PreOk (List.replicate b 32++Tx r) (List.replicate b 32).length:=by
  cases b with
  | zero=>exact .inl rfl
  | succ b=>
   refine .inr ⟨32,atI_nat' (by simp) ?_,b32.2.2⟩
   have:(((List.replicate (b+1) 32).length:Int)-1).toNat=b:=by simp
   rw [this,List.getElem?_append_left (by simp)]
   simp
 obtain⟨e2,hi,h1,h2⟩:=loop_ok (cs:=List.replicate b 32++Tx r) (n:=n+1) (by lia) (Psi Gv Att Tb n) hcap r (List.replicate b 32) 1000 (w:=.par) rfl hk hr rfl (by simp;lia) (by simp;lia) (by lia) (fun _=>hpre)
 have ha:ts'.length=ops ms'+1:=hi
 have f:=foldR_ops 4 (by lia) ms' ts' ha
 rw [hf] at f
 have e3:=end_ok (cs:=List.replicate b 32++Tx r) (i:=(List.replicate b 32++Tx r).length) (w:="") (n:=n+1) (by lia) ms' ts' (by lia) h1 h2 hf hs (by simp only at f;lia) hf1
 rw [List.length_replicate] at e2
 refine⟨Sr "part" (List.replicate b 32++Tx r) (List.replicate b 32++Tx r).length "" ([],[z]),?_⟩
 rw [e_n_Reader_read]
 have e1':Psi Gv Att Tb (n+1) "Reader.skip_blanks" [.ref 0] (Sr "part" (List.replicate b 32++Tx r) 0 "part" ([],[]))=some (.p .non,Sr "part" (List.replicate b 32++Tx r) b (wS .par) ([],[])):=by
  have:=e1
  simp only [List.nil_append,List.length_nil,Nat.zero_add] at this
  exact this
 generalize List.replicate b 32++Tx r=cs at *
 have z1:=fun (i:Nat) (w:Str) (s:List Mk×List P)=>(show (Sr "part" cs i w s)[0]? = some (.ins "Reader" RK [.p (.str (txt cs)),.p (.int (i:Int)),.p (.str "part"),.p (.str w),.ref 1,.ref 2]) from rfl)
 have m1:∀(mn:Str) (i:Nat) (w:Str) (s:List Mk×List P) (g:GF),mT Tb (Psi Gv Att Tb (n+1)) "Reader" mn=some g->(mn ∈ RK↔False)->eMeth (mT Tb (Psi Gv Att Tb (n+1))) (eVar 0) mn dsNil [some (.ref 0)] (Sr "part" cs i w s)=g [.ref 0] (Sr "part" cs i w s):=fun mn i w s g hg hm=>by
  simp [z1,hg,hm]
 simp only [fnR,b_n_Reader_read,sWhile,sSeq_ev,sDrop_ev,sRet_ev,List.length_cons,List.length_nil,List.map_cons,List.map_nil,List.cons_append,List.nil_append,Nat.reduceSub,List.replicate,Nat.reduceAdd,if_true,m1 "skip_blanks" _ _ _ _ (mt2 _) rc2,e1',bnd_some,e2,m1 "read_end" _ _ _ _ (mt6 _) rc6,e3]
theorem cond_read {n:Nat} (hn:10≤n) (b:Nat) (r:List (Tk×Nat)) (hk:∀x ∈ r,x.1.ok/\x.2 < 1000) {ms' ms1:List Mk}{ts' ts1:List P}{t z:P} (hr:Run r .par [] [] .done ms' ts') (hf:foldR 4 ms' ts'=(ms1,t::ts1)) (hs:NoSum t) (hf1:foldR 1 ms1 (t::ts1)=([],[z])) (hl:r.length < 990) (hb:b < 1000)
  (hcap:(List.replicate b 32++Tx r).length≤1000000):pureOf (Psi Gv Att Tb n "read_condition") [.str (txt (List.replicate b 32++Tx r))]=some z:=by
 obtain⟨n,rfl⟩:=ex2 (n:=n) (by first | assumption | lia)
 obtain⟨S,e⟩:=read_ok (n:=n+1) (by lia) b r hk hr hf hs hf1 hl hb hcap
 have e0:=init_ok (cs:=List.replicate b 32++Tx r) (n:=n) (by lia) "part"
 rw [e_n_read_condition,pureOf_fn]
 generalize List.replicate b 32++Tx r=cs at *
 have z1:=fun (i:Nat) (w:Str) (s:List Mk×List P)=>(show (Sr "part" cs i w s)[0]? = some (.ins "Reader" RK [.p (.str (txt cs)),.p (.int (i:Int)),.p (.str "part"),.p (.str w),.ref 1,.ref 2]) from rfl)
 simp [b_n_read_condition,e0,z1,e]
end My
namespace My
open PySem L2 Ev
inductive Sp (B:Nat):Nat->T->List (Tk×Nat)->Prop
 | num {n:Nat}{c:List Nat}{k:Nat}:Num n c->k≤B->Sp B 7 (.num n) [(.num n c,k)]
 | nam {c:List Nat}{k:Nat}:Nam c->k≤B->Sp B 7 (.nam c) [(.nam c,k)]
 | bin {m:Mk}{l r:T}{a b k:Nat}{x y:List (Tk×Nat)}:5≤m.l->Sp B a l x->m.l≤a->Sp B b r y->m.l < b->k≤B->Sp B m.l (.bin m l r) (x++(.op m,k)::y)
 | par {t:T}{a k k':Nat}{x:List (Tk×Nat)}:Sp B a t x->k≤B->k'≤B->Sp B 7 t ((.lp,k)::(x++[(.rp,k')]))
theorem Sp.five {B a:Nat}{t:T}{x:List (Tk×Nat)} (h:Sp B a t x):5≤a:=by
 cases h with
 | num=>decide
 | nam=>decide
 | bin h=>exact h
 | par=>decide
theorem Sp.mono {B B' a:Nat}{t:T}{x:List (Tk×Nat)} (h:Sp B a t x) (hb:B≤B'):Sp B' a t x:=by
 induction h with
 | num h k=>exact .num h (by lia)
 | nam h k=>exact .nam h (by lia)
 | bin h _ l _ r k i1 i2=>exact .bin h i1 l i2 r (by lia)
 | par _ k k' i=>exact .par i (by lia) (by lia)
theorem Sp.all {B a:Nat}{t:T}{x:List (Tk×Nat)} (h:Sp B a t x):∀y ∈ x,y.1.ok/\y.2≤B:=by
 induction h with
 | num h k=>intro y hy;rw [List.mem_singleton.mp hy];exact⟨h,k⟩
 | nam h k=>intro y hy;rw [List.mem_singleton.mp hy];exact⟨h,k⟩
 | bin h _ _ _ _ k i1 i2=>
  intro y hy
  rcases List.mem_append.mp hy with hy | hy
  ·exact i1 y hy
  ·rcases List.mem_cons.mp hy with rfl | hy
   ·exact⟨h,k⟩
   ·exact i2 y hy
 | par _ k k' i=>
  intro y hy
  rcases List.mem_cons.mp hy with rfl | hy
  ·exact⟨trivial,k⟩
  ·rcases List.mem_append.mp hy with hy | hy
   ·exact i y hy
   ·rw [List.mem_singleton.mp hy];exact⟨trivial,k'⟩
theorem tx_app:∀(x y:List (Tk×Nat)),Tx (x++y)=Tx x++Tx y
 | [],y=>rfl
 | (t,k)::x,y=>by simp [Tx,tx_app x y]
theorem foldR_stop (l:Nat) (ms:List Mk) (ts:List P) (h:∀m r,ms=m::r->m.l < l):foldR l ms ts=(ms,ts):=by
 match ms,ts with
 | [],ts=>cases ts <;> rfl
 | m::ms,[]=>rfl
 | m::ms,o::ts=>
  unfold foldR
  rw [if_neg (by have:=h m ms rfl;lia)]
theorem foldR_two {l:Nat}{m:Mk} (hl:l≤m.l) (h3:m.l≠3) (ms:List Mk) (o e:P) (ts:List P):foldR l (m::ms) (o::e::ts)=foldR l ms (m.f e o::ts):=by
 simp only [foldR]
 rw [if_pos hl,if_neg h3]
theorem foldR_no {l:Nat} (hl:l≤3) (ms:List Mk) (o:P) (ts:List P):foldR l (.no::ms) (o::ts)=foldR l ms (.tup [.str "not",o]::ts):=by
 simp only [foldR]
 rw [if_pos (show l≤Mk.no.l from hl),if_pos (show Mk.no.l=3 from rfl)]
theorem foldR_twice {l j:Nat} (hl:l≤j):∀(ms:List Mk) (ts:List P),foldR l (foldR j ms ts).1 (foldR j ms ts).2=foldR l ms ts
 | [],ts=>by cases ts <;> rfl
 | m::ms,[]=>rfl
 | m::ms,o::ts=>by
  by_cases hj:j≤m.l
  ·by_cases h3:m.l=3
   ·have e1:∀q,q≤m.l->foldR q (m::ms) (o::ts)=foldR q ms (.tup [.str "not",o]::ts):=fun q hq=>by simp only [foldR];rw [if_pos hq,if_pos h3]
    rw [e1 j hj,e1 l (by lia)]
    exact foldR_twice hl ms _
   ·cases ts with
    | nil=>
     have e1:foldR j (m::ms) [o]=(m::ms,[o]):=by simp only [foldR];rw [if_pos hj,if_neg h3]
     rw [e1]
    | cons e ts=>
     rw [foldR_two hj h3,foldR_two (by lia) h3]
     exact foldR_twice hl ms _
  ·have e1:foldR j (m::ms) (o::ts)=(m::ms,o::ts):=by simp only [foldR];rw [if_neg hj]
   rw [e1]
noncomputable def lastK:List (Tk×Nat)->Nat
 | []=>0
 | [(t,k)]=>k+t.b
 | _::r=>lastK r
theorem Run.append {x y:List (Tk×Nat)}{w w1 w2:W}{ms m1 m2:List Mk}{ts t1 t2:List P} (h:Run x w ms ts w1 m1 t1) (g:Run y w1 m1 t1 w2 m2 t2) (hj:headJ y=true->1≤lastK x) (hx:x≠[]):Run (x++y) w ms ts w2 m2 t2:=by
 induction h with
 | nil=>exact absurd rfl hx
 | @cons t k r _ _ _ _ _ _ _ _ _ hs hwd hh hr ih=>
  cases r with
  | nil=>
   cases hr
   exact .cons hs (fun h=>Nat.le_trans (hwd h) (Nat.add_le_add_left (Nat.zero_le _) _)) hj g
  | cons a r=>exact .cons hs hwd hh (ih g hj (fun z=>nomatch z))
theorem lastK_cons (a:Tk×Nat) {r:List (Tk×Nat)} (h:r≠[]):lastK (a::r)=lastK r:=by
 cases r with
 | nil=>exact absurd rfl h
 | cons b r=>rfl
theorem lastK_app (x:List (Tk×Nat)) {y:List (Tk×Nat)} (h:y≠[]):lastK (x++y)=lastK y:=by
 induction x with
 | nil=>rfl
 | cons a x ih=>rw [List.cons_append,lastK_cons a (by simp [h]),ih]
theorem Sp.ne {B a:Nat}{t:T}{x:List (Tk×Nat)} (h:Sp B a t x):x≠[]:=by cases h <;> simp
theorem headJ_app {x:List (Tk×Nat)} (h:x≠[]) (y:List (Tk×Nat)):headJ (x++y)=headJ x:=by
 cases x with
 | nil=>exact absurd rfl h
 | cons a x=>rfl
theorem Sp.padK {B a j:Nat}{t:T}{x:List (Tk×Nat)} (h:Sp B a t x):∃x',Sp (B+j) a t x'/\Tx x'=Tx x++List.replicate j 32/\x'.length=x.length/\lastK x'=lastK x+j:=by
 induction h with
 | @num n c k h hk=>exact⟨[(.num n c,k+j)],.num h (by lia),by simp [Tx],rfl,rfl⟩
 | @nam c k h hk=>exact⟨[(.nam c,k+j)],.nam h (by lia),by simp [Tx],rfl,rfl⟩
 | @bin m l r a b k x y h h1 l1 h2 l2 hk i1 i2=>
  obtain⟨y',s,e,le,lk⟩:=i2
  exact⟨x++(.op m,k)::y',.bin h (h1.mono (by lia)) l1 s l2 (by lia),by simp [tx_app,Tx,e],by simp [le],by rw [lastK_app _ (by simp),lastK_app _ (by simp),lastK_cons _ s.ne,lastK_cons _ h2.ne,lk]⟩
 | @par t a k k' x h1 hk hk' i=>exact⟨(.lp,k)::(x++[(.rp,k'+j)]),.par (h1.mono (by lia)) (by lia) (by lia),by simp [tx_app,Tx],by simp,by rw [lastK_cons _ (by simp),lastK_cons _ (by simp),lastK_app _ (by simp),lastK_app _ (by simp)];exact Nat.add_right_comm _ _ _⟩
theorem Sp.pad {B a j:Nat}{t:T}{x:List (Tk×Nat)} (h:Sp B a t x):∃x',Sp (B+j) a t x'/\Tx x'=Tx x++List.replicate j 32/\x'.length=x.length:=
 have ⟨x',h1,h2,h3,_⟩:=h.padK (j:=j)
 ⟨x',h1,h2,h3⟩
theorem Sp.hj {B a:Nat}{t:T}{x:List (Tk×Nat)} (h:Sp B a t x):headJ x=false:=by
 induction h with
 | bin _ g _ _ _ _ i _=>rw [headJ_app g.ne];exact i
 | _=>rfl
theorem Sp.sum {B a:Nat}{t:T}{x:List (Tk×Nat)} (h:Sp B a t x):SumP t.p:=by
 induction h with
 | num=>exact sumP_num _
 | nam=>exact sumP_nam _
 | bin h=>exact sumP_bin h _ _
 | par _ _ _ i=>exact i
theorem sp_run {B a:Nat}{t:T}{x:List (Tk×Nat)} (h:Sp B a t x):∀(w:W) (ms:List Mk) (ts:List P),w≠.done->(∀m r,ms=m::r->m.l < a) ->
  ∃mx t0 tx,Run x w ms ts .done (mx++ms) (t0::(tx++ts))/\SumP t0/\∀l≤a,∀ms ts,foldR l (mx++ms) (t0::(tx++ts))=foldR l ms (t.p::ts):=by
 induction h with
 | num h k=>exact fun w ms ts hw _=>⟨[],_,[],.cons (.num hw) (fun z=>nomatch z) (fun z=>nomatch z) .nil,sumP_num _,fun l _ ms ts=>rfl⟩
 | nam h k=>exact fun w ms ts hw _=>⟨[],_,[],.cons (.nam hw) (fun z=>nomatch z) (fun z=>nomatch z) .nil,sumP_nam _,fun l _ ms ts=>rfl⟩
 | @bin m l r a b k x y h h1 l1 h2 l2 hk i1 i2=>
  intro w ms ts hw hm
  obtain⟨m1,t0,t1,e1,s1,c1⟩:=i1 w ms ts hw (fun q z e=>by have:=hm q z e;lia)
  obtain⟨m2,t0',t2,e2,s2,c2⟩:=i2 .fac (m::ms) (l.p::ts) (by decide) (fun q z e=>by cases e;exact l2)
  have st:=Step.op (m:=m) (ms:=m1++ms) (t:=t0) (ts:=t1++ts) s1
  rw [c1 m.l l1,foldR_stop m.l ms _ hm] at st
  refine⟨m2++[m],t0',t2++[l.p],?_,s2,fun lv hl ms ts=>?_⟩
  ·rw [List.append_assoc,List.append_assoc]
   exact e1.append (.cons st (fun z=>nomatch z) (fun z=>by rw [h2.hj] at z;cases z) e2) (fun z=>nomatch z) h1.ne
  ·rw [List.append_assoc,List.append_assoc,c2 lv (by lia)]
   exact foldR_two hl (by lia) ms r.p l.p ts
 | @par t a k k' x h1 hk hk' i=>
  intro w ms ts hw hm
  obtain⟨m1,t0,t1,e1,s1,c1⟩:=i .fac (.lp::ms) ts (by decide) (fun q z e=>by cases e;have:=h1.five;show 0 < a;lia)
  have c:=c1 5 h1.five (.lp::ms) ts
  rw [foldR_stop 5 (.lp::ms) _ (fun q z e=>by cases e;decide)] at c
  refine⟨[],t.p,[],?_,h1.sum,fun l _ ms ts=>rfl⟩
  refine .cons (.lp hw) (fun z=>nomatch z) (fun z=>by rw [headJ_app h1.ne,h1.hj] at z;cases z) ?_
  exact e1.append (.cons (.rp c) (fun z=>nomatch z) (fun z=>nomatch z) .nil) (fun z=>nomatch z) h1.ne
end My
namespace My
open PySem L2 Ev
inductive C where
 | tru | no (c:C) | is (m:Mk) (l r:T) | bin (m:Mk) (l r:C)
noncomputable def C.p:C->P
 | .tru=>.tup [.str "true"]
 | .no c=>.tup [.str "not",c.p]
 | .is m l r=>m.f l.p r.p
 | .bin m l r=>m.f l.p r.p
inductive Cp (B:Nat):Nat->C->List (Tk×Nat)->Prop
 | tru {k:Nat}:k≤B->Cp B 4 .tru [(.tru,k)]
 | no {c:C}{a k:Nat}{x:List (Tk×Nat)}:Cp B a c x->3≤a->1≤k->k≤B->Cp B 3 (.no c) ((.no,k)::x)
 | is {m:Mk}{l r:T}{a b k:Nat}{x y:List (Tk×Nat)}:m.l=4->Sp B a l x->Sp B b r y->k≤B->Cp B 4 (.is m l r) (x++(.cm m,k)::y)
 | bin {m:Mk}{l r:C}{a b k:Nat}{x y:List (Tk×Nat)}:1≤m.l->m.l≤2->Cp B a l x->m.l≤a->Cp B b r y->m.l < b->1≤lastK x->1≤k->k≤B->Cp B m.l (.bin m l r) (x++(.jn m,k)::y)
 | br {c:C}{a k k':Nat}{x:List (Tk×Nat)}:Cp B a c x->k≤B->k'≤B->Cp B 7 c ((.lb,k)::(x++[(.rb,k')]))
theorem Cp.one {B a:Nat}{c:C}{x:List (Tk×Nat)} (h:Cp B a c x):1≤a:=by
 cases h with
 | bin h=>exact h
 | _=>decide
theorem Cp.mono {B B' a:Nat}{c:C}{x:List (Tk×Nat)} (h:Cp B a c x) (hb:B≤B'):Cp B' a c x:=by
 induction h with
 | tru k=>exact .tru (by lia)
 | no _ a k k' i=>exact .no i a k (by lia)
 | is m x y k=>exact .is m (x.mono hb) (y.mono hb) (by lia)
 | bin m m' _ l _ r p q k i1 i2=>exact .bin m m' i1 l i2 r p q (by lia)
 | br _ k k' i=>exact .br i (by lia) (by lia)
theorem Cp.ne {B a:Nat}{c:C}{x:List (Tk×Nat)} (h:Cp B a c x):x≠[]:=by cases h <;> simp
theorem Cp.hj {B a:Nat}{c:C}{x:List (Tk×Nat)} (h:Cp B a c x):headJ x=false:=by
 induction h with
 | bin _ _ g _ _ _ _ _ _ i _=>rw [headJ_app g.ne];exact i
 | is _ g=>rw [headJ_app g.ne];exact g.hj
 | _=>rfl
theorem Cp.nos {B a:Nat}{c:C}{x:List (Tk×Nat)} (h:Cp B a c x):NoSum c.p:=by
 induction h with
 | tru=>exact noSum_true
 | no=>exact noSum_not _
 | is h=>exact noSum_bin (by lia) (by lia) _ _
 | bin h1 h2=>exact noSum_bin h1 (by lia) _ _
 | br _ _ _ i=>exact i
theorem Cp.all {B a:Nat}{c:C}{x:List (Tk×Nat)} (h:Cp B a c x):∀y ∈ x,y.1.ok/\y.2≤B:=by
 induction h with
 | tru k=>intro y hy;rw [List.mem_singleton.mp hy];exact⟨trivial,k⟩
 | no _ _ _ k i=>
  intro y hy
  rcases List.mem_cons.mp hy with rfl | hy
  ·exact⟨trivial,k⟩
  ·exact i y hy
 | is h x y k=>
  intro z hz
  rcases List.mem_append.mp hz with hz | hz
  ·exact x.all z hz
  ·rcases List.mem_cons.mp hz with rfl | hz
   ·exact⟨h,k⟩
   ·exact y.all z hz
 | bin h1 h2 _ _ _ _ _ _ k i1 i2=>
  intro y hy
  rcases List.mem_append.mp hy with hy | hy
  ·exact i1 y hy
  ·rcases List.mem_cons.mp hy with rfl | hy
   ·exact⟨⟨h1,h2⟩,k⟩
   ·exact i2 y hy
 | br _ k k' i=>
  intro y hy
  rcases List.mem_cons.mp hy with rfl | hy
  ·exact⟨trivial,k⟩
  ·rcases List.mem_append.mp hy with hy | hy
   ·exact i y hy
   ·rw [List.mem_singleton.mp hy];exact⟨trivial,k'⟩
noncomputable def Hd (ms:List Mk):Prop:=∀m r,ms=m::r->m.l < 4/\m≠.lp
theorem Hd.c {m:Mk} (h:m.l < 4) (h2:m≠.lp) (ms:List Mk):Hd (m::ms):=fun q r e=>by cases e;exact⟨h,h2⟩
noncomputable def CR (a:Nat) (c:C) (x:List (Tk×Nat)):Prop:=∀(ms:List Mk) (ts:List P),Hd ms->(a≤2->∀m r,ms=m::r->m.l < a) ->
  ∃mx tx,Run x .par ms ts .done (mx++ms) (tx++ts)/\(∀l≤a,l≤4->∀ms ts,foldR l (mx++ms) (tx++ts)=foldR l ms (c.p::ts))/\∀ms ts,Hd ms->∃ms' t ts',foldR 4 (mx++ms) (tx++ts)=(ms',t::ts')/\NoSum t
theorem cr_bin {m:Mk}{l r:C}{a b k:Nat}{x y:List (Tk×Nat)} (hm1:1≤m.l) (hm2:m.l≤2) (i1:CR a l x) (l1:m.l≤a) (i2:CR b r y) (l2:m.l < b) (hlk:1≤lastK x) (hk1:1≤k+headO y) (hj:headJ y=false) (hx:x≠[]):CR m.l (.bin m l r) (x++(.jn m,k)::y):=by
 intro ms ts hh hm
 have hne:m≠.lp:=fun z=>by rw [z] at hm1;exact absurd hm1 (by decide)
 obtain⟨m1,t1,e1,c1,n1⟩:=i1 ms ts hh (fun ha q z e=>by have:=hm (by lia) q z e;lia)
 obtain⟨m2,t2,e2,c2,n2⟩:=i2 (m::ms) (l.p::ts) (.c (by lia) hne ms) (fun _ q z e=>by cases e;exact l2)
 obtain⟨ms',t,ts',f4,nt⟩:=n1 ms ts hh
 have st:=Step.jn (m:=m) f4 nt
 have tw:=foldR_twice (l:=m.l) (j:=4) (by lia) (m1++ms) (t1++ts)
 rw [f4] at tw
 dsimp only at tw
 rw [c1 m.l l1 (by lia),foldR_stop m.l ms _ (hm (by lia))] at tw
 rw [tw] at st
 refine⟨m2++[m],t2++[l.p],?_,fun lv hl hl4 ms ts=>?_,fun ms ts hh=>?_⟩
 ·rw [List.append_assoc,List.append_assoc]
  exact e1.append (.cons st (fun _=>hk1) (fun z=>by rw [hj] at z;cases z) e2) (fun _=>hlk) hx
 ·rw [List.append_assoc,List.append_assoc,List.singleton_append,List.singleton_append,c2 lv (by lia) hl4,foldR_two hl (by lia)]
  rfl
 ·rw [List.append_assoc,List.append_assoc]
  exact n2 (m::ms) (l.p::ts) (.c (by lia) hne ms)
theorem cp_run {B a:Nat}{c:C}{x:List (Tk×Nat)} (h:Cp B a c x):CR a c x:=by
 induction h with
 | tru k=>exact fun ms ts hh _=>⟨[],[_],.cons .tru (fun z=>nomatch z) (fun z=>nomatch z) .nil,fun l _ _ ms ts=>rfl,fun ms ts hh=>⟨ms,_,ts,foldR_stop 4 ms _ fun m r e=>(hh m r e).1,noSum_true⟩⟩
 | @no c a k x h ha h1 hk i=>
  intro ms ts hh _
  obtain⟨mx,tx,e,c1,n1⟩:=i (.no::ms) ts (.c (m:=.no) (by decide) (fun z=>nomatch z) ms) (fun z=>by lia)
  refine⟨mx++[.no],tx,?_,fun l hl hl4 ms ts=>?_,fun ms ts hh=>?_⟩
  ·rw [List.append_assoc]
   exact .cons .no (fun _=>by lia) (fun z=>by rw [h.hj] at z;cases z) e
  ·rw [List.append_assoc,List.singleton_append,c1 l (by lia) hl4,foldR_no hl]
   rfl
  ·rw [List.append_assoc]
   exact n1 (.no::ms) ts (.c (m:=.no) (by decide) (fun z=>nomatch z) ms)
 | @is m l r a b k x y hm h1 h2 hk=>
  intro ms ts hh _
  obtain⟨m1,t0,t1,e1,s1,c1⟩:=sp_run h1 .par ms ts (by decide) (fun q z e=>by have:=(hh q z e).1;have:=h1.five;lia)
  obtain⟨m2,t0',t2,e2,s2,c2⟩:=sp_run h2 .fac (m::ms) (l.p::ts) (by decide) (fun q z e=>by cases e;have:=h2.five;lia)
  have c:=c1 5 h1.five ms ts
  rw [foldR_stop 5 ms _ (fun q z e=>by have:=(hh q z e).1;lia)] at c
  have st:=Step.cm (m:=m) c h1.sum (fun q z e=>⟨by have:=(hh q z e).1;lia,(hh q z e).2⟩)
  refine⟨m2++[m],t0'::(t2++[l.p]),?_,fun lv hl hl4 ms ts=>?_,fun ms ts hh=>?_⟩
  ·simp only [List.append_assoc,List.cons_append,List.nil_append]
   exact e1.append (.cons st (fun z=>nomatch z) (fun z=>by rw [h2.hj] at z;cases z) e2) (fun z=>nomatch z) h1.ne
  ·simp only [List.append_assoc,List.cons_append,List.nil_append]
   rw [c2 lv (by have:=h2.five;lia),foldR_two (by lia) (by lia)]
   rfl
  ·simp only [List.append_assoc,List.cons_append,List.nil_append]
   rw [c2 4 (by have:=h2.five;lia),foldR_two (by lia) (by lia)]
   exact⟨ms,_,ts,foldR_stop 4 ms _ fun q r e=>(hh q r e).1,noSum_bin (by lia) (by lia) _ _⟩
 | @bin m l r a b k x y hm1 hm2 h1 l1 h2 l2 hlk hk1 hk i1 i2=>
  exact cr_bin hm1 hm2 i1 l1 i2 l2 hlk (by lia) h2.hj h1.ne
 | @br c a k k' x h1 hk hk' i=>
  intro ms ts hh hm
  obtain⟨m1,t1,e1,c1,n1⟩:=i (.lb::ms) ts (.c (m:=.lb) (by decide) (fun z=>nomatch z) ms) (fun _ q z e=>by cases e;have:=h1.one;show 0 < a;lia)
  obtain⟨ms',t,ts',f4,nt⟩:=n1 (.lb::ms) ts (.c (m:=.lb) (by decide) (fun z=>nomatch z) ms)
  have tw:=foldR_twice (l:=1) (j:=4) (by lia) (m1++.lb::ms) (t1++ts)
  rw [f4] at tw
  dsimp only at tw
  rw [c1 1 h1.one (by lia),foldR_stop 1 (.lb::ms) _ (fun q z e=>by cases e;decide)] at tw
  refine⟨[],[c.p],?_,fun l _ _ ms ts=>rfl,fun ms ts hh=>⟨ms,c.p,ts,foldR_stop 4 ms _ fun q r e=>(hh q r e).1,h1.nos⟩⟩
  refine .cons .lb (fun z=>nomatch z) (fun z=>by rw [headJ_app h1.ne,h1.hj] at z;cases z) ?_
  exact e1.append (.cons (.rb f4 nt tw) (fun z=>nomatch z) (fun z=>nomatch z) .nil) (fun z=>nomatch z) h1.ne
theorem tx_len {B:Nat}:∀(x:List (Tk×Nat)),(∀y ∈ x,y.1.ok/\y.2≤B)->(Tx x).length≤x.length * (10+B)
 | [],_=>by simp [Tx]
 | (t,k)::x,h=>by
  have ih:=tx_len x fun y hy=>h y (List.mem_cons_of_mem _ hy)
  have h0:=h (t,k) List.mem_cons_self
  have ht:t.tx.length≤10:=by
   cases t with
   | num n c=>have:=h0.1.le;show c.length≤10;lia
   | nam c=>exact h0.1.le
   | cm m=>cases m <;> decide
   | jn m=>cases m <;> decide
   | _=>simp [Tk.tx,tTrue,tNot]
  have hk:k≤B:=h0.2
  simp only [Tx,List.length_append,List.length_replicate,List.length_cons,Nat.succ_mul]
  lia
theorem cr_read {n:Nat} (hn:10≤n) {B a:Nat}{c:C}{x:List (Tk×Nat)} (h:CR a c x) (h1:1≤a) (hall:∀y ∈ x,y.1.ok/\y.2≤B) (hB:B≤900) (hx:x.length≤900) (b:Nat) (hb:b≤900):pureOf (Psi Gv Att Tb n "read_condition") [.str (txt (List.replicate b 32++Tx x))]=some c.p:=by
 obtain⟨mx,tx,e,c1,n1⟩:=h [] [] (fun q z e=>nomatch e) (fun _ q z e=>nomatch e)
 have hl:=tx_len x hall
 have h2:x.length * (10+B)≤900 * 910:=Nat.mul_le_mul hx (by lia)
 obtain⟨ms',t,ts',f4,nt⟩:=n1 [] [] (fun q z e=>nomatch e)
 have tw:=foldR_twice (l:=1) (j:=4) (by lia) (mx++[]) (tx++[])
 rw [f4] at tw
 dsimp only at tw
 rw [c1 1 h1 (by lia)] at tw
 exact cond_read hn b x (fun y hy=>⟨(hall y hy).1,by have:=(hall y hy).2;lia⟩) e f4 nt tw (by lia) (by lia) (by simp;lia)
theorem cp_read {n:Nat} (hn:10≤n) {B a:Nat}{c:C}{x:List (Tk×Nat)} (h:Cp B a c x) (hB:B≤900) (hx:x.length≤900) (b:Nat) (hb:b≤900):pureOf (Psi Gv Att Tb n "read_condition") [.str (txt (List.replicate b 32++Tx x))]=some c.p:=cr_read hn (cp_run h) h.one h.all hB hx b hb
end My
namespace My
open PySem L2 Ev
noncomputable def T.g:T->Prop
 | .num n=>n < 1000
 | .nam c=>Nam c
 | .bin m l r=>5≤m.l/\l.g/\r.g
noncomputable def T.lv:T->Nat
 | .num _=>7
 | .nam _=>7
 | .bin m _ _=>m.l
noncomputable def T.k:T->Str
 | .num _=>"number"
 | .nam _=>"name"
 | .bin m _ _=>m.k
noncomputable def T.sz:T->Nat
 | .num _=>1
 | .nam _=>1
 | .bin _ l r=>1+l.sz+r.sz
noncomputable def T.dp:T->Nat
 | .num _=>1
 | .nam _=>1
 | .bin _ l r=>1+max l.dp r.dp
noncomputable def fr (a l:Nat) (x:List Nat):List Nat:=if l≤a then x else 40::(x++[41])
noncomputable def shC:T->List Nat
 | .num n=>dg n
 | .nam c=>c
 | .bin m l r=>fr l.lv m.l (shC l)++(32::m.c::32::fr r.lv (m.l+1) (shC r))
theorem txt_app (a b:List Nat):txt a++txt b=txt (a++b):=by
 show (⟨(txt a).cps++(txt b).cps⟩:Str)=_
 simp [txt]
noncomputable def chk (n:Nat):Bool:=!(dg n).isEmpty && decide ((dg n).length≤3) && (dg n).all (fun c=>decide (48≤c) && decide (c < 58)) && (decide ((dg n)[0]? = some 48->(dg n).length=1))
theorem chk_all:∀n < 1000,chk n=true:=by decide +kernel
theorem fig_all:∀c < 58,48≤c->inS c "0123456789"=true/\inS c " "=false:=by decide +kernel
theorem str_dg (n:Nat):Str.ofString (toString (n:Int))=txt (dg n):=by
 have h:=PySem.W.KIN.signs_num n
 generalize Str.ofString (toString (n:Int))=x at *
 obtain⟨c⟩:=x
 show (⟨c⟩:Str)=⟨(dg n).toArray⟩
 have:c=(dg n).toArray:=by
  apply Array.toList_inj.mp
  simpa [dg] using h
 rw [this]
theorem num_dg {n:Nat} (h:n < 1000):Num n (dg n)/\Str.ofString (toString (n:Int))=txt (dg n):=by
 have c:=chk_all n h
 simp only [chk,Bool.and_eq_true,decide_eq_true_eq,List.all_eq_true,Bool.not_eq_true'] at c
 obtain⟨⟨⟨c1,c2⟩,c3⟩,c4⟩:=c
 have hv:=PySem.W.KIN.num_reads (n:=(n:Int)) (by lia) (by lia)
 rw [str_dg] at hv
 refine⟨⟨fun x hx=>(by have:=(c3 x hx).2;lia),?_,c2,fun x hx=>(fig_all x (c3 x hx).2 (c3 x hx).1).1,fun x hx=>(fig_all x (c3 x hx).2 (c3 x hx).1).2,c4,?_⟩,str_dg n⟩
 ·intro z
  rw [z] at c1
  cases c1
 ·simp only [c_int2,txt_len]
  rw [if_pos (by lia),hv]
  rfl
theorem lkT {t:T} (h:t.g):List.lookup t.k [(("or":Str),P.int 1),("and",.int 2),("not",.int 3),("is",.int 4),("true",.int 4),("plus",.int 5),("minus",.int 5),("times",.int 6),("number",.int 7),("name",.int 7)]=some (.int (t.lv:Int)):=by
 cases t with
 | num n=>kernel_rfl
 | nam c=>kernel_rfl
 | bin m l r=>cases m <;> first | exact absurd h.1 (by decide) | kernel_rfl
theorem lkS {m:Mk} (h:5≤m.l):List.lookup m.k [(("or":Str),P.str "or"),("and",.str "and"),("plus",.str "+"),("minus",.str "-"),("times",.str "*")]=some (.str m.s):=by cases m <;> first | exact absurd h (by decide) | kernel_rfl
theorem mk_num {m:Mk}:¬m.k=("number":Str):=by cases m <;> decide +kernel
theorem mk_nam {m:Mk}:¬m.k=("name":Str):=by cases m <;> decide +kernel
theorem nam_num:¬("name":Str)=("number":Str):=by decide +kernel
theorem k_sum {t:T} (h:t.g) (S:Sto):gIn (.p (.str t.k)) (.p (.tup [.str "number",.str "name",.str "plus",.str "minus",.str "times"])) S=some (.bl true):=by
 cases t with
 | num n=>kernel_rfl
 | nam c=>kernel_rfl
 | bin m l r=>cases m <;> first | exact absurd h.1 (by decide) | kernel_rfl
theorem f_sum {m:Mk} (h:5≤m.l) (a b:P):m.f a b=.tup [.str m.k,a,b]:=by
 have:¬m.l=4:=by lia
 simp [Mk.f,this]
theorem t_k {t:T} (h:t.g):∃r,t.p=.tup (.str t.k::r):=by
 cases t with
 | bin m l r=>exact⟨[l.p,r.p],f_sum h.1 _ _⟩
 | _=>exact⟨_,rfl⟩
theorem dix0 {t:T} (h:t.g):dIx t.p (.int 0)=some (.str t.k):=by
 obtain⟨r,e⟩:=t_k h
 rw [e];simp
theorem sh_len:∀t:T,t.g->(shC t).length≤17 * t.sz
 | .num n,h=>by have:=(num_dg h).1.le;show (dg n).length≤17;lia
 | .nam c,h=>by have:=Nam.le h;show c.length≤17;lia
 | .bin m l r,h=>by
  have h1:=sh_len l h.2.1
  have h2:=sh_len r h.2.2
  have f1:(fr l.lv m.l (shC l)).length≤(shC l).length+2:=by unfold fr;split <;> simp
  have f2:(fr r.lv (m.l+1) (shC r)).length≤(shC r).length+2:=by unfold fr;split <;> simp
  simp only [shC,T.sz,List.length_append,List.length_cons]
  lia
theorem s_blank:(" ":Str)=txt [32]:=by decide +kernel
theorem s_lp:("(":Str)=txt [40]:=by decide +kernel
theorem s_rp:(")":Str)=txt [41]:=by decide +kernel
theorem s_empty:Str.empty=txt []:=by decide +kernel
theorem s_mk {m:Mk} (h:5≤m.l):m.s=txt [m.c]:=by cases m <;> first | exact absurd h (by decide) | decide +kernel
theorem c_str_dg {q:Nat} (h:q < 1000):c_str [.int (q:Int)]=some (.str (txt (dg q))):=by
 rw [<- str_dg]
 simp only [c_str]
 rw [if_pos (decide_eq_true (by
  have:((q:Int)).natAbs=q:=by lia
  rw [this]
  by_cases h0:q=0
  ·subst h0;decide
  ·exact Nat.lt_of_lt_of_le ((Nat.log2_lt h0).mpr (show q < 2 ^ 60 by lia)) (by decide)))]
theorem shown_ok:∀(t:T),t.g->t.sz≤1000->∀n,3 * t.dp+2≤n->pureOf (Psi Gv Att Tb n "shown_sum") [t.p]=some (.str (txt (shC t)))
 | .num q,h,hz,n,hn=>by
  obtain⟨n,rfl⟩:=ex2 (n:=n) (by first | assumption | lia)
  have hs:=c_str_dg h
  rw [e_n_shown_sum,pureOf_fn]
  simp [b_n_shown_sum,T.p,hs,shC]
 | .nam c,h,hz,n,hn=>by
  obtain⟨n,rfl⟩:=ex2 (n:=n) (by first | assumption | lia)
  have k1:=nam_num
  rw [e_n_shown_sum,pureOf_fn]
  simp [b_n_shown_sum,T.p,k1,shC]
 | .bin m l r,h,hz,n,hn=>by
  simp only [T.dp] at hn
  simp only [T.sz] at hz
  obtain⟨n,rfl⟩:=ex4 (n:=n) (by first | assumption | lia)
  have el:=shown_ok l h.2.1 (by lia) (n+1) (by lia)
  have er:=shown_ok r h.2.2 (by lia) (n+1) (by lia)
  have ll:=sh_len l h.2.1
  have lr:=sh_len r h.2.2
  have from':∀(t:T) (lv:Nat),t.g->(shC t).length≤17000->pureOf (Psi Gv Att Tb (n+1) "shown_sum") [t.p]=some (.str (txt (shC t)))->pureOf (Psi Gv Att Tb (n+2) "shown_from") [t.p,.int (lv:Int)]=some (.str (txt (fr t.lv lv (shC t)))):=fun t lv hg hl e=>by
   have k1:=lkT hg
   have k2:=k_sum hg
   have k3:=dix0 hg
   have hl2:(shC t).length≤1000000:=by lia
   rw [e_n_shown_from,pureOf_fn]
   generalize shC t=x at *
   generalize t.p=tp at *
   generalize t.k=tk at *
   by_cases hb:lv≤t.lv
   ·have hb2:(lv:Int)≤(t.lv:Int):=by lia
    simp [b_n_shown_from,k3,k1,k2,e,hb,hb2,fr]
   ·have hb2:¬(lv:Int)≤(t.lv:Int):=by lia
    have q1:x.length+1≤1000000:=by lia
    have q2:x.length+1+1≤1000000:=by lia
    simp [b_n_shown_from,k3,k1,k2,e,hb,hb2,fr,s_lp,s_rp,s_empty,txt_app,hl2,q1,q2]
  have fl:=from' l m.l h.2.1 (by lia) el
  have f2:=from' r (m.l+1) h.2.2 (by lia) er
  have g1:(fr l.lv m.l (shC l)).length≤17002:=by unfold fr;split <;> first | lia | (simp;lia)
  have g2:(fr r.lv (m.l+1) (shC r)).length≤17002:=by unfold fr;split <;> first | lia | (simp;lia)
  have k1:=lkT (t:=.bin m l r) h
  have k2:=lkS h.1
  have hp:pureOf (Psi Gv Att Tb (n+3) "shown_pair") [(T.bin m l r).p]=some (.str (txt (shC (.bin m l r)))):=by
   rw [e_n_shown_pair,pureOf_fn]
   simp only [shC]
   generalize fr l.lv m.l (shC l)=x at *
   generalize fr r.lv (m.l+1) (shC r)=y at *
   have q0:x.length≤1000000:=by lia
   have q1:x.length+1≤1000000:=by lia
   have q2:x.length+1+1≤1000000:=by lia
   have q3:x.length+1+1+1≤1000000:=by lia
   have q4:x.length+(y.length+1+1+1)≤1000000:=by lia
   have q5:y.length≤1000000:=by lia
   simp only [T.k,T.lv] at k1
   have c1:((m.l+1:Nat):Int)=(m.l:Int)+1:=by lia
   rw [c1] at f2
   simp [b_n_shown_pair,T.p,f_sum h.1,k1,k2,fl,f2,s_mk h.1,s_blank,s_empty,txt_app,q0,q1,q2,q3,q4,q5]
  have k3:=@mk_num m
  have k4:=@mk_nam m
  have kd:=dix0 (t:=.bin m l r) h
  simp only [T.k] at kd
  rw [e_n_shown_sum,pureOf_fn]
  simp [b_n_shown_sum,kd,k3,k4,hp]
end My
namespace My
open PySem L2 Ev
theorem log2_small {i:Int} (h:i.natAbs < 2 ^ 60):i.natAbs.log2 < 60:=by
 by_cases e:i.natAbs=0
 ·rw [e];decide
 ·exact (Nat.log2_lt e).mpr h
theorem mulOk_small {i j:Int} (h1:i.natAbs < 2 ^ 60) (h2:j.natAbs < 2 ^ 60):mulOk i j=true:=by
 unfold mulOk
 have a:=log2_small h1
 have b:=log2_small h2
 exact decide_eq_true (by lia)
theorem atI_pick {α:Type}{xs:List α} (h:xs≠[]) (a:Int):∃x ∈ xs,L2.atI xs (a % (xs.length:Int))=some x:=by
 have hl:(0:Int) < (xs.length:Int):=by cases xs with | nil=>exact absurd rfl h | cons _ _=>simp
 have h0:=Int.emod_nonneg a (Int.ne_of_gt hl)
 have h1:=Int.emod_lt_of_pos a hl
 have hk:(a % (xs.length:Int)).toNat < xs.length:=by lia
 exact⟨xs[(a % (xs.length:Int)).toNat],List.getElem_mem _,atI_nat' h0 (by simp [hk])⟩
theorem forGo_inv {g:TGv}{b:ES}{Inv:Nat->Lc->Sto->Prop}:∀{xs:List P}{k:Nat}{L:Lc}{S:Sto},(∀i v L S,xs[i]? = some v->Inv (k+i) L S->∃L1 L2 S2,g v L=some L1/\b L1 S=some (.nx,L2,S2)/\Inv (k+i+1) L2 S2)->Inv k L S ->
  ∃L' S',forGo g b xs L S=some (.nx,L',S')/\Inv (k+xs.length) L' S'
 | [],k,L,S,_,h=>⟨L,S,rfl,h⟩
 | v::r,k,L,S,hs,h=>by
  obtain⟨L1,L2,S2,e1,e2,h2⟩:=hs 0 v L S rfl h
  obtain⟨L',S',e3,h3⟩:=forGo_inv (g:=g) (b:=b) (Inv:=Inv) (xs:=r) (k:=k+1) (L:=L2) (S:=S2) (fun i w L S e q=>by
   have:=hs (i+1) w L S (by simpa using e) (by rw [show k+(i+1)=k+1+i by lia];exact q)
   rwa [show k+(i+1)+1=k+1+i+1 by lia] at this) h2
  exact⟨L',S',by rw [forGo_nx e1 e2];exact e3,by rw [List.length_cons,show k+(r.length+1)=k+1+r.length by lia];exact h3⟩
theorem compGo_all {g:TGv}{e:EV}{Inv:Lc->Prop}{Q:P->Prop}{S:Sto}:∀{xs:List P}{L:Lc},(∀v ∈ xs,∀L,Inv L->∃L1 y,g v L=some L1/\Inv L1/\e L1 S=some (y,S)/\Q y)->Inv L ->
  ∃ys,compGo g bYes e xs L S=some (ys,S)/\(∀y ∈ ys,Q y)/\ys.length=xs.length
 | [],L,_,h=>⟨[],rfl,fun _ z=>(by cases z),rfl⟩
 | v::r,L,hs,h=>by
  obtain⟨L1,y,e1,i1,e2,q⟩:=hs v List.mem_cons_self L h
  obtain⟨ys,e3,h3,h4⟩:=compGo_all (xs:=r) (L:=L1) (fun w hw=>hs w (List.mem_cons_of_mem _ hw)) i1
  exact⟨y::ys,by simp [compGo,e1,e2,e3],fun z hz=>(List.mem_cons.mp hz).elim (fun e=>e ▸ q) (h3 z),by simp [h4]⟩
theorem ints_get {lo:Int}{n i:Nat}{v:P} (h:(intsFrom lo n)[i]? = some v):v=.int (lo+i)/\i < n:=by
 unfold Ev.intsFrom at h
 rw [List.getElem?_map] at h
 cases e:(List.range n)[i]? with
 | none=>rw [e] at h;cases h
 | some j=>
  rw [e] at h
  cases h
  have:=List.getElem?_eq_some_iff.mp e
  obtain⟨h1,h2⟩:=this
  simp at h1 h2
  subst h2
  exact⟨rfl,h1⟩
theorem ints_mem {lo:Int}{n:Nat}{v:P} (h:v ∈ intsFrom lo n):∃i:Nat,v=.int (lo+i)/\i < n:=by
 obtain⟨i,hi,e⟩:=List.mem_iff_getElem.mp h
 exact⟨i,ints_get (by rw [List.getElem?_eq_getElem hi,e])⟩
theorem ints_len (lo:Int) (n:Nat):(intsFrom lo n).length=n:=by simp [Ev.intsFrom]
theorem mix_loop (ψ ι:Str->GF) (xs:List P):∀(a:Int) (p t q:Option D),∃(r:Int) (t':Option D),forGo (gSet 2) (b_n_law_mix_L1 ψ ι) xs [some (.p (.int a)),p,t,q] []=some (.nx,[some (.p (.int r)),p,t',q],[]):=by
 induction xs with
 | nil=>intro a p t q;exact⟨a,t,rfl⟩
 | cons x xs ih=>
  intro a p t q
  obtain⟨r,t',h⟩:=ih (a / 2147483648) p (some (.p x)) q
  exact⟨r,t',by simpa [forGo,b_n_law_mix_L1] using h⟩
theorem mix_ok {n:Nat} (hn:2≤n) (a:Int) {p:Int} (h0:0≤p) (h1:p < 1000):∃r:Int,0≤r/\pureOf (Psi Gv Att Tb n "_law_mix") [.int a,.int p]=some (.int r):=by
 obtain⟨n,rfl⟩:=ex2 (n:=n) (by first | assumption | lia)
 by_cases h:(1000000000000:Int)≤a
 ·obtain⟨r,t',e⟩:=mix_loop (Psi Gv Att Tb (n+1)) (Psi Gv Att Tb n) (Ev.intsFrom 0 (p % 61).toNat) (a / 1000000000000-1) (some (.p (.int p))) none none
  refine⟨r % 2147483648,Int.emod_nonneg _ (by decide),?_⟩
  have hp:(p % 61).natAbs < 1000000:=by lia
  rw [e_n_law_mix,pureOf_fn]
  simp [b_n_law_mix,h,hp,e]
 ·have h8:0≤8 * p/\8 * p≤8000:=by lia
  have hp2:0≤8 * p * p/\8 * p * p≤8000000:=⟨Int.mul_nonneg h8.1 h0,Int.le_trans (Int.mul_le_mul h8.2 (Int.le_of_lt h1) h0 (by decide)) (by decide)⟩
  have m1:mulOk 8 p=true:=mulOk_small (by decide) (by lia)
  have m2:mulOk (8 * p) p=true:=mulOk_small (by lia) (by lia)
  have m3:mulOk (a % 2147483629+p+1) (8 * p * p+48271)=true:=mulOk_small (by lia) (by lia)
  generalize hx:(a % 2147483629+p+1) * (8 * p * p+48271) % 2147483647=x
  have hx1:0≤x/\x < 2147483647:=by subst hx;exact⟨Int.emod_nonneg _ (by decide),Int.emod_lt_of_pos _ (by decide)⟩
  have m4:mulOk x x=true:=mulOk_small (by lia) (by lia)
  generalize hy:x * x % 2147483587=y
  have hy1:0≤y/\y < 2147483587:=by subst hy;exact⟨Int.emod_nonneg _ (by decide),Int.emod_lt_of_pos _ (by decide)⟩
  have m5:mulOk y (y+2)=true:=mulOk_small (by lia) (by lia)
  refine⟨y * (y+2) % 2147483579,Int.emod_nonneg _ (by decide),?_⟩
  rw [e_n_law_mix,pureOf_fn]
  simp [b_n_law_mix,h,m1,m2,m3,hx,m4,hy,m5]
theorem add_txt {a b:List Nat} (h:a.length+b.length≤1000000):dAdd2 (.str (txt a)) (.str (txt b))=some (.str (txt (a++b))):=by
 rw [dAdd2_str]
 simp only [dAdd,txt_len]
 rw [if_pos (by rw [capN_ev];exact h),txt_app]
theorem dIx_dct (ks:List Key) (vs:List P) (x:Str):dIx (.dct ks vs) (.str x)=dLook (Sum.inr x) ks vs:=rfl
theorem lv_cases {t:T} (h:t.g):t.lv=5\/t.lv=6\/t.lv=7:=by
 cases t with
 | num n=>exact .inr (.inr rfl)
 | nam c=>exact .inr (.inr rfl)
 | bin m l r=>cases m <;> first | exact absurd h.1 (by decide) | exact .inl rfl | exact .inr (.inl rfl)
end My
namespace My
open PySem L2 Ev
theorem cons_tx (t:Tk) (k:Nat) (r:List (Tk×Nat)):Tx ((t,k)::r)=t.tx++(List.replicate k 32++Tx r):=rfl
theorem Sp.side {B a j k:Nat}{t:T}{x:List (Tk×Nat)} (h:Sp B a t x) (b:Bool) (hk:k≤B+j):∃x' a',Sp (B+j) a' t x'/\(if b=true then a'=7 else a'=a)/\Tx x'=(if b=true then 40::(List.replicate k 32++(Tx x++[41])) else Tx x)++List.replicate j 32/\x'.length≤x.length+2:=by
 cases b with
 | true=>exact⟨(.lp,k)::(x++[(.rp,j)]),7,.par (h.mono (by lia)) hk (by lia),rfl,by simp [cons_tx,tx_app,Tk.tx,Tx],by simp⟩
 | false=>
  obtain⟨x',s,e,l⟩:=h.pad (j:=j)
  exact⟨x',a,s,rfl,by simpa using e,by lia⟩
theorem T.pos (t:T):1≤t.sz:=by cases t <;> simp [T.sz];lia
theorem lv_mk {m:Mk} (h:5≤m.l):m.l=5\/m.l=6:=by cases m <;> first | exact absurd h (by decide) | exact .inl rfl | exact .inr rfl
theorem sp_shown:∀t:T,t.g->∃x,Sp t.sz t.lv t x/\Tx x=shC t/\x.length+3≤4 * t.sz
 | .num n,h=>⟨[(.num n (dg n),0)],.num (num_dg h).1 (by simp),by simp [cons_tx,Tx,Tk.tx,shC],by simp [T.sz]⟩
 | .nam c,h=>⟨[(.nam c,0)],.nam h (by simp),by simp [cons_tx,Tx,Tk.tx,shC],by simp [T.sz]⟩
 | .bin m l r,h=>by
  obtain⟨x,s1,e1,l1⟩:=sp_shown l h.2.1
  obtain⟨y,s2,e2,l2⟩:=sp_shown r h.2.2
  obtain⟨x',a,s1,i1,t1,n1⟩:=s1.side (j:=1) (k:=0) (decide (¬m.l≤l.lv)) (by lia)
  obtain⟨y',b,s2,i2,t2,n2⟩:=s2.side (j:=0) (k:=0) (decide (¬m.l+1≤r.lv)) (by lia)
  have cm:=lv_mk h.1
  have pl:=l.pos
  have pr:=r.pos
  refine⟨x'++(.op m,1)::y',.bin h.1 (s1.mono (by simp only [T.sz];lia)) ?_ (s2.mono (by simp only [T.sz];lia)) ?_ (by simp only [T.sz];lia),?_,by simp only [T.sz,List.length_append,List.length_cons];lia⟩
  ·by_cases c:m.l≤l.lv
   ·simp [c] at i1;lia
   ·simp [c] at i1;lia
  ·by_cases c:m.l+1≤r.lv
   ·simp [c] at i2;lia
   ·simp [c] at i2;lia
  ·rw [tx_app,cons_tx,t1,t2,e1,e2]
   simp only [shC,fr,Tk.tx]
   by_cases c:m.l≤l.lv <;> by_cases c2:m.l+1≤r.lv <;> simp [c,c2]
theorem dlv_ev (L:Lc) (S:Sto):vDict (dCons "plus" (vC (.int 1)) (dCons "minus" (vC (.int 1)) (dCons "times" (vC (.int 2)) (dCons "or" (vC (.int 1)) (dCons "and" (vC (.int 2)) dNil))))) L S=some (.dct [Sum.inr "plus",Sum.inr "minus",Sum.inr "times",Sum.inr "or",Sum.inr "and"] [.int 1,.int 1,.int 2,.int 1,.int 2],S):=by kernel_rfl
theorem lkW {t:T} (h:t.g):(dLook (Sum.inr t.k) [Sum.inr ("plus":Str),Sum.inr "minus",Sum.inr "times",Sum.inr "or",Sum.inr "and"] [P.int 1,.int 1,.int 2,.int 1,.int 2]).getD (.int 3)=.int ((t.lv-4:Nat):Int):=by
 cases t with
 | num n=>kernel_rfl
 | nam c=>kernel_rfl
 | bin m l r=>cases m <;> first | exact absurd h.1 (by decide) | kernel_rfl
theorem level_ok {n:Nat} (hn:2≤n) {t:T} (h:t.g):pureOf (Psi Gv Att Tb n "_law_level") [t.p]=some (.int ((t.lv-4:Nat):Int)):=by
 obtain⟨n,rfl⟩:=ex2 (n:=n) (by first | assumption | lia)
 have k:=dix0 h
 have w:=lkW h
 rw [e_n_law_level,pureOf_fn]
 simp [b_n_law_level,k,dlv_ev,keyOf,w]
theorem dop_ev (L:Lc) (S:Sto):vDict (dCons "plus" (vC (.str "+")) (dCons "minus" (vC (.str "-")) (dCons "times" (vC (.str "*")) dNil))) L S=some (.dct [Sum.inr "plus",Sum.inr "minus",Sum.inr "times"] [.str "+",.str "-",.str "*"],S):=by kernel_rfl
theorem dk_op {m:Mk} (h:5≤m.l):dLook (Sum.inr m.k) [Sum.inr ("plus":Str),Sum.inr "minus",Sum.inr "times"] [P.str "+",.str "-",.str "*"]=some (.str (txt [m.c])):=by cases m <;> first | exact absurd h (by decide) | kernel_rfl
theorem s_lpb:("( ":Str)=txt [40,32]:=by decide +kernel
theorem s_brp:(" )":Str)=txt [32,41]:=by decide +kernel
theorem gap_ok (d:Int):∃(q:Int) (g:Nat),g≤2/\L2.atI [P.int 0,.int 1,.int 1,.int 2] (d % 4)=some (.int q)/\dMul2 (.str (txt [32])) (.int q)=some (.str (txt (List.replicate g 32))):=by
 have h0:=Int.emod_nonneg d (show (4:Int)≠0 by decide)
 have h1:=Int.emod_lt_of_pos d (show (0:Int) < 4 by decide)
 have:d % 4=0\/d % 4=1\/d % 4=2\/d % 4=3:=by lia
 rcases this with h | h | h | h <;> rw [h]
 ·exact⟨0,0,by decide,by kernel_rfl,by kernel_rfl⟩
 ·exact⟨1,1,by decide,by kernel_rfl,by kernel_rfl⟩
 ·exact⟨1,1,by decide,by kernel_rfl,by kernel_rfl⟩
 ·exact⟨2,2,by decide,by kernel_rfl,by kernel_rfl⟩
noncomputable def wrGap (ψ:Str->GF):ES:=sSet 3 (eV (vOp dMul2 (vC (.str " ")) (vOp dIx (vLst' (vsCons (vC (.int 0)) (vsCons (vC (.int 1)) (vsCons (vC (.int 1)) (vsCons (vC (.int 2)) vsNil))))) (vOp dMod (vCall (pureOf (ψ "_law_mix")) (vsCons (vE (eVar 1)) (vsCons (vC (.int 1)) vsNil))) (vC (.int 4))))))
noncomputable def wrOne (ψ:Str->GF):ES:=sSet 4 (eV (vCall (pureOf (ψ "_law_written")) (vsCons (vOp dIx (vE (eVar 0)) (vC (.int 1))) (vsCons (vCall (pureOf (ψ "_law_mix")) (vsCons (vE (eVar 1)) (vsCons (vC (.int 2)) vsNil))) vsNil))))
noncomputable def wrTwo (ψ:Str->GF):ES:=sSet 5 (eV (vCall (pureOf (ψ "_law_written")) (vsCons (vOp dIx (vE (eVar 0)) (vC (.int 2))) (vsCons (vCall (pureOf (ψ "_law_mix")) (vsCons (vE (eVar 1)) (vsCons (vC (.int 3)) vsNil))) vsNil))))
noncomputable def wrP1 (ψ:Str->GF):ES:=sIf (bV (vOp dLt (vCall (pureOf (ψ "_law_level")) (vsCons (vOp dIx (vE (eVar 0)) (vC (.int 1))) vsNil)) (vCall (pureOf (ψ "_law_level")) (vsCons (vE (eVar 0)) vsNil)))) (sSet 4 (eV (vOp dAdd2 (vOp dAdd2 (vC (.str "(")) (vE (eVar 4))) (vC (.str ")"))))) sNx
noncomputable def wrP2 (ψ:Str->GF):ES:=sIf (bAnd (bV (vOp dLe (vCall (pureOf (ψ "_law_level")) (vsCons (vOp dIx (vE (eVar 0)) (vC (.int 2))) vsNil)) (vCall (pureOf (ψ "_law_level")) (vsCons (vE (eVar 0)) vsNil)))) (bV (vOp dLt (vCall (pureOf (ψ "_law_level")) (vsCons (vOp dIx (vE (eVar 0)) (vC (.int 2))) vsNil)) (vC (.int 3))))) (sSet 5 (eV (vOp dAdd2 (vOp dAdd2 (vC (.str "( ")) (vE (eVar 5))) (vC (.str ")"))))) sNx
noncomputable def wrJn:ES:=sSet 2 (eV (vOp dAdd2 (vOp dAdd2 (vOp dAdd2 (vOp dAdd2 (vE (eVar 4)) (vE (eVar 3))) (vOp dIx (vDict (dCons "plus" (vC (.str "+")) (dCons "minus" (vC (.str "-")) (dCons "times" (vC (.str "*")) dNil)))) (vOp dIx (vE (eVar 0)) (vC (.int 0))))) (vE (eVar 3))) (vE (eVar 5))))
noncomputable def wrFin:ES:=(sSeq (sIf (bV (vOpE gEq (eV (vOp dMod (vE (eVar 1)) (vC (.int 7)))) (eV (vC (.int 0))))) (sRet (eV (vOp dAdd2 (vOp dAdd2 (vC (.str "(")) (vE (eVar 2))) (vC (.str " )"))))) sNx)
  (sRet (eVar 2)))
theorem wr_eq (ψ ι:Str->GF):b_n_law_written ψ ι=sSeq (sIf (bV (vOpE gEq (eV (vOp dIx (vE (eVar 0)) (vC (.int 0)))) (eV (vC (.str "number"))))) (sSet 2 (eV (vCall c_str (vsCons (vOp dIx (vE (eVar 0)) (vC (.int 1))) vsNil)))) (sIf (bV (vOpE gEq (eV (vOp dIx (vE (eVar 0)) (vC (.int 0)))) (eV (vC (.str "name"))))) (sSet 2 (eV (vOp dIx (vE (eVar 0)) (vC (.int 1)))))
  (sSeq (wrGap ψ) (sSeq (wrOne ψ) (sSeq (wrTwo ψ) (sSeq (wrP1 ψ) (sSeq (wrP2 ψ) wrJn))))))) wrFin:=rfl
section
variable {ψ:Str->GF}{tp:P}{q:Int}
theorem wrFin_ok {B a:Nat}{t:T}{x:List (Tk×Nat)} (s:Sp B a t x) (ha:t.lv≤a) (h7:t.lv≤7) (hl:(Tx x).length≤900000) (o o' o2:Option Ev.D):∃x' a',Sp (B+1) a' t x'/\t.lv≤a'/\x'.length≤x.length+2/\wrFin [some (.p tp),some (.p (.int q)),some (.p (.str (txt (Tx x)))),o,o',o2] []=some (.rt (.p (.str (txt (Tx x')))),[some (.p tp),some (.p (.int q)),some (.p (.str (txt (Tx x)))),o,o',o2],[]):=by
 by_cases c7:q % 7=0
 ·obtain⟨x',s',e,l⟩:=s.pad (j:=1)
  refine⟨(.lp,0)::(x'++[(.rp,0)]),7,.par s' (by lia) (by lia),h7,by simp [l],?_⟩
  have p1:dAdd2 (.str (txt [40])) (.str (txt (Tx x)))=some (.str (txt (40::Tx x))):=add_txt (by simp;lia)
  have p2:dAdd2 (.str (txt (40::Tx x))) (.str (txt [32,41]))=some (.str (txt (Tx ((.lp,0)::(x'++[(.rp,0)]))))):=by
   rw [add_txt (by simp;lia)]
   congr 3
   simp [cons_tx,tx_app,Tk.tx,Tx,e]
  generalize Tx ((.lp,0)::(x'++[(.rp,0)]))=W at *
  simp [wrFin,c7,s_lp,s_brp,-dAdd2_str,p1,p2]
 ·exact⟨x,a,s.mono (by lia),ha,by lia,by simp [wrFin,c7]⟩
theorem wrGap_ok {d:Int} (m1:pureOf (ψ "_law_mix") [.int q,.int 1]=some (.int d)):∃g:Nat,g≤2/\wrGap ψ [some (.p tp),some (.p (.int q)),none,none,none,none] []=some (.nx,[some (.p tp),some (.p (.int q)),none,some (.p (.str (txt (List.replicate g 32)))),none,none],[]):=by
 obtain⟨gq,g,hg,g1,g2⟩:=gap_ok d
 refine⟨g,hg,?_⟩
 generalize List.replicate g 32=G at *
 simp [wrGap,m1,few,s_blank,g1,g2]
theorem wrP1_ok {lp:P}{i1 i3:Int}{X:List Nat} (k1:dIx tp (.int 1)=some lp) (v1:pureOf (ψ "_law_level") [lp]=some (.int i1)) (v3:pureOf (ψ "_law_level") [tp]=some (.int i3)) (hX:X.length≤300000) (qv o2 o3 o5:Option Ev.D) :
  wrP1 ψ [some (.p tp),qv,o2,o3,some (.p (.str (txt X))),o5] []=some (.nx,[some (.p tp),qv,o2,o3,some (.p (.str (txt (if i1 < i3 then 40::(X++[41]) else X)))),o5],[]):=by
 by_cases e:i1 < i3
 ·have p1:dAdd2 (.str (txt [40])) (.str (txt X))=some (.str (txt (40::X))):=add_txt (by simp;lia)
  have p2:dAdd2 (.str (txt (40::X))) (.str (txt [41]))=some (.str (txt (40::(X++[41])))):=add_txt (by simp;lia)
  rw [if_pos e]
  simp [wrP1,k1,v1,v3,e,s_lp,s_rp,-dAdd2_str,p1,p2]
 ·simp [wrP1,k1,v1,v3,e]
theorem wrP2_ok {rp:P}{i2 i3:Int}{Y:List Nat} (k2:dIx tp (.int 2)=some rp) (v2:pureOf (ψ "_law_level") [rp]=some (.int i2)) (v3:pureOf (ψ "_law_level") [tp]=some (.int i3)) (h3:i2≤i3->i2 < 3) (hY:Y.length≤300000) (qv o2 o3 o4:Option Ev.D) :
  wrP2 ψ [some (.p tp),qv,o2,o3,o4,some (.p (.str (txt Y)))] []=some (.nx,[some (.p tp),qv,o2,o3,o4,some (.p (.str (txt (if i2≤i3 then 40::32::(Y++[41]) else Y))))],[]):=by
 by_cases e:i2≤i3
 ·have p1:dAdd2 (.str (txt [40,32])) (.str (txt Y))=some (.str (txt (40::32::Y))):=add_txt (by simp;lia)
  have p2:dAdd2 (.str (txt (40::32::Y))) (.str (txt [41]))=some (.str (txt (40::32::(Y++[41])))):=add_txt (by simp;lia)
  have e3:=h3 e
  rw [if_pos e]
  simp [wrP2,k2,v2,v3,e,e3,s_lpb,s_rp,-dAdd2_str,p1,p2]
 ·simp [wrP2,k2,v2,v3,e]
theorem wrJn_ok {m:Mk} (hm:5≤m.l) {G U V:List Nat} (k0:dIx tp (.int 0)=some (.str m.k)) (hU:U.length≤300010) (hV:V.length≤300010) (hG:G.length≤2) (qv o2:Option Ev.D) :
  wrJn [some (.p tp),qv,o2,some (.p (.str (txt G))),some (.p (.str (txt U))),some (.p (.str (txt V)))] []=some (.nx,[some (.p tp),qv,some (.p (.str (txt (U++(G++(m.c::(G++V))))))),some (.p (.str (txt G))),some (.p (.str (txt U))),some (.p (.str (txt V)))],[]):=by
 have kd:=dk_op hm
 have f1:dAdd2 (.str (txt U)) (.str (txt G))=some (.str (txt (U++G))):=add_txt (by lia)
 have f2:dAdd2 (.str (txt (U++G))) (.str (txt [m.c]))=some (.str (txt (U++(G++[m.c])))):=by rw [add_txt (by simp;lia),List.append_assoc]
 have f3:dAdd2 (.str (txt (U++(G++[m.c])))) (.str (txt G))=some (.str (txt (U++(G++(m.c::G))))):=by rw [add_txt (by simp;lia)];simp
 have f4:dAdd2 (.str (txt (U++(G++(m.c::G))))) (.str (txt V))=some (.str (txt (U++(G++(m.c::(G++V)))))):=by rw [add_txt (by simp;lia)];simp
 generalize U++(G++(m.c::(G++V)))=W1 at *
 generalize U++(G++(m.c::G))=W2 at *
 generalize U++(G++[m.c])=W3 at *
 generalize U++G=W4 at *
 simp [wrJn,k0,dop_ev,dIx_dct,kd,-dAdd2_str,f1,f2,f3,f4]
end
theorem sp_txlen {B a:Nat}{t:T}{x:List (Tk×Nat)} (h:Sp B a t x) (hB:B≤300) (hx:x.length≤480):(Tx x).length≤200000:=Nat.le_trans (tx_len x h.all) (Nat.le_trans (Nat.mul_le_mul hx (show 10+B≤310 by lia)) (by decide))
theorem written_ok:∀(t:T),t.g->t.sz≤60->∀n,t.dp+3≤n->∀q:Int,∃x a,Sp (4 * t.sz) a t x/\t.lv≤a/\x.length+5≤8 * t.sz/\pureOf (Psi Gv Att Tb n "_law_written") [t.p,.int q]=some (.str (txt (Tx x)))
 | .num k,h,hz,n,hn,q=>by
  obtain⟨n,rfl⟩:=ex2 (n:=n) (by first | assumption | lia)
  have hs:=c_str_dg h
  have hN:=(num_dg h).1
  have s:Sp 0 7 (.num k) [(.num k (dg k),0)]:=.num hN (by lia)
  obtain⟨x',a',s',ha,hl,ef⟩:=wrFin_ok (tp:=(T.num k).p) (q:=q) s (Nat.le_refl 7) (Nat.le_refl 7) (by have:=sp_txlen s (by lia) (by simp);lia) none none none
  have et:Tx [(Tk.num k (dg k),0)]=dg k:=by simp [cons_tx,Tx,Tk.tx]
  rw [et] at ef
  refine⟨x',a',s'.mono (by simp [T.sz]),ha,by simp [T.sz] at hl ⊢;lia,?_⟩
  rw [e_n_law_written,pureOf_fn,wr_eq]
  simp only [T.p] at ef ⊢
  simp [hs,ef]
 | .nam k,h,hz,n,hn,q=>by
  obtain⟨n,rfl⟩:=ex2 (n:=n) (by first | assumption | lia)
  have hN:Nam k:=h
  have k1:=nam_num
  have s:Sp 0 7 (.nam k) [(.nam k,0)]:=.nam hN (by lia)
  obtain⟨x',a',s',ha,hl,ef⟩:=wrFin_ok (tp:=(T.nam k).p) (q:=q) s (Nat.le_refl 7) (Nat.le_refl 7) (by have:=sp_txlen s (by lia) (by simp);lia) none none none
  have et:Tx [(Tk.nam k,0)]=k:=by simp [cons_tx,Tx,Tk.tx]
  rw [et] at ef
  refine⟨x',a',s'.mono (by simp [T.sz]),ha,by simp [T.sz] at hl ⊢;lia,?_⟩
  rw [e_n_law_written,pureOf_fn,wr_eq]
  simp only [T.p] at ef ⊢
  simp [k1,ef]
 | .bin m l r,h,hz,n,hn,q=>by
  simp only [T.dp] at hn
  simp only [T.sz] at hz
  obtain⟨n,rfl⟩:=ex2 (n:=n) (by first | assumption | lia)
  obtain⟨d1,_,m1⟩:=mix_ok (n:=n+1) (by lia) q (p:=1) (by decide) (by decide)
  obtain⟨d2,_,m2⟩:=mix_ok (n:=n+1) (by lia) q (p:=2) (by decide) (by decide)
  obtain⟨d3,_,m3⟩:=mix_ok (n:=n+1) (by lia) q (p:=3) (by decide) (by decide)
  obtain⟨x,a,s1,a1,l1,w1⟩:=written_ok l h.2.1 (by lia) (n+1) (by lia) d2
  obtain⟨y,b,s2,a2,l2,w2⟩:=written_ok r h.2.2 (by lia) (n+1) (by lia) d3
  obtain⟨g,hg,eg⟩:=wrGap_ok (tp:=(T.bin m l r).p) m1
  have v1:=level_ok (n:=n+1) (by lia) h.2.1
  have v2:=level_ok (n:=n+1) (by lia) h.2.2
  have v3:=level_ok (n:=n+1) (by lia) (t:=.bin m l r) h
  have cm:=lv_mk h.1
  have cl:=lv_cases h.2.1
  have cr:=lv_cases h.2.2
  have X3:=sp_txlen s1 (by lia) (by lia)
  have X4:=sp_txlen s2 (by lia) (by lia)
  obtain⟨x',a',s1',i1,t1,n1⟩:=s1.side (j:=g) (k:=0) (decide (l.lv < m.l)) (by lia)
  obtain⟨y',b',s2',i2,t2,n2⟩:=s2.side (j:=0) (k:=1) (decide (r.lv≤m.l)) (by have:=r.pos;lia)
  have sp:Sp (4 * l.sz+4 * r.sz+3) m.l (.bin m l r) (x'++(.op m,g)::y'):=by
   refine .bin h.1 (s1'.mono (by lia)) ?_ (s2'.mono (by lia)) ?_ (by lia)
   ·by_cases c:l.lv < m.l
    ·simp [c] at i1;lia
    ·simp [c] at i1;lia
   ·by_cases c:r.lv≤m.l
    ·simp [c] at i2;lia
    ·simp [c] at i2;lia
  have hT:(T.bin m l r).p=.tup [.str m.k,l.p,r.p]:=f_sum h.1 _ _
  have e3:(((T.bin m l r).lv-4:Nat):Int)=((m.l-4:Nat):Int):=rfl
  rw [e3] at v3
  have j1:=wrP1_ok (show dIx (T.bin m l r).p (.int 1)=some l.p by rw [hT];simp) v1 v3 (show (Tx x).length≤300000 by lia) (some (.p (.int q))) none (some (.p (.str (txt (List.replicate g 32))))) (some (.p (.str (txt (Tx y)))))
  have j2:=fun U=>wrP2_ok (show dIx (T.bin m l r).p (.int 2)=some r.p by rw [hT];simp) v2 v3 (by lia) (show (Tx y).length≤300000 by lia) (some (.p (.int q))) none (some (.p (.str (txt (List.replicate g 32))))) U
  have hU:(if ((l.lv-4:Nat):Int) < ((m.l-4:Nat):Int) then 40::(Tx x++[41]) else Tx x)++List.replicate g 32=Tx x':=by
   rw [t1]
   by_cases c:l.lv < m.l
   ·rw [if_pos (by lia)];simp [c]
   ·rw [if_neg (by lia)];simp [c]
  have hV:(if ((r.lv-4:Nat):Int)≤((m.l-4:Nat):Int) then 40::32::(Tx y++[41]) else Tx y)=Tx y':=by
   rw [t2]
   by_cases c:r.lv≤m.l
   ·rw [if_pos (by lia)];simp [c]
   ·rw [if_neg (by lia)];simp [c]
  rw [hV] at j2
  generalize hUd:(if ((l.lv-4:Nat):Int) < ((m.l-4:Nat):Int) then 40::(Tx x++[41]) else Tx x)=U at *
  have lU:U.length≤300010:=by
   rw [<- hUd]
   split
   ·simp;lia
   ·lia
  have s2l:=sp_txlen s2' (by lia) (by lia)
  have jj:=wrJn_ok h.1 (G:=List.replicate g 32) (U:=U) (V:=Tx y') (tp:=(T.bin m l r).p) (by rw [hT];simp) lU (by lia) (by simpa using hg) (some (.p (.int q))) none
  have te:Tx (x'++(Tk.op m,g)::y')=U++(List.replicate g 32++(m.c::(List.replicate g 32++Tx y'))):=by rw [tx_app,cons_tx,<- hU];simp [Tk.tx]
  obtain⟨z,a2',s',ha',hl',ef⟩:=wrFin_ok (tp:=(T.bin m l r).p) (q:=q) sp (Nat.le_refl m.l) (by omega) (by have:=sp_txlen sp (by omega) (by simp;omega);omega) (some (.p (.str (txt (List.replicate g 32))))) (some (.p (.str (txt U)))) (some (.p (.str (txt (Tx y')))))
  rw [te] at ef
  refine⟨z,a2',s'.mono (by simp [T.sz];lia),ha',by simp only [T.sz];simp at hl';lia,?_⟩
  have k3:=@mk_num m
  have k4:=@mk_nam m
  have kd:=dix0 (t:=.bin m l r) h
  simp only [T.k] at kd
  have w1':wrOne (Psi Gv Att Tb (n+1)) [some (.p (T.bin m l r).p),some (.p (.int q)),none,some (.p (.str (txt (List.replicate g 32)))),none,none] []=some (.nx,[some (.p (T.bin m l r).p),some (.p (.int q)),none,some (.p (.str (txt (List.replicate g 32)))),some (.p (.str (txt (Tx x)))),none],[]):=by rw [hT];simp [wrOne,m2,w1]
  have w2':wrTwo (Psi Gv Att Tb (n+1)) [some (.p (T.bin m l r).p),some (.p (.int q)),none,some (.p (.str (txt (List.replicate g 32)))),some (.p (.str (txt (Tx x)))),none] []=some (.nx,[some (.p (T.bin m l r).p),some (.p (.int q)),none,some (.p (.str (txt (List.replicate g 32)))),some (.p (.str (txt (Tx x)))),some (.p (.str (txt (Tx y))))],[]):=by rw [hT];simp [wrTwo,m3,w2]
  rw [e_n_law_written,pureOf_fn,wr_eq]
  generalize (T.bin m l r).p=tp at *
  generalize List.replicate g 32=G at *
  simp [kd,k3,k4,eg,w1',w2',j1,j2,jj,ef]
end My
namespace My
open PySem L2 Ev
noncomputable def Wt (Q:Nat->P->Prop):List P->Nat->Prop
 | [],w=>w=0
 | x::xs,w=>∃s w',Q s x/\Wt Q xs w'/\w=s+1+w'
noncomputable def pairs (f:Int->Str):Int->List P->List P
 | k,x::y::r=>.tup [.str (f k),x,y]::pairs f (k+2) r
 | _,_=>[]
noncomputable def oddT:List P->List P
 | _::_::r=>oddT r
 | [x]=>[x]
 | []=>[]
theorem pairs_wt {Q:Nat->P->Prop}{f:Int->Str} (hQ:∀k a b x y,0≤k->Q a x->Q b y->Q (a+b+1) (.tup [.str (f k),x,y])):∀(xs:List P) (k:Int) (w:Nat),0≤k->Wt Q xs w->Wt Q (pairs f k xs++oddT xs) w
 | [],_,_,_,h=>h
 | [_],_,_,_,h=>h
 | x::y::r,k,w,hk,h=>by
  obtain⟨s,w1,q1,⟨s2,w2,q2,h2,rfl⟩,rfl⟩:=h
  have ih:=pairs_wt hQ r (k+2) w2 (by lia) h2
  exact⟨s+s2+1,w2,hQ k s s2 x y hk q1 q2,ih,by lia⟩
theorem pairs_len (f:Int->Str):∀(xs:List P) (k:Int),(pairs f k xs++oddT xs).length=(xs.length+1) / 2
 | [],_=>by simp [pairs,oddT]
 | [_],_=>by simp [pairs,oddT]
 | x::y::r,k=>by
  have:=pairs_len f r (k+2)
  simp only [pairs,oddT,List.cons_append,List.length_cons]
  lia
theorem pairs_len2 (f:Int->Str):∀(xs:List P) (k:Int),(pairs f k xs).length≤xs.length
 | [],_=>by simp [pairs]
 | [_],_=>by simp [pairs]
 | x::y::r,k=>by
  have:=pairs_len2 f r (k+2)
  simp only [pairs,List.length_cons]
  lia
theorem odd_last:∀(xs:List P),(xs.length % 2=1->∃z,xs.getLast? = some z/\oddT xs=[z])/\(xs.length % 2=0->oddT xs=[])
 | []=>⟨fun h=>by simp at h,fun _=>rfl⟩
 | [x]=>⟨fun _=>⟨x,rfl,rfl⟩,fun h=>by simp at h⟩
 | x::y::r=>by
  have ih:=odd_last r
  refine⟨fun h=>?_,fun h=>?_⟩
  ·simp only [List.length_cons] at h
   obtain⟨z,h1,h2⟩:=ih.1 (by lia)
   refine⟨z,?_,h2⟩
   have hr:r≠[]:=fun e=>by rw [e] at h1;simp at h1
   rw [List.getLast?_cons_cons,List.getLast?_cons_of_ne_nil hr]
   exact h1
  ·simp only [List.length_cons] at h
   exact ih.2 (by lia)
theorem atI_lastP {xs:List P}{z:P} (h:xs.getLast? = some z):L2.atI xs (-1)=some z:=by
 have hne:xs≠[]:=fun e=>by rw [e] at h;simp at h
 have hl:0 < xs.length:=List.length_pos_iff.mpr hne
 rw [List.getLast?_eq_getElem?] at h
 unfold L2.atI L2.ixN
 rw [if_neg (by lia),if_pos (by lia)]
 show xs[((-1:Int)+xs.length).toNat]? = _
 rw [show ((-1:Int)+xs.length).toNat=xs.length-1 by lia]
 exact h
noncomputable def evens (k:Int):Nat->List P
 | 0=>[]
 | m+1=>.int k::evens (k+2) m
theorem intsBy_evens (m:Nat):∀k:Int,intsBy k 2 m=evens k m:=by
 induction m with
 | zero=>intro k;rfl
 | succ m ih=>
  intro k
  rw [evens,<- ih]
  unfold intsBy
  rw [List.range_succ_eq_map,List.map_cons,List.map_map]
  refine congr (congrArg _ (by simp)) (List.map_congr_left fun i _=>?_)
  show P.int (k+((i+1:Nat):Int) * 2)=P.int (k+2+(i:Int) * 2)
  congr 1
  lia
noncomputable def Hold (d:Ev.D) (xs:List P) (S:Sto):Prop:=d=.p (.lst xs)\/∃j,d=.ref j/\(S[j]? = some (.lst (xs.map .p))\/S[j]? = some (.fz (.lst xs)))
theorem Hold.len {d:Ev.D}{xs:List P}{S:Sto} (h:Hold d xs S):lenD d S=some xs.length:=by
 rcases h with rfl | ⟨j,rfl,h | h⟩
 ·rfl
 ·simp [lenD,h]
 ·simp [lenD,h,lenP]
theorem Hold.read {d:Ev.D}{xs:List P}{S:Sto}{k:Nat} (h:Hold d xs S) (hk:d≠.ref k):∃S',toP 9 d S=some (.lst xs,S')/\Hold d xs S'/\S'[k]? = S[k]?/\S'.length=S.length:=by
 rcases h with rfl | ⟨j,rfl,h | h⟩
 ·exact⟨S,by simp,.inl rfl,rfl,rfl⟩
 ·refine⟨S.set j (.fz (.lst xs)),toP_lst h,.inr ⟨j,rfl,.inr ?_⟩,?_,by simp⟩
  ·rw [List.getElem?_set_self (List.getElem?_eq_some_iff.mp h).1]
  ·rw [List.getElem?_set_ne (fun e=>hk (by rw [e]))]
 ·exact⟨S,by simp [toP,h],.inr ⟨j,rfl,.inr h⟩,rfl,rfl⟩
theorem own_of {k:Nat}{S:Sto}{ds:List Ev.D} (h:S[k]? = some (.lst ds)):ownL (.ref k) S=some (k,ds):=by simp [ownL,h]
section
variable {wl:List P}{f:Int->Str} (hw:∀k:Int,0≤k->L2.atI wl (k % (wl.length:Int))=some (.str (f k))) (hwl:0 < wl.length)
include hw hwl
theorem pair_loop (ψ ι:Str->GF) {d:Ev.D}{k:Nat}{xs:List P} (hd:d≠.ref k) (hx:xs.length≤1000):∀(suf pre acc:List P) (S:Sto) (x3:Option Ev.D),xs=pre++suf->Hold d xs S->S[k]? = some (.lst (acc.map .p))->acc.length+suf.length≤1000 ->
  ∃S' x3',forGo (gSet 3) (b_n_law_folded_L1 ψ ι) (evens pre.length (suf.length / 2))
   [some d,some (.p (.lst wl)),some (.ref k),x3] S=some (.nx,[some d,some (.p (.lst wl)),some (.ref k),x3'],S')/\S'[k]? = some (.lst ((acc++pairs f pre.length suf).map .p))/\Hold d xs S'/\S'.length=S.length
 | [],pre,acc,S,x3,e,h,hk,hl=>⟨S,x3,rfl,by simpa [pairs] using hk,h,rfl⟩
 | [x],pre,acc,S,x3,e,h,hk,hl=>⟨S,x3,by simp [evens,forGo],by simpa [pairs] using hk,h,rfl⟩
 | x::y::r,pre,acc,S,x3,e,h,hk,hl=>by
  obtain⟨S1,r1,h1,k1,l1⟩:=h.read hd
  obtain⟨S2,r2,h2,k2,l2⟩:=h1.read hd
  have ex:L2.atI xs (pre.length:Int)=some x:=atI_nat' (by lia) (by rw [e];simp)
  have ey:L2.atI xs ((pre.length:Int)+1)=some y:=atI_nat' (by lia) (by rw [e,show ((pre.length:Int)+1).toNat=pre.length+1 by lia];simp)
  have ew:=hw (pre.length:Int) (by lia)
  have hk2:S2[k]? = some (.lst (acc.map .p)):=by rw [k2,k1];exact hk
  have kl:k < S2.length:=(List.getElem?_eq_some_iff.mp hk2).1
  have hS3:(S2.set k (.lst (acc.map .p++[.p (.tup [.str (f pre.length),x,y])])))[k]? = some (.lst ((acc++[P.tup [.str (f pre.length),x,y]]).map .p)):=by
   rw [List.getElem?_set_self kl];simp
  have hH3:Hold d xs (S2.set k (.lst (acc.map .p++[.p (.tup [.str (f pre.length),x,y])]))):=by
   rcases h2 with h2 | ⟨j,rfl,h2⟩
   ·exact .inl h2
   ·refine .inr ⟨j,rfl,?_⟩
    rw [List.getElem?_set_ne (fun z=>hd (by rw [z]))];exact h2
  obtain⟨S',x3',e1,e2,e3,e4⟩:=pair_loop ψ ι hd hx r (pre++[x,y]) (acc++[.tup [.str (f pre.length),x,y]]) _ (some (.p (.int pre.length))) (by rw [e];simp) hH3 hS3 (by simp at hl ⊢;lia)
  have en:(x::y::r).length / 2=r.length / 2+1:=by simp only [List.length_cons];lia
  have ep:((pre++[x,y]).length:Int)=(pre.length:Int)+2:=by simp
  refine⟨S',x3',?_,?_,e3,by rw [e4];simp [l1,l2]⟩
  ·rw [en,evens]
   rw [ep] at e1
   have o1:=own_of hk
   have o2:=own_of hk2
   have hla:acc.length≤1000000:=by simp at hl;lia
   refine (forGo_nx rfl ?_).trans e1
   rw [b_n_law_folded_L1]
   simp [o1,lenD,lenP,ew,r1,r2,ex,ey,o2,hwl,hla]
  ·rw [e2]
   simp only [pairs,ep,List.append_assoc,List.singleton_append]
end
theorem nSteps_half {m:Nat} (h:2≤m):nSteps 0 ((m:Int)-1) 2=m / 2:=by
 unfold nSteps
 rw [if_pos (by lia)]
 lia
section
variable {wl:List P}{f:Int->Str} (hw:∀k:Int,0≤k->L2.atI wl (k % (wl.length:Int))=some (.str (f k))) (hwl:0 < wl.length) {Q:Nat->P->Prop} (hQ:∀k a b x y,0≤k->Q a x->Q b y->Q (a+b+1) (.tup [.str (f k),x,y]))
include hw hwl hQ
theorem fold_loop (ψ ι:Str->GF):∀(m:Nat) (xs:List P) (w:Nat) (d:Ev.D) (S:Sto) (x2 x3:Option Ev.D),xs≠[]->xs.length≤m->xs.length≤1000->Hold d xs S->Wt Q xs w ->
  ∃d' S' x2' x3' z,whileGo (bV (vOp dGt (vLen (eVar 0)) (vC (.int 1)))) (b_n_law_folded_L2 ψ ι) m [some d,some (.p (.lst wl)),x2,x3] S=some (.nx,[some d',some (.p (.lst wl)),x2',x3'],S')/\Hold d' [z] S'/\Wt Q [z] w:=by
 intro m
 induction m with
 | zero=>intro xs w d S x2 x3 hne hm;exact absurd (List.eq_nil_of_length_eq_zero (by lia)) hne
 | succ m ih=>
  intro xs w d S x2 x3 hne hm h1000 hH hW
  by_cases h1:xs.length=1
  ·obtain⟨z,rfl⟩:∃z,xs=[z]:=by
    cases xs with
    | nil=>simp at h1
    | cons z r=>
     have:r=[]:=List.eq_nil_of_length_eq_zero (by simpa using h1)
     subst this;exact⟨z,rfl⟩
   refine⟨d,S,x2,x3,z,?_,hH,hW⟩
   simp [whileGo,hH.len]
  ·have h2:2≤xs.length:=by
    have:=List.length_pos_iff.mpr hne
    lia
   have hd:d≠.ref S.length:=fun e=>by
    subst e
    rcases hH with z | ⟨j,z,z2⟩
    ·cases z
    ·cases z
     rcases z2 with z2 | z2 <;> simp at z2
   have hH1:Hold d xs (S++[.lst []]):=by
    rcases hH with z | ⟨j,rfl,z2⟩
    ·exact .inl z
    ·refine .inr ⟨j,rfl,?_⟩
     have hj:j < S.length:=by
      rcases z2 with z2 | z2 <;> exact (List.getElem?_eq_some_iff.mp z2).1
     rw [List.getElem?_append_left hj];exact z2
   obtain⟨S2,y3,e1,e2,hH2,l2⟩:=pair_loop hw hwl ψ ι hd h1000 xs [] [] (S++[.lst []]) x3 rfl hH1 (by simp) (by simpa using h1000)
   simp only [List.length_nil,List.nil_append] at e1 e2
   have e1':forGo (gSet 3) (b_n_law_folded_L1 ψ ι) (intsBy 0 2 (nSteps 0 ((xs.length:Int)-1) 2))
     [some d,some (.p (.lst wl)),some (.ref S.length),x3] (S++[.lst []])=some (.nx,[some d,some (.p (.lst wl)),some (.ref S.length),y3],S2):=by
    rw [intsBy_evens,nSteps_half h2];exact e1
   have hc:(1:Int) < (xs.length:Int):=by lia
   have hna:((xs.length:Int)-1).natAbs < 1000000:=by lia
   obtain⟨o1,o2⟩:=odd_last xs
   have hpl:=pairs_len f xs 0
   have hpn:pairs f 0 xs++oddT xs≠[]:=fun z=>by rw [z] at hpl;simp at hpl;lia
   have key:∃S3,Hold (.ref S.length) (pairs f 0 xs++oddT xs) S3/\(sSeq (sIf (bV (vOpE gEq (eV (vOp dMod (vLen (eVar 0)) (vC (.int 2)))) (eV (vC (.int 1))))) (sDrop (eAppend (eVar 2) (eV (vOp dIx (vE (eVar 0)) (vUn dNeg (vC (.int 1))))))) sNx)
     (sSet 0 (eVar 2))) [some d,some (.p (.lst wl)),some (.ref S.length),y3] S2=some (.nx,[some (.ref S.length),some (.p (.lst wl)),some (.ref S.length),y3],S3):=by
    have lk:S.length < S2.length:=(List.getElem?_eq_some_iff.mp e2).1
    by_cases hodd:xs.length % 2=1
    ·obtain⟨z,z1,z2⟩:=o1 hodd
     obtain⟨S4,r4,h4,k4,l4⟩:=hH2.read (k:=S.length) hd
     have hodd':(xs.length:Int) % 2=1:=by lia
     have hk4:S4[S.length]? = some (.lst ((pairs f 0 xs).map .p)):=by rw [k4];exact e2
     have q1:=own_of e2
     have q2:=own_of hk4
     have hpp:=pairs_len2 f xs 0
     refine⟨S4.set S.length (.lst ((pairs f 0 xs).map .p++[.p z])),.inr ⟨_,rfl,.inl ?_⟩,?_⟩
     ·rw [List.getElem?_set_self (by lia),z2];simp
     ·have hp6:(pairs f 0 xs).length≤1000000:=by lia
      simp [hH2.len,hodd',q1,q2,r4,atI_lastP z1,hp6]
    ·have hodd':¬(xs.length:Int) % 2=1:=by lia
     refine⟨S2,.inr ⟨_,rfl,.inl ?_⟩,?_⟩
     ·rw [e2,o2 (by lia)];simp
     ·simp [hH2.len,hodd']
   obtain⟨S3,hH3,e3⟩:=key
   obtain⟨d',S',x2',x3',z,g1,g2,g3⟩:=ih (pairs f 0 xs++oddT xs) w (.ref S.length) S3 (some (.ref S.length)) y3 hpn (by lia) (by lia) hH3 (pairs_wt hQ xs 0 w (by lia) hW)
   refine⟨d',S',x2',x3',z,?_,g2,g3⟩
   rw [whileGo]
   simp only [bV_ev,vOp_ev,vLen_ev,eVar_ev,vC_ev,List.getElem?_cons_zero,bnd_some,hH.len]
   rw [show dGt (.int (xs.length:Int)) (.int 1)=some (.bl (decide ((1:Int) < xs.length))) from rfl,decide_eq_true hc]
   simp only [Option.map_some,bnd_some,if_true]
   rw [b_n_law_folded_L2,sSeq_ev]
   simp only [sSet_ev,eLst_ev,vsNil_ev,bnd_some,few_ev,List.length_nil,Nat.zero_le,if_true,List.map_nil,List.set_cons_succ,List.set_cons_zero]
   rw [sSeq_ev]
   have e4:sFor (itR3 (vC (.int 0)) (vOp dSub (vLen (eVar 0)) (vC (.int 1))) (vC (.int 2))) (gSet 3) (b_n_law_folded_L1 ψ ι)
     [some d,some (.p (.lst wl)),some (.ref S.length),x3] (S++[.lst []])=some (.nx,[some d,some (.p (.lst wl)),some (.ref S.length),y3],S2):=by
    rw [sFor_ev]
    have:itR3 (vC (.int 0)) (vOp dSub (vLen (eVar 0)) (vC (.int 1))) (vC (.int 2)) [some d,some (.p (.lst wl)),some (.ref S.length),x3] (S++[.lst []])=some (intsBy 0 2 (nSteps 0 ((xs.length:Int)-1) 2),S++[.lst []]):=by
     simp [itR3,hH1.len,hna]
    rw [this]
    exact e1'
   rw [e4]
   dsimp only
   rw [e3]
   exact g1
theorem folded_ok {n:Nat} (hn:2≤n) {xs:List P}{w:Nat} (hne:xs≠[]) (hx:xs.length≤1000) (hW:Wt Q xs w):∃z s,Q s z/\w=s+1/\pureOf (Psi Gv Att Tb n "_law_folded") [.lst xs,.lst wl]=some z:=by
 obtain⟨n,rfl⟩:=ex2 (n:=n) (by first | assumption | lia)
 obtain⟨d',S',x2',x3',z,e,h1,⟨s,w',q,q2,rfl⟩⟩:=fold_loop hw hwl hQ (Psi Gv Att Tb (n+1)) (Psi Gv Att Tb n) 1000 xs w (.p (.lst xs)) [] none none hne hx hx (.inl rfl) hW
 cases q2
 refine⟨z,s,q,rfl,?_⟩
 obtain⟨S2,r2,_⟩:=h1.read (k:=S'.length) (fun e=>by
  subst e
  rcases h1 with y | ⟨j,y,y2⟩
  ·cases y
  ·cases y
   rcases y2 with y2 | y2 <;> simp at y2)
 rw [e_n_law_folded,pureOf_fn]
 simp [b_n_law_folded,sWhile,e,r2]
end
theorem Wt.append {Q:Nat->P->Prop}:∀{xs ys:List P}{a b:Nat},Wt Q xs a->Wt Q ys b->Wt Q (xs++ys) (a+b)
 | [],ys,a,b,h,g=>by
  have:a=0:=h
  subst this;simpa using g
 | x::xs,ys,a,b,h,g=>by
  obtain⟨s,w,q,h,rfl⟩:=h
  exact⟨s,w+b,q,h.append g,by lia⟩
theorem Wt.split {Q:Nat->P->Prop}:∀{xs ys:List P}{w:Nat},Wt Q (xs++ys) w->∃a b,Wt Q xs a/\Wt Q ys b/\w=a+b
 | [],ys,w,h=>⟨0,w,rfl,h,by lia⟩
 | x::xs,ys,w,h=>by
  obtain⟨s,w',q,h,rfl⟩:=h
  obtain⟨a,b,h1,h2,rfl⟩:=Wt.split h
  exact⟨s+1+a,b,⟨s,a,q,h1,rfl⟩,h2,by lia⟩
theorem Wt.len {Q:Nat->P->Prop}:∀{xs:List P}{w:Nat},Wt Q xs w->xs.length≤w
 | [],w,h=>by simp
 | x::xs,w,h=>by
  obtain⟨s,w',q,h,rfl⟩:=h
  have:=h.len
  simp only [List.length_cons];lia
theorem atI_neg1 {α:Type} (pre:List α) (v:α):L2.atI (pre++[v]) (-1)=some v:=by
 unfold L2.atI L2.ixN
 rw [if_neg (by lia),if_pos (by simp;lia)]
 show (pre++[v])[((-1:Int)+((pre++[v]).length:Nat)).toNat]? = _
 rw [show ((-1:Int)+((pre++[v]).length:Nat)).toNat=pre.length by simp;lia]
 simp
theorem atI_neg2 {α:Type} (pre:List α) (u v:α):L2.atI (pre++[u,v]) (-2)=some u:=by
 unfold L2.atI L2.ixN
 rw [if_neg (by lia),if_pos (by simp;lia)]
 show (pre++[u,v])[((-2:Int)+((pre++[u,v]).length:Nat)).toNat]? = _
 rw [show ((-2:Int)+((pre++[u,v]).length:Nat)).toNat=pre.length by simp;lia]
 simp
theorem atI_neg1' {α:Type} (pre:List α) (u v:α):L2.atI (pre++[u,v]) (-1)=some v:=by
 have:=atI_neg1 (pre++[u]) v
 simpa using this
noncomputable def Qt (s:Nat) (p:P):Prop:=∃t:T,t.g/\t.sz=s/\p=t.p
noncomputable def ws3:List P:=[.str "plus",.str "minus",.str "times"]
theorem op3 (k:Int):∃m:Mk,5≤m.l/\L2.atI ws3 (k % 3)=some (.str m.k):=by
 have h0:=Int.emod_nonneg k (show (3:Int)≠0 by decide)
 have h1:=Int.emod_lt_of_pos k (show (0:Int) < 3 by decide)
 have:k % 3=0\/k % 3=1\/k % 3=2:=by lia
 rcases this with h | h | h <;> rw [h]
 ·exact⟨.pl,by decide,by kernel_rfl⟩
 ·exact⟨.mi,by decide,by kernel_rfl⟩
 ·exact⟨.ti,by decide,by kernel_rfl⟩
noncomputable def f3 (k:Int):Mk:=Classical.choose (op3 k)
theorem f3_ok (k:Int):L2.atI ws3 (k % 3)=some (.str (f3 k).k):=(Classical.choose_spec (op3 k)).2
theorem f3_l (k:Int):5≤(f3 k).l:=(Classical.choose_spec (op3 k)).1
theorem Qt.bin {a b:Nat}{x y:P}{m:Mk} (hm:5≤m.l) (h:Qt a x) (g:Qt b y):Qt (a+b+1) (.tup [.str m.k,x,y]):=by
 obtain⟨t,h1,h2,rfl⟩:=h
 obtain⟨u,g1,g2,rfl⟩:=g
 exact⟨.bin m t u,⟨hm,h1,g1⟩,by simp only [T.sz];lia,(f_sum hm _ _).symm⟩
noncomputable def NL (N:List (List Nat)):P:=.lst (N.map fun c=>P.str (txt c))
theorem leaf_ok {n:Nat} (hn:2≤n) {N:List (List Nat)} (hN:N≠[]) (hg:∀c ∈ N,Nam c) (q:Int):∃t:T,t.g/\t.sz=1/\(∀c,t=.nam c->c ∈ N)/\pureOf (Psi Gv Att Tb n "_law_leaf") [NL N,.int q]=some t.p:=by
 obtain⟨n,rfl⟩:=ex2 (n:=n) (by first | assumption | lia)
 by_cases h2:q % 2=0
 ·obtain⟨c,hc,e⟩:=atI_pick hN (q / 2)
  have hl:0 < N.length:=List.length_pos_iff.mpr hN
  have e2:L2.atI (N.map fun c=>P.str (txt c)) (q / 2 % (N.length:Int))=some (.str (txt c)):=by
   unfold L2.atI at e ⊢
   rw [List.length_map]
   cases hx:L2.ixN N.length (q / 2 % (N.length:Int)) with
   | none=>rw [hx] at e;cases e
   | some j=>
    rw [hx] at e
    simp only [Option.bind_some] at e ⊢
    rw [List.getElem?_map,e];rfl
  refine⟨.nam c,hg c hc,rfl,fun _ e=>(by cases e;exact hc),?_⟩
  rw [e_n_law_leaf,pureOf_fn]
  simp [b_n_law_leaf,NL,h2,lenD,lenP,hl,e2,few,T.p]
 ·have d1:0≤q / 2 % 10/\q / 2 % 10 < 10:=⟨Int.emod_nonneg _ (by decide),Int.emod_lt_of_pos _ (by decide)⟩
  have d2:0≤q / 20 % 1000/\q / 20 % 1000 < 1000:=⟨Int.emod_nonneg _ (by decide),Int.emod_lt_of_pos _ (by decide)⟩
  have d3:0≤q / 16 % 4/\q / 16 % 4 < 4:=⟨Int.emod_nonneg _ (by decide),Int.emod_lt_of_pos _ (by decide)⟩
  have d4:q / 16 % 4 / 3=0\/q / 16 % 4 / 3=1:=by lia
  rcases d4 with d4 | d4
  ·refine⟨.num (q / 2 % 10).toNat,show (q / 2 % 10).toNat < 1000 by lia,rfl,(fun _ e=>nomatch e),?_⟩
   have e:((q / 2 % 10).toNat:Int)=q / 2 % 10:=by lia
   rw [e_n_law_leaf,pureOf_fn]
   simp [b_n_law_leaf,NL,h2,d4,few,T.p,e]
  ·refine⟨.num (q / 20 % 1000).toNat,show (q / 20 % 1000).toNat < 1000 by lia,rfl,(fun _ e=>nomatch e),?_⟩
   have e:((q / 20 % 1000).toNat:Int)=q / 20 % 1000:=by lia
   rw [e_n_law_leaf,pureOf_fn]
   simp [b_n_law_leaf,NL,h2,d4,few,T.p,e]
theorem isi_t (x:List P):isiP "tuple" (.tup x)=true:=by first | rfl | kernel_rfl
theorem isi_i (x:Int):isiP "tuple" (.int x)=false:=by first | rfl | kernel_rfl
theorem isi_s (x:Str):isiP "tuple" (.str x)=false:=by first | rfl | kernel_rfl
theorem tp_t {t:T} (h:t.g):isiP "tuple" t.p=true:=by
 obtain⟨r,e⟩:=t_k h
 rw [e];exact isi_t _
theorem cut1 (x y:P):dSl2 (.tup [x,y]) (some 1) none=some (.tup [y]):=by kernel_rfl
theorem cut2 (x y z:P):dSl2 (.tup [x,y,z]) (some 1) none=some (.tup [y,z]):=by kernel_rfl
theorem max0 (a:Nat):c_max [.int 0,.int (a:Int)]=some (.int (a:Int)):=by
 simp only [c_max]
 first
  | (rw [if_neg (by lia)])
  | (congr 2;lia)
theorem max2 (a b:Nat):c_max [.int (a:Int),.int (b:Int)]=some (.int ((max a b:Nat):Int)):=by
 simp only [c_max]
 split
 ·congr 2;lia
 ·congr 2;lia
theorem depth_ok:∀(t:T),t.g->∀(n:Nat),t.dp+2≤n->pureOf (Psi Gv Att Tb n "_law_depth") [t.p]=some (.int (t.dp:Int))
 | .num k,_,n,hn=>by
  obtain⟨n,rfl⟩:=ex2 (n:=n) (by first | assumption | lia)
  rw [e_n_law_depth,pureOf_fn]
  simp [b_n_law_depth,b_n_law_depth_L1,T.p,T.dp,oSome,oNone,cut1,forGo,isi_i]
 | .nam k,_,n,hn=>by
  obtain⟨n,rfl⟩:=ex2 (n:=n) (by first | assumption | lia)
  rw [e_n_law_depth,pureOf_fn]
  simp [b_n_law_depth,b_n_law_depth_L1,T.p,T.dp,oSome,oNone,cut1,forGo,isi_s]
 | .bin m l r,h,n,hn=>by
  simp only [T.dp] at hn
  obtain⟨n,rfl⟩:=ex2 (n:=n) (by first | assumption | lia)
  have e1:=depth_ok l h.2.1 (n+1) (by lia)
  have e2:=depth_ok r h.2.2 (n+1) (by lia)
  have i1:=tp_t h.2.1
  have i2:=tp_t h.2.2
  have m1:=max0 l.dp
  have m2:=max2 l.dp r.dp
  rw [e_n_law_depth,pureOf_fn]
  simp [b_n_law_depth,b_n_law_depth_L1,T.p,f_sum h.1,T.dp,oSome,oNone,cut2,forGo,i1,i2,e1,e2,m1,m2]
end My
namespace My
open PySem L2 Ev
noncomputable def wB (c:List Nat):Bool:=match inP (.str (txt c)) (.tup [.str "or",.str "and",.str "not",.str "true"]) with
 | some b=>!b
 | none=>false
noncomputable def chkN (c:List Nat):Bool:=!c.isEmpty && decide (c.length≤10) && c.all (fun x=>decide (97≤x) && decide (x < 123)) && wB c
theorem let_all:∀c < 123,97≤c->inS c "abcdefghijklmnopqrstuvwxyz"=true/\inS c "0123456789"=false/\inS c " "=false:=by decide +kernel
theorem nam_of {c:List Nat} (h:chkN c=true):Nam c:=by
 simp only [chkN,Bool.and_eq_true,decide_eq_true_eq,List.all_eq_true,Bool.not_eq_true'] at h
 obtain⟨⟨⟨h1,h2⟩,h3⟩,h4⟩:=h
 refine⟨fun x hx=>(by have:=h3 x hx;lia),fun z=>(by rw [z] at h1;cases h1),h2,fun x hx=>(let_all x (h3 x hx).2 (h3 x hx).1).1,fun x hx=>(let_all x (h3 x hx).2 (h3 x hx).1).2.1,fun x hx=>(let_all x (h3 x hx).2 (h3 x hx).1).2.2,fun S=>?_⟩
 show (inP (.str (txt c)) (.tup [.str "or",.str "and",.str "not",.str "true"])).map P.bl=some (.bl false)
 unfold wB at h4
 cases e:inP (.str (txt c)) (.tup [.str "or",.str "and",.str "not",.str "true"]) with
 | none=>rw [e] at h4;cases h4
 | some b=>
  rw [e] at h4
  cases b with
  | false=>rfl
  | true=>cases h4
theorem even_all:∀k:Nat,k < 8->∀a:Nat,a < 9->∀s:Nat,s < 3->chkN (List.replicate (a+1) (97+k)++[[120,118,122].getD s 0])=true:=by decide +kernel
theorem odd_all:∀k:Nat,k < 8->∀p:Nat,p < 10->chkN (List.replicate p 109++((97+k)::List.replicate (9-p) 109))=true:=by decide +kernel
theorem letk:∀k:Nat,k < 8->dIx (.str "abcdefgh") (.int (k:Int))=some (.str (txt [97+k])):=by
 intro k hk
 match k,hk with
 | 0,_=>kernel_rfl
 | 1,_=>kernel_rfl
 | 2,_=>kernel_rfl
 | 3,_=>kernel_rfl
 | 4,_=>kernel_rfl
 | 5,_=>kernel_rfl
 | 6,_=>kernel_rfl
 | 7,_=>kernel_rfl
theorem sufk:∀s:Nat,s < 3->dIx (.str "xvz") (.int (s:Int))=some (.str (txt [[120,118,122].getD s 0])):=by
 intro k hk
 match k,hk with
 | 0,_=>kernel_rfl
 | 1,_=>kernel_rfl
 | 2,_=>kernel_rfl
theorem rep_txt (c:Nat):∀a:Nat,a < 11->dMul2 (.str (txt [c])) (.int (a:Int))=some (.str (txt (List.replicate a c))):=by
 intro k hk
 match k,hk with
 | 0,_=>kernel_rfl
 | 1,_=>kernel_rfl
 | 2,_=>kernel_rfl
 | 3,_=>kernel_rfl
 | 4,_=>kernel_rfl
 | 5,_=>kernel_rfl
 | 6,_=>kernel_rfl
 | 7,_=>kernel_rfl
 | 8,_=>kernel_rfl
 | 9,_=>kernel_rfl
 | 10,_=>kernel_rfl
theorem s_m:("m":Str)=txt [109]:=by decide +kernel
theorem modN (q:Int) (m:Nat) (hm:0 < m):∃a:Nat,a < m/\q % (m:Int)=(a:Int):=by
 have h0:=Int.emod_nonneg q (show (m:Int)≠0 by lia)
 have h1:=Int.emod_lt_of_pos q (show (0:Int) < (m:Int) by lia)
 exact⟨(q % (m:Int)).toNat,by lia,by lia⟩
theorem named_ok {n:Nat} (hn:2≤n) {k:Nat} (hk:k < 8) (q:Int):∃c,Nam c/\pureOf (Psi Gv Att Tb n "_law_named") [.int (k:Int),.int q]=some (.str (txt c)):=by
 obtain⟨n,rfl⟩:=ex2 (n:=n) (by first | assumption | lia)
 have e1:=letk k hk
 by_cases h2:q % 2=0
 ·obtain⟨a,ha,ea⟩:=modN (q / 2) 9 (by decide)
  obtain⟨s,hs,es⟩:=modN (q / 18) 3 (by decide)
  have e2:=sufk s hs
  have e3:=rep_txt (97+k) (a+1) (by lia)
  have c1:((a+1:Nat):Int)=1+(a:Int):=by lia
  rw [c1] at e3
  have e4:dAdd2 (.str (txt (List.replicate (a+1) (97+k)))) (.str (txt [[120,118,122].getD s 0]))=some (.str (txt (List.replicate (a+1) (97+k)++[[120,118,122].getD s 0]))):=add_txt (by simp;lia)
  refine⟨_,nam_of (even_all k hk a ha s hs),?_⟩
  rw [show ((9:Nat):Int)=9 from rfl] at ea
  rw [show ((3:Nat):Int)=3 from rfl] at es
  rw [e_n_law_named,pureOf_fn]
  generalize [120,118,122].getD s 0=sc at *
  generalize List.replicate (a+1) (97+k)=R at *
  simp [b_n_law_named,h2,e1,ea,es,e2,e3,-dAdd2_str,e4]
 ·obtain⟨p,hp,ep⟩:=modN (q / 2) 10 (by decide)
  have e2:=rep_txt 109 p (by lia)
  have e3:=rep_txt 109 (9-p) (by lia)
  have c1:((9-p:Nat):Int)=9-(p:Int):=by lia
  rw [c1] at e3
  have e4:dAdd2 (.str (txt (List.replicate p 109))) (.str (txt [97+k]))=some (.str (txt (List.replicate p 109++[97+k]))):=add_txt (by simp;lia)
  have e5:dAdd2 (.str (txt (List.replicate p 109++[97+k]))) (.str (txt (List.replicate (9-p) 109)))=some (.str (txt (List.replicate p 109++((97+k)::List.replicate (9-p) 109)))):=by rw [add_txt (by simp;lia)];simp
  refine⟨_,nam_of (odd_all k hk p hp),?_⟩
  rw [show ((10:Nat):Int)=10 from rfl] at ep
  rw [e_n_law_named,pureOf_fn]
  generalize List.replicate p 109++((97+k)::List.replicate (9-p) 109)=R2 at *
  generalize List.replicate p 109++[97+k]=R1 at *
  generalize List.replicate p 109=R0 at *
  generalize List.replicate (9-p) 109=R3 at *
  simp [b_n_law_named,h2,e1,ep,s_m,e2,e3,-dAdd2_str,e4,e5]
@[simp] theorem okP_int (n:Nat) (i:Int):okP n (.int i)=true:=by cases n <;> rfl
@[simp] theorem okP_str (n:Nat) (x:Str):okP n (.str x)=PyData.strOk x:=by cases n <;> rfl
@[simp] theorem okP_tup (n:Nat) (xs:List P):okP (n+1) (.tup xs)=xs.all (okP n):=rfl
theorem txt_strOk {c:List Nat} (h:∀x ∈ c,x < 1000):PyData.strOk (txt c)=true:=by
 unfold PyData.strOk txt
 simp only [Array.all_eq_true,decide_eq_true_eq]
 intro i hi
 have:=h c[i] (List.getElem_mem _)
 have e:(c.toArray)[i]=c[i]:=by simp
 rw [e]
 lia
theorem k_strOk (t:T):PyData.strOk t.k=true:=by
 cases t with
 | num n=>show PyData.strOk "number"=true;decide +kernel
 | nam c=>show PyData.strOk "name"=true;decide +kernel
 | bin m l r=>show PyData.strOk m.k=true;cases m <;> decide +kernel
theorem okT:∀(t:T),t.g->∀n,t.dp≤n->okP n t.p=true
 | .num k,h,n,hn=>by
  obtain⟨n,rfl⟩:∃m,n=m+1:=⟨n-1,by simp [T.dp] at hn;lia⟩
  have:=k_strOk (.num k)
  simp only [T.k] at this
  simp [T.p,this]
 | .nam c,h,n,hn=>by
  obtain⟨n,rfl⟩:∃m,n=m+1:=⟨n-1,by simp [T.dp] at hn;lia⟩
  have:=k_strOk (.nam c)
  simp only [T.k] at this
  have h2:=txt_strOk (fun x hx=>Nat.lt_trans (Nam.lt h x hx) (by decide))
  simp [T.p,this,h2]
 | .bin m l r,h,n,hn=>by
  simp only [T.dp] at hn
  obtain⟨n,rfl⟩:=ex1 (n:=n) (by first | assumption | lia)
  have:=k_strOk (.bin m l r)
  simp only [T.k] at this
  have h1:=okT l h.2.1 n (by lia)
  have h2:=okT r h.2.2 n (by lia)
  simp [T.p,f_sum h.1,this,h1,h2]
theorem dp2:∀t:T,2 * t.dp≤t.sz+1
 | .num _=>by simp [T.dp,T.sz]
 | .nam _=>by simp [T.dp,T.sz]
 | .bin _ l r=>by
  have h1:=dp2 l
  have h2:=dp2 r
  have:=l.pos
  have:=r.pos
  simp only [T.dp,T.sz]
  lia
end My
namespace My
open PySem L2 Ev
noncomputable def C.g:C->Prop
 | .tru=>True
 | .no c=>c.g
 | .is m l r=>m.l=4/\l.g/\r.g
 | .bin m l r=>(1≤m.l/\m.l≤2)/\l.g/\r.g
noncomputable def C.lv:C->Nat
 | .tru=>4
 | .no _=>3
 | .is _ _ _=>4
 | .bin m _ _=>m.l
noncomputable def C.sz:C->Nat
 | .tru=>1
 | .no c=>2+c.sz
 | .is _ l r=>1+l.sz+r.sz
 | .bin _ l r=>1+l.sz+r.sz
noncomputable def fq (a l:Nat) (x:List Nat):List Nat:=if l≤a then x else 91::(x++[93])
noncomputable def shD:C->List Nat
 | .tru=>tTrue
 | .no c=>tNot++32::fq c.lv 3 (shD c)
 | .is m l r=>shC l++32::(m.tx++32::shC r)
 | .bin m l r=>fq l.lv m.l (shD l)++32::(m.tx++32::fq r.lv (m.l+1) (shD r))
theorem Cp.pad {B a j:Nat}{c:C}{x:List (Tk×Nat)} (h:Cp B a c x):∃x',Cp (B+j) a c x'/\Tx x'=Tx x++List.replicate j 32/\x'.length=x.length/\lastK x'=lastK x+j:=by
 induction h with
 | @tru k hk=>exact⟨[(.tru,k+j)],.tru (by lia),by simp [Tx],rfl,rfl⟩
 | @no c a k x h ha h1 hk i=>
  obtain⟨x',s,e,le,lk⟩:=i
  exact⟨(.no,k)::x',.no s ha h1 (by lia),by simp [Tx,e],by simp [le],by rw [lastK_cons _ s.ne,lastK_cons _ h.ne,lk]⟩
 | @is m l r a b k x y hm h1 h2 hk=>
  obtain⟨y',s,e,le,lk⟩:=h2.padK (j:=j)
  exact⟨x++(.cm m,k)::y',.is hm (h1.mono (by lia)) s (by lia),by simp [tx_app,Tx,e],by simp [le],by rw [lastK_app _ (by simp),lastK_app _ (by simp),lastK_cons _ s.ne,lastK_cons _ h2.ne,lk]⟩
 | @bin m l r a b k x y hm1 hm2 h1 l1 h2 l2 hlk hk1 hk i1 i2=>
  obtain⟨y',s,e,le,lk⟩:=i2
  exact⟨x++(.jn m,k)::y',.bin hm1 hm2 (h1.mono (by lia)) l1 s l2 hlk hk1 (by lia),by simp [tx_app,Tx,e],by simp [le],by rw [lastK_app _ (by simp),lastK_app _ (by simp),lastK_cons _ s.ne,lastK_cons _ h2.ne,lk]⟩
 | @br c a k k' x h1 hk hk' i=>exact⟨(.lb,k)::(x++[(.rb,k'+j)]),.br (h1.mono (by lia)) (by lia) (by lia),by simp [tx_app,Tx],by simp,by rw [lastK_cons _ (by simp),lastK_cons _ (by simp),lastK_app _ (by simp),lastK_app _ (by simp)];exact Nat.add_right_comm _ _ _⟩
theorem Cp.side {B a j k:Nat}{c:C}{x:List (Tk×Nat)} (h:Cp B a c x) (b:Bool) (hk:k≤B+j):∃x' a',Cp (B+j) a' c x'/\(if b=true then a'=7 else a'=a)/\Tx x'=(if b=true then 91::(List.replicate k 32++(Tx x++[93])) else Tx x)++List.replicate j 32/\x'.length≤x.length+2/\j≤lastK x':=by
 cases b with
 | true=>exact⟨(.lb,k)::(x++[(.rb,j)]),7,.br (h.mono (by lia)) hk (by lia),rfl,by simp [cons_tx,tx_app,Tk.tx,Tx],by simp,by rw [lastK_cons _ (by simp),lastK_app _ (by simp)];exact Nat.le_succ _⟩
 | false=>
  obtain⟨x',s,e,l,lk⟩:=h.pad (j:=j)
  exact⟨x',a,s,rfl,by simpa using e,by lia,by lia⟩
theorem C.pos (c:C):1≤c.sz:=by cases c <;> simp [C.sz] <;> lia
theorem cp_shown:∀c:C,c.g->∃x,Cp c.sz c.lv c x/\Tx x=shD c/\x.length+3≤8 * c.sz
 | .tru,h=>⟨[(.tru,0)],.tru (by simp),by simp [Tx,Tk.tx,shD],by simp [C.sz]⟩
 | .no c,h=>by
  obtain⟨x,s1,e1,l1⟩:=cp_shown c h
  obtain⟨x',a,s1,i1,t1,n1,_⟩:=s1.side (j:=0) (k:=0) (decide (¬3≤c.lv)) (by lia)
  have pc:=c.pos
  refine⟨(.no,1)::x',.no (s1.mono (by simp only [C.sz];lia)) ?_ (by lia) (by simp only [C.sz];lia),?_,by simp only [C.sz,List.length_cons];lia⟩
  ·by_cases d:3≤c.lv
   ·simp [d] at i1;lia
   ·simp [d] at i1;lia
  ·rw [cons_tx,t1,e1]
   simp only [shD,fq,Tk.tx]
   by_cases d:3≤c.lv <;> simp [d]
 | .is m l r,h=>by
  obtain⟨x,s1,e1,l1⟩:=sp_shown l h.2.1
  obtain⟨y,s2,e2,l2⟩:=sp_shown r h.2.2
  obtain⟨x',s1,t1,n1⟩:=s1.pad (j:=1)
  have pl:=l.pos
  have pr:=r.pos
  refine⟨x'++(.cm m,1)::y,.is h.1 (s1.mono (by simp only [C.sz];lia)) (s2.mono (by simp only [C.sz];lia)) (by simp only [C.sz];lia),?_,by simp only [C.sz,List.length_append,List.length_cons];lia⟩
  rw [tx_app,cons_tx,t1,e1,e2]
  simp [shD,Tk.tx]
 | .bin m l r,h=>by
  obtain⟨x,s1,e1,l1⟩:=cp_shown l h.2.1
  obtain⟨y,s2,e2,l2⟩:=cp_shown r h.2.2
  obtain⟨x',a,s1,i1,t1,n1,k1⟩:=s1.side (j:=1) (k:=0) (decide (¬m.l≤l.lv)) (by lia)
  obtain⟨y',b,s2,i2,t2,n2,_⟩:=s2.side (j:=0) (k:=0) (decide (¬m.l+1≤r.lv)) (by lia)
  have cm:=h.1
  have pl:=l.pos
  have pr:=r.pos
  refine⟨x'++(.jn m,1)::y',.bin cm.1 cm.2 (s1.mono (by simp only [C.sz];lia)) ?_ (s2.mono (by simp only [C.sz];lia)) ?_ k1 (by lia) (by simp only [C.sz];lia),?_,by simp only [C.sz,List.length_append,List.length_cons];lia⟩
  ·by_cases c:m.l≤l.lv
   ·simp [c] at i1;lia
   ·simp [c] at i1;lia
  ·by_cases c:m.l+1≤r.lv
   ·simp [c] at i2;lia
   ·simp [c] at i2;lia
  ·rw [tx_app,cons_tx,t1,t2,e1,e2]
   simp only [shD,fq,Tk.tx]
   by_cases c:m.l≤l.lv <;> by_cases c2:m.l+1≤r.lv <;> simp [c,c2]
end My
namespace My
open PySem L2 Ev
theorem dp_sz:∀t:T,t.dp≤t.sz
 | .num _=>Nat.le_refl _
 | .nam _=>Nat.le_refl _
 | .bin _ l r=>by
  have:=dp_sz l
  have:=dp_sz r
  simp only [T.dp,T.sz]
  lia
noncomputable def C.k:C->Str
 | .tru=>"true"
 | .no _=>"not"
 | .is _ _ _=>"is"
 | .bin m _ _=>m.k
theorem f_is {m:Mk} (h:m.l=4) (a b:P):m.f a b=.tup [.str "is",.str m.s,a,b]:=by simp [Mk.f,h]
theorem f_jn {m:Mk} (h:m.l≤2) (a b:P):m.f a b=.tup [.str m.k,a,b]:=by
 have:¬m.l=4:=by lia
 simp [Mk.f,this]
theorem c_k {c:C} (h:c.g):∃r,c.p=.tup (.str c.k::r):=by
 cases c with
 | tru=>exact⟨_,rfl⟩
 | no c=>exact⟨_,rfl⟩
 | is m l r=>exact⟨_,f_is h.1 _ _⟩
 | bin m l r=>exact⟨_,f_jn h.1.2 _ _⟩
theorem cix0 {c:C} (h:c.g):dIx c.p (.int 0)=some (.str c.k):=by
 obtain⟨r,e⟩:=c_k h
 rw [e];simp
theorem lkC {c:C} (h:c.g):List.lookup c.k [(("or":Str),P.int 1),("and",.int 2),("not",.int 3),("is",.int 4),("true",.int 4),("plus",.int 5),("minus",.int 5),("times",.int 6),("number",.int 7),("name",.int 7)]=some (.int (c.lv:Int)):=by
 cases c with
 | tru=>kernel_rfl
 | no c=>kernel_rfl
 | is m l r=>kernel_rfl
 | bin m l r=>cases m <;> first | exact absurd h.1.1 (by decide) | exact absurd h.1.2 (by decide) | kernel_rfl
theorem lk_not:List.lookup ("not":Str) [(("or":Str),P.int 1),("and",.int 2),("not",.int 3),("is",.int 4),("true",.int 4),("plus",.int 5),("minus",.int 5),("times",.int 6),("number",.int 7),("name",.int 7)]=some (.int 3):=by kernel_rfl
theorem lkJ {m:Mk} (h:1≤m.l) (h2:m.l≤2):List.lookup m.k [(("or":Str),P.str "or"),("and",.str "and"),("plus",.str "+"),("minus",.str "-"),("times",.str "*")]=some (.str m.s):=by cases m <;> first | exact absurd h (by decide) | exact absurd h2 (by decide) | kernel_rfl
theorem c_sum {c:C} (h:c.g) (S:Sto):gIn (.p (.str c.k)) (.p (.tup [.str "number",.str "name",.str "plus",.str "minus",.str "times"])) S=some (.bl false):=by
 cases c with
 | tru=>kernel_rfl
 | no c=>kernel_rfl
 | is m l r=>kernel_rfl
 | bin m l r=>cases m <;> first | exact absurd h.1.1 (by decide) | exact absurd h.1.2 (by decide) | kernel_rfl
theorem s_jn {m:Mk} (h:1≤m.l) (h2:m.l≤2):m.s=txt m.tx:=by cases m <;> first | exact absurd h (by decide) | exact absurd h2 (by decide) | decide +kernel
theorem s_cm {m:Mk} (h:m.l=4):m.s=txt m.tx:=by cases m <;> first | exact absurd h (by decide) | decide +kernel
theorem tx3 (m:Mk):m.tx.length≤3:=by cases m <;> decide
theorem s_lb:("[":Str)=txt [91]:=by decide +kernel
theorem s_rb:("]":Str)=txt [93]:=by decide +kernel
theorem s_notb:("not ":Str)=txt (tNot++[32]):=by decide +kernel
theorem fq_len (a l:Nat) (x:List Nat):(fq a l x).length≤x.length+2:=by unfold fq;split <;> simp
theorem shd_len:∀c:C,c.g->(shD c).length≤17 * c.sz
 | .tru,h=>by simp [shD,tTrue,C.sz]
 | .no c,h=>by
  have h1:=shd_len c h
  have f1:=fq_len c.lv 3 (shD c)
  simp only [shD,C.sz,List.length_append,List.length_cons,tNot,List.length_nil]
  lia
 | .is m l r,h=>by
  have h1:=sh_len l h.2.1
  have h2:=sh_len r h.2.2
  have:=tx3 m
  simp only [shD,C.sz,List.length_append,List.length_cons]
  lia
 | .bin m l r,h=>by
  have h1:=shd_len l h.2.1
  have h2:=shd_len r h.2.2
  have f1:=fq_len l.lv m.l (shD l)
  have f2:=fq_len r.lv (m.l+1) (shD r)
  have:=tx3 m
  simp only [shD,C.sz,List.length_append,List.length_cons]
  lia
theorem k_nt {m:Mk} (h:1≤m.l) (h2:m.l≤2):¬m.k=("true":Str)/\¬m.k=("not":Str)/\¬m.k=("is":Str):=by
 cases m <;> first | exact absurd h (by decide) | exact absurd h2 (by decide) | (refine⟨?_,?_,?_⟩ <;> decide +kernel)
theorem k_not_true:¬("not":Str)="true":=by decide +kernel
theorem is_true:¬("is":Str)="true":=by decide +kernel
theorem is_not:¬("is":Str)="not":=by decide +kernel
theorem from_ok {n:Nat} (c:C) (lv:Nat) (hg:c.g) (hl:(shD c).length≤17000) (e:pureOf (Psi Gv Att Tb (n+1) "shown_condition") [c.p]=some (.str (txt (shD c)))):pureOf (Psi Gv Att Tb (n+2) "shown_from") [c.p,.int (lv:Int)]=some (.str (txt (fq c.lv lv (shD c)))):=by
 have k1:=lkC hg
 have k2:=c_sum hg
 have k3:=cix0 hg
 have hl2:(shD c).length≤1000000:=by lia
 rw [e_n_shown_from,pureOf_fn]
 generalize shD c=x at *
 generalize c.p=tp at *
 generalize c.k=tk at *
 by_cases hb:lv≤c.lv
 ·have hb2:(lv:Int)≤(c.lv:Int):=by lia
  simp [b_n_shown_from,k3,k1,k2,e,hb,hb2,fq]
 ·have hb2:¬(lv:Int)≤(c.lv:Int):=by lia
  have q1:x.length+1≤1000000:=by lia
  have q2:x.length+1+1≤1000000:=by lia
  simp [b_n_shown_from,k3,k1,k2,e,hb,hb2,fq,s_lb,s_rb,s_empty,txt_app,hl2,q1,q2]
theorem shownC_ok:∀(c:C),c.g->c.sz≤500->∀n,3 * c.sz+5≤n->pureOf (Psi Gv Att Tb n "shown_condition") [c.p]=some (.str (txt (shD c)))
 | .tru,h,hz,n,hn=>by
  obtain⟨n,rfl⟩:=ex2 (n:=n) (by first | assumption | lia)
  rw [e_n_shown_condition,pureOf_fn]
  simp [b_n_shown_condition,C.p,shD,s_true]
 | .no c,h,hz,n,hn=>by
  simp only [C.sz] at hn hz
  obtain⟨n,rfl⟩:=ex3 (n:=n) (by first | assumption | lia)
  have hc:c.g:=h
  have ec:=shownC_ok c hc (by lia) (n+1) (by lia)
  have ll:=shd_len c hc
  have f1:=from_ok c 3 hc (by lia) ec
  rw [show ((3:Nat):Int)=3 from rfl] at f1
  have g1:=fq_len c.lv 3 (shD c)
  have k1:=k_not_true
  rw [e_n_shown_condition,pureOf_fn]
  simp only [shD]
  generalize fq c.lv 3 (shD c)=x at *
  have q1:x.length≤1000000:=by lia
  have q2:tNot.length+1+x.length≤1000000:=by simp [tNot];lia
  have q3:tNot.length+(x.length+1)≤1000000:=by simp [tNot];lia
  have q4:tNot.length+1≤1000000:=by simp [tNot]
  simp [b_n_shown_condition,C.p,k1,lk_not,f1,s_notb,s_empty,txt_app,q1,q2,q3,q4]
 | .is m l r,h,hz,n,hn=>by
  simp only [C.sz] at hn hz
  obtain⟨n,rfl⟩:=ex2 (n:=n) (by first | assumption | lia)
  have dl:=dp_sz l
  have dr:=dp_sz r
  have el:=shown_ok l h.2.1 (by lia) (n+1) (by lia)
  have er:=shown_ok r h.2.2 (by lia) (n+1) (by lia)
  have ll:=sh_len l h.2.1
  have lr:=sh_len r h.2.2
  have k1:=is_true
  have k2:=is_not
  have hm:=tx3 m
  rw [e_n_shown_condition,pureOf_fn]
  simp only [shD]
  generalize shC l=x at *
  generalize shC r=y at *
  have hs:=s_cm h.1
  have hp:(C.is m l r).p=.tup [.str "is",.str m.s,l.p,r.p]:=f_is h.1 _ _
  rw [hp,hs]
  generalize m.tx=z at *
  have q0:x.length≤1000000:=by lia
  have q1:x.length+1≤1000000:=by lia
  have q5:y.length≤1000000:=by lia
  have q6:z.length≤1000000:=by lia
  have q2:x.length+(z.length+1)≤1000000:=by lia
  have q3:x.length+(z.length+1+1)≤1000000:=by lia
  have q4:x.length+(z.length+(y.length+1)+1)≤1000000:=by lia
  simp [b_n_shown_condition,k1,k2,el,er,s_blank,s_empty,txt_app,q0,q1,q2,q3,q4,q5,q6]
 | .bin m l r,h,hz,n,hn=>by
  simp only [C.sz] at hn hz
  obtain⟨n,rfl⟩:=ex4 (n:=n) (by first | assumption | lia)
  have el:=shownC_ok l h.2.1 (by lia) (n+1) (by lia)
  have er:=shownC_ok r h.2.2 (by lia) (n+1) (by lia)
  have ll:=shd_len l h.2.1
  have lr:=shd_len r h.2.2
  have fl:=from_ok l m.l h.2.1 (by lia) el
  have f2:=from_ok r (m.l+1) h.2.2 (by lia) er
  have g1:=fq_len l.lv m.l (shD l)
  have g2:=fq_len r.lv (m.l+1) (shD r)
  have k1:=lkC (c:=.bin m l r) h
  have k2:=lkJ h.1.1 h.1.2
  have hm:=tx3 m
  have hT:(C.bin m l r).p=.tup [.str m.k,l.p,r.p]:=f_jn h.1.2 _ _
  have hp:pureOf (Psi Gv Att Tb (n+3) "shown_pair") [(C.bin m l r).p]=some (.str (txt (shD (.bin m l r)))):=by
   rw [e_n_shown_pair,pureOf_fn]
   simp only [shD]
   simp only [C.k,C.lv] at k1
   have c1:((m.l+1:Nat):Int)=(m.l:Int)+1:=by lia
   rw [c1] at f2
   rw [hT]
   rw [s_jn h.1.1 h.1.2] at k2
   generalize fq l.lv m.l (shD l)=x at *
   generalize fq r.lv (m.l+1) (shD r)=y at *
   generalize m.tx=z at *
   have q0:x.length≤1000000:=by lia
   have q1:x.length+1≤1000000:=by lia
   have q5:y.length≤1000000:=by lia
   have q6:z.length≤1000000:=by lia
   have q2:x.length+(z.length+1)≤1000000:=by lia
   have q3:x.length+(z.length+1+1)≤1000000:=by lia
   have q4:x.length+(z.length+(y.length+1)+1)≤1000000:=by lia
   simp [b_n_shown_pair,k1,k2,fl,f2,s_blank,s_empty,txt_app,q0,q1,q2,q3,q4,q5,q6]
  obtain⟨n1,n2,n3⟩:=k_nt h.1.1 h.1.2
  have kd:=cix0 (c:=.bin m l r) h
  simp only [C.k] at kd
  rw [e_n_shown_condition,pureOf_fn]
  simp [b_n_shown_condition,kd,n1,n2,n3,hp]
end My
namespace My
open PySem L2 Ev
noncomputable def T.sm:T->Prop
 | .bin _ l r=>l.lv=7/\r.lv=7
 | _=>True
noncomputable def C.sm:C->Prop
 | .tru=>True
 | .no c=>c.sm
 | .is _ l r=>l.sm/\r.sm
 | .bin _ l r=>l.sm/\r.sm
theorem mk_or {m:Mk} (h1:1≤m.l) (h2:m.l≤2):m.k=("or":Str)↔m.l=1:=by
 have n1:¬("and":Str)="or":=by decide +kernel
 cases m <;> first | exact absurd h1 (by decide) | exact absurd h2 (by decide) | exact⟨fun z=>absurd z n1,fun z=>nomatch z⟩ | exact⟨fun _=>rfl,fun _=>rfl⟩
theorem mk_an {m:Mk} (h1:1≤m.l) (h2:m.l≤2):m.k=("and":Str)↔m.l=2:=by
 have n1:¬("or":Str)="and":=by decide +kernel
 cases m <;> first | exact absurd h1 (by decide) | exact absurd h2 (by decide) | exact⟨fun z=>absurd z n1,fun z=>nomatch z⟩ | exact⟨fun _=>rfl,fun _=>rfl⟩
theorem k_tx {m:Mk} (h1:1≤m.l) (h2:m.l≤2):m.k=txt m.tx:=by cases m <;> first | exact absurd h1 (by decide) | exact absurd h2 (by decide) | decide +kernel
theorem clv {c:C} (h:c.g):c.lv=1\/c.lv=2\/c.lv=3\/c.lv=4:=by
 cases c with
 | tru=>exact .inr (.inr (.inr rfl))
 | no c=>exact .inr (.inr (.inl rfl))
 | is m l r=>exact .inr (.inr (.inr rfl))
 | bin m l r=>have:=h.1;show m.l=1\/m.l=2\/m.l=3\/m.l=4;lia
end My
namespace My
open PySem L2 Ev
theorem lkV {c:C} (h:c.g):(dLook (Sum.inr c.k) [Sum.inr ("plus":Str),Sum.inr "minus",Sum.inr "times",Sum.inr "or",Sum.inr "and"] [P.int 1,.int 1,.int 2,.int 1,.int 2]).getD (.int 3)=.int ((min c.lv 3:Nat):Int):=by
 cases c with
 | tru=>kernel_rfl
 | no c=>kernel_rfl
 | is m l r=>kernel_rfl
 | bin m l r=>cases m <;> first | exact absurd h.1.1 (by decide) | exact absurd h.1.2 (by decide) | kernel_rfl
theorem levelC_ok {n:Nat} (hn:2≤n) {c:C} (h:c.g):pureOf (Psi Gv Att Tb n "_law_level") [c.p]=some (.int ((min c.lv 3:Nat):Int)):=by
 obtain⟨n,rfl⟩:=ex2 (n:=n) (by first | assumption | lia)
 have k:=cix0 h
 have w:=lkV h
 generalize ((min c.lv 3:Nat):Int)=i at *
 rw [e_n_law_level,pureOf_fn]
 simp [b_n_law_level,k,dlv_ev,keyOf,w]
noncomputable def C.dp:C->Nat
 | .tru=>1
 | .no c=>1+c.dp
 | .is _ l r=>1+max l.dp r.dp
 | .bin _ l r=>1+max l.dp r.dp
theorem cdp2:∀c:C,2 * c.dp≤c.sz+1
 | .tru=>by simp [C.dp,C.sz]
 | .no c=>by
  have:=cdp2 c
  simp only [C.dp,C.sz]
  lia
 | .is _ l r=>by
  have h1:=dp2 l
  have h2:=dp2 r
  have:=l.pos
  have:=r.pos
  simp only [C.dp,C.sz]
  lia
 | .bin _ l r=>by
  have h1:=cdp2 l
  have h2:=cdp2 r
  have:=l.pos
  have:=r.pos
  simp only [C.dp,C.sz]
  lia
theorem tp_c {c:C} (h:c.g):isiP "tuple" c.p=true:=by
 obtain⟨r,e⟩:=c_k h
 rw [e];exact isi_t _
theorem cut0 (x:P):dSl2 (.tup [x]) (some 1) none=some (.tup []):=by kernel_rfl
theorem cut3 (x y z w:P):dSl2 (.tup [x,y,z,w]) (some 1) none=some (.tup [y,z,w]):=by kernel_rfl
theorem depthC_ok:∀(c:C),c.g->∀(n:Nat),c.dp+2≤n->pureOf (Psi Gv Att Tb n "_law_depth") [c.p]=some (.int (c.dp:Int))
 | .tru,_,n,hn=>by
  obtain⟨n,rfl⟩:=ex2 (n:=n) (by first | assumption | lia)
  rw [e_n_law_depth,pureOf_fn]
  simp [b_n_law_depth,C.p,C.dp,oSome,oNone,cut0,forGo]
 | .no c,h,n,hn=>by
  simp only [C.dp] at hn
  obtain⟨n,rfl⟩:=ex2 (n:=n) (by first | assumption | lia)
  have hc:c.g:=h
  have e1:=depthC_ok c hc (n+1) (by lia)
  have i1:=tp_c hc
  have m1:=max0 c.dp
  rw [e_n_law_depth,pureOf_fn]
  simp [b_n_law_depth,b_n_law_depth_L1,C.p,C.dp,oSome,oNone,cut1,forGo,i1,e1,m1]
 | .is m l r,h,n,hn=>by
  simp only [C.dp] at hn
  obtain⟨n,rfl⟩:=ex2 (n:=n) (by first | assumption | lia)
  have e1:=depth_ok l h.2.1 (n+1) (by lia)
  have e2:=depth_ok r h.2.2 (n+1) (by lia)
  have i1:=tp_t h.2.1
  have i2:=tp_t h.2.2
  have m1:=max0 l.dp
  have m2:=max2 l.dp r.dp
  have hp:(C.is m l r).p=.tup [.str "is",.str m.s,l.p,r.p]:=f_is h.1 _ _
  rw [hp,e_n_law_depth,pureOf_fn]
  simp [b_n_law_depth,b_n_law_depth_L1,C.dp,oSome,oNone,cut3,forGo,isi_s,i1,i2,e1,e2,m1,m2]
 | .bin m l r,h,n,hn=>by
  simp only [C.dp] at hn
  obtain⟨n,rfl⟩:=ex2 (n:=n) (by first | assumption | lia)
  have e1:=depthC_ok l h.2.1 (n+1) (by lia)
  have e2:=depthC_ok r h.2.2 (n+1) (by lia)
  have i1:=tp_c h.2.1
  have i2:=tp_c h.2.2
  have m1:=max0 l.dp
  have m2:=max2 l.dp r.dp
  have hp:(C.bin m l r).p=.tup [.str m.k,l.p,r.p]:=f_jn h.1.2 _ _
  rw [hp,e_n_law_depth,pureOf_fn]
  simp [b_n_law_depth,b_n_law_depth_L1,C.dp,oSome,oNone,cut2,forGo,i1,i2,e1,e2,m1,m2]
theorem mk_strOk (m:Mk):PyData.strOk m.k=true/\PyData.strOk m.s=true:=by cases m <;> exact⟨by decide +kernel,by decide +kernel⟩
theorem okC:∀(c:C),c.g->∀n,c.dp≤n->okP n c.p=true
 | .tru,h,n,hn=>by
  obtain⟨n,rfl⟩:∃m,n=m+1:=⟨n-1,by simp [C.dp] at hn;lia⟩
  have:PyData.strOk "true"=true:=by decide +kernel
  simp [C.p,this]
 | .no c,h,n,hn=>by
  simp only [C.dp] at hn
  obtain⟨n,rfl⟩:=ex1 (n:=n) (by first | assumption | lia)
  have:PyData.strOk "not"=true:=by decide +kernel
  have h1:=okC c h n (by lia)
  simp [C.p,this,h1]
 | .is m l r,h,n,hn=>by
  simp only [C.dp] at hn
  obtain⟨n,rfl⟩:=ex1 (n:=n) (by first | assumption | lia)
  have:PyData.strOk "is"=true:=by decide +kernel
  have h1:=okT l h.2.1 n (by lia)
  have h2:=okT r h.2.2 n (by lia)
  have h3:=(mk_strOk m).2
  simp [C.p,f_is h.1,this,h1,h2,h3]
 | .bin m l r,h,n,hn=>by
  simp only [C.dp] at hn
  obtain⟨n,rfl⟩:=ex1 (n:=n) (by first | assumption | lia)
  have h1:=okC l h.2.1 n (by lia)
  have h2:=okC r h.2.2 n (by lia)
  have h3:=(mk_strOk m).1
  simp [C.p,f_jn h.1.2,h1,h2,h3]
end My
namespace My
open PySem L2 Ev
noncomputable def owGap (ψ:Str->GF):ES:=sSet 2 (eV (vOp dMul2 (vC (.str " ")) (vOp dIx (vLst' (vsCons (vC (.int 0)) (vsCons (vC (.int 1)) (vsCons (vC (.int 2)) vsNil)))) (vOp dMod (vCall (pureOf (ψ "_law_mix")) (vsCons (vE (eVar 1)) (vsCons (vC (.int 4)) vsNil))) (vC (.int 3))))))
noncomputable def owPart (ψ:Str->GF):ES:=(sIf (bV (vOpE gEq (eV (vOp dIx (vE (eVar 0)) (vC (.int 0)))) (eV (vC (.str "true"))))) (sSet 3 (eV (vC (.str "true")))) (sIf (bV (vOpE gEq (eV (vOp dIx (vE (eVar 0)) (vC (.int 0)))) (eV (vC (.str "is"))))) (sSeq (sSet 4 (eV (vCall (pureOf (ψ "_law_written")) (vsCons (vOp dIx (vE (eVar 0)) (vC (.int 2))) (vsCons (vCall (pureOf (ψ "_law_mix")) (vsCons (vE (eVar 1)) (vsCons (vC (.int 5)) vsNil))) vsNil)))))
  (sSet 3 (eV (vOp dAdd2 (vOp dAdd2 (vOp dAdd2 (vOp dAdd2 (vE (eVar 4)) (vE (eVar 2))) (vOp dIx (vE (eVar 0)) (vC (.int 1)))) (vE (eVar 2))) (vCall (pureOf (ψ "_law_written")) (vsCons (vOp dIx (vE (eVar 0)) (vC (.int 3))) (vsCons (vCall (pureOf (ψ "_law_mix")) (vsCons (vE (eVar 1)) (vsCons (vC (.int 6)) vsNil))) vsNil))))))) (sSeq (sSet 4 (eV (vCall (pureOf (ψ "_law_otherwise")) (vsCons (vOp dIx (vE (eVar 0)) (vC (.int 1))) (vsCons (vCall (pureOf (ψ "_law_mix")) (vsCons (vE (eVar 1)) (vsCons (vC (.int 7)) vsNil))) vsNil)))))
  (sSeq (sIf (bV (vOp dLt (vCall (pureOf (ψ "_law_level")) (vsCons (vOp dIx (vE (eVar 0)) (vC (.int 1))) vsNil)) (vCall (pureOf (ψ "_law_level")) (vsCons (vE (eVar 0)) vsNil)))) (sSet 4 (eV (vOp dAdd2 (vOp dAdd2 (vOp dAdd2 (vC (.str "[")) (vE (eVar 2))) (vE (eVar 4))) (vC (.str "]"))))) sNx)
  (sSet 3 (eV (vOp dAdd2 (vOp dAdd2 (vC (.str "not ")) (vE (eVar 2))) (vE (eVar 4)))))))))
noncomputable def owFin:ES:=(sSeq (sIf (bV (vOpE gEq (eV (vOp dMod (vE (eVar 1)) (vC (.int 7)))) (eV (vC (.int 0))))) (sRet (eV (vOp dAdd2 (vOp dAdd2 (vC (.str "[")) (vE (eVar 3))) (vC (.str "]"))))) sNx)
  (sRet (eVar 3)))
theorem ow_eq (ψ ι:Str->GF):b_n_law_otherwise ψ ι=sSeq (owGap ψ) (sSeq (owPart ψ) (sSeq (b_n_law_otherwise_L1 ψ ι) owFin)):=rfl
theorem gap3_ok (d:Int):∃(q:Int) (g:Nat),g≤2/\L2.atI [P.int 0,.int 1,.int 2] (d % 3)=some (.int q)/\dMul2 (.str (txt [32])) (.int q)=some (.str (txt (List.replicate g 32))):=by
 have h0:=Int.emod_nonneg d (show (3:Int)≠0 by decide)
 have h1:=Int.emod_lt_of_pos d (show (0:Int) < 3 by decide)
 have:d % 3=0\/d % 3=1\/d % 3=2:=by lia
 rcases this with h | h | h <;> rw [h]
 ·exact⟨0,0,by decide,by kernel_rfl,by kernel_rfl⟩
 ·exact⟨1,1,by decide,by kernel_rfl,by kernel_rfl⟩
 ·exact⟨2,2,by decide,by kernel_rfl,by kernel_rfl⟩
section
variable {ψ:Str->GF}{tp:P}{q:Int}
theorem owGap_ok {d4:Int} (m4:pureOf (ψ "_law_mix") [.int q,.int 4]=some (.int d4)):∃g:Nat,g≤2/\owGap ψ [some (.p tp),some (.p (.int q)),none,none,none,none] []=some (.nx,[some (.p tp),some (.p (.int q)),some (.p (.str (txt (List.replicate g 32)))),none,none,none],[]):=by
 obtain⟨gq,g,hg,g1,g2⟩:=gap3_ok d4
 refine⟨g,hg,?_⟩
 generalize List.replicate g 32=G at *
 simp [owGap,m4,few,s_blank,g1,g2]
theorem owFin_ok {B a:Nat}{c:C}{x:List (Tk×Nat)} (s:Cp B a c x) (hg:c.g) (ha:c.lv≤a) (hl:(Tx x).length≤900000) (G o o':Option Ev.D):∃x' a',Cp B a' c x'/\c.lv≤a'/\x'.length≤x.length+2/\owFin [some (.p tp),some (.p (.int q)),G,some (.p (.str (txt (Tx x)))),o,o'] []=some (.rt (.p (.str (txt (Tx x')))),[some (.p tp),some (.p (.int q)),G,some (.p (.str (txt (Tx x)))),o,o'],[]):=by
 by_cases c7:q % 7=0
 ·refine⟨(.lb,0)::(x++[(.rb,0)]),7,.br s (by lia) (by lia),by have:=clv hg;lia,by simp,?_⟩
  have p1:dAdd2 (.str (txt [91])) (.str (txt (Tx x)))=some (.str (txt (91::Tx x))):=add_txt (by simp;lia)
  have p2:dAdd2 (.str (txt (91::Tx x))) (.str (txt [93]))=some (.str (txt (Tx ((.lb,0)::(x++[(.rb,0)]))))):=by
   rw [add_txt (by simp;lia)]
   congr 3
   simp [cons_tx,tx_app,Tk.tx,Tx]
  generalize Tx ((.lb,0)::(x++[(.rb,0)]))=W at *
  simp [owFin,c7,s_lb,s_rb,-dAdd2_str,p1,p2]
 ·refine⟨x,a,s,ha,by lia,?_⟩
  simp [owFin,c7]
theorem owPart_else {cp:P}{k:Str}{d7 i1 i3:Int}{X G:List Nat} (k0:dIx tp (.int 0)=some (.str k)) (kt:¬k="true") (ki:¬k="is") (k1:dIx tp (.int 1)=some cp) (m7:pureOf (ψ "_law_mix") [.int q,.int 7]=some (.int d7)) (w:pureOf (ψ "_law_otherwise") [cp,.int d7]=some (.str (txt X))) (v1:pureOf (ψ "_law_level") [cp]=some (.int i1)) (v3:pureOf (ψ "_law_level") [tp]=some (.int i3)) (hX:X.length≤300000) (hG:G.length≤2) :
  owPart ψ [some (.p tp),some (.p (.int q)),some (.p (.str (txt G))),none,none,none] []=some (.nx,[some (.p tp),some (.p (.int q)),some (.p (.str (txt G))),some (.p (.str (txt (tNot++32::(G++(if i1 < i3 then 91::(G++(X++[93])) else X)))))),some (.p (.str (txt (if i1 < i3 then 91::(G++(X++[93])) else X)))),none],[]):=by
 have f1:dAdd2 (.str (txt (tNot++[32]))) (.str (txt G))=some (.str (txt (tNot++32::G))):=by rw [add_txt (by simp [tNot];lia)];simp
 have sn:=s_notb
 by_cases e:i1 < i3
 ·simp only [e,if_true]
  have p1:dAdd2 (.str (txt [91])) (.str (txt G))=some (.str (txt (91::G))):=add_txt (by simp;lia)
  have p2:dAdd2 (.str (txt (91::G))) (.str (txt X))=some (.str (txt (91::(G++X)))):=add_txt (by simp;lia)
  have p3:dAdd2 (.str (txt (91::(G++X)))) (.str (txt [93]))=some (.str (txt (91::(G++(X++[93]))))):=by rw [add_txt (by simp;lia)];simp
  have p4:dAdd2 (.str (txt (tNot++32::G))) (.str (txt (91::(G++(X++[93])))))=some (.str (txt (tNot++32::(G++91::(G++(X++[93])))))):=by rw [add_txt (by simp [tNot];lia)];simp
  generalize tNot++32::(G++91::(G++(X++[93])))=W1 at *
  generalize 91::(G++(X++[93]))=W2 at *
  generalize 91::(G++X)=W3 at *
  generalize tNot++32::G=W4 at *
  generalize tNot++[32]=W5 at *
  simp [owPart,k0,kt,ki,k1,m7,w,v1,v3,e,s_lb,s_rb,sn,-dAdd2_str,f1,p1,p2,p3,p4]
 ·simp only [e,if_false]
  have p4:dAdd2 (.str (txt (tNot++32::G))) (.str (txt X))=some (.str (txt (tNot++32::(G++X)))):=by rw [add_txt (by simp [tNot];lia)];simp
  generalize tNot++32::(G++X)=W1 at *
  generalize tNot++32::G=W4 at *
  generalize tNot++[32]=W5 at *
  simp [owPart,k0,kt,ki,k1,m7,w,v1,v3,e,sn,-dAdd2_str,f1,p4]
theorem c_ao {c:C} (h:c.g) (S:Sto):gIn (.p (.str c.k)) (.p (.tup [.str "and",.str "or"])) S=some (.bl (decide (c.lv≤2))):=by
 cases c with
 | tru=>kernel_rfl
 | no c=>kernel_rfl
 | is m l r=>kernel_rfl
 | bin m l r=>cases m <;> first | exact absurd h.1.1 (by decide) | exact absurd h.1.2 (by decide) | kernel_rfl
theorem owJ_skip (ι:Str->GF) {c:C} (h:c.g) (hl:3≤c.lv) (d:Lc) (S:Sto):b_n_law_otherwise_L1 ψ ι (some (.p c.p)::d) S=some (.nx,some (.p c.p)::d,S):=by
 have k:=cix0 h
 have k2:=c_ao h
 have e:¬c.lv≤2:=by lia
 simp [b_n_law_otherwise_L1,k,k2,e]
theorem owJ_bin (ι:Str->GF) {m:Mk}{l r:C} (h:(C.bin m l r).g) {d8 i2 i3:Int}{Y G U:List Nat} (m8:pureOf (ψ "_law_mix") [.int q,.int 8]=some (.int d8)) (w:pureOf (ψ "_law_otherwise") [r.p,.int d8]=some (.str (txt Y))) (v2:pureOf (ψ "_law_level") [r.p]=some (.int i2)) (v3:pureOf (ψ "_law_level") [(C.bin m l r).p]=some (.int i3)) (hU:U.length≤300010) (hY:Y.length≤300000) (hG:G.length≤2) (o:Option Ev.D) :
  b_n_law_otherwise_L1 ψ ι [some (.p (C.bin m l r).p),some (.p (.int q)),some (.p (.str (txt G))),o,some (.p (.str (txt U))),none] []=some (.nx,[some (.p (C.bin m l r).p),some (.p (.int q)),some (.p (.str (txt G))),some (.p (.str (txt (U++32::(G++(m.tx++(G++32::(if i2≤i3 then 91::(Y++(G++[93])) else Y)))))))),some (.p (.str (txt U))),some (.p (.str (txt (if i2≤i3 then 91::(Y++(G++[93])) else Y))))],[]):=by
 have k2:=c_ao h
 have hc:(C.bin m l r).lv≤2:=h.1.2
 have hm:=tx3 m
 have hT:(C.bin m l r).p=.tup [.str m.k,l.p,r.p]:=f_jn h.1.2 _ _
 rw [hT] at v3 ⊢
 simp only [C.k] at k2
 have f1:dAdd2 (.str (txt U)) (.str (txt [32]))=some (.str (txt (U++[32]))):=add_txt (by simp;lia)
 have f2:dAdd2 (.str (txt (U++[32]))) (.str (txt G))=some (.str (txt (U++32::G))):=by rw [add_txt (by simp;lia)];simp
 have f3:dAdd2 (.str (txt (U++32::G))) (.str m.k)=some (.str (txt (U++32::(G++m.tx)))):=by rw [k_tx h.1.1 h.1.2,add_txt (by simp;lia)];simp
 have f4:dAdd2 (.str (txt (U++32::(G++m.tx)))) (.str (txt G))=some (.str (txt (U++32::(G++(m.tx++G))))):=by rw [add_txt (by simp;lia)];simp
 have f5:dAdd2 (.str (txt (U++32::(G++(m.tx++G))))) (.str (txt [32]))=some (.str (txt (U++32::(G++(m.tx++(G++[32])))))):=by rw [add_txt (by simp;lia)];simp
 by_cases e:i2≤i3
 ·simp only [e,if_true]
  have p1:dAdd2 (.str (txt [91])) (.str (txt Y))=some (.str (txt (91::Y))):=add_txt (by simp;lia)
  have p2:dAdd2 (.str (txt (91::Y))) (.str (txt G))=some (.str (txt (91::(Y++G)))):=add_txt (by simp;lia)
  have p3:dAdd2 (.str (txt (91::(Y++G)))) (.str (txt [93]))=some (.str (txt (91::(Y++(G++[93]))))):=by rw [add_txt (by simp;lia)];simp
  have f6:dAdd2 (.str (txt (U++32::(G++(m.tx++(G++[32])))))) (.str (txt (91::(Y++(G++[93])))))=some (.str (txt (U++32::(G++(m.tx++(G++32::91::(Y++(G++[93])))))))):=by rw [add_txt (by simp;lia)];simp
  generalize U++32::(G++(m.tx++(G++32::91::(Y++(G++[93])))))=W1 at *
  generalize 91::(Y++(G++[93]))=W2 at *
  generalize 91::(Y++G)=W3 at *
  generalize U++32::(G++(m.tx++(G++[32])))=W4 at *
  generalize U++32::(G++(m.tx++G))=W5 at *
  generalize U++32::(G++m.tx)=W6 at *
  generalize U++32::G=W7 at *
  simp [b_n_law_otherwise_L1,k2,hc,m8,w,v2,v3,e,s_lb,s_rb,s_blank,-dAdd2_str,p1,p2,p3,f1,f2,f3,f4,f5,f6]
 ·simp only [e,if_false]
  have f6:dAdd2 (.str (txt (U++32::(G++(m.tx++(G++[32])))))) (.str (txt Y))=some (.str (txt (U++32::(G++(m.tx++(G++32::Y)))))):=by rw [add_txt (by simp;lia)];simp
  generalize U++32::(G++(m.tx++(G++32::Y)))=W1 at *
  generalize U++32::(G++(m.tx++(G++[32])))=W4 at *
  generalize U++32::(G++(m.tx++G))=W5 at *
  generalize U++32::(G++m.tx)=W6 at *
  generalize U++32::G=W7 at *
  simp [b_n_law_otherwise_L1,k2,hc,m8,w,v2,v3,e,s_blank,-dAdd2_str,f1,f2,f3,f4,f5,f6]
end
end My
namespace My
open PySem L2 Ev
theorem Cp.side2 {B a g:Nat}{c:C}{x:List (Tk×Nat)} (h:Cp B a c x) (b:Bool):∃x' a',Cp (B+g) a' c x'/\(if b=true then a'=7 else a'=a)/\Tx x'=(if b=true then 91::(Tx x++(List.replicate g 32++[93])) else Tx x)/\x'.length≤x.length+2:=by
 cases b with
 | true=>
  obtain⟨x',s,e,l,lk⟩:=h.pad (j:=g)
  exact⟨(.lb,0)::(x'++[(.rb,0)]),7,.br s (by lia) (by lia),rfl,by simp [cons_tx,tx_app,Tk.tx,Tx,e],by simp [l]⟩
 | false=>exact⟨x,a,h.mono (by lia),rfl,by simp,by lia⟩
theorem rep_l (g:Nat) (x:List Nat):List.replicate (1+g) 32++x=32::(List.replicate g 32++x):=by rw [Nat.add_comm,List.replicate_succ];rfl
theorem rep_r (g:Nat) (x:List Nat):List.replicate (g+1) 32++x=List.replicate g 32++32::x:=by rw [List.replicate_succ'];simp
theorem ow_whole {n:Nat}{tp:P}{q:Int}{L1 L2 L3 L4:Lc}{v:Str} (G:owGap (Psi Gv Att Tb (n+1)) [some (.p tp),some (.p (.int q)),none,none,none,none] []=some (.nx,L1,[]))
  (A:owPart (Psi Gv Att Tb (n+1)) L1 []=some (.nx,L2,[])) (J:b_n_law_otherwise_L1 (Psi Gv Att Tb (n+1)) (Psi Gv Att Tb n) L2 []=some (.nx,L3,[])) (F:owFin L3 []=some (.rt (.p (.str v)),L4,[])) :
  pureOf (Psi Gv Att Tb (n+2) "_law_otherwise") [tp,.int q]=some (.str v):=by
 rw [e_n_law_otherwise,pureOf_fn,ow_eq]
 simp [G,A,J,F]
theorem c_txlen {B a s:Nat}{c:C}{x:List (Tk×Nat)} (h:Cp B a c x) (hB:B≤240) (hx:x.length≤480):(Tx x).length≤200000:=Nat.le_trans (tx_len x h.all) (Nat.le_trans (Nat.mul_le_mul hx (show 10+B≤250 by lia)) (by decide))
theorem other_ok:∀(c:C),c.g->c.sz≤50->∀n,c.sz+4≤n->∀q:Int,∃x a,Cp (4 * c.sz) a c x/\c.lv≤a/\x.length+3≤8 * c.sz/\pureOf (Psi Gv Att Tb n "_law_otherwise") [c.p,.int q]=some (.str (txt (Tx x)))
 | .tru,h,hz,n,hn,q=>by
  obtain⟨n,rfl⟩:=ex2 (n:=n) (by first | assumption | lia)
  obtain⟨d4,_,m4⟩:=mix_ok (n:=n+1) (by lia) q (p:=4) (by decide) (by decide)
  obtain⟨g,hg,eg⟩:=owGap_ok (tp:=C.p .tru) m4
  have s:Cp 4 4 .tru [(.tru,0)]:=.tru (by lia)
  have et:Tx [(Tk.tru,0)]=tTrue:=by simp [cons_tx,Tx,Tk.tx]
  obtain⟨x',a',s',ha',hl',ef⟩:=owFin_ok (tp:=C.p .tru) (q:=q) s h (Nat.le_refl 4) (by rw [et];simp [tTrue]) (some (.p (.str (txt (List.replicate g 32))))) none none
  refine⟨x',a',s',ha',by simp [C.sz] at hl' ⊢;lia,?_⟩
  rw [et,s_true] at ef
  exact ow_whole eg (by simp [owPart,C.p]) (owJ_skip _ h (show 3≤4 by decide) _ _) ef
 | .is m l r,h,hz,n,hn,q=>by
  simp only [C.sz] at hn hz
  obtain⟨n,rfl⟩:=ex2 (n:=n) (by first | assumption | lia)
  have dl:=dp_sz l
  have dr:=dp_sz r
  have pl:=l.pos
  have pr:=r.pos
  obtain⟨d4,_,m4⟩:=mix_ok (n:=n+1) (by lia) q (p:=4) (by decide) (by decide)
  obtain⟨d5,_,m5⟩:=mix_ok (n:=n+1) (by lia) q (p:=5) (by decide) (by decide)
  obtain⟨d6,_,m6⟩:=mix_ok (n:=n+1) (by lia) q (p:=6) (by decide) (by decide)
  obtain⟨g,hg,eg⟩:=owGap_ok (tp:=(C.is m l r).p) m4
  obtain⟨x,a,s1,a1,l1,w1⟩:=written_ok l h.2.1 (by lia) (n+1) (by lia) d5
  obtain⟨y,b,s2,a2,l2,w2⟩:=written_ok r h.2.2 (by lia) (n+1) (by lia) d6
  have X1:(Tx x).length≤200000:=Nat.le_trans (tx_len x s1.all) (Nat.le_trans (Nat.mul_le_mul (show x.length≤480 by lia) (show 10+4 * l.sz≤250 by lia)) (by decide))
  have X2:(Tx y).length≤200000:=Nat.le_trans (tx_len y s2.all) (Nat.le_trans (Nat.mul_le_mul (show y.length≤480 by lia) (show 10+4 * r.sz≤250 by lia)) (by decide))
  obtain⟨x',s1',t1,n1⟩:=s1.pad (j:=g)
  have s:Cp (4 * (1+l.sz+r.sz)) 4 (.is m l r) (x'++(.cm m,g)::y):=.is h.1 (s1'.mono (by lia)) (s2.mono (by lia)) (by lia)
  have te:Tx (x'++(Tk.cm m,g)::y)=Tx x++(List.replicate g 32++(m.tx++(List.replicate g 32++Tx y))):=by rw [tx_app,cons_tx,t1];simp [Tk.tx]
  have hm:=tx3 m
  obtain⟨z,a',s',ha',hl',ef⟩:=owFin_ok (tp:=(C.is m l r).p) (q:=q) s h (Nat.le_refl 4) (by rw [te];simp;lia) (some (.p (.str (txt (List.replicate g 32))))) (some (.p (.str (txt (Tx x))))) none
  refine⟨z,a',s',ha',by simp only [C.sz];simp at hl';lia,?_⟩
  rw [te] at ef
  have hp:(C.is m l r).p=.tup [.str "is",.str m.s,l.p,r.p]:=f_is h.1 _ _
  refine ow_whole eg ?_ (owJ_skip _ h (show 3≤4 by decide) _ _) ef
  rw [hp,s_cm h.1]
  have hGl:(List.replicate g 32).length≤2:=by simpa using hg
  have k1:=is_true
  generalize List.replicate g 32=G at *
  generalize Tx x=X at *
  generalize Tx y=Y at *
  have f1:dAdd2 (.str (txt X)) (.str (txt G))=some (.str (txt (X++G))):=add_txt (by lia)
  have f2:dAdd2 (.str (txt (X++G))) (.str (txt m.tx))=some (.str (txt (X++(G++m.tx)))):=by rw [add_txt (by simp;lia)];simp
  have f3:dAdd2 (.str (txt (X++(G++m.tx)))) (.str (txt G))=some (.str (txt (X++(G++(m.tx++G))))):=by rw [add_txt (by simp;lia)];simp
  have f4:dAdd2 (.str (txt (X++(G++(m.tx++G))))) (.str (txt Y))=some (.str (txt (X++(G++(m.tx++(G++Y)))))):=by rw [add_txt (by simp;lia)];simp
  generalize X++(G++(m.tx++(G++Y)))=W1 at *
  generalize X++(G++(m.tx++G))=W2 at *
  generalize X++(G++m.tx)=W3 at *
  generalize X++G=W4 at *
  simp [owPart,k1,m5,m6,w1,w2,-dAdd2_str,f1,f2,f3,f4]
 | .no c,h,hz,n,hn,q=>by
  simp only [C.sz] at hn hz
  obtain⟨n,rfl⟩:=ex2 (n:=n) (by first | assumption | lia)
  have hc:c.g:=h
  have pc:=c.pos
  obtain⟨d4,_,m4⟩:=mix_ok (n:=n+1) (by lia) q (p:=4) (by decide) (by decide)
  obtain⟨d7,_,m7⟩:=mix_ok (n:=n+1) (by lia) q (p:=7) (by decide) (by decide)
  obtain⟨g,hg,eg⟩:=owGap_ok (tp:=(C.no c).p) m4
  obtain⟨x,a,s1,a1,l1,w1⟩:=other_ok c hc (by lia) (n+1) (by lia) d7
  have X1:=c_txlen (s:=0) s1 (by lia) (by lia)
  have v1:=levelC_ok (n:=n+1) (by lia) hc
  have v3:=levelC_ok (n:=n+1) (by lia) (c:=.no c) h
  have ep:=owPart_else (q:=q) (G:=List.replicate g 32) (cix0 (c:=.no c) h) k_not_true (show ¬("not":Str)="is" by decide +kernel) (show dIx (C.no c).p (.int 1)=some c.p by simp [C.p]) m7 w1 v1 v3 (by lia) (by simpa using hg)
  obtain⟨x',a',s1',i1,t1,n1,_⟩:=s1.side (j:=0) (k:=g) (decide (c.lv < 3)) (by lia)
  have hU:(if ((min c.lv 3:Nat):Int) < ((min (C.no c).lv 3:Nat):Int) then 91::(List.replicate g 32++(Tx x++[93])) else Tx x)=Tx x':=by
   have e3:((min (C.no c).lv 3:Nat):Int)=3:=rfl
   by_cases e:c.lv < 3
   ·rw [if_pos (by lia),t1];simp [e]
   ·rw [if_neg (by lia),t1];simp [e]
  rw [hU] at ep
  have s:Cp (4 * (2+c.sz)) 3 (.no c) ((.no,1+g)::x'):=by
   refine .no (s1'.mono (by lia)) ?_ (by lia) (by lia)
   by_cases e:c.lv < 3
   ·simp [e] at i1;lia
   ·simp [e] at i1;lia
  have te:Tx ((Tk.no,1+g)::x')=tNot++32::(List.replicate g 32++Tx x'):=by rw [cons_tx,rep_l];rfl
  have X2:=c_txlen (s:=0) s (by lia) (by simp;lia)
  obtain⟨z,a',s',ha',hl',ef⟩:=owFin_ok (tp:=(C.no c).p) (q:=q) s h (Nat.le_refl 3) (by lia) (some (.p (.str (txt (List.replicate g 32))))) (some (.p (.str (txt (Tx x'))))) none
  refine⟨z,a',s',ha',by simp only [C.sz];simp at hl';lia,?_⟩
  rw [te] at ef
  exact ow_whole eg ep (owJ_skip _ h (show 3≤3 by decide) _ _) ef
 | .bin m l r,h,hz,n,hn,q=>by
  simp only [C.sz] at hn hz
  obtain⟨n,rfl⟩:=ex2 (n:=n) (by first | assumption | lia)
  have pl:=l.pos
  have pr:=r.pos
  have hm:=h.1
  obtain⟨d4,_,m4⟩:=mix_ok (n:=n+1) (by lia) q (p:=4) (by decide) (by decide)
  obtain⟨d7,_,m7⟩:=mix_ok (n:=n+1) (by lia) q (p:=7) (by decide) (by decide)
  obtain⟨d8,_,m8⟩:=mix_ok (n:=n+1) (by lia) q (p:=8) (by decide) (by decide)
  obtain⟨g,hg,eg⟩:=owGap_ok (tp:=(C.bin m l r).p) m4
  obtain⟨x,a,s1,a1,l1,w1⟩:=other_ok l h.2.1 (by lia) (n+1) (by lia) d7
  obtain⟨y,b,s2,a2,l2,w2⟩:=other_ok r h.2.2 (by lia) (n+1) (by lia) d8
  have X1:=c_txlen (s:=0) s1 (by lia) (by lia)
  have X2:=c_txlen (s:=0) s2 (by lia) (by lia)
  have v1:=levelC_ok (n:=n+1) (by lia) h.2.1
  have v2:=levelC_ok (n:=n+1) (by lia) h.2.2
  have v3:=levelC_ok (n:=n+1) (by lia) (c:=.bin m l r) h
  obtain⟨nt,_,ni⟩:=k_nt h.1.1 h.1.2
  have hT:(C.bin m l r).p=.tup [.str m.k,l.p,r.p]:=f_jn h.1.2 _ _
  have ep:=owPart_else (q:=q) (G:=List.replicate g 32) (cix0 (c:=.bin m l r) h) nt ni (show dIx (C.bin m l r).p (.int 1)=some l.p by rw [hT];simp) m7 w1 v1 v3 (by lia) (by simpa using hg)
  obtain⟨x',a',s1',i1,t1,n1,k1⟩:=s1.side (j:=1+g) (k:=g) (decide (l.lv < m.l)) (by lia)
  obtain⟨y',b',s2',i2,t2,n2⟩:=s2.side2 (g:=g) (decide (r.lv≤m.l))
  have e3:((min (C.bin m l r).lv 3:Nat):Int)=(m.l:Int):=by show ((min m.l 3:Nat):Int)=_;lia
  rw [e3] at ep v3
  generalize hU:(if ((min l.lv 3:Nat):Int) < (m.l:Int) then 91::(List.replicate g 32++(Tx x++[93])) else Tx x)=U at ep
  have tU:Tx x'=U++List.replicate (1+g) 32:=by
   rw [t1,<- hU]
   by_cases e:l.lv < m.l
   ·rw [if_pos (show ((min l.lv 3:Nat):Int) < (m.l:Int) by lia)];simp [e]
   ·rw [if_neg (show ¬((min l.lv 3:Nat):Int) < (m.l:Int) by lia)];simp [e]
  have lU:U.length≤300010:=by
   rw [<- hU]
   split
   ·simp;lia
   ·lia
  have ej:=owJ_bin (ψ:=Psi Gv Att Tb (n+1)) (q:=q) (Psi Gv Att Tb n) h (U:=U) (G:=List.replicate g 32) m8 w2 v2 (by rw [v3]) lU (by lia) (by simpa using hg) (some (.p (.str (txt (tNot++32::(List.replicate g 32++U))))))
  have hV:(if ((min r.lv 3:Nat):Int)≤(m.l:Int) then 91::(Tx y++(List.replicate g 32++[93])) else Tx y)=Tx y':=by
   rw [t2]
   by_cases e:r.lv≤m.l
   ·rw [if_pos (by lia)];simp [e]
   ·rw [if_neg (by lia)];simp [e]
  rw [hV] at ej
  have s:Cp (4 * (1+l.sz+r.sz)) m.l (.bin m l r) (x'++(.jn m,g+1)::y'):=by
   refine .bin hm.1 hm.2 (s1'.mono (by lia)) ?_ (s2'.mono (by lia)) ?_ (by lia) (by lia) (by lia)
   ·by_cases e:l.lv < m.l
    ·simp [e] at i1;lia
    ·simp [e] at i1;lia
   ·by_cases e:r.lv≤m.l
    ·simp [e] at i2;lia
    ·simp [e] at i2;lia
  have te:Tx (x'++(Tk.jn m,g+1)::y')=U++32::(List.replicate g 32++(m.tx++(List.replicate g 32++32::Tx y'))):=by
   rw [tx_app,cons_tx,tU,rep_r,List.append_assoc,rep_l]
   rfl
  have X3:=c_txlen (s:=0) s (by lia) (by simp;lia)
  obtain⟨z,a',s',ha',hl',ef⟩:=owFin_ok (tp:=(C.bin m l r).p) (q:=q) s h (Nat.le_refl m.l) (by lia) (some (.p (.str (txt (List.replicate g 32))))) (some (.p (.str (txt U)))) (some (.p (.str (txt (Tx y')))))
  refine⟨z,a',s',ha',by simp only [C.sz];simp at hl';lia,?_⟩
  rw [te] at ef
  exact ow_whole eg ep ej ef
end My
namespace My
open PySem L2 Ev
noncomputable def T.iN (N:List (List Nat)):T->Prop
 | .num _=>True
 | .nam c=>c ∈ N
 | .bin _ l r=>l.iN N/\r.iN N
noncomputable def C.iN (N:List (List Nat)):C->Prop
 | .tru=>True
 | .no c=>c.iN N
 | .is _ l r=>l.iN N/\r.iN N
 | .bin _ l r=>l.iN N/\r.iN N
noncomputable def DOk (N:List (List Nat)) (d:P):Prop:=∀c ∈ N,∃i:Int,i.natAbs≤999/\dIx d (.str (txt c))=some (.int i)
section
variable {N:List (List Nat)}{d:P} (hd:DOk N d)
include hd
theorem leafval {t:T} (h:t.g) (h7:t.lv=7) (hi:t.iN N):∃v:Int,v.natAbs≤999/\∀n,2≤n->pureOf (Psi Gv Att Tb n "value_of") [t.p,d]=some (.int v)/\pureOf (Psi Gv Att Tb n "_law_value") [t.p,d]=some (.int v):=by
 cases t with
 | num q=>
  have hq:q < 1000:=h
  refine⟨(q:Int),by lia,fun n hn=>?_⟩
  obtain⟨n,rfl⟩:=ex2 (n:=n) (by first | assumption | lia)
  constructor
  ·rw [e_n_value_of,pureOf_fn]
   simp [b_n_value_of,T.p]
  ·rw [e_n_law_value,pureOf_fn]
   simp [b_n_law_value,T.p]
 | nam c=>
  obtain⟨v,hv,e⟩:=hd c hi
  have k1:=nam_num
  refine⟨v,hv,fun n hn=>?_⟩
  obtain⟨n,rfl⟩:=ex2 (n:=n) (by first | assumption | lia)
  constructor
  ·rw [e_n_value_of,pureOf_fn]
   simp [b_n_value_of,T.p,k1,e]
  ·rw [e_n_law_value,pureOf_fn]
   simp [b_n_law_value,T.p,k1,e]
 | bin m l r=>
  have:=lv_mk h.1
  simp only [T.lv] at h7
  lia
end
theorem mk3 {m:Mk} (h:5≤m.l):(m.k=("plus":Str)/\¬m.k=("minus":Str))\/(¬m.k=("plus":Str)/\m.k=("minus":Str))\/(¬m.k=("plus":Str)/\¬m.k=("minus":Str)/\m.k=("times":Str)):=by
 have a1:¬("minus":Str)="plus":=by decide +kernel
 have a2:¬("plus":Str)="minus":=by decide +kernel
 have a3:¬("times":Str)="plus":=by decide +kernel
 have a4:¬("times":Str)="minus":=by decide +kernel
 cases m <;> first | exact absurd h (by decide) | exact .inl ⟨rfl,a2⟩ | exact .inr (.inl ⟨a1,rfl⟩) | exact .inr (.inr ⟨a3,a4,rfl⟩)
theorem dval_ev {a b:Int} (hm:mulOk a b=true) (x y:Option Ev.D):vDict (dCons "plus" (vOp dAdd2 (vE (eVar 2)) (vE (eVar 3))) (dCons "minus" (vOp dSub (vE (eVar 2)) (vE (eVar 3))) (dCons "times" (vOp dMul2 (vE (eVar 2)) (vE (eVar 3))) dNil))) [x,y,some (.p (.int a)),some (.p (.int b))] []=some (.dct [Sum.inr "plus",Sum.inr "minus",Sum.inr "times"] [.int (a+b),.int (a-b),.int (a * b)],[]):=by
 have hk:(keysD (dCons "plus" (vOp dAdd2 (vE (eVar 2)) (vE (eVar 3))) (dCons "minus" (vOp dSub (vE (eVar 2)) (vE (eVar 3))) (dCons "times" (vOp dMul2 (vE (eVar 2)) (vE (eVar 3))) dNil)))).Nodup:=by decide +kernel
 simp only [vDict]
 have hv:valsGo (dCons "plus" (vOp dAdd2 (vE (eVar 2)) (vE (eVar 3))) (dCons "minus" (vOp dSub (vE (eVar 2)) (vE (eVar 3))) (dCons "times" (vOp dMul2 (vE (eVar 2)) (vE (eVar 3))) dNil))) [x,y,some (.p (.int a)),some (.p (.int b))] []=some ([.int (a+b),.int (a-b),.int (a * b)],[]):=by
  simp [valsGo,dCons,dNil,hm]
 rw [hv]
 simp only [bnd_some]
 rw [if_pos ⟨hk,by decide⟩]
 rfl
noncomputable def opI (m:Mk) (a b:Int):Int:=match m with
 | .pl=>a+b
 | .mi=>a-b
 | _=>a * b
theorem dk3 {m:Mk} (h:5≤m.l) (a b:Int):dLook (Sum.inr m.k) [Sum.inr ("plus":Str),Sum.inr "minus",Sum.inr "times"] [P.int (a+b),.int (a-b),.int (a * b)]=some (.int (opI m a b)):=by cases m <;> first | exact absurd h (by decide) | kernel_rfl
theorem opI3 {m:Mk} (h:5≤m.l) (a b:Int):(m.k=("plus":Str)->opI m a b=a+b)/\(m.k=("minus":Str)->opI m a b=a-b)/\(m.k=("times":Str)->opI m a b=a * b):=by
 have a1:¬("minus":Str)="plus":=by decide +kernel
 have a2:¬("plus":Str)="minus":=by decide +kernel
 have a3:¬("times":Str)="plus":=by decide +kernel
 have a4:¬("times":Str)="minus":=by decide +kernel
 have a5:¬("plus":Str)="times":=by decide +kernel
 have a6:¬("minus":Str)="times":=by decide +kernel
 cases m <;> first | exact absurd h (by decide) | exact⟨fun _=>rfl,fun z=>absurd z a2,fun z=>absurd z a5⟩ | exact⟨fun z=>absurd z a1,fun _=>rfl,fun z=>absurd z a6⟩ | exact⟨fun z=>absurd z a3,fun z=>absurd z a4,fun _=>rfl⟩
theorem sumval {N:List (List Nat)}{d:P} (hd:DOk N d) {t:T} (h:t.g) (hs:t.sm) (hi:t.iN N):∃v:Int,∀n,3≤n->pureOf (Psi Gv Att Tb n "value_of") [t.p,d]=some (.int v)/\pureOf (Psi Gv Att Tb n "_law_value") [t.p,d]=some (.int v):=by
 cases t with
 | num q=>obtain⟨v,_,e⟩:=leafval hd h rfl hi;exact⟨v,fun n hn=>e n (by lia)⟩
 | nam c=>obtain⟨v,_,e⟩:=leafval hd h rfl hi;exact⟨v,fun n hn=>e n (by lia)⟩
 | bin m l r=>
  obtain⟨a,ha,ea⟩:=leafval hd h.2.1 hs.1 hi.1
  obtain⟨b,hb,eb⟩:=leafval hd h.2.2 hs.2 hi.2
  have hm:mulOk a b=true:=mulOk_small (by lia) (by lia)
  have hT:(T.bin m l r).p=.tup [.str m.k,l.p,r.p]:=f_sum h.1 _ _
  have k3:=@mk_num m
  have k4:=@mk_nam m
  have kd:=dk3 h.1 a b
  obtain⟨o1,o2,o3⟩:=opI3 h.1 a b
  refine⟨opI m a b,fun n hn=>?_⟩
  obtain⟨n,rfl⟩:=ex2 (n:=n) (by first | assumption | lia)
  obtain⟨el,el'⟩:=ea (n+1) (by lia)
  obtain⟨er,er'⟩:=eb (n+1) (by lia)
  constructor
  ·rw [hT,e_n_value_of,pureOf_fn]
   rcases mk3 h.1 with ⟨p1,p2⟩ | ⟨p1,p2⟩ | ⟨p1,p2,p3⟩
   ·rw [o1 p1]
    simp [b_n_value_of,k3,k4,el,er,eq_true p1]
   ·rw [o2 p2]
    simp [b_n_value_of,k3,k4,el,er,p1,eq_true p2]
   ·rw [o3 p3]
    simp [b_n_value_of,k3,k4,el,er,p1,p2,hm]
  ·rw [hT,e_n_law_value,pureOf_fn]
   simp [b_n_law_value,k3,k4,el',er',dval_ev hm,dIx_dct,kd]
noncomputable def cmpI (m:Mk) (a b:Int):Bool:=match m with
 | .eq=>decide (a=b)
 | .ne=>!decide (a=b)
 | .lt=>decide (a < b)
 | .le=>decide (a≤b)
 | .gt=>decide (b < a)
 | _=>decide (b≤a)
theorem wne:¬("!=":Str)="="/\¬("<":Str)="="/\¬("<=":Str)="="/\¬(">":Str)="="/\¬(">=":Str)="="/\¬("<":Str)="!="/\¬("<=":Str)="!="/\¬(">":Str)="!="/\¬(">=":Str)="!="/\¬("<=":Str)="<"/\¬(">":Str)="<"/\¬(">=":Str)="<"/\¬(">":Str)="<="/\¬(">=":Str)="<="/\¬(">=":Str)=">":=by decide +kernel
theorem compared_ok {n:Nat} (hn:2≤n) {m:Mk} (h:m.l=4) (a b:Int):pureOf (Psi Gv Att Tb n "compared") [.str m.s,.int a,.int b]=some (.bl (cmpI m a b)):=by
 obtain⟨n,rfl⟩:=ex2 (n:=n) (by first | assumption | lia)
 obtain⟨w1,w2,w3,w4,w5,w6,w7,w8,w9,w10,w11,w12,w13,w14,w15⟩:=wne
 rw [e_n_compared,pureOf_fn]
 cases m with
 | eq=>simp [b_n_compared,Mk.s,cmpI]
 | ne=>simp [b_n_compared,Mk.s,cmpI,w1]
 | lt=>simp [b_n_compared,Mk.s,cmpI,w2,w6]
 | le=>simp [b_n_compared,Mk.s,cmpI,w3,w7,w10]
 | gt=>simp [b_n_compared,Mk.s,cmpI,w4,w8,w11,w13]
 | ge=>simp [b_n_compared,Mk.s,cmpI,w5,w9,w12,w14,w15]
 | _=>exact absurd h (by decide)
theorem dtru_ev (a b:Int) (x y z:Option Ev.D):vDict (dCons "=" (vOpE gEq (eVar 2) (eVar 3)) (dCons "!=" (vOpE gNe (eVar 2) (eVar 3)) (dCons "<" (vOp dLt (vE (eVar 2)) (vE (eVar 3))) (dCons "<=" (vOp dLe (vE (eVar 2)) (vE (eVar 3))) dNil)))) [x,y,some (.p (.int a)),some (.p (.int b)),z] []=some (.dct [Sum.inr "=",Sum.inr "!=",Sum.inr "<",Sum.inr "<="] [.bl (decide (a=b)),.bl (!decide (a=b)),.bl (decide (a < b)),.bl (decide (a≤b))],[]):=by
 have hk:(keysD (dCons "=" (vOpE gEq (eVar 2) (eVar 3)) (dCons "!=" (vOpE gNe (eVar 2) (eVar 3)) (dCons "<" (vOp dLt (vE (eVar 2)) (vE (eVar 3))) (dCons "<=" (vOp dLe (vE (eVar 2)) (vE (eVar 3))) dNil))))).Nodup:=by decide +kernel
 simp only [vDict]
 have hv:valsGo (dCons "=" (vOpE gEq (eVar 2) (eVar 3)) (dCons "!=" (vOpE gNe (eVar 2) (eVar 3)) (dCons "<" (vOp dLt (vE (eVar 2)) (vE (eVar 3))) (dCons "<=" (vOp dLe (vE (eVar 2)) (vE (eVar 3))) dNil)))) [x,y,some (.p (.int a)),some (.p (.int b)),z] []=some ([.bl (decide (a=b)),.bl (!decide (a=b)),.bl (decide (a < b)),.bl (decide (a≤b))],[]):=by
  simp [valsGo,dCons,dNil]
 rw [hv]
 simp only [bnd_some]
 rw [if_pos ⟨hk,by decide⟩]
 rfl
theorem dk4 {m:Mk} (h:m.l=4) (a b:Int):(dLook (Sum.inr m.s) [Sum.inr ("=":Str),Sum.inr "!=",Sum.inr "<",Sum.inr "<="] [P.bl (decide (a=b)),.bl (!decide (a=b)),.bl (decide (a < b)),.bl (decide (a≤b))]).getD (.bl (decide (b < a) || (decide (m.s=(">=":Str)) && decide (a=b))))=.bl (cmpI m a b):=by
 have n1:¬(">":Str)=">=":=by decide +kernel
 cases m with
 | eq=>kernel_rfl
 | ne=>kernel_rfl
 | lt=>kernel_rfl
 | le=>kernel_rfl
 | gt=>
  show P.bl (decide (b < a) || (decide ((">":Str)=(">=":Str)) && decide (a=b)))=.bl (decide (b < a))
  rw [decide_eq_false n1];simp
 | ge=>
  show P.bl (decide (b < a) || (decide ((">=":Str)=(">=":Str)) && decide (a=b)))=.bl (decide (b≤a))
  congr 1
  rw [decide_eq_true rfl]
  by_cases c:b < a
  ·have:b≤a:=by lia
   simp [c,this]
  ·by_cases e:a=b
   ·subst e;simp
   ·have:¬b≤a:=by lia
    simp [c,e,this]
 | _=>exact absurd h (by decide)
end My
namespace My
open PySem L2 Ev
noncomputable def Hb (d:P) (c:C) (b:Bool):Prop:=∀n,c.sz+6≤n->pureOf (Psi Gv Att Tb n "holds") [c.p,d]=some (.bl b)
noncomputable def Lb (d:P) (c:C) (b:Bool):Prop:=∀n,c.sz+6≤n->pureOf (Psi Gv Att Tb n "_law_truth") [c.p,d]=some (.bl b)
theorem Hb.same {d:P}{c:C}{a b:Bool} (h:Hb d c a) (g:Hb d c b):a=b:=by
 have e:=(h (c.sz+6) (Nat.le_refl _)).symm.trans (g (c.sz+6) (Nat.le_refl _))
 cases e;rfl
section
variable {d:P}
theorem hb_tru:Hb d .tru true/\Lb d .tru true:=by
 constructor
 ·intro n hn
  obtain⟨n,rfl⟩:=ex2 (n:=n) (by first | assumption | lia)
  rw [e_n_holds,pureOf_fn]
  simp [b_n_holds,C.p]
 ·intro n hn
  obtain⟨n,rfl⟩:=ex2 (n:=n) (by first | assumption | lia)
  rw [e_n_law_truth,pureOf_fn]
  simp [b_n_law_truth,C.p]
theorem hb_no {c:C}{b:Bool} (h:Hb d c b):Hb d (.no c) (!b):=by
 intro n hn
 simp only [C.sz] at hn
 obtain⟨n,rfl⟩:=ex2 (n:=n) (by first | assumption | lia)
 have e:=h (n+1) (by lia)
 have k1:=k_not_true
 rw [e_n_holds,pureOf_fn]
 simp [b_n_holds,C.p,k1,e]
theorem lb_no {c:C}{b:Bool} (h:Lb d c b):Lb d (.no c) (!b):=by
 intro n hn
 simp only [C.sz] at hn
 obtain⟨n,rfl⟩:=ex2 (n:=n) (by first | assumption | lia)
 have e:=h (n+1) (by lia)
 have k1:=k_not_true
 have k2:¬("not":Str)="is":=by decide +kernel
 rw [e_n_law_truth,pureOf_fn]
 simp [b_n_law_truth,C.p,k1,k2,e]
noncomputable def jB (m:Mk) (a b:Bool):Bool:=if m.l=2 then a && b else a || b
theorem hb_bin {m:Mk}{l r:C}{a b:Bool} (h1:1≤m.l) (h2:m.l≤2) (hl:Hb d l a) (hr:Hb d r b):Hb d (.bin m l r) (jB m a b):=by
 intro n hn
 simp only [C.sz] at hn
 obtain⟨n,rfl⟩:=ex2 (n:=n) (by first | assumption | lia)
 have e1:=hl (n+1) (by lia)
 have e2:=hr (n+1) (by lia)
 obtain⟨n1,n2,n3⟩:=k_nt h1 h2
 have k1:=mk_an h1 h2
 have k2:=mk_or h1 h2
 have hT:(C.bin m l r).p=.tup [.str m.k,l.p,r.p]:=f_jn h2 _ _
 rw [hT,e_n_holds,pureOf_fn]
 have hm:m.l=1\/m.l=2:=by lia
 rcases hm with em | em <;> cases a <;> simp [b_n_holds,n1,n2,k1,k2,em,e1,e2,jB]
theorem lb_bin {m:Mk}{l r:C}{a b:Bool} (h1:1≤m.l) (h2:m.l≤2) (hl:Lb d l a) (hr:Lb d r b):Lb d (.bin m l r) (jB m a b):=by
 intro n hn
 simp only [C.sz] at hn
 obtain⟨n,rfl⟩:=ex2 (n:=n) (by first | assumption | lia)
 have e1:=hl (n+1) (by lia)
 have e2:=hr (n+1) (by lia)
 obtain⟨n1,n2,n3⟩:=k_nt h1 h2
 have k1:=mk_an h1 h2
 have hT:(C.bin m l r).p=.tup [.str m.k,l.p,r.p]:=f_jn h2 _ _
 rw [hT,e_n_law_truth,pureOf_fn]
 have hm:m.l=1\/m.l=2:=by lia
 rcases hm with em | em <;> cases a <;> simp [b_n_law_truth,n1,n2,n3,k1,em,e1,e2,jB]
theorem hb_is {N:List (List Nat)} (hd:DOk N d) {m:Mk}{l r:T} (h:(C.is m l r).g) (hs:(C.is m l r).sm) (hi:(C.is m l r).iN N):∃b,Hb d (.is m l r) b/\Lb d (.is m l r) b:=by
 obtain⟨a,ea⟩:=sumval hd h.2.1 hs.1 hi.1
 obtain⟨b,eb⟩:=sumval hd h.2.2 hs.2 hi.2
 have hp:(C.is m l r).p=.tup [.str "is",.str m.s,l.p,r.p]:=f_is h.1 _ _
 have k1:=is_true
 have k2:=is_not
 have k3:¬("is":Str)="and":=by decide +kernel
 have k4:¬("is":Str)="or":=by decide +kernel
 refine⟨cmpI m a b,fun n hn=>?_,fun n hn=>?_⟩
 ·simp only [C.sz] at hn
  obtain⟨n,rfl⟩:=ex2 (n:=n) (by first | assumption | lia)
  obtain⟨e1,_⟩:=ea (n+1) (by lia)
  obtain⟨e2,_⟩:=eb (n+1) (by lia)
  have ec:=compared_ok (n:=n+1) (by lia) h.1 a b
  rw [hp,e_n_holds,pureOf_fn]
  simp [b_n_holds,k1,k2,k3,k4,e1,e2,ec]
 ·simp only [C.sz] at hn
  obtain⟨n,rfl⟩:=ex2 (n:=n) (by first | assumption | lia)
  obtain⟨_,e1⟩:=ea (n+1) (by lia)
  obtain⟨_,e2⟩:=eb (n+1) (by lia)
  have ek:=dk4 h.1 a b
  rw [hp,e_n_law_truth,pureOf_fn]
  by_cases c1:b < a
  ·simp only [c1,decide_true,Bool.true_or] at ek
   simp [b_n_law_truth,k1,e1,e2,dtru_ev,keyOf,c1,ek]
  ·by_cases c2:m.s=(">=":Str)
   ·simp only [c1,c2,decide_true,decide_false,Bool.false_or,Bool.true_and] at ek
    simp [b_n_law_truth,k1,e1,e2,dtru_ev,keyOf,c1,c2,ek]
   ·simp only [c1,c2,decide_false,Bool.false_or,Bool.false_and] at ek
    simp [b_n_law_truth,k1,e1,e2,dtru_ev,keyOf,c1,c2,ek]
end
theorem truth_ok {N:List (List Nat)}{d:P} (hd:DOk N d):∀c:C,c.g->c.sm->c.iN N->∃b,Hb d c b/\Lb d c b
 | .tru,_,_,_=>⟨true,hb_tru⟩
 | .no c,h,hs,hi=>by
  obtain⟨b,h1,h2⟩:=truth_ok hd c h hs hi
  exact⟨!b,hb_no h1,lb_no h2⟩
 | .is m l r,h,hs,hi=>hb_is hd h hs hi
 | .bin m l r,h,hs,hi=>by
  obtain⟨a,h1,h2⟩:=truth_ok hd l h.2.1 hs.1 hi.1
  obtain⟨b,g1,g2⟩:=truth_ok hd r h.2.2 hs.2 hi.2
  exact⟨jB m a b,hb_bin h.1.1 h.1.2 h1 g1,lb_bin h.1.1 h.1.2 h2 g2⟩
end My
namespace My
open PySem L2 Ev
theorem lv7 {t:T} (h:t.sz=1):t.lv=7/\t.sm:=by
 cases t with
 | num n=>exact⟨rfl,trivial⟩
 | nam c=>exact⟨rfl,trivial⟩
 | bin m l r=>
  have:=l.pos
  have:=r.pos
  simp only [T.sz] at h
  lia
theorem cmp6 (k:Int):∃m:Mk,m.l=4/\L2.atI [P.str "=",.str "!=",.str "<",.str "<=",.str ">",.str ">="] (k % 6)=some (.str m.s):=by
 have h0:=Int.emod_nonneg k (show (6:Int)≠0 by decide)
 have h1:=Int.emod_lt_of_pos k (show (0:Int) < 6 by decide)
 have:k % 6=0\/k % 6=1\/k % 6=2\/k % 6=3\/k % 6=4\/k % 6=5:=by lia
 rcases this with h | h | h | h | h | h <;> rw [h]
 ·exact⟨.eq,rfl,by kernel_rfl⟩
 ·exact⟨.ne,rfl,by kernel_rfl⟩
 ·exact⟨.lt,rfl,by kernel_rfl⟩
 ·exact⟨.le,rfl,by kernel_rfl⟩
 ·exact⟨.gt,rfl,by kernel_rfl⟩
 ·exact⟨.ge,rfl,by kernel_rfl⟩
noncomputable def ws2:List P:=[.str "or",.str "and"]
theorem jn2 (k:Int):∃m:Mk,(1≤m.l/\m.l≤2)/\L2.atI ws2 (k % 2)=some (.str m.k):=by
 have h0:=Int.emod_nonneg k (show (2:Int)≠0 by decide)
 have h1:=Int.emod_lt_of_pos k (show (0:Int) < 2 by decide)
 have:k % 2=0\/k % 2=1:=by lia
 rcases this with h | h <;> rw [h]
 ·exact⟨.or,by decide,by kernel_rfl⟩
 ·exact⟨.an,by decide,by kernel_rfl⟩
noncomputable def f2 (k:Int):Mk:=Classical.choose (jn2 k)
theorem f2_ok (k:Int):L2.atI ws2 (k % 2)=some (.str (f2 k).k):=(Classical.choose_spec (jn2 k)).2
theorem f2_l (k:Int):1≤(f2 k).l/\(f2 k).l≤2:=(Classical.choose_spec (jn2 k)).1
theorem lvN {N:List (List Nat)}{t:T} (h:t.sz=1) (hi:∀c,t=.nam c->c ∈ N):t.iN N:=by
 cases t with
 | num n=>trivial
 | nam c=>exact hi c rfl
 | bin m l r=>
  have:=l.pos
  have:=r.pos
  simp only [T.sz] at h
  lia
noncomputable def C.ts:C->Nat
 | .tru=>1
 | .no c=>c.ts
 | .is _ _ _=>1
 | .bin _ l r=>l.ts+r.ts
noncomputable def C.ns:C->Nat
 | .tru=>0
 | .no c=>c.ns+1
 | .is _ _ _=>0
 | .bin _ l r=>l.ns+r.ns
theorem sm_sz {t:T} (h:t.g) (hs:t.sm):t.sz≤3:=by
 have one:∀t:T,t.g->t.lv=7->t.sz=1:=fun t h h7=>by
  cases t with
  | num n=>rfl
  | nam c=>rfl
  | bin m l r=>
   have:=lv_mk h.1
   simp only [T.lv] at h7
   lia
 cases t with
 | num n=>simp [T.sz]
 | nam c=>simp [T.sz]
 | bin m l r=>
  have:=one l h.2.1 hs.1
  have:=one r h.2.2 hs.2
  simp only [T.sz];lia
theorem csz:∀c:C,c.g->c.sm->c.sz+1≤8 * c.ts+2 * c.ns/\1≤c.ts
 | .tru,_,_=>by simp [C.sz,C.ts,C.ns]
 | .no c,h,hs=>by
  have:=csz c h hs
  simp only [C.sz,C.ts,C.ns];lia
 | .is m l r,h,hs=>by
  have:=sm_sz h.2.1 hs.1
  have:=sm_sz h.2.2 hs.2
  simp only [C.sz,C.ts,C.ns];lia
 | .bin m l r,h,hs=>by
  have:=csz l h.2.1 hs.1
  have:=csz r h.2.2 hs.2
  simp only [C.sz,C.ts,C.ns];lia
theorem ts_inj:∀(c c':C),c.g->c'.g->c.p=c'.p->c.ts=c'.ts
 | .tru,c',_,h',e=>by
  cases c' with
  | tru=>rfl
  | no c=>simp [C.p] at e
  | is m l r=>rw [show (C.is m l r).p=_ from f_is h'.1 _ _] at e;simp [C.p] at e
  | bin m l r=>rw [show (C.bin m l r).p=_ from f_jn h'.1.2 _ _] at e;simp [C.p] at e
 | .no c,c',h,h',e=>by
  cases c' with
  | tru=>simp [C.p] at e
  | no c2=>
   have e2:c.p=c2.p:=by simpa [C.p] using e
   exact ts_inj c c2 h h' e2
  | is m l r=>rw [show (C.is m l r).p=_ from f_is h'.1 _ _] at e;simp [C.p] at e
  | bin m l r=>rw [show (C.bin m l r).p=_ from f_jn h'.1.2 _ _] at e;simp [C.p] at e
 | .is m l r,c',h,h',e=>by
  rw [show (C.is m l r).p=_ from f_is h.1 _ _] at e
  cases c' with
  | tru=>simp [C.p] at e
  | no c2=>simp [C.p] at e
  | is m2 l2 r2=>rfl
  | bin m2 l2 r2=>rw [show (C.bin m2 l2 r2).p=_ from f_jn h'.1.2 _ _] at e;simp at e
 | .bin m l r,c',h,h',e=>by
  rw [show (C.bin m l r).p=_ from f_jn h.1.2 _ _] at e
  cases c' with
  | tru=>simp [C.p] at e
  | no c2=>simp [C.p] at e
  | is m2 l2 r2=>rw [show (C.is m2 l2 r2).p=_ from f_is h'.1 _ _] at e;simp at e
  | bin m2 l2 r2=>
   rw [show (C.bin m2 l2 r2).p=_ from f_jn h'.1.2 _ _] at e
   have e2:l.p=l2.p/\r.p=r2.p:=by
    have:=e
    simp at this
    exact this.2
   simp only [C.ts,ts_inj l l2 h.2.1 h'.2.1 e2.1,ts_inj r r2 h.2.2 h'.2.2 e2.2]
noncomputable def Gd (N:List (List Nat)) (c:C):Prop:=c.g/\c.sm/\c.iN N
noncomputable def Qa (N:List (List Nat)) (s:Nat) (p:P):Prop:=∃c:C,Gd N c/\c.ts=s+1/\p=c.p
noncomputable def Qb (N:List (List Nat)) (s:Nat) (p:P):Prop:=∃c:C,Gd N c/\c.ts+c.ns=s+1/\p=c.p
theorem Gd.bin {N:List (List Nat)}{l r:C}{m:Mk} (hm:1≤m.l/\m.l≤2) (h:Gd N l) (g:Gd N r):Gd N (.bin m l r):=⟨⟨hm,h.1,g.1⟩,⟨h.2.1,g.2.1⟩,h.2.2,g.2.2⟩
theorem Qa.bin {N:List (List Nat)}{a b:Nat}{x y:P}{m:Mk} (hm:1≤m.l/\m.l≤2) (h:Qa N a x) (g:Qa N b y):Qa N (a+b+1) (.tup [.str m.k,x,y]):=by
 obtain⟨t,h1,h2,rfl⟩:=h
 obtain⟨u,g1,g2,rfl⟩:=g
 exact⟨.bin m t u,h1.bin hm g1,by simp only [C.ts];lia,(f_jn hm.2 _ _).symm⟩
theorem Qb.bin {N:List (List Nat)}{a b:Nat}{x y:P}{m:Mk} (hm:1≤m.l/\m.l≤2) (h:Qb N a x) (g:Qb N b y):Qb N (a+b+1) (.tup [.str m.k,x,y]):=by
 obtain⟨t,h1,h2,rfl⟩:=h
 obtain⟨u,g1,g2,rfl⟩:=g
 exact⟨.bin m t u,h1.bin hm g1,by simp only [C.ts,C.ns];lia,(f_jn hm.2 _ _).symm⟩
noncomputable def sTs:List C->Nat
 | []=>0
 | c::r=>c.ts+sTs r
noncomputable def sNs:List C->Nat
 | []=>0
 | c::r=>c.ns+sNs r
theorem sTs_app:∀x y,sTs (x++y)=sTs x+sTs y
 | [],y=>by simp [sTs]
 | c::x,y=>by simp only [List.cons_append,sTs,sTs_app x y];lia
theorem sNs_app:∀x y,sNs (x++y)=sNs x+sNs y
 | [],y=>by simp [sNs]
 | c::x,y=>by simp only [List.cons_append,sNs,sNs_app x y];lia
theorem wt_a {N:List (List Nat)}:∀cs:List C,(∀c ∈ cs,Gd N c)->Wt (Qa N) (cs.map C.p) (sTs cs)
 | [],_=>rfl
 | c::r,h=>by
  have hc:=h c List.mem_cons_self
  have h1:=(csz c hc.1 hc.2.1).2
  exact⟨c.ts-1,sTs r,⟨c,hc,by lia,rfl⟩,wt_a r (fun x hx=>h x (List.mem_cons_of_mem _ hx)),by simp only [sTs];lia⟩
theorem wt_b {N:List (List Nat)}:∀cs:List C,(∀c ∈ cs,Gd N c)->Wt (Qb N) (cs.map C.p) (sTs cs+sNs cs)
 | [],_=>rfl
 | c::r,h=>by
  have hc:=h c List.mem_cons_self
  have h1:=(csz c hc.1 hc.2.1).2
  exact⟨c.ts+c.ns-1,sTs r+sNs r,⟨c,hc,by lia,rfl⟩,wt_b r (fun x hx=>h x (List.mem_cons_of_mem _ hx)),by simp only [sTs,sNs];lia⟩
theorem ts_le {N:List (List Nat)}:∀cs:List C,(∀c ∈ cs,Gd N c)->cs.length≤sTs cs
 | [],_=>Nat.le_refl _
 | c::r,h=>by
  have hc:=h c List.mem_cons_self
  have h1:=(csz c hc.1 hc.2.1).2
  have:=ts_le r (fun x hx=>h x (List.mem_cons_of_mem _ hx))
  simp only [sTs,List.length_cons];lia
theorem splitC {xs:List C} (h:xs≠[]):∃pre v,xs=pre++[v]:=⟨xs.dropLast,xs.getLast h,(List.dropLast_concat_getLast h).symm⟩
noncomputable def cA:EB:=bAnd (bV (vOp dLt (vOp dMod (vE (eVar 9)) (vC (.int 6))) (vC (.int 2)))) (bAnd (bV (vOp dLt (vE (eVar 7)) (vE (eVar 3)))) (bV (vOp dLt (vE (eVar 10)) (vC (.int 6)))))
noncomputable def cJ (ψ:Str->GF):EB:=bAnd (bV (vOp dGt (vLen (eVar 5)) (vC (.int 1)))) (bAnd (bV (vOp dLt (vOp dMod (vE (eVar 9)) (vC (.int 6))) (vC (.int 4)))) (bV (vOp dLt (vCall c_max (vsCons (vE (eVar 10)) (vsCons (vCall (pureOf (ψ "_law_depth")) (vsCons (vE (eIx (eVar 5) (vUn dNeg (vC (.int 2))))) vsNil)) vsNil))) (vC (.int 7)))))
noncomputable def cdB (ψ:Str->GF):ES:=(sSeq (sSet 9 (eV (vCall (pureOf (ψ "_law_mix")) (vsCons (vE (eVar 8)) (vsCons (vC (.int 4)) vsNil)))))
  (sSeq (sSet 10 (eV (vCall (pureOf (ψ "_law_depth")) (vsCons (vE (eIx (eVar 5) (vUn dNeg (vC (.int 1))))) vsNil))))
  (sIf cA (sSeq (sDrop (eAppend (eVar 5) (eV (vTup' (vsCons (vC (.str "not")) (vsCons (vE (ePop (eVar 5))) vsNil))))))
  (sSet 7 (eV (vOp dAdd2 (vE (eVar 7)) (vC (.int 1)))))) (sIf (cJ ψ) (sSeq (sSet 11 (ePop (eVar 5)))
  (sDrop (eAppend (eVar 5) (eV (vTup' (vsCons (vOp dIx (vE (eVar 4)) (vOp dMod (vOp dFloor (vE (eVar 9)) (vC (.int 6))) (vC (.int 2)))) (vsCons (vE (ePop (eVar 5))) (vsCons (vE (eVar 11)) vsNil)))))))) (sIf (bV (vOp dLt (vE (eVar 6)) (vE (eVar 2)))) (sSeq (sSet 6 (eV (vOp dAdd2 (vE (eVar 6)) (vC (.int 1)))))
  (sDrop (eAppend (eVar 5) (eV (vCall (pureOf (ψ "_law_test")) (vsCons (vE (eVar 0)) (vsCons (vOp dFloor (vE (eVar 9)) (vC (.int 6))) (vsCons (vCall (pureOf (ψ "_law_mix")) (vsCons (vE (eVar 8)) (vsCons (vC (.int 5)) vsNil))) vsNil)))))))) sNx)))))
theorem cd_eq (ψ ι:Str->GF):b_n_law_condition_L1 ψ ι=cdB ψ:=rfl
section
variable {N:List (List Nat)} (hk:N≠[]) (hg:∀c ∈ N,Nam c)
include hk hg
theorem small_ok {n:Nat} (hn:3≤n) (q:Int):∃t:T,t.g/\t.sm/\t.iN N/\pureOf (Psi Gv Att Tb n "_law_small") [NL N,.int q]=some t.p:=by
 obtain⟨n,rfl⟩:=ex2 (n:=n) (by first | assumption | lia)
 obtain⟨t,t1,t2,t3,et⟩:=leaf_ok (n:=n+1) (by lia) hk hg (q / 4)
 obtain⟨u,u1,u2,u3,eu⟩:=leaf_ok (n:=n+1) (by lia) hk hg (q / 16384)
 by_cases h:0 < q % 4
 ·refine⟨t,t1,(lv7 t2).2,lvN t2 t3,?_⟩
  rw [e_n_law_small,pureOf_fn]
  simp [b_n_law_small,et,h]
 ·refine⟨.bin (f3 (q / 4096)) t u,⟨f3_l _,t1,u1⟩,⟨(lv7 t2).1,(lv7 u2).1⟩,⟨lvN t2 t3,lvN u2 u3⟩,?_⟩
  have hT:(T.bin (f3 (q / 4096)) t u).p=.tup [.str (f3 (q / 4096)).k,t.p,u.p]:=f_sum (f3_l _) _ _
  have e3:=f3_ok (q / 4096)
  unfold ws3 at e3
  rw [hT,e_n_law_small,pureOf_fn]
  simp [b_n_law_small,et,eu,h,few,e3]
theorem test_ok {n:Nat} (hn:4≤n) (q o:Int):∃c:C,Gd N c/\c.ts=1/\c.ns=0/\pureOf (Psi Gv Att Tb n "_law_test") [NL N,.int q,.int o]=some c.p:=by
 obtain⟨n,rfl⟩:=ex2 (n:=n) (by first | assumption | lia)
 obtain⟨t,t1,t2,t3,et⟩:=small_ok (n:=n+1) hk hg (by lia) (q / 64)
 obtain⟨u,u1,u2,u3,eu⟩:=small_ok (n:=n+1) hk hg (by lia) o
 obtain⟨m,hm,em⟩:=cmp6 (q / 8)
 by_cases h:q % 8=0
 ·refine⟨.tru,⟨trivial,trivial,trivial⟩,rfl,rfl,?_⟩
  rw [e_n_law_test,pureOf_fn]
  simp [b_n_law_test,h,few,C.p]
 ·refine⟨.is m t u,⟨⟨hm,t1,u1⟩,⟨t2,u2⟩,t3,u3⟩,rfl,rfl,?_⟩
  have hp:(C.is m t u).p=.tup [.str "is",.str m.s,t.p,u.p]:=f_is hm _ _
  rw [hp,e_n_law_test,pureOf_fn]
  simp [b_n_law_test,h,few,em,et,eu]
theorem cond_turn (ι:Str->GF) {n:Nat} (hn:100≤n) {cl:P}{most den:Nat} (hm:most≤4) (hd:den≤4) (a:Int) {cs:List C} (num dep oth:Option Ev.D) (h1:cs≠[]) (h2:∀c ∈ cs,Gd N c) (h4:sTs cs≤most) (h5:sNs cs≤den) :
  ∃(cs':List C) (num' dep' oth':Option Ev.D),b_n_law_condition_L1 (Psi Gv Att Tb n) ι [some (.p (NL N)),some (.p cl),some (.p (.int (most:Int))),some (.p (.int (den:Int))),some (.p (.lst ws2)),some (.ref 0),some (.p (.int (sTs cs:Int))),some (.p (.int (sNs cs:Int))),some (.p (.int a)),num,dep,oth] [.lst ((cs.map C.p).map .p)] =
   some (.nx,[some (.p (NL N)),some (.p cl),some (.p (.int (most:Int))),some (.p (.int (den:Int))),some (.p (.lst ws2)),some (.ref 0),some (.p (.int (sTs cs':Int))),some (.p (.int (sNs cs':Int))),some (.p (.int a)),num',dep',oth'],[.lst ((cs'.map C.p).map .p)])/\cs'≠[]/\(∀c ∈ cs',Gd N c)/\sTs cs'≤most/\sNs cs'≤den:=by
 obtain⟨r,r0,er⟩:=mix_ok (n:=n) (by lia) a (p:=4) (by lia) (by lia)
 obtain⟨r5,_,er5⟩:=mix_ok (n:=n) (by lia) a (p:=5) (by lia) (by lia)
 have hlen:=ts_le cs h2
 obtain⟨pre,x1,rfl⟩:=splitC h1
 have hl6:pre.length+1≤1000000:=by simp at hlen;lia
 have hl7:pre.length≤1000000:=by lia
 obtain⟨t,t1,t2,t3,et⟩:=test_ok hk hg (n:=n) (by lia) (r / 6) r5
 have hx:=h2 x1 (by simp)
 have hpre:∀c ∈ pre,Gd N c:=fun c hc=>h2 c (by simp [hc])
 have sT:sTs (pre++[x1])=sTs pre+x1.ts:=by rw [sTs_app];simp [sTs]
 have sN:sNs (pre++[x1])=sNs pre+x1.ns:=by rw [sNs_app];simp [sNs]
 obtain⟨d1,ed1⟩:∃d:Int,pureOf (Psi Gv Att Tb n "_law_depth") [x1.p]=some (.int d):=⟨_,depthC_ok x1 hx.1 n (by have:=cdp2 x1;have:=csz x1 hx.1 hx.2.1;lia)⟩
 have mapA:((pre++[x1]).map C.p).map Ev.D.p=(pre.map C.p).map .p++[.p x1.p]:=by simp
 rw [mapA]
 generalize hMany:(sTs (pre++[x1]):Int)=many at *
 generalize hNots:(sNs (pre++[x1]):Int)=nots at *
 obtain⟨bA,eA,hA⟩:∃b,cA [some (.p (NL N)),some (.p cl),some (.p (.int (most:Int))),some (.p (.int (den:Int))),some (.p (.lst ws2)),some (.ref 0),some (.p (.int many)),some (.p (.int nots)),some (.p (.int a)),some (.p (.int r)),some (.p (.int d1)),oth] [.lst ((pre.map C.p).map .p++[.p x1.p])]=some (b,[.lst ((pre.map C.p).map .p++[.p x1.p])])/\(b=true->nots < den):=by
  by_cases a1:r % 6 < 2
  ·by_cases a2:nots < den
   ·exact⟨decide (d1 < 6),by simp [cA,a1,a2],fun _=>a2⟩
   ·exact⟨false,by simp [cA,a1,a2],fun z=>nomatch z⟩
  ·exact⟨false,by simp [cA,a1],fun z=>nomatch z⟩
 obtain⟨bJ,eJ,hJ⟩:∃b,cJ (Psi Gv Att Tb n) [some (.p (NL N)),some (.p cl),some (.p (.int (most:Int))),some (.p (.int (den:Int))),some (.p (.lst ws2)),some (.ref 0),some (.p (.int many)),some (.p (.int nots)),some (.p (.int a)),some (.p (.int r)),some (.p (.int d1)),oth] [.lst ((pre.map C.p).map .p++[.p x1.p])]=some (b,[.lst ((pre.map C.p).map .p++[.p x1.p])])/\(b=true->pre≠[]):=by
  by_cases c1:pre=[]
  ·subst c1
   exact⟨false,by simp [cJ,lenD],fun z=>nomatch z⟩
  ·obtain⟨pre',y1,rfl⟩:=splitC c1
   have hy:=hpre y1 (by simp)
   have sT':sTs (pre'++[y1])=sTs pre'+y1.ts:=by rw [sTs_app];simp [sTs]
   have sN':sNs (pre'++[y1])=sNs pre'+y1.ns:=by rw [sNs_app];simp [sNs]
   obtain⟨d2,ed2⟩:∃d:Int,pureOf (Psi Gv Att Tb n "_law_depth") [y1.p]=some (.int d):=⟨_,depthC_ok y1 hy.1 n (by have:=cdp2 y1;have:=csz y1 hy.1 hy.2.1;lia)⟩
   have hi:(1:Int) < (pre'.length:Int)+1+1:=by lia
   have hi2:(1:Int) < (pre'.length:Int)+2:=by lia
   by_cases a1:r % 6 < 4
   ·exact⟨decide ((if d1 < d2 then d2 else d1) < 7),by simp [cJ,lenD,hi,hi2,a1,atI_neg2,ed2,c_max],fun _=>c1⟩
   ·exact⟨false,by simp [cJ,lenD,hi,hi2,a1],fun z=>nomatch z⟩
 rw [cd_eq]
 cases bA with
 | true=>
  have hlt:=hA rfl
  have e1:(sTs (pre++[C.no x1]):Int)=many:=by rw [<- hMany,sT,sTs_app];simp [sTs,C.ts]
  have e2:(sNs (pre++[C.no x1]):Int)=nots+1:=by rw [<- hNots,sN,sNs_app];simp [sNs,C.ns];lia
  refine⟨pre++[.no x1],some (.p (.int r)),some (.p (.int d1)),oth,?_,by simp,?_,by lia,by lia⟩
  ·rw [e1,e2]
   simp [-List.map_map,cdB,er,lenD,atI_neg1,ed1,eA,ownL,few,hl7,C.p]
  ·intro c hc
   rcases List.mem_append.mp hc with hc | hc
   ·exact hpre c hc
   ·rw [List.mem_singleton.mp hc];exact hx
 | false=>
  cases bJ with
  | true=>
   obtain⟨pre',y1,rfl⟩:=splitC (hJ rfl)
   have hy:=hpre y1 (by simp)
   have hl8:pre'.length≤1000000:=by simp at hl7;lia
   have e1:(sTs (pre'++[C.bin (f2 (r / 6)) y1 x1]):Int)=many:=by rw [<- hMany,sT,sTs_app,sTs_app];simp [sTs,C.ts];lia
   have e2:(sNs (pre'++[C.bin (f2 (r / 6)) y1 x1]):Int)=nots:=by rw [<- hNots,sN,sNs_app,sNs_app];simp [sNs,C.ns];lia
   refine⟨pre'++[.bin (f2 (r / 6)) y1 x1],some (.p (.int r)),some (.p (.int d1)),some (.p x1.p),?_,by simp,?_,by lia,by lia⟩
   ·have e3:=f2_ok (r / 6)
    have hT:(C.bin (f2 (r / 6)) y1 x1).p=.tup [.str (f2 (r / 6)).k,y1.p,x1.p]:=f_jn (f2_l _).2 _ _
    rw [e1,e2]
    simp only [List.map_append,List.map_cons,List.map_nil,List.append_assoc,List.cons_append,List.nil_append,hT] at eA eJ ⊢
    simp [-List.map_map,cdB,er,lenD,atI_neg1',ed1,eA,eJ,ownL,few,hl8,e3]
   ·intro c hc
    rcases List.mem_append.mp hc with hc | hc
    ·exact hpre c (by simp [hc])
    ·rw [List.mem_singleton.mp hc];exact hy.bin (f2_l _) hx
  | false=>
   by_cases hmm:many < most
   ·have e1:(sTs (pre++[x1]++[t]):Int)=many+1:=by rw [<- hMany,sTs_app];simp [sTs,t2]
    have e2:(sNs (pre++[x1]++[t]):Int)=nots:=by rw [<- hNots,sNs_app];simp [sNs,t3]
    refine⟨pre++[x1]++[t],some (.p (.int r)),some (.p (.int d1)),oth,?_,by simp,?_,by lia,by lia⟩
    ·rw [e1,e2]
     simp [-List.map_map,cdB,er,er5,lenD,atI_neg1,ed1,eA,eJ,ownL,hmm,et,hl6]
    ·intro c hc
     rcases List.mem_append.mp hc with hc | hc
     ·exact h2 c hc
     ·rw [List.mem_singleton.mp hc];exact t1
   ·refine⟨pre++[x1],some (.p (.int r)),some (.p (.int d1)),oth,?_,h1,h2,h4,h5⟩
    rw [hMany,hNots]
    simp [-List.map_map,cdB,er,lenD,atI_neg1,ed1,eA,eJ,ownL,hmm]
theorem cond_loop (ι:Str->GF) {n:Nat} (hn:100≤n) {cl:P}{most den:Nat} (hm:most≤4) (hd:den≤4):∀(zs:List Int) (cs:List C) (c num dep oth:Option Ev.D),cs≠[]->(∀c ∈ cs,Gd N c)->sTs cs≤most->sNs cs≤den ->
  ∃(cs':List C) (c' num' dep' oth':Option Ev.D),forGo (gSet 8) (b_n_law_condition_L1 (Psi Gv Att Tb n) ι) (zs.map .int)
   [some (.p (NL N)),some (.p cl),some (.p (.int (most:Int))),some (.p (.int (den:Int))),some (.p (.lst ws2)),some (.ref 0),some (.p (.int (sTs cs:Int))),some (.p (.int (sNs cs:Int))),c,num,dep,oth] [.lst ((cs.map C.p).map .p)] =
   some (.nx,[some (.p (NL N)),some (.p cl),some (.p (.int (most:Int))),some (.p (.int (den:Int))),some (.p (.lst ws2)),some (.ref 0),some (.p (.int (sTs cs':Int))),some (.p (.int (sNs cs':Int))),c',num',dep',oth'],[.lst ((cs'.map C.p).map .p)])/\cs'≠[]/\(∀c ∈ cs',Gd N c)/\sTs cs'≤most/\sNs cs'≤den:=by
 intro zs
 induction zs with
 | nil=>intro cs c num dep oth h1 h2 h3 h4;exact⟨cs,c,num,dep,oth,rfl,h1,h2,h3,h4⟩
 | cons a zs ih=>
  intro cs c num dep oth h1 h2 h3 h4
  obtain⟨co,nu,de,oo,eo,o1,o2,o3,o4⟩:=cond_turn hk hg ι hn (cl:=cl) hm hd a num dep oth h1 h2 h3 h4
  obtain⟨ci,c',nui,dei,oi,ei,i1⟩:=ih co (some (.p (.int a))) nu de oo o1 o2 o3 o4
  exact⟨ci,c',nui,dei,oi,(forGo_nx rfl eo).trans ei,i1⟩
theorem condition_ok {n:Nat} (hn:102≤n) (zs:List Int) (hcs:zs.length≤100):∃c:C,Gd N c/\c.ts≤2/\c.ns≤1/\pureOf (Psi Gv Att Tb n "_law_condition") [NL N,.lst (zs.map .int),.int 2,.int 1]=some (c.p):=by
 obtain⟨n,rfl⟩:=ex2 (n:=n) (by first | assumption | lia)
 obtain⟨r,r0,er⟩:=mix_ok (n:=n+1) (by lia) (zs.length:Int) (p:=8) (by lia) (by lia)
 obtain⟨t,t1,t2,t3,et⟩:=test_ok hk hg (n:=n+1) (by lia) r 5
 have s1:sTs [t]=1:=by simp [sTs,t2]
 have s2:sNs [t]=0:=by simp [sNs,t3]
 obtain⟨cs,c',num',dep',oth',e,h1,h2,h3,h4⟩:=cond_loop hk hg (Psi Gv Att Tb n) (n:=n+1) (by lia) (cl:=.lst (zs.map .int)) (most:=2) (den:=1) (by lia) (by lia) zs [t] none none none none (by simp) (fun c hc=>by rw [List.mem_singleton.mp hc];exact t1) (by lia) (by lia)
 rw [s1,s2] at e
 have hl:=ts_le cs h2
 have hne:cs.map C.p≠[]:=by simp [h1]
 have hll:(cs.map C.p).length≤1000:=by simp;lia
 obtain⟨z,s,⟨ca,ga,ga2,rfl⟩,g4,g5⟩:=folded_ok (wl:=ws2) (f:=fun k=>(f2 k).k) (fun k _=>f2_ok k) (by decide) (fun k a b x y _ hx hy=>Qa.bin (f2_l _) hx hy) (n:=n+1) (by lia) hne hll (wt_a cs h2)
 obtain⟨z,s',⟨cb,gb,gb2,ez⟩,g4',g5'⟩:=folded_ok (wl:=ws2) (f:=fun k=>(f2 k).k) (fun k _=>f2_ok k) (by decide) (fun k a b x y _ hx hy=>Qb.bin (f2_l _) hx hy) (n:=n+1) (by lia) hne hll (wt_b cs h2)
 have ee:ca.p=cb.p:=by
  have:=g5.symm.trans g5'
  cases this
  exact ez
 have et2:=ts_inj ca cb ga.1 gb.1 ee
 refine⟨cb,gb,by lia,by lia,?_⟩
 rw [ee] at g5
 have hw3:P.lst ws2=P.lst [.str "or",.str "and"]:=rfl
 generalize hxs:cs.map C.p=xs at *
 have hm:toP 9 (.ref 0) [.lst (xs.map .p)]=some (.lst xs,[.fz (.lst xs)]):=toP_lst rfl
 rw [hw3] at e g5
 rw [e_n_law_condition,pureOf_fn]
 simp only [List.map_cons,List.map_nil] at e
 simp at e
 simp [b_n_law_condition,lenD,lenP,er,et,e,hm,g5]
end
end My
namespace My
open PySem L2 Ev
noncomputable def noB (x:List Nat):Prop:=∀y ∈ x,y≠40/\y≠41/\y≠91/\y≠93
theorem noB.app {x y:List Nat} (h:noB x) (g:noB y):noB (x++y):=fun z hz=>(List.mem_append.mp hz).elim (h z) (g z)
theorem noB.cons {a:Nat}{y:List Nat} (h:a≠40/\a≠41/\a≠91/\a≠93) (g:noB y):noB (a::y):=fun z hz=>(List.mem_cons.mp hz).elim (fun e=>e ▸ h) (g z)
theorem al_b:inS 40 "abcdefghijklmnopqrstuvwxyz"=false/\inS 41 "abcdefghijklmnopqrstuvwxyz"=false/\inS 91 "abcdefghijklmnopqrstuvwxyz"=false/\inS 93 "abcdefghijklmnopqrstuvwxyz"=false/\inS 40 "0123456789"=false/\inS 41 "0123456789"=false/\inS 91 "0123456789"=false/\inS 93 "0123456789"=false:=by decide +kernel
theorem noB_nam {c:List Nat} (h:Nam c):noB c:=fun y hy=>by
 have e:=h.al y hy
 obtain⟨a1,a2,a3,a4,_⟩:=al_b
 refine⟨fun z=>?_,fun z=>?_,fun z=>?_,fun z=>?_⟩ <;> rw [z] at e <;> first | (rw [a1] at e;cases e) | (rw [a2] at e;cases e) | (rw [a3] at e;cases e) | (rw [a4] at e;cases e)
theorem noB_num {n:Nat} (h:n < 1000):noB (dg n):=fun y hy=>by
 have e:=(num_dg h).1.al y hy
 obtain⟨_,_,_,_,a1,a2,a3,a4⟩:=al_b
 refine⟨fun z=>?_,fun z=>?_,fun z=>?_,fun z=>?_⟩ <;> rw [z] at e <;> first | (rw [a1] at e;cases e) | (rw [a2] at e;cases e) | (rw [a3] at e;cases e) | (rw [a4] at e;cases e)
theorem noB_mk (m:Mk) (h:1≤m.l):noB m.tx:=by
 cases m <;> first | exact absurd h (by decide) | (intro y hy;simp [Mk.tx] at hy;rcases hy with rfl | rfl | rfl <;> decide) | (intro y hy;simp [Mk.tx] at hy;rcases hy with rfl | rfl <;> decide) | (intro y hy;simp [Mk.tx] at hy;subst hy;decide)
theorem noB_t {t:T} (h:t.g) (hs:t.sm):noB (shC t):=by
 have leaf:∀t:T,t.g->t.lv=7->noB (shC t):=fun t h h7=>by
  cases t with
  | num n=>exact noB_num h
  | nam c=>exact noB_nam h
  | bin m l r=>
   have:=lv_mk h.1
   simp only [T.lv] at h7
   lia
 cases t with
 | num n=>exact leaf _ h rfl
 | nam c=>exact leaf _ h rfl
 | bin m l r=>
  have cm:=lv_mk h.1
  have e1:fr l.lv m.l (shC l)=shC l:=by unfold fr;rw [if_pos (by have:=hs.1;lia)]
  have e2:fr r.lv (m.l+1) (shC r)=shC r:=by unfold fr;rw [if_pos (by have:=hs.2;lia)]
  have hc:m.c≠40/\m.c≠41/\m.c≠91/\m.c≠93:=by cases m <;> first | exact absurd h.1 (by decide) | decide
  simp only [shC,e1,e2]
  exact (leaf l h.2.1 hs.1).app (.cons (by decide) (.cons hc (.cons (by decide) (leaf r h.2.2 hs.2))))
theorem tst {c:C} (h:c.g) (hs:c.sm) (h1:c.ts=1) (h0:c.ns=0):c.lv=4/\noB (shD c):=by
 cases c with
 | tru=>exact⟨rfl,fun y hy=>(show ∀y ∈ tTrue,y≠40/\y≠41/\y≠91/\y≠93 by decide) y hy⟩
 | no c=>simp [C.ns] at h0
 | is m l r=>exact⟨rfl,(noB_t h.2.1 hs.1).app (.cons (by decide) ((noB_mk m (by have:=h.1;lia)).app (.cons (by decide) (noB_t h.2.2 hs.2))))⟩
 | bin m l r=>
  have:=(csz l h.2.1 hs.1).2
  have:=(csz r h.2.2 hs.2).2
  simp only [C.ts] at h1
  lia
theorem noB_not:noB tNot:=fun y hy=>(show ∀y ∈ tNot,y≠40/\y≠41/\y≠91/\y≠93 by decide) y hy
theorem tst1 {c:C} (h:c.g) (hs:c.sm) (h1:c.ts=1) (h0:c.ns≤1):3≤c.lv/\noB (shD c):=by
 cases c with
 | tru=>have:=tst (c:=.tru) h hs h1 rfl;exact⟨by lia,this.2⟩
 | no c=>
  have e:=tst (c:=c) h hs h1 (by simp only [C.ns] at h0;lia)
  refine⟨Nat.le_refl 3,?_⟩
  have e1:fq c.lv 3 (shD c)=shD c:=by unfold fq;rw [if_pos (by lia)]
  simp only [shD,e1]
  exact noB_not.app (.cons (by decide) e.2)
 | is m l r=>have:=tst (c:=.is m l r) h hs h1 rfl;exact⟨by lia,this.2⟩
 | bin m l r=>
  have:=(csz l h.2.1 hs.1).2
  have:=(csz r h.2.2 hs.2).2
  simp only [C.ts] at h1
  lia
theorem shapes {c:C} (h:c.g) (hs:c.sm) (h1:c.ts≤2) (h0:c.ns≤1):(3≤c.lv/\noB (shD c))\/(∃m X Y,c=.bin m X Y/\3≤X.lv/\3≤Y.lv/\noB (shD c))\/(∃m X Y,c=.no (.bin m X Y)/\X.lv=4/\Y.lv=4/\noB (shD X)/\noB (shD Y)):=by
 cases c with
 | tru=>exact .inl (tst1 (c:=.tru) h hs rfl (by simp [C.ns]))
 | is m l r=>exact .inl (tst1 (c:=.is m l r) h hs rfl (by simp [C.ns]))
 | no c=>
  have h1':c.ts≤2:=h1
  have h0':c.ns=0:=by simp only [C.ns] at h0;lia
  have hc:=(csz c h hs).2
  by_cases e:c.ts=1
  ·exact .inl (tst1 (c:=.no c) h hs e h0)
  ·cases c with
   | tru=>exact absurd rfl e
   | is m l r=>exact absurd rfl e
   | no c=>simp [C.ns] at h0'
   | bin m X Y=>
    have g:(C.bin m X Y).g:=h
    have gs:(C.bin m X Y).sm:=hs
    have a1:=(csz X g.2.1 gs.1).2
    have a2:=(csz Y g.2.2 gs.2).2
    simp only [C.ts,C.ns] at h1' h0'
    have t1:=tst g.2.1 gs.1 (by lia) (by lia)
    have t2:=tst g.2.2 gs.2 (by lia) (by lia)
    exact .inr (.inr ⟨m,X,Y,rfl,t1.1,t2.1,t1.2,t2.2⟩)
 | bin m X Y=>
  have a1:=(csz X h.2.1 hs.1).2
  have a2:=(csz Y h.2.2 hs.2).2
  have cm:=h.1
  simp only [C.ts,C.ns] at h1 h0
  have t1:=tst1 h.2.1 hs.1 (by lia) (by lia)
  have t2:=tst1 h.2.2 hs.2 (by lia) (by lia)
  have e1:fq X.lv m.l (shD X)=shD X:=by unfold fq;rw [if_pos (by lia)]
  have e2:fq Y.lv (m.l+1) (shD Y)=shD Y:=by unfold fq;rw [if_pos (by lia)]
  refine .inr (.inl ⟨m,X,Y,rfl,t1.1,t2.1,?_⟩)
  simp only [shD,e1,e2]
  exact t1.2.app (.cons (by decide) ((noB_mk m cm.1).app (.cons (by decide) t2.2)))
theorem s1_ne {c d:Nat}{x:Str} (hx:x=txt [d]) (h:c≠d):¬(⟨#[c]⟩:Str)=x:=fun e=>by
 rw [hx] at e
 have e2:(#[c]:Array Nat)=#[d]:=congrArg Str.cps e
 exact h (by simpa using e2)
theorem ints_cons (a:Int) (n:Nat):Ev.intsFrom a (n+1)=.int a::Ev.intsFrom (a+1) n:=by
 unfold Ev.intsFrom
 rw [List.range_succ_eq_map,List.map_cons,List.map_map]
 refine congr (congrArg _ (by simp)) (List.map_congr_left fun i _=>?_)
 show P.int (a+((i+1:Nat):Int))=P.int (a+1+(i:Int))
 congr 1
 lia
section
variable {ψ ι:Str->GF}{tp:P}{s:List Nat} (hcap:s.length≤1000000)
include hcap
theorem nb_step {k:Nat}{c:Nat} (hc:s[k]? = some c) (hb:c≠40/\c≠41/\c≠91/\c≠93) (o f i:Option Ev.D) (S:Sto) :
  b_n_law_needed_L2 ψ ι [some (.p tp),some (.p (.str (txt s))),o,some (.p (.int (k:Int))),f,i] S=some (.nx,[some (.p tp),some (.p (.str (txt s))),o,some (.p (.int (k:Int))),f,i],S):=by
 have hd:=dIx_txt hcap (k:=(k:Int)) (atI_nat' (by lia) (by simpa using hc))
 have n1:=s1_ne s_lp hb.1
 have n2:=s1_ne s_rp hb.2.1
 have n3:=s1_ne s_lb hb.2.2.1
 have n4:=s1_ne s_rb hb.2.2.2
 simp [b_n_law_needed_L2,b_n_law_needed_L1,hd,n1,n2,n3,n4]
theorem nb_seg (o f i:Option Ev.D) (S:Sto):∀(len k:Nat),(∀j,k≤j->j < k+len->∃c,s[j]? = some c/\c≠40/\c≠41/\c≠91/\c≠93)->∀(x:Option Ev.D) (r:List P),
  ∃x',forGo (gSet 3) (b_n_law_needed_L2 ψ ι) (Ev.intsFrom (k:Int) len++r) [some (.p tp),some (.p (.str (txt s))),o,x,f,i] S=forGo (gSet 3) (b_n_law_needed_L2 ψ ι) r [some (.p tp),some (.p (.str (txt s))),o,x',f,i] S
 | 0,k,_,x,r=>⟨x,rfl⟩
 | len+1,k,h,x,r=>by
  obtain⟨c,hc,hb⟩:=h k (Nat.le_refl _) (by lia)
  obtain⟨x',e⟩:=nb_seg o f i S len (k+1) (fun j h1 h2=>h j (by lia) (by lia)) (some (.p (.int (k:Int)))) r
  refine⟨x',?_⟩
  rw [ints_cons,List.cons_append]
  have c1:((k+1:Nat):Int)=(k:Int)+1:=by lia
  rw [c1] at e
  exact (forGo_nx rfl (nb_step hcap hc hb o f i S)).trans e
end
theorem noB_get {s:List Nat} (h:noB s) {j:Nat} (hj:j < s.length):∃c,s[j]? = some c/\c≠40/\c≠41/\c≠91/\c≠93:=⟨s[j],by simp [hj],h _ (List.getElem_mem _)⟩
theorem needed_plain {n:Nat} (hn:2≤n) {tp:P}{s:List Nat} (hs:noB s) (hcap:s.length≤1000):pureOf (Psi Gv Att Tb n "_law_needed") [tp,.str (txt s)]=some (.bl true):=by
 obtain⟨n,rfl⟩:=ex2 (n:=n) (by first | assumption | lia)
 obtain⟨x',e⟩:=nb_seg (ψ:=Psi Gv Att Tb (n+1)) (ι:=Psi Gv Att Tb n) (tp:=tp) (s:=s) (by lia) (some (.ref 0)) none none [.lst []] s.length 0 (fun j _ h2=>noB_get hs (by lia)) none []
 have hl:s.length≤1000000:=by lia
 have hl2:s.length < 1000000:=by lia
 have e':forGo (gSet 3) (b_n_law_needed_L2 (Psi Gv Att Tb (n+1)) (Psi Gv Att Tb n)) (Ev.intsFrom 0 s.length) [some (.p tp),some (.p (.str (txt s))),some (.ref 0),none,none,none] [.lst []]=some (.nx,[some (.p tp),some (.p (.str (txt s))),some (.ref 0),x',none,none],[.lst []]):=by
  rw [List.append_nil] at e
  exact e
 rw [e_n_law_needed,pureOf_fn]
 simp [b_n_law_needed,lenD,lenP,hl,hl2,e',few]
end My
namespace My
open PySem L2 Ev
theorem ints_add (m:Nat):∀(a:Int) (n:Nat),Ev.intsFrom a (m+n)=Ev.intsFrom a m++Ev.intsFrom (a+(m:Int)) n:=by
 induction m with
 | zero=>intro a n;simp [Ev.intsFrom]
 | succ m ih=>
  intro a n
  rw [show m+1+n=(m+n)+1 by lia,ints_cons,ints_cons,ih,List.cons_append]
  rw [show a+1+(m:Int)=a+((m+1:Nat):Int) by lia]
theorem slI_lo (u:Option Int) (n:Nat):Builtin.Str.strSliceIndices none u 1 n=Builtin.Str.strSliceIndices (some 0) u 1 n:=by
 have e:max 0 (min 0 (n:Int))=0:=by lia
 simp [Builtin.Str.strSliceIndices,e]
theorem slI_hi (u:Int) (n:Nat):Builtin.Str.strSliceIndices (some u) none 1 n=Builtin.Str.strSliceIndices (some u) (some (n:Int)) 1 n:=by
 have e:max 0 (min (if (n:Int) < 0 then (n:Int)+n else n) (n:Int))=n:=by rw [if_neg (by lia)];lia
 simp only [Builtin.Str.strSliceIndices,e]
 rfl
theorem sl_mid {pre run post:List Nat} (hc:(pre++(run++post)).length≤1000000):dSl2 (.str (txt (pre++(run++post)))) (some (pre.length:Int)) (some ((pre.length+run.length:Nat):Int))=some (.str (txt run)):=by
 simp only [dSl2,txt_len]
 rw [if_pos (by rw [capN_ev];exact hc),slice_mid]
theorem sl_head {run post:List Nat} (hc:(run++post).length≤1000000):dSl2 (.str (txt (run++post))) none (some (run.length:Int))=some (.str (txt run)):=by
 have e:=slice_mid [] run post
 simp only [List.nil_append,List.length_nil,Nat.zero_add] at e
 simp only [dSl2,txt_len]
 rw [if_pos (by rw [capN_ev];exact hc),<- e]
 unfold Txt.slice
 rw [slI_lo]
 rfl
theorem sl_tail {pre post:List Nat} (hc:(pre++post).length≤1000000):dSl2 (.str (txt (pre++post))) (some (pre.length:Int)) none=some (.str (txt post)):=by
 have e:=slice_mid pre post []
 simp only [List.append_nil] at e
 simp only [dSl2,txt_len]
 rw [if_pos (by rw [capN_ev];exact hc)]
 rw [<- e]
 unfold Txt.slice
 rw [slI_hi,txt_len]
 have:((pre++post).length:Int)=((pre.length+post.length:Nat):Int):=by simp
 rw [this]
theorem eqD_32 {a b c d e:P} (hx:okP 20 (.tup [a,b,c])=true) (hy:okP 20 (.tup [d,e])=true):eqD (.tup [a,b,c]) (.tup [d,e])=some false:=by
 unfold eqD
 have h0:dEqD (.tup [a,b,c]) (.tup [d,e])=none:=rfl
 rw [h0]
 simp only [hx,hy,Bool.and_self,if_true]
 congr 1
 simp [pd,pds,PyData.eqv,PyData.eqvAll]
theorem read_ok' {n:Nat}{x:Str}{p:P} (h:pureOf (Psi Gv Att Tb (n+1) "read_condition") [.str x]=some p):pureOf (Psi Gv Att Tb (n+2) "_law_read") [.str x]=some p:=by
 rw [e_n_law_read,pureOf_fn]
 simp [b_n_law_read,h]
theorem needed_not {n:Nat} (hn:60≤n) {m:Mk}{X Y:C} (h:(C.no (.bin m X Y)).g) (hz:(C.no (.bin m X Y)).sz≤30) (hX:X.lv=4) (hY:Y.lv=4) (bX:noB (shD X)) (bY:noB (shD Y)) :
  pureOf (Psi Gv Att Tb n "_law_needed") [(C.no (.bin m X Y)).p,.str (txt (shD (.no (.bin m X Y))))]=some (.bl true):=by
 obtain⟨n,rfl⟩:=ex2 (n:=n) (by first | assumption | lia)
 have g:(C.bin m X Y).g:=h
 have cm:=g.1
 have hm3:=tx3 m
 simp only [C.sz] at hz
 have lX:=shd_len X g.2.1
 have lY:=shd_len Y g.2.2
 generalize hI:shD X++32::(m.tx++32::shD Y)=inner
 have nI:noB inner:=by rw [<- hI];exact bX.app (.cons (by decide) ((noB_mk m cm.1).app (.cons (by decide) bY)))
 have lI:inner.length≤600:=by rw [<- hI];simp;lia
 have eS:shD (.no (.bin m X Y))=tNot++32::91::(inner++[93]):=by
  have e1:fq X.lv m.l (shD X)=shD X:=by unfold fq;rw [if_pos (by lia)]
  have e2:fq Y.lv (m.l+1) (shD Y)=shD Y:=by unfold fq;rw [if_pos (by lia)]
  have e3:fq (C.bin m X Y).lv 3 (shD (.bin m X Y))=91::(shD (.bin m X Y)++[93]):=by
   unfold fq;rw [if_neg (by show ¬3≤m.l;lia)]
  simp only [shD] at e3 ⊢
  rw [e3,e1,e2,hI]
 rw [eS]
 have hrd:pureOf (Psi Gv Att Tb (n+1) "_law_read") [.str (txt (tNot++32::32::(inner++[32])))]=some (C.bin m (.no X) Y).p:=by
  obtain⟨n',rfl⟩:∃k,n=k+1:=⟨n-1,by lia⟩
  obtain⟨x,s1,e1,l1⟩:=cp_shown X g.2.1
  obtain⟨y,s2,e2,l2⟩:=cp_shown Y g.2.2
  obtain⟨x',s1',t1,n1,k1⟩:=s1.pad (j:=1)
  obtain⟨y',s2',t2,n2,_⟩:=s2.pad (j:=1)
  have sN:Cp 60 3 (.no X) ((.no,2)::x'):=.no (s1'.mono (by lia)) (by lia) (by lia) (by lia)
  have s:Cp 60 m.l (.bin m (.no X) Y) (((.no,2)::x')++(.jn m,1)::y'):=.bin cm.1 cm.2 sN (by lia) (s2'.mono (by lia)) (by lia) (by rw [lastK_cons _ s1'.ne];lia) (by lia) (by lia)
  have er:=cp_read (n:=n'+1) (by lia) s (by lia) (by simp;lia) 0 (by lia)
  simp only [List.replicate,List.nil_append] at er
  refine read_ok' (n:=n') ?_
  rw [<- er]
  have:Tx (((.no,2)::x')++(.jn m,1)::y')=tNot++32::32::(inner++[32]):=by
   rw [tx_app,cons_tx,cons_tx,t1,t2,e1,e2,<- hI]
   simp [Tk.tx,List.replicate]
  rw [this]
 have hne:eqD (C.bin m (.no X) Y).p (C.no (.bin m X Y)).p=some false:=by
  have d1:=cdp2 (.no (.bin m X Y))
  have d2:=cdp2 (.bin m (.no X) Y)
  simp only [C.sz] at d1 d2
  have o1:=okC (.bin m (.no X) Y) ⟨cm,g.2.1,g.2.2⟩ 20 (by lia)
  have o2:=okC (.no (.bin m X Y)) h 20 (by lia)
  rw [show (C.bin m (.no X) Y).p=.tup [.str m.k,(C.no X).p,Y.p] from f_jn cm.2 _ _] at o1 ⊢
  exact eqD_32 o1 o2
 have hlen:(tNot++32::91::(inner++[93])).length=4+(1+(inner.length+1)):=by simp [tNot];lia
 have hcap:(tNot++32::91::(inner++[93])).length≤1000000:=by lia
 have hcap2:(tNot++32::91::(inner++[93])).length < 1000000:=by lia
 have r0:Ev.intsFrom 0 (tNot++32::91::(inner++[93])).length=Ev.intsFrom ((0:Nat):Int) 4++(.int 4::(Ev.intsFrom ((5:Nat):Int) inner.length++[.int (5+(inner.length:Int))])):=by
  rw [hlen,ints_add,ints_add,ints_add]
  rw [ints_cons (0+((4:Nat):Int)) 0,ints_cons _ 0]
  simp [Ev.intsFrom]
 have g4:(tNot++32::91::(inner++[93]))[4]? = some 91:=by simp [tNot]
 have gk:(tNot++32::91::(inner++[93]))[5+inner.length]? = some 93:=by
  rw [List.getElem?_append_right (by simp [tNot];lia)]
  rw [show 5+inner.length-tNot.length=inner.length+1+1 by simp [tNot];lia]
  simp
 have seg0:∀j,0≤j->j < 0+4->∃c,(tNot++32::91::(inner++[93]))[j]? = some c/\c≠40/\c≠41/\c≠91/\c≠93:=fun j _ hj=>by
  have hh:=noB_get (s:=tNot++[32]) (noB_not.app (.cons (by decide) (fun _ z=>nomatch z))) (j:=j) (by simp [tNot];lia)
  rw [show tNot++32::91::(inner++[93])=(tNot++[32])++91::(inner++[93]) by simp,List.getElem?_append_left (by simp [tNot];lia)]
  exact hh
 have seg1:∀j,5≤j->j < 5+inner.length->∃c,(tNot++32::91::(inner++[93]))[j]? = some c/\c≠40/\c≠41/\c≠91/\c≠93:=fun j h5 hj=>by
  have hh:=noB_get nI (j:=j-5) (by lia)
  rw [show tNot++32::91::(inner++[93])=(tNot++[32,91])++(inner++[93]) by simp,List.getElem?_append_right (by simp [tNot];lia),show j-(tNot++[32,91]:List Nat).length=j-5 by simp [tNot],List.getElem?_append_left (by lia)]
  exact hh
 have sl1:dSl2 (.str (txt (tNot++32::91::(inner++[93])))) (some 5) (some (5+(inner.length:Int)))=some (.str (txt inner)):=by
  have:=sl_mid (pre:=tNot++[32,91]) (run:=inner) (post:=[93]) (by simp [tNot];lia)
  rw [show (tNot++[32,91])++(inner++[93])=tNot++32::91::(inner++[93]) by simp,show (((tNot++[32,91]:List Nat).length:Nat):Int)=5 by simp [tNot],show (((tNot++[32,91]:List Nat).length+inner.length:Nat):Int)=5+(inner.length:Int) by simp [tNot]] at this
  exact this
 have sl2:dSl2 (.str (txt (tNot++32::91::(inner++[93])))) none (some 4)=some (.str (txt (tNot++[32]))):=by
  have:=sl_head (run:=tNot++[32]) (post:=91::(inner++[93])) (by simp [tNot];lia)
  rw [show (tNot++[32])++91::(inner++[93])=tNot++32::91::(inner++[93]) by simp,show (((tNot++[32]:List Nat).length:Nat):Int)=4 by simp [tNot]] at this
  exact this
 have sl3:dSl2 (.str (txt (tNot++32::91::(inner++[93])))) (some (5+(inner.length:Int)+1)) none=some (.str (txt [])):=by
  have:=sl_tail (pre:=tNot++32::91::(inner++[93])) (post:=[]) (by simpa using hcap)
  rw [List.append_nil,show (((tNot++32::91::(inner++[93]):List Nat).length:Nat):Int)=5+(inner.length:Int)+1 by rw [hlen];lia] at this
  exact this
 have a1:dAdd2 (.str (txt [32])) (.str (txt inner))=some (.str (txt (32::inner))):=add_txt (by simp;lia)
 have a2:dAdd2 (.str (txt (32::inner))) (.str (txt [32]))=some (.str (txt (32::(inner++[32])))):=add_txt (by simp;lia)
 have a3:dAdd2 (.str (txt (tNot++[32]))) (.str (txt (32::(inner++[32]))))=some (.str (txt (tNot++32::32::(inner++[32])))):=by rw [add_txt (by simp [tNot];lia)];simp
 have a4:dAdd2 (.str (txt (tNot++32::32::(inner++[32])))) (.str (txt []))=some (.str (txt (tNot++32::32::(inner++[32])))):=by rw [add_txt (by simp [tNot];lia)];simp
 have d4:=dIx_txt hcap (k:=4) (c:=91) (atI_nat' (by lia) g4)
 have dk:=dIx_txt hcap (k:=5+(inner.length:Int)) (c:=93) (atI_nat' (by lia) (by rw [show (5+(inner.length:Int)).toNat=5+inner.length by lia];exact gk))
 generalize (C.no (.bin m X Y)).p=tp at *
 generalize (C.bin m (.no X) Y).p=rp at *
 generalize hs:tNot++32::91::(inner++[93])=s at *
 generalize tNot++32::32::(inner++[32])=Z at *
 generalize tNot++[32]=Z1 at *
 have e91:(⟨#[91]⟩:Str)="[":=by decide +kernel
 have e93:(⟨#[93]⟩:Str)="]":=by decide +kernel
 have n1:¬("[":Str)="]":=by decide +kernel
 have n2:¬("[":Str)=")":=by decide +kernel
 have n3:¬("]":Str)="[":=by decide +kernel
 have n4:¬("]":Str)="(":=by decide +kernel
 have st1:∀f i:Option Ev.D,b_n_law_needed_L2 (Psi Gv Att Tb (n+1)) (Psi Gv Att Tb n) [some (.p tp),some (.p (.str (txt s))),some (.ref 0),some (.p (.int 4)),f,i] [.lst []]=some (.nx,[some (.p tp),some (.p (.str (txt s))),some (.ref 0),some (.p (.int 4)),f,i],[.lst [.p (.int 4)]]):=fun f i=>by
  simp [b_n_law_needed_L2,b_n_law_needed_L1,d4,e91,n1,n2,ownL]
 have st2:b_n_law_needed_L2 (Psi Gv Att Tb (n+1)) (Psi Gv Att Tb n) [some (.p tp),some (.p (.str (txt s))),some (.ref 0),some (.p (.int (5+(inner.length:Int)))),none,none] [.lst [.p (.int 4)]]=some (.nx,[some (.p tp),some (.p (.str (txt s))),some (.ref 0),some (.p (.int (5+(inner.length:Int)))),some (.p (.int 4)),some (.p (.str (txt (32::(inner++[32])))))],[.lst []]):=by
  simp [b_n_law_needed_L2,b_n_law_needed_L1,dk,e93,n3,n4,ownL,oSome,oNone,sl1,sl2,sl3,s_blank,-dAdd2_str,a1,a2,a3,a4,hrd,hne]
 obtain⟨x1,e1⟩:=nb_seg (ψ:=Psi Gv Att Tb (n+1)) (ι:=Psi Gv Att Tb n) (tp:=tp) (s:=s) hcap (some (.ref 0)) none none [.lst []] 4 0 seg0 none (.int 4::(Ev.intsFrom ((5:Nat):Int) inner.length++[.int (5+(inner.length:Int))]))
 obtain⟨x2,e2⟩:=nb_seg (ψ:=Psi Gv Att Tb (n+1)) (ι:=Psi Gv Att Tb n) (tp:=tp) (s:=s) hcap (some (.ref 0)) none none [.lst [.p (.int 4)]] inner.length 5 seg1 (some (.p (.int 4))) [.int (5+(inner.length:Int))]
 have e:∃L',forGo (gSet 3) (b_n_law_needed_L2 (Psi Gv Att Tb (n+1)) (Psi Gv Att Tb n)) (Ev.intsFrom 0 s.length) [some (.p tp),some (.p (.str (txt s))),some (.ref 0),none,none,none] [.lst []]=some (.nx,L',[.lst []]):=by
  rw [r0,e1]
  refine⟨[some (.p tp),some (.p (.str (txt s))),some (.ref 0),some (.p (.int (5+(inner.length:Int)))),some (.p (.int 4)),some (.p (.str (txt (32::(inner++[32])))))],(forGo_nx rfl (st1 none none)).trans ?_⟩
  rw [e2]
  exact (forGo_nx rfl st2).trans rfl
 obtain⟨L',e⟩:=e
 rw [e_n_law_needed,pureOf_fn]
 simp [b_n_law_needed,lenD,lenP,hcap,hcap2,e,few]
end My
namespace My
open PySem L2 Ev
section
variable {d:P}{c:C}{b:Bool} (hg:c.g) (hz:c.sz≤17) (hb:Hb d c b) {B a:Nat}{y:List (Tk×Nat)} (sy:Cp B a c y) (hB:B≤100) (hy:y.length≤200)
include hg hz hb sy hB hy
theorem text_not {n:Nat} (hn:100≤n):∃e:C,pureOf (Psi Gv Att Tb n "read_condition") [.str (txt (tNot++32::91::(Tx y++[93])))]=some e.p/\pureOf (Psi Gv Att Tb n "holds") [e.p,d]=some (.bl (!b)):=by
 have s:Cp 101 3 (.no c) ((.no,1)::(.lb,0)::(y++[(.rb,0)])):=.no (.br (sy.mono (by lia)) (by lia) (by lia)) (by lia) (by lia) (by lia)
 have er:=cp_read (n:=n) (by lia) s (by lia) (by simp;lia) 0 (by lia)
 simp only [List.replicate,List.nil_append] at er
 refine⟨.no c,?_,hb_no hb n (by simp only [C.sz];lia)⟩
 rw [<- er]
 congr 3
 simp [cons_tx,tx_app,Tk.tx,Tx,List.replicate]
theorem text_two {n:Nat} (hn:100≤n):∃e:C,pureOf (Psi Gv Att Tb n "read_condition") [.str (txt (tNot++32::(tTrue++32::111::114::32::91::32::(shD c++93::97::110::100::91::(Tx y++[32,93])))))]=some e.p/\pureOf (Psi Gv Att Tb n "holds") [e.p,d]=some (.bl b):=by
 obtain⟨x,s1,e1,l1⟩:=cp_shown c hg
 obtain⟨y',s2,t2,n2,_⟩:=sy.pad (j:=1)
 have c1:Cp 101 7 c ((.lb,1)::(x++[(.rb,0)])):=.br (s1.mono (by lia)) (by lia) (by lia)
 have c2:Cp 101 7 c ((.lb,0)::(y'++[(.rb,0)])):=.br (s2.mono (by lia)) (by lia) (by lia)
 have c3:Cp 101 3 (.no .tru) [(.no,1),(.tru,1)]:=.no (.tru (by lia)) (by lia) (by lia) (by lia)
 have r1:CR 2 (.bin .an c c) (((.lb,1)::(x++[(.rb,0)]))++(.jn .an,0)::((.lb,0)::(y'++[(.rb,0)]))):=cr_bin (m:=.an) (by decide) (by decide) (cp_run c1) (show 2≤7 by decide) (cp_run c2) (show 2 < 7 by decide) (by rw [lastK_cons _ (by simp),lastK_app _ (by simp)];exact Nat.le_refl _) (Nat.le_refl _) c2.hj c1.ne
 have hj:headJ (((.lb,1)::(x++[(.rb,0)]))++(.jn .an,0)::((.lb,0)::(y'++[(.rb,0)])))=false:=rfl
 have r2:CR 1 (.bin .or (.no .tru) (.bin .an c c)) ([(.no,1),(.tru,1)]++(.jn .or,1)::(((.lb,1)::(x++[(.rb,0)]))++(.jn .an,0)::((.lb,0)::(y'++[(.rb,0)])))):=cr_bin (m:=.or) (by decide) (by decide) (cp_run c3) (show 1≤3 by decide) r1 (show 1 < 2 by decide) (by decide) (by lia) hj (by simp)
 have hall:∀z ∈ ([(.no,1),(.tru,1)]++(.jn .or,1)::(((.lb,1)::(x++[(.rb,0)]))++(.jn .an,0)::((.lb,0)::(y'++[(.rb,0)]))):List (Tk×Nat)),z.1.ok/\z.2≤101:=by
  intro z hz
  rcases List.mem_append.mp hz with hz | hz
  ·exact c3.all z hz
  ·rcases List.mem_cons.mp hz with rfl | hz
   ·exact⟨⟨by decide,by decide⟩,by decide⟩
   ·rcases List.mem_append.mp hz with hz | hz
    ·exact c1.all z hz
    ·rcases List.mem_cons.mp hz with rfl | hz
     ·exact⟨⟨by decide,by decide⟩,by decide⟩
     ·exact c2.all z hz
 have er:=cr_read (n:=n) (by lia) r2 (Nat.le_refl 1) hall (by lia) (by simp;lia) 0 (by lia)
 simp only [List.replicate,List.nil_append] at er
 refine⟨.bin .or (.no .tru) (.bin .an c c),?_,?_⟩
 ·rw [<- er]
  congr 3
  simp [cons_tx,tx_app,Tk.tx,Tx,List.replicate,Mk.tx,e1,t2]
 ·have:=hb_bin (m:=.or) (by decide) (by decide) (hb_no (d:=d) hb_tru.1) (hb_bin (m:=.an) (by decide) (by decide) hb hb) n (by simp only [C.sz];lia)
  rw [this]
  cases b <;> rfl
theorem text_both {n:Nat} (hn:100≤n) (hsh:3≤c.lv\/∃m X Y,c=.bin m X Y/\3≤X.lv/\3≤Y.lv/\(∃bX,Hb d X bX)/\∃bY,Hb d Y bY):∃e:C,pureOf (Psi Gv Att Tb n "read_condition") [.str (txt (91::(Tx y++93::32::97::110::100::32::(shD c++32::111::114::32::(tNot++32::tTrue)))))]=some e.p/\pureOf (Psi Gv Att Tb n "holds") [e.p,d]=some (.bl b):=by
 have c1:Cp 101 7 c ((.lb,0)::(y++[(.rb,1)])):=.br (sy.mono (by lia)) (by lia) (by lia)
 have c3:Cp 101 3 (.no .tru) [(.no,1),(.tru,0)]:=.no (.tru (by lia)) (by lia) (by lia) (by lia)
 have lk1:1≤lastK ((.lb,0)::(y++[(.rb,1)]):List (Tk×Nat)):=by rw [lastK_cons _ (by simp),lastK_app _ (by simp)];exact Nat.le_add_left _ _
 rcases hsh with h3 | ⟨m,X,Y,rfl,hX,hY,⟨bX,gX⟩,bY,gY⟩
 ·obtain⟨x,s1,e1,l1⟩:=cp_shown c hg
  obtain⟨x',s1',t1,n1,k1⟩:=s1.pad (j:=1)
  have c2:Cp 101 2 (.bin .an c c) (((.lb,0)::(y++[(.rb,1)]))++(.jn .an,1)::x'):=.bin (m:=.an) (by decide) (by decide) c1 (show 2≤7 by decide) (s1'.mono (by lia)) (show 2 < c.lv by lia) lk1 (by lia) (by lia)
  have c4:Cp 101 1 (.bin .or (.bin .an c c) (.no .tru)) ((((.lb,0)::(y++[(.rb,1)]))++(.jn .an,1)::x')++(.jn .or,1)::[(.no,1),(.tru,0)]):=.bin (m:=.or) (by decide) (by decide) c2 (show 1≤2 by decide) c3 (show 1 < 3 by decide) (by rw [lastK_app _ (by simp),lastK_cons _ s1'.ne];lia) (by lia) (by lia)
  have er:=cp_read (n:=n) (by lia) c4 (by lia) (by simp;lia) 0 (by lia)
  simp only [List.replicate,List.nil_append] at er
  refine⟨.bin .or (.bin .an c c) (.no .tru),?_,?_⟩
  ·rw [<- er]
   congr 3
   simp [cons_tx,tx_app,Tk.tx,Tx,List.replicate,Mk.tx,t1,e1]
  ·have:=hb_bin (m:=.or) (by decide) (by decide) (hb_bin (m:=.an) (by decide) (by decide) hb hb) (hb_no (d:=d) hb_tru.1) n (by simp only [C.sz];lia)
   rw [this]
   cases b <;> rfl
 ·have cm:=hg.1
  simp only [C.sz] at hz
  obtain⟨x,s1,e1,l1⟩:=cp_shown X hg.2.1
  obtain⟨z,s2,e2,l2⟩:=cp_shown Y hg.2.2
  obtain⟨x',s1',t1,n1,k1⟩:=s1.pad (j:=1)
  obtain⟨z',s2',t2,n2,k2⟩:=s2.pad (j:=1)
  have c2:Cp 101 2 (.bin .an (.bin m X Y) X) (((.lb,0)::(y++[(.rb,1)]))++(.jn .an,1)::x'):=.bin (m:=.an) (by decide) (by decide) c1 (show 2≤7 by decide) (s1'.mono (by lia)) (show 2 < X.lv by lia) lk1 (by lia) (by lia)
  have c5:Cp 101 m.l (.bin m (.bin .an (.bin m X Y) X) Y) ((((.lb,0)::(y++[(.rb,1)]))++(.jn .an,1)::x')++(.jn m,1)::z'):=.bin cm.1 cm.2 c2 cm.2 (s2'.mono (by lia)) (by lia) (by rw [lastK_app _ (by simp),lastK_cons _ s1'.ne];lia) (by lia) (by lia)
  have c4:Cp 101 1 (.bin .or (.bin m (.bin .an (.bin m X Y) X) Y) (.no .tru)) (((((.lb,0)::(y++[(.rb,1)]))++(.jn .an,1)::x')++(.jn m,1)::z')++(.jn .or,1)::[(.no,1),(.tru,0)]):=.bin (m:=.or) (by decide) (by decide) c5 cm.1 c3 (show 1 < 3 by decide) (by rw [lastK_app _ (by simp),lastK_cons _ s2'.ne];lia) (by lia) (by lia)
  have er:=cp_read (n:=n) (by lia) c4 (by lia) (by simp;lia) 0 (by lia)
  simp only [List.replicate,List.nil_append] at er
  refine⟨.bin .or (.bin m (.bin .an (.bin m X Y) X) Y) (.no .tru),?_,?_⟩
  ·have q1:fq X.lv m.l (shD X)=shD X:=by unfold fq;rw [if_pos (by lia)]
   have q2:fq Y.lv (m.l+1) (shD Y)=shD Y:=by unfold fq;rw [if_pos (by lia)]
   have q3:shD (.bin m X Y)=shD X++32::(m.tx++32::shD Y):=by simp only [shD,q1,q2]
   rw [<- er,q3]
   congr 3
   simp [cons_tx,tx_app,Tk.tx,Tx,List.replicate,Mk.tx,t1,t2,e1,e2]
  ·have hbb:=hb.same (hb_bin cm.1 cm.2 gX gY)
   have:=hb_bin (m:=.or) (by decide) (by decide) (hb_bin cm.1 cm.2 (hb_bin (m:=.an) (by decide) (by decide) hb gX) gY) (hb_no (d:=d) hb_tru.1) n (by simp only [C.sz];lia)
   rw [this,hbb]
   have hm:m.l=1\/m.l=2:=by lia
   rcases hm with em | em <;> cases bX <;> cases bY <;> simp [jB,em,Mk.l]
end
end My
namespace My
open PySem L2 Ev
noncomputable def scr (ns:List Int):P:=.ro (ns.map .int)
theorem at_ok {n:Nat} (hn:2≤n) (ns:List Int) {k:Int} (h0:0≤k) (h1:k < 1000):∃r:Int,pureOf (Psi Gv Att Tb n "_law_at") [scr ns,.int k]=some (.int r):=by
 obtain⟨n,rfl⟩:=ex2 (n:=n) (by first | assumption | lia)
 have m1:mulOk 23 k=true:=mulOk_small (by decide) (by lia)
 by_cases h:k < (ns.length:Int)
 ·have hk:k.toNat < ns.length:=by lia
  refine⟨ns[k.toNat],?_⟩
  have e:L2.atI (ns.map P.int) k=some (.int ns[k.toNat]):=atI_nat' h0 (by simp [hk])
  rw [e_n_law_at,pureOf_fn]
  simp [b_n_law_at,scr,lenD,lenP,h,e]
 ·refine⟨23 * k+6,?_⟩
  rw [e_n_law_at,pureOf_fn]
  simp [b_n_law_at,scr,lenD,lenP,h,m1]
theorem cut_map {α β:Type} (f:α->β) (xs:List α) (a b:Option Int):Ev.cut (xs.map f) a b=(Ev.cut xs a b).map f:=by
 unfold Ev.cut
 rw [List.length_map,List.map_take,List.map_drop]
theorem cut_len {α:Type} (xs:List α) (a b:Option Int):(Ev.cut xs a b).length≤xs.length:=by
 unfold Ev.cut
 rw [List.length_take,List.length_drop]
 lia
theorem names_made {n:Nat} (hn:2≤n) (q:Int) (m:Nat) (hm:m≤8) (L:Lc) (hl:L.length=12) (g1:L[1]? = some (some (.p (.int q)))) :
  ∃N:List (List Nat),N.length=m/\(∀c ∈ N,Nam c)/\compGo (gSet 4) bYes (vCall (pureOf (Psi Gv Att Tb n "_law_named")) (vsCons (vE (eVar 4)) (vsCons (vOp dFloor (vE (eVar 1)) (vC (.int 4))) vsNil))) (Ev.intsFrom 0 m) L []=some (N.map fun c=>P.str (txt c),[]):=by
 obtain⟨ys,e,h1,h2⟩:=compGo_all (g:=gSet 4) (e:=vCall (pureOf (Psi Gv Att Tb n "_law_named")) (vsCons (vE (eVar 4)) (vsCons (vOp dFloor (vE (eVar 1)) (vC (.int 4))) vsNil))) (S:=[]) (Inv:=fun L'=>∃d,L'=L.set 4 d) (Q:=fun y=>∃c,Nam c/\y=.str (txt c)) (xs:=Ev.intsFrom 0 m) (L:=L) (fun v hv L' hL=>by
   obtain⟨d,rfl⟩:=hL
   obtain⟨i,rfl,hi⟩:=ints_mem hv
   obtain⟨c,hc,ec⟩:=named_ok hn (k:=i) (by lia) (q / 4)
   simp only [Int.zero_add]
   have k7:((L.set 4 d).set 4 (some (.p (.int (i:Int)))))[4]? = some (some (.p (.int (i:Int)))):=by rw [List.getElem?_set_self (by simp [hl])]
   have k1:((L.set 4 d).set 4 (some (.p (.int (i:Int)))))[1]? = some (some (.p (.int q))):=by rw [List.getElem?_set_ne (by decide),List.getElem?_set_ne (by decide)];exact g1
   exact⟨_,.str (txt c),rfl,⟨_,List.set_set ..⟩,by simp [-List.set_set,k7,k1,ec],c,hc,rfl⟩) ⟨L[4],(List.set_getElem_self (by lia)).symm⟩
 have key:∀ys:List P,(∀y ∈ ys,∃c,Nam c/\y=.str (txt c))->∃N:List (List Nat),N.length=ys.length/\(∀c ∈ N,Nam c)/\ys=N.map fun c=>P.str (txt c):=by
  intro ys
  induction ys with
  | nil=>intro _;exact⟨[],rfl,fun _ z=>(by cases z),rfl⟩
  | cons y ys ih=>
   intro h
   obtain⟨c,hc,rfl⟩:=h y List.mem_cons_self
   obtain⟨N,n1,n2,rfl⟩:=ih fun z hz=>h z (List.mem_cons_of_mem _ hz)
   exact⟨c::N,by simpa using n1,fun x hx=>(List.mem_cons.mp hx).elim (fun e=>e ▸ hc) (n2 x),rfl⟩
 obtain⟨N,n1,n2,rfl⟩:=key ys h1
 exact⟨N,by rw [n1,h2,ints_len],n2,e⟩
theorem dput_ok (key:Key) (y:P):∀(ks:List Key) (vs:List P),ks.Nodup->ks.length=vs.length->∃ks' vs',dPut key (.p y) ks (vs.map .p)=(ks',vs'.map .p)/\ks'.Nodup/\ks'.length=vs'.length/\ks'.length≤ks.length+1/\(∀k ∈ ks',k ∈ ks\/k=key)/\∀k2,dLook k2 ks' vs'=if key=k2 then some y else dLook k2 ks vs
 | [],[],_,_=>⟨[key],[y],rfl,by simp,rfl,by simp,fun k hk=>.inr (List.mem_singleton.mp hk),fun k2=>by simp [dLook]⟩
 | [],_::_,_,h=>by simp at h
 | _::_,[],_,h=>by simp at h
 | k'::ks,w::ws,nd,h=>by
  by_cases e:k'=key
  ·refine⟨k'::ks,y::ws,by simp [dPut,e],nd,by simpa using h,by simp,fun k hk=>.inl hk,fun k2=>?_⟩
   subst e
   simp only [dLook]
   split <;> rfl
  ·obtain⟨ks',vs',e1,h1,h2,h3,h4,h5⟩:=dput_ok key y ks ws (List.nodup_cons.mp nd).2 (by simpa using h)
   refine⟨k'::ks',w::vs',?_,?_,by simpa using h2,by simpa using h3,?_,fun k2=>?_⟩
   ·simp only [List.map_cons,dPut,if_neg e,e1]
   ·refine List.nodup_cons.mpr ⟨fun hm=>?_,h1⟩
    rcases h4 _ hm with hm | hm
    ·exact (List.nodup_cons.mp nd).1 hm
    ·exact e hm
   ·intro k hk
    rcases List.mem_cons.mp hk with rfl | hk
    ·exact .inl List.mem_cons_self
    ·exact (h4 k hk).imp (List.mem_cons_of_mem _) id
   ·simp only [dLook,h5]
    by_cases e2:k'=k2
    ·subst e2
     rw [if_pos rfl,if_neg (fun z=>e z.symm),if_pos rfl]
    ·rw [if_neg e2,if_neg e2]
noncomputable def DS (N:List (List Nat)) (ks:List Key) (vs:List P):Prop:=ks.Nodup/\ks.length=vs.length/\ks.length≤N.length/\∀c ∈ N,∃i:Int,i.natAbs≤999/\dLook (Sum.inr (txt c)) ks vs=some (.int i)
theorem toP_dct {n i:Nat}{S:Sto}{ks:List Key}{vs:List P} (h:S[i]? = some (.dct ks (vs.map .p))):toP (n+1) (.ref i) S=some (.dct ks vs,S.set i (.fz (.dct ks vs))):=by
 simp [toP,h,mapS_ps]
theorem vals_loop {n:Nat} (hn:2≤n) (ι:Str->GF) (ns:List Int) (qv:P) {N:List (List Nat)} (hN:N.length≤8) :
  ∃(x:Option Ev.D) (ks:List Key) (vs:List P),forGo (gSet 4) (b_n_law_L1 (Psi Gv Att Tb n) ι) (Ev.intsFrom 0 N.length) [some (.p (scr ns)),some (.p qv),some (.p (NL N)),some (.ref 0),none,none,none,none,none,none,none,none] [.dct [] []] =
   some (.nx,[some (.p (scr ns)),some (.p qv),some (.p (NL N)),some (.ref 0),x,none,none,none,none,none,none,none],[.dct ks (vs.map .p)])/\DS N ks vs:=by
 obtain⟨L',S',e,hI⟩:=forGo_inv (g:=gSet 4) (b:=b_n_law_L1 (Psi Gv Att Tb n) ι) (xs:=Ev.intsFrom 0 N.length) (k:=0)
  (L:=[some (.p (scr ns)),some (.p qv),some (.p (NL N)),some (.ref 0),none,none,none,none,none,none,none,none]) (S:=[.dct [] []])
  (Inv:=fun k L S=>∃x ks vs,L=[some (.p (scr ns)),some (.p qv),some (.p (NL N)),some (.ref 0),x,none,none,none,none,none,none,none]/\S=[.dct ks (vs.map .p)]/\DS (N.take k) ks vs)
  (fun i v L S hv hI=>by
   obtain⟨x,ks,vs,rfl,rfl,d1,d2,d3,d4⟩:=hI
   obtain⟨rfl,hi⟩:=ints_get hv
   simp only [Nat.zero_add] at d3 d4 ⊢
   obtain⟨c0,a0⟩:=at_ok (n:=n) hn ns (k:=0) (by decide) (by decide)
   obtain⟨r,_,em⟩:=mix_ok (n:=n) hn c0 (p:=2+(i:Int)) (by lia) (by lia)
   have hx:N[i]? = some N[i]:=by simp [hi]
   have eN:L2.atI (N.map fun c=>P.str (txt c)) (i:Int)=some (.str (txt N[i])):=atI_nat' (by lia) (by simp [hi])
   obtain⟨ks',vs',e1,h1,h2,h3,h4,h5⟩:=dput_ok (Sum.inr (txt N[i])) (.int (r % 199-99)) ks vs d1 d2
   have hlt:(N.take i).length=i:=by simp;lia
   have fw:ks.length≤1000000:=by lia
   refine⟨_,_,[.dct ks' (vs'.map .p)],rfl,?_,some (.p (.int (i:Int))),ks',vs',rfl,rfl,h1,h2,?_,?_⟩
   ·simp [b_n_law_L1,sPut2,sPut,a0,em,NL,eN,ownD,keyOf,d1,few,fw,e1]
   ·simp;lia
   ·intro c hc
    rw [h5]
    by_cases ec:(Sum.inr (txt N[i]):Key)=Sum.inr (txt c)
    ·exact⟨r % 199-99,by lia,if_pos ec⟩
    ·rw [if_neg ec]
     have:c ∈ N.take i:=by
      rw [List.take_add_one,hx] at hc
      rcases List.mem_append.mp hc with hc | hc
      ·exact hc
      ·have:=List.mem_singleton.mp hc
       exact absurd (by rw [this]) ec
     exact d4 c this) ⟨none,[],[],rfl,rfl,by simp,rfl,by simp,fun c hc=>by simp at hc⟩
 obtain⟨x,ks,vs,rfl,rfl,hD⟩:=hI
 refine⟨x,ks,vs,e,?_⟩
 have:N.take (0+(Ev.intsFrom 0 N.length).length)=N:=by rw [ints_len];simp
 rw [this] at hD
 exact hD
end My
namespace My
open PySem L2 Ev
theorem k_c1:("not [":Str)=txt (tNot++[32,91]):=by decide +kernel
theorem k_c2:("] and ":Str)=txt [93,32,97,110,100,32]:=by decide +kernel
theorem k_c3:(" or not true":Str)=txt (32::111::114::32::(tNot++32::tTrue)):=by decide +kernel
theorem k_c4:("not true or [ ":Str)=txt (tNot++32::(tTrue++[32,111,114,32,91,32])):=by decide +kernel
theorem k_c5:("]and[":Str)=txt [93,97,110,100,91]:=by decide +kernel
theorem k_c6:(" ]":Str)=txt [32,93]:=by decide +kernel
theorem law_val (ns:List Int) (hl:ns.length≤63):pureOf (Psi Gv Att Tb 200 "law") [scr ns]=some (.bl true):=by
 obtain⟨c0,a0⟩:=at_ok (n:=199) (by lia) ns (k:=0) (by decide) (by decide)
 obtain⟨c1,a1⟩:=at_ok (n:=199) (by lia) ns (k:=1) (by decide) (by decide)
 obtain⟨q,q0,m1⟩:=mix_ok (n:=199) (by lia) c0 (p:=1) (by decide) (by decide)
 obtain⟨q5,_,m5⟩:=mix_ok (n:=199) (by lia) c1 (p:=5) (by decide) (by decide)
 obtain⟨m,hm,em⟩:=modN q 4 (by decide)
 rw [show ((4:Nat):Int)=4 from rfl] at em
 obtain⟨N,n1,n2,en⟩:=names_made (n:=199) (by lia) q (m+1) (by lia) [some (.p (scr ns)),some (.p (.int q)),none,none,none,none,none,none,none,none,none,none] rfl rfl
 have hN:N≠[]:=fun z=>by rw [z] at n1;simp at n1
 obtain⟨x4,ks,vs,ev,hD⟩:=vals_loop (n:=199) (by lia) (Psi Gv Att Tb 198) ns (.int q) (N:=N) (by lia)
 have hd:DOk N (.dct ks vs):=fun c hc=>by
  obtain⟨i,h1,h2⟩:=hD.2.2.2 c hc
  exact⟨i,h1,h2⟩
 obtain⟨t,tg,t2,t1,et⟩:=condition_ok hN n2 (n:=199) (by lia) (Ev.cut ns (some 2) (some 62)) (by have:=cut_len ns (some 2) (some 62);lia)
 have hz:=csz t tg.1 tg.2.1
 have dp:=cdp2 t
 obtain⟨b,hb,lb⟩:=truth_ok hd t tg.1 tg.2.1 tg.2.2
 have hb1:=hb 199 (by lia)
 have lb1:=lb 199 (by lia)
 obtain⟨y,a,sy,_,ly,ew⟩:=other_ok t tg.1 (by lia) 199 (by lia) q5
 have er2:=cp_read (n:=199) (by lia) sy (by lia) (by lia) 0 (by lia)
 simp only [List.replicate,List.nil_append] at er2
 have es:=shownC_ok t tg.1 (by lia) 199 (by lia)
 obtain⟨x,sx,ex,lx⟩:=cp_shown t tg.1
 have er:=cp_read (n:=199) (by lia) sx (by lia) (by lia) 0 (by lia)
 simp only [List.replicate,List.nil_append] at er
 rw [ex] at er
 have hsl:=shd_len t tg.1
 have hsh:=shapes tg.1 tg.2.1 t2 t1
 have hnd:pureOf (Psi Gv Att Tb 199 "_law_needed") [t.p,.str (txt (shD t))]=some (.bl true):=by
  rcases hsh with ⟨_,h⟩ | ⟨_,_,_,_,_,_,h⟩ | ⟨m,X,Y,rfl,hX,hY,bX,bY⟩
  ·exact needed_plain (by lia) h (by lia)
  ·exact needed_plain (by lia) h (by lia)
  ·exact needed_not (by lia) tg.1 (by lia) hX hY bX bY
 have hsh2:3≤t.lv\/∃m X Y,t=.bin m X Y/\3≤X.lv/\3≤Y.lv/\(∃bX,Hb (.dct ks vs) X bX)/\∃bY,Hb (.dct ks vs) Y bY:=by
  rcases hsh with ⟨h,_⟩ | ⟨m,X,Y,rfl,hX,hY,_⟩ | ⟨m,X,Y,rfl,hX,hY,bX,bY⟩
  ·exact .inl h
  ·obtain⟨bX,gX,_⟩:=truth_ok hd X tg.1.2.1 tg.2.1.1 tg.2.2.1
   obtain⟨bY,gY,_⟩:=truth_ok hd Y tg.1.2.2 tg.2.1.2 tg.2.2.2
   exact .inr ⟨m,X,Y,rfl,hX,hY,⟨bX,gX⟩,bY,gY⟩
  ·exact .inl (Nat.le_refl 3)
 obtain⟨eN,rN,vN⟩:=text_not (n:=199) tg.1 (by lia) hb sy (by lia) (by lia) (by lia)
 obtain⟨eB,rB,vB⟩:=text_both (n:=199) tg.1 (by lia) hb sy (by lia) (by lia) (by lia) hsh2
 obtain⟨eT,rT,vT⟩:=text_two (n:=199) tg.1 (by lia) hb sy (by lia) (by lia) (by lia)
 have hY2:(Tx y).length≤200000:=c_txlen (s:=0) sy (by lia) (by lia)
 have hS2:(shD t).length≤1000:=by lia
 have e2:=neD_self (okC t tg.1 20 (by lia))
 have hq:(1+q % 4).natAbs < 1000000:=by lia
 have hq2:(1+q % 4).toNat=m+1:=by lia
 have hml:m+1≤1000000:=by lia
 have hc:dSl2 (scr ns) (some 2) (some 62)=some (.lst ((Ev.cut ns (some 2) (some 62)).map .int)):=by
  show some (P.lst (Ev.cut (ns.map P.int) (some 2) (some 62)))=_
  rw [cut_map]
 have hp1:toP 9 (.ref 0) [.dct ks (vs.map .p)]=some (.dct ks vs,[.fz (.dct ks vs)]):=toP_dct rfl
 have hp2:toP 9 (.ref 0) [.fz (.dct ks vs)]=some (.dct ks vs,[.fz (.dct ks vs)]):=by simp [toP]
 have hNl:(N.map fun c=>P.str (txt c)).length=N.length:=by simp
 have hN6:N.length < 1000000:=by lia
 rw [<- n1] at en
 have f1:dAdd2 (.str (txt (tNot++[32,91]))) (.str (txt (Tx y)))=some (.str (txt (tNot++32::91::Tx y))):=by rw [add_txt (by simp [tNot];lia)];simp
 have f2:dAdd2 (.str (txt (tNot++32::91::Tx y))) (.str (txt [93]))=some (.str (txt (tNot++32::91::(Tx y++[93])))):=by rw [add_txt (by simp [tNot];lia)];simp
 have g1:dAdd2 (.str (txt [91])) (.str (txt (Tx y)))=some (.str (txt (91::Tx y))):=add_txt (by simp;lia)
 have g2:dAdd2 (.str (txt (91::Tx y))) (.str (txt [93,32,97,110,100,32]))=some (.str (txt (91::(Tx y++[93,32,97,110,100,32])))):=add_txt (by simp;lia)
 have g3:dAdd2 (.str (txt (91::(Tx y++[93,32,97,110,100,32])))) (.str (txt (shD t)))=some (.str (txt (91::(Tx y++93::32::97::110::100::32::shD t)))):=by rw [add_txt (by simp;lia)];simp
 have g4:dAdd2 (.str (txt (91::(Tx y++93::32::97::110::100::32::shD t)))) (.str (txt (32::111::114::32::(tNot++32::tTrue))))=some (.str (txt (91::(Tx y++93::32::97::110::100::32::(shD t++32::111::114::32::(tNot++32::tTrue)))))):=by rw [add_txt (by simp [tNot,tTrue];lia)];simp
 have i1:dAdd2 (.str (txt (tNot++32::(tTrue++[32,111,114,32,91,32])))) (.str (txt (shD t)))=some (.str (txt (tNot++32::(tTrue++32::111::114::32::91::32::shD t)))):=by rw [add_txt (by simp [tNot,tTrue];lia)];simp
 have i2:dAdd2 (.str (txt (tNot++32::(tTrue++32::111::114::32::91::32::shD t)))) (.str (txt [93,97,110,100,91]))=some (.str (txt (tNot++32::(tTrue++32::111::114::32::91::32::(shD t++[93,97,110,100,91]))))):=by rw [add_txt (by simp [tNot,tTrue];lia)];simp
 have i3:dAdd2 (.str (txt (tNot++32::(tTrue++32::111::114::32::91::32::(shD t++[93,97,110,100,91]))))) (.str (txt (Tx y)))=some (.str (txt (tNot++32::(tTrue++32::111::114::32::91::32::(shD t++93::97::110::100::91::Tx y))))):=by rw [add_txt (by simp [tNot,tTrue];lia)];simp
 have i4:dAdd2 (.str (txt (tNot++32::(tTrue++32::111::114::32::91::32::(shD t++93::97::110::100::91::Tx y))))) (.str (txt [32,93]))=some (.str (txt (tNot++32::(tTrue++32::111::114::32::91::32::(shD t++93::97::110::100::91::(Tx y++[32,93])))))):=by rw [add_txt (by simp [tNot,tTrue];lia)];simp
 rw [e_n_law,pureOf_fn]
 generalize tNot++32::(tTrue++32::111::114::32::91::32::(shD t++93::97::110::100::91::(Tx y++[32,93])))=I4 at *
 generalize tNot++32::(tTrue++32::111::114::32::91::32::(shD t++93::97::110::100::91::Tx y))=I3 at *
 generalize tNot++32::(tTrue++32::111::114::32::91::32::(shD t++[93,97,110,100,91]))=I2 at *
 generalize tNot++32::(tTrue++32::111::114::32::91::32::shD t)=I1 at *
 generalize hc4:tNot++32::(tTrue++[32,111,114,32,91,32])=I0 at *
 have kc4:("not true or [ ":Str)=txt I0:=by rw [<- hc4];exact k_c4
 generalize 91::(Tx y++93::32::97::110::100::32::(shD t++32::111::114::32::(tNot++32::tTrue)))=G4 at *
 generalize 91::(Tx y++93::32::97::110::100::32::shD t)=G3 at *
 generalize 91::(Tx y++[93,32,97,110,100,32])=G2 at *
 generalize hc3:32::111::114::32::(tNot++32::tTrue)=J3 at *
 have kc3:(" or not true":Str)=txt J3:=by rw [<- hc3];exact k_c3
 generalize tNot++32::91::(Tx y++[93])=F2 at *
 generalize tNot++32::91::Tx y=F1 at *
 generalize hc1:tNot++[32,91]=F0 at *
 have kc1:("not [":Str)=txt F0:=by rw [<- hc1];exact k_c1
 have kc2:=k_c2
 have kc5:=k_c5
 have kc6:=k_c6
 have slb:=s_lb
 have srb:=s_rb
 generalize txt [93,32,97,110,100,32]=S2 at *
 generalize txt [93,97,110,100,91]=S5 at *
 generalize txt [32,93]=S6 at *
 generalize txt [91]=SL at *
 generalize txt [93]=SR at *
 have hY6:(Tx y).length≤1000000:=by lia
 generalize txt (shD t)=told at *
 generalize hYd:Tx y=Y at *
 generalize hts:t.p=tp at *
 generalize hsc:scr ns=sc at *
 unfold NL at et ev
 generalize hNP:(N.map fun c=>P.str (txt c))=NP at *
 generalize (Ev.cut ns (some 2) (some 62)).map P.int=CP at *
 generalize hdd:P.dct ks vs=dd at *
 generalize hvs:SO.dct ks (vs.map .p)=dS at *
 generalize eN.p=pN at *
 generalize eB.p=pB at *
 generalize eT.p=pT at *
 have hNn:N.length=m+1:=n1
 rw [hNn] at ev en hN6 hNl
 have hmi:((m:Int)+1).natAbs < 1000000:=by lia
 by_cases h3:2900 < Y.length
 ·have h3':(2900:Int) < (Y.length:Int):=by lia
  simp [b_n_law,eDict,a0,a1,m1,m5,vComp,hq,hq2,ints_len,hml,upL,en,oSome,hc,et,lenD,lenP,hNl,hN6,hmi,ev,hp1,hp2,lb1,ew,hY6,h3,h3']
 ·have h3':¬(2900:Int) < (Y.length:Int):=by lia
  simp [b_n_law,eDict,a0,a1,m1,m5,vComp,hq,hq2,ints_len,hml,upL,en,oSome,hc,et,lenD,lenP,hNl,hN6,hmi,ev,hp1,hp2,lb1,ew,hY6,h3,h3',er2,es,hb1,er,e2,hnd,-dAdd2_str,kc1,kc2,kc3,kc4,kc5,kc6,slb,srb,f1,f2,g1,g2,g3,g4,i1,i2,i3,i4,rN,vN,rB,vB,rT,vT]
theorem law_true {K:PySem.W.Frag}{H:Hp}{a:Addr}{ns:List Int}{E:XK} (hl:ns.length≤63) (hO:Only H) (hS:SqL K H a (ns.map V.int)):spR K (Psi Gv Att Tb 200 "law") [.ref a] H (fun v _=>v=.bl true) E:=law_of hO hS (law_val ns hl)
end My
noncomputable def PySem.W.Fast.tw3089963824868913864:Unit:=()
noncomputable def PySem.W.Fast.tw778411723224691504:Unit:=()
noncomputable def PySem.W.Fast.tw7762702486374870997:Unit:=()
noncomputable def PySem.W.Fast.tw9090103391921901604:Unit:=()
noncomputable def PySem.W.Fast.tw14463547685180056283:Unit:=()
noncomputable def PySem.W.Fast.tw16156245731620620696:Unit:=()
noncomputable def PySem.W.Fast.tw5763203931335454785:Unit:=()
noncomputable def PySem.W.Fast.tw4991109991819031314:Unit:=()
noncomputable def PySem.W.Fast.tw15387292323308236545:Unit:=()
noncomputable def PySem.W.Fast.tw15316425193947769177:Unit:=()
noncomputable def PySem.W.Fast.tw916357840232882501:Unit:=()
noncomputable def PySem.W.Fast.tw4499185483486134531:Unit:=()
noncomputable def PySem.W.Fast.tw1283607397857479779:Unit:=()
noncomputable def PySem.W.Fast.tw8495294160041346480:Unit:=()
noncomputable def PySem.W.Fast.tw10341389963199731145:Unit:=()
noncomputable def PySem.W.Fast.tw434036864423060823:Unit:=()
noncomputable def PySem.W.Fast.tw15151261326556289738:Unit:=()
noncomputable def PySem.W.Fast.tw1050985786790801104:Unit:=()
noncomputable def PySem.W.Fast.tw7626997771316261150:Unit:=()
noncomputable def PySem.W.Fast.tw14864011164636208109:Unit:=()
noncomputable def PySem.W.Fast.tw8769483333588437973:Unit:=()
noncomputable def PySem.W.Fast.tw14065919720487537905:Unit:=()
noncomputable def PySem.W.Fast.tw7204294626890328079:Unit:=()
noncomputable def PySem.W.Fast.tw7393016643185408992:Unit:=()
noncomputable def PySem.W.Fast.tw673877870026554310:Unit:=()
noncomputable def PySem.W.Fast.tw17986488949023658799:Unit:=()
noncomputable def PySem.W.Fast.tw11856504684148350315:Unit:=()
noncomputable def PySem.W.Fast.tw8414141542113613258:Unit:=()
noncomputable def PySem.W.Fast.tw506928653364301568:Unit:=()
noncomputable def PySem.W.Fast.tw18409169901297363672:Unit:=()
noncomputable def PySem.W.Fast.tw15141654775220582994:Unit:=()
noncomputable def PySem.W.Fast.tw7770283056978324943:Unit:=()
noncomputable def PySem.W.Fast.tw1028853219367056621:Unit:=()
noncomputable def PySem.W.Fast.tw10915986751822591058:Unit:=()
noncomputable def PySem.W.Fast.tw11852294549958749568:Unit:=()
noncomputable def PySem.W.Fast.tw16374285641603970927:Unit:=()
noncomputable def PySem.W.Fast.tw7481584470782790157:Unit:=()
noncomputable def PySem.W.Fast.tw13210033450784668574:Unit:=()
noncomputable def PySem.W.Fast.tw13651991546716615950:Unit:=()
noncomputable def PySem.W.Fast.tw18430912463677684578:Unit:=()
noncomputable def PySem.W.Fast.tw16727405042437774646:Unit:=()
noncomputable def PySem.W.Fast.tw18275087488697258184:Unit:=()
noncomputable def PySem.W.Fast.tw2362165010638293875:Unit:=()
noncomputable def PySem.W.Fast.tw3015685019527450538:Unit:=()
noncomputable def PySem.W.Fast.tw7108943594621426332:Unit:=()
noncomputable def PySem.W.Fast.tw10031438988348615788:Unit:=()
noncomputable def PySem.W.Fast.tw5301189373861915659:Unit:=()
noncomputable def PySem.W.Fast.tw549820749423289448:Unit:=()
noncomputable def PySem.W.Fast.tw11018524646070461824:Unit:=()
noncomputable def PySem.W.Fast.tw5810315547705191356:Unit:=()
noncomputable def PySem.W.Fast.tw354912108877155392:Unit:=()
noncomputable def PySem.W.Fast.tw9042677854197015102:Unit:=()
noncomputable def PySem.W.Fast.tw6853315355021475535:Unit:=()
noncomputable def PySem.W.Fast.tw394603519058077970:Unit:=()
noncomputable def PySem.W.Fast.tw18395340031407296411:Unit:=()
noncomputable def PySem.W.Fast.tw15363852942092350843:Unit:=()
noncomputable def PySem.W.Fast.tw17056190529636975650:Unit:=()
noncomputable def PySem.W.Fast.tw303810389757147123:Unit:=()
noncomputable def PySem.W.Fast.tw16254048197754248300:Unit:=()
noncomputable def PySem.W.Fast.tw18553072462014484:Unit:=()
noncomputable def PySem.W.Fast.tw1651563580043424369:Unit:=()
noncomputable def PySem.W.Fast.tw17446134945014422916:Unit:=()
noncomputable def PySem.W.Fast.tw3359689777544822870:Unit:=()
noncomputable def PySem.W.Fast.tw13409656504393302053:Unit:=()
noncomputable def PySem.W.Fast.tw14014196416738282935:Unit:=()
noncomputable def PySem.W.Fast.tw8334230049986648160:Unit:=()
noncomputable def PySem.W.Fast.tw7199805257349051315:Unit:=()
noncomputable def PySem.W.Fast.tw14483742029343246744:Unit:=()
noncomputable def PySem.W.Fast.tw12185089919529014256:Unit:=()
noncomputable def PySem.W.Fast.tw1519801108802935473:Unit:=()
noncomputable def PySem.W.Fast.tw11617861807643049779:Unit:=()
noncomputable def PySem.W.Fast.tw11448319410943711181:Unit:=()
noncomputable def PySem.W.Fast.tw8949951744770666375:Unit:=()
noncomputable def PySem.W.Fast.tw16917668016629041194:Unit:=()
noncomputable def PySem.W.Fast.tw10297300971839267548:Unit:=()
noncomputable def PySem.W.Fast.tw11113036908460565185:Unit:=()
noncomputable def PySem.W.Fast.tw7391430289012695145:Unit:=()
noncomputable def PySem.W.Fast.tw7200469060810013877:Unit:=()
noncomputable def PySem.W.Fast.tw3156309826319571054:Unit:=()
noncomputable def PySem.W.Fast.tw2850223812181090590:Unit:=()
noncomputable def PySem.W.Fast.tw4901461214262716330:Unit:=()
noncomputable def PySem.W.Fast.tw1164330520904796840:Unit:=()
noncomputable def PySem.W.Fast.tw15537620819225285040:Unit:=()
noncomputable def PySem.W.Fast.tw12616784776635755417:Unit:=()
noncomputable def PySem.W.Fast.tw14681264602850325258:Unit:=()
noncomputable def PySem.W.Fast.tw12201647403597802019:Unit:=()
noncomputable def PySem.W.Fast.tw17476266827698610651:Unit:=()
noncomputable def PySem.W.Fast.tw6097950801152815347:Unit:=()
noncomputable def PySem.W.Fast.tw18332854826820225896:Unit:=()
noncomputable def PySem.W.Fast.tw11437967938473527505:Unit:=()
noncomputable def PySem.W.Fast.tw499453732331667058:Unit:=()
noncomputable def PySem.W.Fast.tw15959428389661610296:Unit:=()
noncomputable def PySem.W.Fast.tw5899182316726239580:Unit:=()
noncomputable def PySem.W.Fast.tw5447282220183143749:Unit:=()
noncomputable def PySem.W.Fast.tw7304724117503860560:Unit:=()
noncomputable def PySem.W.Fast.tw15132764649103738562:Unit:=()
noncomputable def PySem.W.Fast.tw17720399447367125573:Unit:=()
noncomputable def PySem.W.Fast.tw715883945462493927:Unit:=()
noncomputable def PySem.W.Fast.tw2759782705081861328:Unit:=()
noncomputable def PySem.W.Fast.tw8258921978187561055:Unit:=()
noncomputable def PySem.W.Fast.tw2689549552556610941:Unit:=()
noncomputable def PySem.W.Fast.tw8122581044643848128:Unit:=()
noncomputable def PySem.W.Fast.tw7118985756316395927:Unit:=()
noncomputable def PySem.W.Fast.tw16450008729547227651:Unit:=()
noncomputable def PySem.W.Fast.tw11006015982932151683:Unit:=()
noncomputable def PySem.W.Fast.tw7190721125211562958:Unit:=()
noncomputable def PySem.W.Fast.tw9695970342886191372:Unit:=()
noncomputable def PySem.W.Fast.tw13202416876389666448:Unit:=()
noncomputable def PySem.W.Fast.tw2299878766399967548:Unit:=()
noncomputable def PySem.W.Fast.tw11455179111066241733:Unit:=()
noncomputable def PySem.W.Fast.tw14640005618638027970:Unit:=()
noncomputable def PySem.W.Fast.tw921433694946696133:Unit:=()
noncomputable def PySem.W.Fast.tw5915745438696466848:Unit:=()
noncomputable def PySem.W.Fast.tw5815254252356801171:Unit:=()
noncomputable def PySem.W.Fast.tw15171899981339281121:Unit:=()
noncomputable def PySem.W.Fast.tw8680611747512036403:Unit:=()
noncomputable def PySem.W.Fast.tw6569543486232692508:Unit:=()
noncomputable def PySem.W.Fast.tw7189957810234425236:Unit:=()
noncomputable def PySem.W.Fast.tw10657629221073285868:Unit:=()
noncomputable def PySem.W.Fast.tw9179800450918709522:Unit:=()
noncomputable def PySem.W.Fast.tw7666146488497972242:Unit:=()
noncomputable def PySem.W.Fast.tw9483030833701481695:Unit:=()
noncomputable def PySem.W.Fast.tw7025377417991555343:Unit:=()
noncomputable def PySem.W.Fast.tw11816041022346842534:Unit:=()
noncomputable def PySem.W.Fast.tw13049228666451784526:Unit:=()
noncomputable def PySem.W.Fast.tw6038939580080975412:Unit:=()
noncomputable def PySem.W.Fast.tw5213643519698758443:Unit:=()
noncomputable def PySem.W.Fast.tw11040233844508437351:Unit:=()
noncomputable def PySem.W.Fast.tw6189293403759242483:Unit:=()
noncomputable def PySem.W.Fast.tw9845373035922361716:Unit:=()
noncomputable def PySem.W.Fast.tw13345818157248933105:Unit:=()
noncomputable def PySem.W.Fast.tw10435884577557783365:Unit:=()
noncomputable def PySem.W.Fast.tw34071389330826164:Unit:=()
noncomputable def PySem.W.Fast.tw1409205770520201678:Unit:=()
noncomputable def PySem.W.Fast.tw3760275976806417254:Unit:=()
noncomputable def PySem.W.Fast.tw11391710525840367908:Unit:=()
noncomputable def PySem.W.Fast.tw9549646328959215001:Unit:=()
noncomputable def PySem.W.Fast.tw4504920749450022584:Unit:=()
noncomputable def PySem.W.Fast.tw1656837562723754014:Unit:=()
noncomputable def PySem.W.Fast.tw5614700716544826765:Unit:=()
noncomputable def PySem.W.Fast.tw10677435034982679963:Unit:=()
noncomputable def PySem.W.Fast.tw5451652362621067037:Unit:=()
noncomputable def PySem.W.Fast.tw14211569267423454785:Unit:=()
noncomputable def PySem.W.Fast.tw5902675457542485645:Unit:=()
noncomputable def PySem.W.Fast.tw2663578627622028227:Unit:=()
noncomputable def PySem.W.Fast.tw16466500172614362789:Unit:=()
noncomputable def PySem.W.Fast.tw5634011740701537699:Unit:=()
noncomputable def PySem.W.Fast.tw4699446969688675545:Unit:=()
noncomputable def PySem.W.Fast.tw2443242434030769455:Unit:=()
noncomputable def PySem.W.Fast.tw13758148715146969254:Unit:=()
noncomputable def PySem.W.Fast.tw18080386956717739446:Unit:=()
noncomputable def PySem.W.Fast.tw6038351298628477439:Unit:=()
noncomputable def PySem.W.Fast.tw3293631124313481451:Unit:=()
noncomputable def PySem.W.Fast.tw14740147208130901612:Unit:=()
noncomputable def PySem.W.Fast.tw16686538480730276309:Unit:=()
noncomputable def PySem.W.Fast.tw8406583145887593414:Unit:=()
noncomputable def PySem.W.Fast.tw11505807170475010596:Unit:=()
noncomputable def PySem.W.Fast.tw14608862657497315692:Unit:=()
noncomputable def PySem.W.Fast.tw11840408926529518252:Unit:=()
noncomputable def PySem.W.Fast.tw9423363542622848429:Unit:=()
noncomputable def PySem.W.Fast.tw7316309223877675780:Unit:=()
noncomputable def PySem.W.Fast.tw1662597712356177571:Unit:=()
noncomputable def PySem.W.Fast.tw1807061994389566800:Unit:=()
noncomputable def PySem.W.Fast.tw9877129755559235668:Unit:=()
noncomputable def PySem.W.Fast.tw7194434154678125488:Unit:=()
noncomputable def PySem.W.Fast.tw2925367016425295108:Unit:=()
noncomputable def PySem.W.Fast.tw13229069797637829493:Unit:=()
noncomputable def PySem.W.Fast.tw5076768292955889918:Unit:=()
noncomputable def PySem.W.Fast.tw10910302179101175811:Unit:=()
noncomputable def PySem.W.Fast.tw7333902346111151557:Unit:=()
noncomputable def PySem.W.Fast.tw16781556553861016654:Unit:=()
open PySem PySem.W PyProof.Rows
set_option maxRecDepth 100000 in
set_option maxHeartbeats 0 in
theorem PySem.Challenge.cw_roadsall_k06_whole_texts_keep_their_trut_holds : PySem.Challenge.rw_roadsall_k06_whole_texts_keep_their_trut.Holds := by
 w_on;o_law;k_head;(case hw=>w_witness2)
 k_fill
 refine L2.walk_ofK (l:=PySem.Challenge.rw_roadsall_k06_whole_texts_keep_their_trut) (n:=63) (k:=200) (x:="_law_script") (CX:=L2.CX0) (sp:=fun K=>Ev.spR K (Ev.Psi My.Gv My.Att My.Tb 200 "law")) rfl (by decide) rfl ⟨rfl,by decide,by decide⟩ (fun w h Y=>PySem.W.kIn_of Y) ?F ?S ?C
 case F=>
  intro w mg fa h KX G hmg
  have T:Ev.TOk w My.Gv My.Att My.Tb (L2.KOf KX) mg:=by
   dsimp only [L2.KOf]
   refine' My.all_mk KX G ?ca0 ?cb0 ?cc0 ?cd0' ?ce0 ?cf0 ?cg0 ?na0_0 ?na0_1 ?na0_2 ?na0_3 ?na0_4 ?na0_5 ?a0 ?l0 ?c0 ?k0 ?a1 ?l1 ?c1 ?k1 ?a2 ?l2 ?c2 ?k2 ?a3 ?l3 ?c3 ?k3 ?a4 ?l4 ?c4 ?k4 ?a5 ?l5 ?c5 ?k5 ?a6 ?l6 ?c6 ?k6 ?a7 ?l7 ?c7 ?k7 ?a8 ?l8 ?c8 ?k8 ?a9 ?l9 ?c9 ?k9 ?a10 ?l10 ?c10 ?k10 ?a11 ?l11 ?c11 ?k11 ?a12 ?w12 ?l12 ?c12 ?k12 ?a13 ?w13 ?l13 ?c13 ?k13 ?a14 ?w14 ?l14 ?c14 ?k14 ?a15 ?w15 ?l15 ?c15 ?k15 ?a16 ?w16 ?l16 ?c16 ?k16 ?a17 ?w17 ?l17 ?c17 ?k17 ?a18 ?w18 ?l18 ?c18 ?k18 ?a19 ?w19 ?l19 ?c19 ?k19 ?a20 ?w20 ?l20 ?c20 ?k20 ?a21 ?w21 ?l21 ?c21 ?k21 ?a22 ?w22 ?l22 ?c22 ?k22 ?a23 ?w23 ?l23 ?c23 ?k23 ?a24 ?w24 ?l24 ?c24 ?k24 ?a25 ?w25 ?l25 ?c25 ?k25 ?a26 ?l26 ?c26 ?k26 ?a27 ?w27 ?l27 ?c27 ?k27 ?a28 ?w28 ?l28 ?c28 ?k28 ?a29 ?w29 ?l29 ?c29 ?k29 ?a30 ?w30 ?l30 ?c30 ?k30 ?a31 ?w31 ?l31 ?c31 ?k31 ?a32 ?w32 ?l32 ?c32 ?k32 ?a33 ?l33 ?c33 ?k33 ?a34 ?l34 ?c34 ?k34 ?a35 ?l35 ?c35 ?k35 ?a36 ?l36 ?c36 ?k36 ?a37 ?l37 ?c37 ?k37 ?a38 ?l38 ?c38 ?k38 ?a39 ?l39 ?c39 ?k39 ?a40 ?l40 ?c40 ?k40 ?a41 ?l41 ?c41 ?k41 ?a42 ?l42 ?c42 ?k42 ?a43 ?l43 ?c43 ?k43 ?a44 ?l44 ?c44 ?k44 ?a45 ?l45 ?c45 ?k45 ?glb0 ?glt0 ?glb1 ?glb2 ?glb3 ?glt3 ?gq3_0 ?gq3_1 ?gq3_2 ?gq3_3 ?gq3_4 ?glb4 ?glb5 ?glt5 ?gq5_0 ?gq5_1 ?gq5_2 ?gq5_3 ?gq5_4 ?gq5_5 ?gq5_6 ?gq5_7 ?gq5_8 ?gq5_9 ?gq5_10 ?gq5_11 ?gq5_12 ?gq5_13 ?glb6 ?glb7 ?glb8 ?glb9 ?glb10 ?glt10 ?gq10_0 ?gq10_1 ?gq10_2 ?gq10_3 ?gq10_4 ?glb11 ?glt11 ?glb12 ?glt12 ?gq12_0 ?gq12_1 ?gq12_2 ?gq12_3 ?gq12_4 ?gq12_5 ?gq12_6 ?gq12_7 ?gq12_8 ?gq12_9 ?glb13 ?glt13 ?z
   (case ca0=>k_is)
   (case cb0=>k_is)
   (case cc0=>k_is)
   (case cd0'=>k_is)
   (case ce0=>k_is)
   (case cf0=>k_is)
   (case cg0=>k_is)
   (case na0_0=>k_is)
   (case na0_1=>k_is)
   (case na0_2=>k_is)
   (case na0_3=>k_is)
   (case na0_4=>k_is)
   (case na0_5=>k_is)
   (case a0=>k_is)
   (case l0=>k_is)
   (case c0=>k_is)
   (case k0=>k_is)
   (case a1=>k_is)
   (case l1=>k_is)
   (case c1=>k_is)
   (case k1=>k_is)
   (case a2=>k_is)
   (case l2=>k_is)
   (case c2=>k_is)
   (case k2=>k_is)
   (case a3=>k_is)
   (case l3=>k_is)
   (case c3=>k_is)
   (case k3=>k_is)
   (case a4=>k_is)
   (case l4=>k_is)
   (case c4=>k_is)
   (case k4=>k_is)
   (case a5=>k_is)
   (case l5=>k_is)
   (case c5=>k_is)
   (case k5=>k_is)
   (case a6=>k_is)
   (case l6=>k_is)
   (case c6=>k_is)
   (case k6=>k_is)
   (case a7=>k_is)
   (case l7=>k_is)
   (case c7=>k_is)
   (case k7=>k_is)
   (case a8=>k_is)
   (case l8=>k_is)
   (case c8=>k_is)
   (case k8=>k_is)
   (case a9=>k_is)
   (case l9=>k_is)
   (case c9=>k_is)
   (case k9=>k_is)
   (case a10=>k_is)
   (case l10=>k_is)
   (case c10=>k_is)
   (case k10=>k_is)
   (case a11=>k_is)
   (case l11=>k_is)
   (case c11=>k_is)
   (case k11=>k_is)
   (case a12=>k_is)
   (case w12=>k_is)
   (case l12=>k_is)
   (case c12=>k_is)
   (case k12=>k_is)
   (case a13=>k_is)
   (case w13=>k_is)
   (case l13=>k_is)
   (case c13=>k_is)
   (case k13=>k_is)
   (case a14=>k_is)
   (case w14=>k_is)
   (case l14=>k_is)
   (case c14=>k_is)
   (case k14=>k_is)
   (case a15=>k_is)
   (case w15=>k_is)
   (case l15=>k_is)
   (case c15=>k_is)
   (case k15=>k_is)
   (case a16=>k_is)
   (case w16=>k_is)
   (case l16=>k_is)
   (case c16=>k_is)
   (case k16=>k_is)
   (case a17=>k_is)
   (case w17=>k_is)
   (case l17=>k_is)
   (case c17=>k_is)
   (case k17=>k_is)
   (case a18=>k_is)
   (case w18=>k_is)
   (case l18=>k_is)
   (case c18=>k_is)
   (case k18=>k_is)
   (case a19=>k_is)
   (case w19=>k_is)
   (case l19=>k_is)
   (case c19=>k_is)
   (case k19=>k_is)
   (case a20=>k_is)
   (case w20=>k_is)
   (case l20=>k_is)
   (case c20=>k_is)
   (case k20=>k_is)
   (case a21=>k_is)
   (case w21=>k_is)
   (case l21=>k_is)
   (case c21=>k_is)
   (case k21=>k_is)
   (case a22=>k_is)
   (case w22=>k_is)
   (case l22=>k_is)
   (case c22=>k_is)
   (case k22=>k_is)
   (case a23=>k_is)
   (case w23=>k_is)
   (case l23=>k_is)
   (case c23=>k_is)
   (case k23=>k_is)
   (case a24=>k_is)
   (case w24=>k_is)
   (case l24=>k_is)
   (case c24=>k_is)
   (case k24=>k_is)
   (case a25=>k_is)
   (case w25=>k_is)
   (case l25=>k_is)
   (case c25=>k_is)
   (case k25=>k_is)
   (case a26=>k_is)
   (case l26=>k_is)
   (case c26=>k_is)
   (case k26=>k_is)
   (case a27=>k_is)
   (case w27=>k_is)
   (case l27=>k_is)
   (case c27=>k_is)
   (case k27=>k_is)
   (case a28=>k_is)
   (case w28=>k_is)
   (case l28=>k_is)
   (case c28=>k_is)
   (case k28=>k_is)
   (case a29=>k_is)
   (case w29=>k_is)
   (case l29=>k_is)
   (case c29=>k_is)
   (case k29=>k_is)
   (case a30=>k_is)
   (case w30=>k_is)
   (case l30=>k_is)
   (case c30=>k_is)
   (case k30=>k_is)
   (case a31=>k_is)
   (case w31=>k_is)
   (case l31=>k_is)
   (case c31=>k_is)
   (case k31=>k_is)
   (case a32=>k_is)
   (case w32=>k_is)
   (case l32=>k_is)
   (case c32=>k_is)
   (case k32=>k_is)
   (case a33=>k_is)
   (case l33=>k_is)
   (case c33=>k_is)
   (case k33=>k_is)
   (case a34=>k_is)
   (case l34=>k_is)
   (case c34=>k_is)
   (case k34=>k_is)
   (case a35=>k_is)
   (case l35=>k_is)
   (case c35=>k_is)
   (case k35=>k_is)
   (case a36=>k_is)
   (case l36=>k_is)
   (case c36=>k_is)
   (case k36=>k_is)
   (case a37=>k_is)
   (case l37=>k_is)
   (case c37=>k_is)
   (case k37=>k_is)
   (case a38=>k_is)
   (case l38=>k_is)
   (case c38=>k_is)
   (case k38=>k_is)
   (case a39=>k_is)
   (case l39=>k_is)
   (case c39=>k_is)
   (case k39=>k_is)
   (case a40=>k_is)
   (case l40=>k_is)
   (case c40=>k_is)
   (case k40=>k_is)
   (case a41=>k_is)
   (case l41=>k_is)
   (case c41=>k_is)
   (case k41=>k_is)
   (case a42=>k_is)
   (case l42=>k_is)
   (case c42=>k_is)
   (case k42=>k_is)
   (case a43=>k_is)
   (case l43=>k_is)
   (case c43=>k_is)
   (case k43=>k_is)
   (case a44=>k_is)
   (case l44=>k_is)
   (case c44=>k_is)
   (case k44=>k_is)
   (case a45=>k_is)
   (case l45=>k_is)
   (case c45=>k_is)
   (case k45=>k_is)
   (case glb0=>k_is)
   (case glt0=>k_is)
   (case glb1=>k_is)
   (case glb2=>k_is)
   (case glb3=>k_is)
   (case glt3=>k_is)
   (case gq3_0=>first | rfl | k_is)
   (case gq3_1=>first | rfl | k_is)
   (case gq3_2=>first | rfl | k_is)
   (case gq3_3=>first | rfl | k_is)
   (case gq3_4=>first | rfl | k_is)
   (case glb4=>k_is)
   (case glb5=>k_is)
   (case glt5=>k_is)
   (case gq5_0=>first | rfl | k_is)
   (case gq5_1=>first | rfl | k_is)
   (case gq5_2=>first | rfl | k_is)
   (case gq5_3=>first | rfl | k_is)
   (case gq5_4=>first | rfl | k_is)
   (case gq5_5=>first | rfl | k_is)
   (case gq5_6=>first | rfl | k_is)
   (case gq5_7=>first | rfl | k_is)
   (case gq5_8=>first | rfl | k_is)
   (case gq5_9=>first | rfl | k_is)
   (case gq5_10=>first | rfl | k_is)
   (case gq5_11=>first | rfl | k_is)
   (case gq5_12=>first | rfl | k_is)
   (case gq5_13=>first | rfl | k_is)
   (case glb6=>k_is)
   (case glb7=>k_is)
   (case glb8=>k_is)
   (case glb9=>k_is)
   (case glb10=>k_is)
   (case glt10=>k_is)
   (case gq10_0=>first | rfl | k_is)
   (case gq10_1=>first | rfl | k_is)
   (case gq10_2=>first | rfl | k_is)
   (case gq10_3=>first | rfl | k_is)
   (case gq10_4=>first | rfl | k_is)
   (case glb11=>k_is)
   (case glt11=>k_is)
   (case glb12=>k_is)
   (case glt12=>k_is)
   (case gq12_0=>first | rfl | k_is)
   (case gq12_1=>first | rfl | k_is)
   (case gq12_2=>first | rfl | k_is)
   (case gq12_3=>first | rfl | k_is)
   (case gq12_4=>first | rfl | k_is)
   (case gq12_5=>first | rfl | k_is)
   (case gq12_6=>first | rfl | k_is)
   (case gq12_7=>first | rfl | k_is)
   (case gq12_8=>first | rfl | k_is)
   (case gq12_9=>first | rfl | k_is)
   (case glb13=>k_is)
   (case glt13=>k_is)
   case z=>
    intro x hx
    simp only [Ev.bltN,List.mem_cons,List.not_mem_nil,or_false] at hx
    rcases hx with rfl | rfl | rfl | rfl | rfl | rfl | rfl | rfl | rfl | rfl | rfl | rfl | rfl | rfl <;> k_is
  obtain⟨f,fd,h1⟩:=T.fn My.d_n_law (by simp [My.Tb])
  have e0:=hmg.symm.trans (h1.gl (by decide +kernel))
  cases e0
  refine⟨fd,?_,fun base kb nb=>(Ev.defs_ok T 200).1 My.d_n_law (by simp [My.Tb]) _ fd h1.fn⟩
  obtain⟨oc,od,kV,doc,pm,an,cdv,ct,osl,rfl,lk,hcd⟩:=h1.fn.ex
  exact fun s v=>.of_eq rfl
 case S=>exact fun w H a ns hl hO hS=>My.law_true hl hO hS
 case C=>exact fun _ _ _ _ z=>z
