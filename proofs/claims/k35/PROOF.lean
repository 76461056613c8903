import PyProof.Rows.All
import Wide.All
import OpenK.AllK
import Wide.FinOn
import Lean
import PyProof.EqAt
import PyProof.EqKinds
import PyProof.TupleCall
import PySem.Challenge.RW_roadsall_k35_all_renamings
set_option Elab.async false
set_option linter.all false
set_option maxRecDepth 100000
set_option maxHeartbeats 4000000
set_option Elab.async false
set_option linter.all false
set_option maxRecDepth 100000
namespace L2
open PySem PySem.Spec PyProof.Rows
noncomputable abbrev Key := Sum Int Str
noncomputable def keyIs : Key → Value → Bool
  | .inl k, v => Value.isInt k v
  | .inr x, v => Value.isStrOf x v
noncomputable def keyH (w : World) : Key → Int
  | .inl k => hashInt k
  | .inr x => hashStr w x
theorem keyIs_shape : ∀ {k : Key} {v : Value}, keyIs k v = true → (∃ i t, k = Sum.inl i ∧ v = Value.int i t) ∨ (∃ x t, k = Sum.inr x ∧ v = Value.str x t)
  | .inl i, v, h => by
    obtain ⟨t, e⟩ := Value.isInt_shape (k := i) (v := v) h
    exact .inl ⟨i, t, rfl, e⟩
  | .inr x, v, h => by
    obtain ⟨t, e⟩ := Value.isStrOf_shape (x := x) (v := v) h
    exact .inr ⟨x, t, rfl, e⟩
theorem keyIs_int (i : Int) (t : Tok) : keyIs (.inl i) (.int i t) = true := by simp [keyIs, Value.isInt]
theorem keyIs_str (x : Str) (t : Tok) : keyIs (.inr x) (.str x t) = true := by simp [keyIs, Value.isStrOf]
theorem key_ll (a b : Int) : decide ((Sum.inl a : Key) = Sum.inl b) = (a == b) := by
  by_cases e : a = b
  · subst e; simp
  · have h : ¬ (Sum.inl a : Key) = Sum.inl b := fun q => e (Sum.inl.inj q)
    rw [decide_eq_false h]
    exact (beq_eq_false_iff_ne.mpr e).symm
theorem key_rr (a b : Str) : decide ((Sum.inr a : Key) = Sum.inr b) = decide (a = b) := by
  by_cases e : a = b
  · subst e; simp
  · have h : ¬ (Sum.inr a : Key) = Sum.inr b := fun q => e (Sum.inr.inj q)
    rw [decide_eq_false h, decide_eq_false e]
theorem key_lr (a : Int) (b : Str) : decide ((Sum.inl a : Key) = Sum.inr b) = false := decide_eq_false (fun q => nomatch q)
theorem key_rl (a : Str) (b : Int) : decide ((Sum.inr a : Key) = Sum.inl b) = false := decide_eq_false (fun q => nomatch q)
noncomputable def mixKind (prog : Program) (w : World) : PySem.KeyKind prog w Key where
  is := keyIs
  hash := keyH w
  inj := fun v a b ha hb => by
    rcases keyIs_shape ha with ⟨i, t, rfl, rfl⟩ | ⟨x, t, rfl, rfl⟩
    · rcases keyIs_shape hb with ⟨j, u, rfl, e⟩ | ⟨y, u, rfl, e⟩
      · injection e with e1 _; rw [e1]
      · exact nomatch e
    · rcases keyIs_shape hb with ⟨j, u, rfl, e⟩ | ⟨y, u, rfl, e⟩
      · exact nomatch e
      · injection e with e1 _; rw [e1]
  byValue := fun k v h => by
    rcases keyIs_shape h with ⟨i, t, rfl, rfl⟩ | ⟨x, t, rfl, rfl⟩ <;> rfl
  pyHash := fun hv h => by
    rcases keyIs_shape hv with ⟨i, t, rfl, rfl⟩ | ⟨x, t, rfl, rfl⟩
    · exact wpAny_pyHash_int h
    · exact wpAny_pyHash_str h
  eqBool := fun hu hv h => by
    rcases keyIs_shape hu with ⟨i, t, rfl, rfl⟩ | ⟨x, t, rfl, rfl⟩
    · rcases keyIs_shape hv with ⟨j, u, rfl, rfl⟩ | ⟨y, u, rfl, rfl⟩
      · rw [key_ll] at h; exact wpAny_eqBool_int h
      · rw [key_lr] at h; exact SeqAt.EqAt.int_str i t y u _ _ _ _ h
    · rcases keyIs_shape hv with ⟨j, u, rfl, rfl⟩ | ⟨y, u, rfl, rfl⟩
      · rw [key_rl] at h; exact SeqAt.EqAt.str_int x t j u _ _ _ _ h
      · rw [key_rr] at h; exact wpAny_eqBool_str h
  «strs» := fun k x t v h => by
    rcases keyIs_shape h with ⟨i, u, rfl, e⟩ | ⟨y, u, rfl, e⟩
    · exact nomatch e
    · injection e with e1 _
      subst e1
      cases v <;> rfl
theorem mixKind_int (prog : Program) (w : World) (i : Int) (t : Tok) : (mixKind prog w).is (.inl i) (.int i t) = true := keyIs_int i t
theorem mixKind_str (prog : Program) (w : World) (x : Str) (t : Tok) : (mixKind prog w).is (.inr x) (.str x t) = true := keyIs_str x t
end L2
namespace L2
open PySem PySem.Spec PyProof.Rows
inductive V where
  | non | bl (b : Bool) | int (i : Int) | str (x : Str) | byt (b : Array UInt8) | flt (b : UInt64) | ref (a : Addr) | ty (n : String)
  deriving DecidableEq
noncomputable def RelV : V → Value → Prop
  | .non, u => u = Value.none
  | .bl b, u => u = Value.bool b
  | .int i, u => ∃ t, u = Value.int i t
  | .str x, u => ∃ t, u = Value.str x t
  | .byt b, u => ∃ t, u = Value.bytes b t
  | .flt b, u => ∃ t, u = Value.float b t
  | .ref a, u => u = Value.ref a
  | .ty n, u => u = Value.type n
noncomputable abbrev Vals : List V → List Value → Prop := Paired RelV
theorem Vals.length {xs : List V} {us : List Value} (r : Vals xs us) : xs.length = us.length := Paired.length r
theorem Vals.get : ∀ {xs : List V} {us : List Value} {i : Nat} {x : V}, Vals xs us → xs[i]? = some x → ∃ u, us[i]? = some u ∧ RelV x u
  | _, _, _, _, .nil, e => by simp at e
  | _, _, 0, _, .cons r _, e => by simp at e; subst e; exact ⟨_, rfl, r⟩
  | _, _, i + 1, x, .cons _ t, e => by
    obtain ⟨u, h1, h2⟩ := Vals.get (i := i) (x := x) t (by simpa using e)
    exact ⟨u, by simpa using h1, h2⟩
theorem Vals.set {x : V} {u : Value} (r : RelV x u) : ∀ {xs : List V} {us : List Value} (i : Nat), Vals xs us → Vals (xs.set i x) (us.set i u)
  | _, _, _, .nil => .nil
  | _, _, 0, .cons _ t => .cons r t
  | _, _, i + 1, .cons q t => .cons q (Vals.set r i t)
theorem Vals.append : ∀ {xs ys : List V} {us ws : List Value}, Vals xs us → Vals ys ws → Vals (xs ++ ys) (us ++ ws)
  | _, _, _, _, .nil, s => s
  | _, _, _, _, .cons r t, s => .cons r (Vals.append t s)
theorem Vals.take : ∀ {xs : List V} {us : List Value} (n : Nat), Vals xs us → Vals (xs.take n) (us.take n)
  | _, _, 0, _ => .nil
  | _, _, _ + 1, .nil => .nil
  | _, _, n + 1, .cons r t => .cons r (Vals.take n t)
theorem Vals.drop : ∀ {xs : List V} {us : List Value} (n : Nat), Vals xs us → Vals (xs.drop n) (us.drop n)
  | _, _, 0, r => r
  | _, _, _ + 1, .nil => .nil
  | _, _, n + 1, .cons _ t => Vals.drop n t
theorem Vals.none_of : ∀ {xs : List V} {us : List Value} {i : Nat}, Vals xs us → xs[i]? = none → us[i]? = none := fun {xs us i} r e => by
  have h1 := r.length
  have h2 : xs.length ≤ i := List.getElem?_eq_none_iff.mp e
  exact List.getElem?_eq_none_iff.mpr (by omega)
noncomputable def RelO : Option V → Option Value → Prop
  | some v, some u => RelV v u
  | none, none => True
  | _, _ => False
noncomputable def KV {κ : Type} : List (κ × V) → List (κ × Value) → Prop := Paired fun (p : κ × V) (q : κ × Value) => p.1 = q.1 ∧ RelV p.2 q.2
noncomputable def kV : Key → V
  | .inl i => .int i
  | .inr x => .str x
inductive HO where
  | lst (xs : List V)
  | tup (xs : List V)
  | dK (kvs : List (Key × V)) | dT (kvs : List (List Key × V))
  | set (S : Int → Bool) (n : Nat)
  | ins (C dx : Addr) (fs : List (Str × V))
  | own (x : Addr)
  | xd (fs : List (Str × V))
  | met (f x : Addr)
  | rng (lo hi : Int)
  | frz (o : Obj) (u : HO)
  | tbl (ps : Array Value)
  | ext (φ : Heap → Prop)
noncomputable abbrev Hp := Addr → Option HO
noncomputable def upd (H : Hp) (a : Addr) (o : HO) : Hp := fun b => if b = a then some o else H b
theorem upd_same {H : Hp} {a : Addr} {o : HO} : upd H a o a = some o := by unfold upd; rw [if_pos rfl]
theorem upd_ne {H : Hp} {a b : Addr} {o : HO} (h : b ≠ a) : upd H a o b = H b := by unfold upd; rw [if_neg h]
theorem ne_of_none {H : Hp} {a b : Addr} {o : HO} (h : H a = some o) (h' : H b = none) : a ≠ b := by
  intro e; subst e; rw [h] at h'; cases h'
section
variable (P : Program) (w : World)
noncomputable def ObjOk (H : Hp) (h : Heap) (a : Addr) : HO → Prop
  | .lst xs => xs.length ≤ sizeLine ∧ ∃ (its : List Value) (n : Nat), Vals xs its ∧ h.get? a = some { cls := .type "list", data := .seq its.toArray n }
  | .tup xs => xs.length ≤ sizeLine ∧ ∃ its : List Value, Vals xs its ∧ IsTup h a its.toArray
  | .dK kvs => kvs.length ≤ sizeLine ∧ (a == sysModules) = false ∧ ∃ vs, KV kvs vs ∧ h.DictOf (mixKind P w) a vs
  | .dT kvs => kvs.length ≤ sizeLine ∧ (a == sysModules) = false ∧ ∃ xs : List (List Key × Addr × Value),
      Paired (fun (p : List Key × V) (q : List Key × Addr × Value) => p.1 = q.1 ∧ H q.2.1 = some (.tup (p.1.map kV)) ∧ RelV p.2 q.2.2) kvs xs ∧
      ∃ o es ep, h.get? a = some o ∧ o.ExactDict ∧ o.data = .dict es ep ∧ es.toList = xs.map (entryOfKey (tupleKind (mixKind P w))) ∧ (xs.map (·.1)).Nodup
  | .set S n => h.SetOf (intKind P w) a S n
  | .ins C dx fs => H dx = some (.own a) ∧ fs.length ≤ 1000 ∧ dx ≠ a ∧ h.get? a = some (PySem.W.instObj C dx) ∧
      ∃ mA, h.Ns1 dx mA ∧ (∀ f, RelO (fs.lookup f) (mA f)) ∧ PySem.Within mA (fs.map (·.1))
  | .own _ => ∃ o, h.get? a = some o
  | .xd fs => ∃ mA, h.Ns1 a mA ∧ ∀ f, RelO (fs.lookup f) (mA f)
  | .rng lo hi => ∃ t u v, h.get? a = some { cls := .type "range", data := .fields #[.int lo t, .int hi u, .int 1 v] }
  | .frz o u => h.get? a = some o ∧ ObjOk H h a u
  | .tbl ps => h.get? a = some { cls := .none, data := .fields ps }
  | .met f x => h.get? a = some (PySem.W.methodObj (.ref f) (.ref x))
  | .ext φ => φ h ∧ (∃ o, h.get? a = some o) ∧ ∀ h1 h2 : Heap, φ h1 → (∀ o, h1.get? a = some o → h2.get? a = some o) → φ h2
noncomputable def HOk (H : Hp) (h : Heap) : Prop := ∀ a o, H a = some o → ObjOk P w H h a o
end
section
variable {P : Program} {w : World} {H H' : Hp} {h h' : Heap} {a : Addr} {o : HO}
theorem ObjOk.lt (x : ObjOk P w H h a o) : a < h.objs.size := by
  cases o with
  | lst xs => obtain ⟨_, _, _, _, e⟩ := x; exact Heap.lt_size e
  | tup xs => obtain ⟨_, _, _, p⟩ := x; exact p.lt
  | dK kvs => obtain ⟨_, _, _, _, o, _, _, e, _⟩ := x; exact Heap.lt_size e
  | dT kvs => obtain ⟨_, _, _, _, o, _, _, e, _⟩ := x; exact Heap.lt_size e
  | set S n => obtain ⟨o, _, _, _, e, _⟩ := x; exact Heap.lt_size e
  | ins C dx fs => obtain ⟨_, _, _, e, _⟩ := x; exact Heap.lt_size e
  | own y => obtain ⟨_, e⟩ := x; exact Heap.lt_size e
  | xd fs => obtain ⟨_, ⟨_, _, _, e, _⟩, _⟩ := x; exact Heap.lt_size e
  | rng lo hi => obtain ⟨_, _, _, e⟩ := x; exact Heap.lt_size e
  | frz ob u => obtain ⟨e, _⟩ := x; exact Heap.lt_size e
  | tbl ps => exact Heap.lt_size (show h.get? a = some _ from x)
  | met f y => exact Heap.lt_size (show h.get? a = some _ from x)
  | ext φ => obtain ⟨_, ⟨_, e⟩, _⟩ := x; exact Heap.lt_size e
theorem Paired.mapP {α β : Type} {F G : α → β → Prop} : ∀ {l₁ : List α} {l₂ : List β}, Paired F l₁ l₂ → (∀ a b, F a b → G a b) → Paired G l₁ l₂
  | _, _, .nil, _ => .nil
  | _, _, .cons r t, f => .cons (f _ _ r) (Paired.mapP t f)
theorem Paired.imp' {α β : Type} {F G : α → β → Prop} (f : ∀ a b, F a b → G a b) {l₁ : List α} {l₂ : List β} (r : Paired F l₁ l₂) : Paired G l₁ l₂ := Paired.mapP r f
theorem ObjOk.stay (x : ObjOk P w H h a o) (k : ∀ b u, (b = a ∨ H b = some (.own a)) → h.get? b = some u → h'.get? b = some u)
    (ho : ∀ b, H b = some (.own a) → H' b = some (.own a)) (ht : ∀ b xs, H b = some (.tup xs) → H' b = some (.tup xs)) : ObjOk P w H' h' a o := by
  induction o with
  | lst xs => obtain ⟨z, its, n, r, e⟩ := x; exact ⟨z, its, n, r, k _ _ (.inl rfl) e⟩
  | tup xs => obtain ⟨z, its, r, ob, e, c⟩ := x; exact ⟨z, its, r, ob, k _ _ (.inl rfl) e, c⟩
  | dK kvs => obtain ⟨z, y, vs, r, ob, es, ep, e, c⟩ := x; exact ⟨z, y, vs, r, ob, es, ep, k _ _ (.inl rfl) e, c⟩
  | dT kvs =>
    obtain ⟨z, y, xs, r, ob, es, ep, e, c⟩ := x
    exact ⟨z, y, xs, Paired.mapP r fun p q z => ⟨z.1, ht _ _ z.2.1, z.2.2⟩, ob, es, ep, k _ _ (.inl rfl) e, c⟩
  | set S n => obtain ⟨ob, es, ep, t, e, c⟩ := x; exact ⟨ob, es, ep, t, k _ _ (.inl rfl) e, c⟩
  | ins C dx fs =>
    obtain ⟨d, z, ne, e, mA, ⟨od, es, ep, e2, c⟩, r⟩ := x
    exact ⟨ho _ d, z, ne, k _ _ (.inl rfl) e, mA, ⟨od, es, ep, k _ _ (.inr d) e2, c⟩, r⟩
  | own y => obtain ⟨ob, e⟩ := x; exact ⟨ob, k _ _ (.inl rfl) e⟩
  | xd fs => obtain ⟨mA, ⟨od, es, ep, e, c⟩, r⟩ := x; exact ⟨mA, ⟨od, es, ep, k _ _ (.inl rfl) e, c⟩, r⟩
  | rng lo hi => obtain ⟨t, u, v, e⟩ := x; exact ⟨t, u, v, k _ _ (.inl rfl) e⟩
  | frz ob u ih => obtain ⟨e, q⟩ := x; exact ⟨k _ _ (.inl rfl) e, ih q⟩
  | tbl ps =>
    have e : h.get? a = some { cls := .none, data := .fields ps } := x
    show h'.get? a = some { cls := .none, data := .fields ps }
    exact k a _ (.inl rfl) e
  | met f y =>
    have e : h.get? a = some (PySem.W.methodObj (.ref f) (.ref y)) := x
    show h'.get? a = some (PySem.W.methodObj (.ref f) (.ref y))
    exact k a _ (.inl rfl) e
  | ext φ => obtain ⟨p, ⟨o, e⟩, st⟩ := x; exact ⟨st _ _ p fun o q => k _ _ (.inl rfl) q, ⟨o, k _ _ (.inl rfl) e⟩, st⟩
theorem HOk.lt (x : HOk P w H h) (e : H a = some o) : a < h.objs.size := (x a o e).lt
theorem HOk.fresh (x : HOk P w H h) (e : h.objs.size ≤ a) : H a = none := by
  cases q : H a with
  | none => rfl
  | some u => exact absurd (Nat.lt_of_lt_of_le (x.lt q) e) (Nat.lt_irrefl _)
theorem HOk.kept (x : HOk P w H h) (k : ∀ b u, h.get? b = some u → h'.get? b = some u) : HOk P w H h' := fun a o e =>
  (x a o e).stay (fun b u _ q => k b u q) (fun _ q => q) fun _ _ q => q
theorem HOk.laid (x : HOk P w H h) (k : ∀ b u, h.get? b = some u → h'.get? b = some u) (hp : h.objs.size ≤ a) (new : ObjOk P w (upd H a o) h' a o) : HOk P w (upd H a o) h' := fun b u e => by
  have hn := x.fresh hp
  by_cases hb : b = a
  · subst hb; rw [upd_same] at e; cases e; exact new
  · rw [upd_ne hb] at e
    exact (x b u e).stay (fun c v _ q => k c v q) (fun c q => by rw [upd_ne (ne_of_none q hn)]; exact q) fun c xs q => by rw [upd_ne (ne_of_none q hn)]; exact q
end
noncomputable def Rd (H : Hp) (a : Addr) (u : HO) : Prop := H a = some u ∨ ∃ o, H a = some (.frz o u)
theorem Rd.of {H : Hp} {a : Addr} {u : HO} (h : H a = some u) : Rd H a u := .inl h
theorem Rd.ok {P : Program} {w : World} {H : Hp} {h : Heap} {a : Addr} {u : HO} (r : Rd H a u) (x : HOk P w H h) : ObjOk P w H h a u := by
  rcases r with r | ⟨o, r⟩
  · exact x a u r
  · obtain ⟨_, q⟩ := x a _ r
    exact q
noncomputable def Mut : Option HO → Prop
  | some (.lst _) => True
  | some (.dK _) => True
  | some (.dT _) => True
  | some (.set _ _) => True
  | some (.ins _ _ _) => True
  | some (.ext _) => True
  | _ => False
section
variable {P : Program} {w : World} {H : Hp} {h h' : Heap} {x e : Addr} {o' : HO}
theorem HOk.write (ok : HOk P w H h) (mu : Mut (H x)) (he : e = x ∨ H e = some (.own x)) (k : ∀ b u, b ≠ e → h.get? b = some u → h'.get? b = some u) (heo : ∃ u, h'.get? e = some u)
    (new : ObjOk P w (upd H x o') h' x o') : HOk P w (upd H x o') h' := fun b u q => by
  have nown : ∀ c y, H c = some (.own y) → c ≠ x := fun c y r z => by subst z; rw [r] at mu; exact mu
  have ntup : ∀ c xs, H c = some (.tup xs) → c ≠ x := fun c xs r z => by subst z; rw [r] at mu; exact mu
  by_cases hb : b = x
  · subst hb; rw [upd_same] at q; cases q; exact new
  · rw [upd_ne hb] at q
    by_cases hbe : b = e
    · have q' : H b = some (.own x) := by
        rcases he with z | z
        · exact absurd (hbe.trans z) hb
        · rw [hbe]; exact z
      rw [q] at q'; cases q'
      obtain ⟨v, hv⟩ := heo
      exact ⟨v, by rw [hbe]; exact hv⟩
    · refine (ok b u q).stay (fun c v hc r => k c v ?_ r) (fun c r => by rw [upd_ne (nown c b r)]; exact r) fun c xs r => by rw [upd_ne (ntup c xs r)]; exact r
      rcases hc with rfl | hc
      · exact hbe
      · rintro rfl
        rcases he with z | z
        · exact nown c b hc z
        · rw [hc] at z; cases z; exact hb rfl
end
structure Un (fs ex : List Addr) (H H' : Hp) (h h' : Heap) : Prop where
  keep : ∀ b o, h.get? b = some o → H b = none → b ∉ fs → b ∉ ex → h'.get? b = some o
  slot : ∀ b o, h.get? b = some o → H b = none → b ∈ fs → b ∉ ex → ∃ sl, h'.get? b = some { o with slots := sl }
  free : ∀ b o, h.get? b = some o → H b = none → b ∉ ex → H' b = none
  there : ∀ b o, h.get? b = some o → b ∉ ex → ∃ o', h'.get? b = some o'
  tups : ∀ b xs, H b = some (.tup xs) → H' b = some (.tup xs)
  frzs : ∀ b o u, H b = some (.frz o u) → H' b = some (.frz o u)
  tbls : ∀ b ps, H b = some (.tbl ps) → ∃ more, H' b = some (.tbl (ps ++ more))
section
variable {fs fs' ex ex' : List Addr} {H H1 H2 : Hp} {h h1 h2 h' : Heap} {a x e : Addr} {o : HO}
theorem Un.any (u : Un fs ex H H1 h h1) {b : Addr} {ob : Obj} (q : h.get? b = some ob) (n : H b = none) (hx : b ∉ ex) : ∃ sl, h1.get? b = some { ob with slots := sl } := by
  by_cases hb : b ∈ fs
  · exact u.slot b ob q n hb hx
  · exact ⟨ob.slots, u.keep b ob q n hb hx⟩
theorem Un.trans (a : Un fs ex H H1 h h1) (b : Un fs ex H1 H2 h1 h2) : Un fs ex H H2 h h2 where
  keep := fun c ob q n hc hx => b.keep c ob (a.keep c ob q n hc hx) (a.free c ob q n hx) hc hx
  slot := fun c ob q n hc hx => by
    obtain ⟨sl, e1⟩ := a.slot c ob q n hc hx
    obtain ⟨sl', e2⟩ := b.slot c _ e1 (a.free c ob q n hx) hc hx
    exact ⟨sl', e2⟩
  free := fun c ob q n hx => by
    obtain ⟨o', e1⟩ := a.there c ob q hx
    exact b.free c o' e1 (a.free c ob q n hx) hx
  there := fun c ob q hx => by
    obtain ⟨o', e1⟩ := a.there c ob q hx
    exact b.there c o' e1 hx
  tups := fun c xs q => b.tups c xs (a.tups c xs q)
  frzs := fun c ob xs q => b.frzs c ob xs (a.frzs c ob xs q)
  tbls := fun c ps q => by
    obtain ⟨m1, e1⟩ := a.tbls c ps q
    obtain ⟨m2, e2⟩ := b.tbls c _ e1
    exact ⟨m1 ++ m2, by rw [e2, Array.append_assoc]⟩
theorem Un.kept (k : ∀ b u, h.get? b = some u → h'.get? b = some u) : Un fs ex H H h h' :=
  ⟨fun b ob q _ _ _ => k b ob q, fun b ob q _ _ _ => ⟨ob.slots, k b ob q⟩, fun _ _ _ n _ => n, fun b ob q _ => ⟨ob, k b ob q⟩, fun _ _ q => q, fun _ _ _ q => q, fun _ ps q => ⟨#[], by rw [q]; simp⟩⟩
theorem Un.refl : Un fs ex H H h h := Un.kept fun _ _ q => q
theorem Un.laid (k : ∀ b u, h.get? b = some u → h'.get? b = some u) (hp : h.objs.size ≤ a) (hn : H a = none) : Un fs ex H (upd H a o) h h' where
  keep := fun b u q _ _ _ => k b u q
  slot := fun b u q _ _ _ => ⟨u.slots, k b u q⟩
  free := fun b u q n _ => by rw [upd_ne (Nat.ne_of_lt (Nat.lt_of_lt_of_le (Heap.lt_size q) hp))]; exact n
  there := fun b u q _ => ⟨u, k b u q⟩
  tups := fun b xs q => by rw [upd_ne (ne_of_none q hn)]; exact q
  frzs := fun b u xs q => by rw [upd_ne (ne_of_none q hn)]; exact q
  tbls := fun b ps q => ⟨#[], by rw [upd_ne (ne_of_none q hn), q]; simp⟩
theorem Un.write (mu : Mut (H x)) (he : e = x ∨ H e = some (.own x)) (k : ∀ b u, b ≠ e → h.get? b = some u → h'.get? b = some u) (heo : ∃ u, h'.get? e = some u) : Un fs ex H (upd H x o) h h' := by
  have hx : ∀ b, H b = none → b ≠ x := fun b n z => by subst z; rw [n] at mu; exact mu
  have hb : ∀ b, H b = none → b ≠ e := fun b n z => by
    subst z
    rcases he with r | r
    · exact hx b n r
    · rw [n] at r; cases r
  have hm : ∀ b u, H b = some u → ¬ Mut (some u) → b ≠ x := fun b u q nm z => by subst z; rw [q] at mu; exact nm mu
  refine ⟨fun b u q n _ _ => k b u (hb b n) q, fun b u q n _ _ => ⟨u.slots, k b u (hb b n) q⟩, fun b u q n _ => by rw [upd_ne (hx b n)]; exact n, fun b u q _ => ?_,
    fun b xs q => by rw [upd_ne (hm b _ q fun z => z)]; exact q, fun b u xs q => by rw [upd_ne (hm b _ q fun z => z)]; exact q, fun b ps q => ⟨#[], by rw [upd_ne (hm b _ q fun z => z), q]; simp⟩⟩
  by_cases hbe : b = e
  · subst hbe; exact heo
  · exact ⟨u, k b u hbe q⟩
theorem Un.mono (u : Un fs ex H H1 h h1) (hs : ∀ b ∈ fs, b ∈ fs') (hx : ∀ b ∈ ex, b ∈ ex') : Un fs' ex' H H1 h h1 :=
  ⟨fun b ob q n hb he => u.keep b ob q n (fun z => hb (hs b z)) fun z => he (hx b z), fun _ _ q n _ he => u.any q n fun z => he (hx _ z), fun b ob q n he => u.free b ob q n fun z => he (hx b z), fun b ob q he => u.there b ob q fun z => he (hx b z), u.tups, u.frzs, u.tbls⟩
end
noncomputable def trk (h : Heap) (H : Hp) : List Addr := (List.range h.objs.size).filter fun a => (H a).isSome
noncomputable def hidT (h : Heap) (H : Hp) : Heap := PySem.W.hideAll h (trk h H)
theorem hidT_size (h : Heap) (H : Hp) : (hidT h H).objs.size = h.objs.size := PySem.W.hideAll_size _ _
theorem hidT_get {h : Heap} {H : Hp} {b : Addr} {o : Obj} (e : h.get? b = some o) (n : H b = none) : (hidT h H).get? b = some o :=
  PySem.W.hideAll_get _ e fun hm => by
    have q : (H b).isSome = true := (List.mem_filter.mp hm).2
    rw [n] at q; simp at q
theorem of_hidT {h : Heap} {H : Hp} {b : Addr} {o : Obj} (e : (hidT h H).get? b = some o) : h.get? b = some o ∧ H b = none := by
  have e' : h.get? b = some o := PySem.W.of_hideAll (trk h H) e
  refine ⟨e', ?_⟩
  cases q : H b with
  | none => rfl
  | some x =>
    have hm : b ∈ trk h H := List.mem_filter.mpr ⟨List.mem_range.mpr (Heap.lt_size e'), by simp [q]⟩
    have z : (hidT h H).get? b = none := PySem.W.hideAll_none (trk h H) hm
    rw [z] at e; cases e
noncomputable def allNews (g h : Heap) (L : Addr) : List (Addr × Obj) := (List.range h.objs.size).filterMap fun a => if a = L ∨ (g.get? a).isSome = true then none else (h.get? a).map fun o => (a, o)
theorem mem_allNews {g h : Heap} {L a : Addr} {o : Obj} (h1 : a ≠ L) (h2 : g.get? a = none) (h3 : h.get? a = some o) : (a, o) ∈ allNews g h L :=
  List.mem_filterMap.mpr ⟨a, List.mem_range.mpr (Heap.lt_size h3), by simp [h1, h2, h3]⟩
theorem of_mem_allNews {g h : Heap} {L : Addr} {p : Addr × Obj} (hp : p ∈ allNews g h L) : p.1 ≠ L ∧ g.get? p.1 = none ∧ h.get? p.1 = some p.2 := by
  obtain ⟨b, _, e⟩ := List.mem_filterMap.mp hp
  split at e
  · cases e
  · rename_i hn
    cases q : h.get? b with
    | none => rw [q] at e; simp at e
    | some u =>
      rw [q] at e
      simp only [Option.map_some, Option.some.injEq] at e
      subst e
      refine ⟨fun z => hn (.inl z), ?_, q⟩
      show g.get? b = none
      cases r : g.get? b with
      | none => rfl
      | some v => exact (hn (.inr (by simp [r]))).elim
theorem news_all {g h : Heap} {L : Addr} : News g L h (allNews g h L) := fun p hp => let ⟨a, b, c⟩ := of_mem_allNews hp; ⟨c, a, b⟩
noncomputable def rest (g h : Heap) (L d : Addr) : List (Addr × Obj) := (allNews g h L).filter fun p => decide (p.1 ≠ d)
end L2
namespace L2
open PySem PySem.Spec PyProof.Rows
structure Mod (K : PySem.W.Frag) (mg : Str → Option Value) (base : Heap) : Prop where
  kin : K.In base
  glob : base.Ns mainGlobals mg
  blt : ∃ mb, base.Ns builtinsNs mb ∧ ∀ x : Str, x ≠ "__name__" → mb x = bootBuiltins x
  nolimit : base.NoLimit
structure Cx where
  prog : Program
  w : World
  K : PySem.W.Frag
  mg : Str → Option Value
  base : Heap
  A : Around
  N : List Str
  s₀ : Shared
  H₀ : Hp
  env : Env
  outer : List Env
  stack : List Env
  ex : List Addr
  fn : Str → Bool
  calm : Bool
  pn : List (Addr × Obj)
  xe : Value → Shared → Prop
noncomputable def frs (l : List Env) : List Addr := l.filterMap (·.frame)
noncomputable abbrev Cx.fs (X : Cx) : List Addr := frs X.outer
noncomputable def Vis (sc : Scope) (x : Str) : Prop := sc.names.lookup x = some .local ∨ sc.names.lookup x = some .cell ∨ sc.names.lookup x = some .free
noncomputable def Loc (sc : Scope) (x : Str) : Prop := sc.names.lookup x = some .local ∨ sc.names.lookup x = some .cell
noncomputable def Look (env : Env) (h : Heap) (m : Str → Option Value) (x : Str) (u : Value) : Prop :=
  (env.kindOf x = some .local ∧ m x = some u) ∨ ((env.kindOf x = some .cell ∨ env.kindOf x = some .free) ∧ ∃ c, env.cells.lookup x = some c ∧ h.IsCell c (some u))
structure Cx.Ok (X : Cx) : Prop where
  mod : Mod X.K X.mg X.base
  kind : X.env.scope.kind = .function
  glob : X.env.globals = mainGlobals
  blt : X.env.builtins = builtinsNs
  above : X.s₀.heap.objs.size ≤ X.env.locals
  inj : ∀ x y c, X.env.cells.lookup x = some c → X.env.cells.lookup y = some c → x = y
  has : ∀ x, (X.env.kindOf x = some .cell ∨ X.env.kindOf x = some .free) → ∃ c, X.env.cells.lookup x = some c
  cab : ∀ x c, X.fn x = true → X.env.cells.lookup x = some c → X.s₀.heap.objs.size ≤ c
  hd : X.calm = true → X.A.handled = none
  frames : X.A.frames = some X.stack
  stk : X.stack = X.outer ∨ (X.stack = X.env :: X.outer ∧ X.env.frame = some X.env.locals)
  exf : ∀ b ∈ X.ex, b ≠ X.env.locals ∧ ∀ x c, X.env.cells.lookup x = some c → c ≠ b
  bs : ∀ b o, X.base.get? b = some o → X.s₀.heap.get? b = some o ∧ X.H₀ b = none
  bsz : X.base.objs.size ≤ X.s₀.heap.objs.size
  noex : ∀ b o, X.base.get? b = some o → b ∉ X.ex
  exfs : ∀ b ∈ X.ex, b ∉ X.fs
  funs : X.s₀.heap.FunFrames X.base X.outer
  frf : ∀ b ∈ X.fs, X.H₀ b = none
structure Inv (X : Cx) (pins : List (Addr × Obj)) (σ : List (Option V)) (H : Hp) (s : Shared) : Prop where
  ok : X.Ok
  os : s.os = X.s₀.os
  bare : AllBare s.gens
  base : Un X.fs X.ex X.H₀ H X.s₀.heap s.heap
  loc : ∃ m, s.heap.Ns X.env.locals m ∧ ∀ (i : Nat) (x : Str) (v : V), X.N[i]? = some x → σ[i]? = some (some v) → Vis X.env.scope x → ∃ u, RelV v u ∧ Look X.env s.heap m x u
  cell : ∀ x c, X.env.cells.lookup x = some c → ∃ v, s.heap.IsCell c v
  free : H X.env.locals = none
  freeC : ∀ x c, X.env.cells.lookup x = some c → H c = none
  pin : ∀ p ∈ X.pn ++ pins, s.heap.get? p.1 = some p.2 ∧ H p.1 = none ∧ p.1 ≠ X.env.locals ∧ p.1 ∉ X.fs ∧ ∀ v, p.2.data ≠ .cell v
  hok : HOk X.prog X.w H s.heap
  len : σ.length = X.N.length
section
variable {X : Cx} {pins : List (Addr × Obj)} {σ : List (Option V)} {H H' : Hp} {s : Shared} {h' : Heap}
theorem Cx.Ok.nofr (ok : X.Ok) {b : Addr} {o : Obj} (e : X.base.get? b = some o) : b ∉ X.fs := fun hb => by
  have := (ok.funs.mem hb).1
  rw [e] at this; cases this
theorem Inv.bs (I : Inv X pins σ H s) : ∀ b o, X.base.get? b = some o → s.heap.get? b = some o ∧ H b = none := fun b o e =>
  ⟨I.base.keep b o (I.ok.bs b o e).1 (I.ok.bs b o e).2 (I.ok.nofr e) (I.ok.noex b o e), I.base.free b o (I.ok.bs b o e).1 (I.ok.bs b o e).2 (I.ok.noex b o e)⟩
theorem Inv.bk (I : Inv X pins σ H s) : ∀ b o, X.base.get? b = some o → s.heap.get? b = some o := fun b o e => (I.bs b o e).1
theorem Inv.mod (I : Inv X pins σ H s) : Mod X.K X.mg X.base := I.ok.mod
theorem Inv.kIn (I : Inv X pins σ H s) : X.K.In s.heap := I.ok.mod.kin.keeps I.bk
theorem Inv.nolimit (I : Inv X pins σ H s) : s.heap.NoLimit := I.ok.mod.nolimit.keeps I.bk
theorem Inv.fr (I : Inv X pins σ H s) : ∃ m, Fr X.base X.env.locals s.heap m :=
  let ⟨m, hn, _⟩ := I.loc
  ⟨m, hn, I.bk, Nat.le_trans I.ok.bsz I.ok.above⟩
theorem Inv.lt (I : Inv X pins σ H s) : X.env.locals < s.heap.objs.size := let ⟨_, hn, _⟩ := I.loc; hn.lt
theorem Inv.sz (I : Inv X pins σ H s) : X.s₀.heap.objs.size ≤ s.heap.objs.size := Nat.le_trans I.ok.above (Nat.le_of_lt I.lt)
theorem Inv.nofs (I : Inv X pins σ H s) {a : Addr} (h : s.heap.objs.size ≤ a) : a ∉ X.fs := fun hb => by
  obtain ⟨_, o, ho, _⟩ := I.ok.funs.mem hb
  exact absurd (Nat.lt_of_lt_of_le (Heap.lt_size ho) (Nat.le_trans I.sz h)) (Nat.lt_irrefl _)
theorem Inv.cne (I : Inv X pins σ H s) : ∀ x c, X.env.cells.lookup x = some c → c ≠ X.env.locals := fun x c e z => by
  obtain ⟨v, o, ho, hd⟩ := I.cell x c e
  obtain ⟨m, ⟨o', es, ep, ho', hd', _⟩, _⟩ := I.loc
  rw [z, ho'] at ho; cases ho; rw [hd'] at hd; cases hd
theorem Inv.funs (I : Inv X pins σ H s) : s.heap.FunFrames X.base X.outer := by
  have all : ∀ (l : List Env), (∀ b ∈ frs l, b ∈ X.fs) → X.s₀.heap.FunFrames X.base l → s.heap.FunFrames X.base l := by
    intro l
    induction l with
    | nil => intro _ _; trivial
    | cons env r ih =>
      intro hs hl
      obtain ⟨hk, ⟨L, o, hf, hn, ho, hd⟩, hr⟩ := hl
      have hL : L ∈ X.fs := hs L (by unfold frs; rw [List.filterMap_cons, hf]; exact List.mem_cons_self)
      obtain ⟨sl, e⟩ := I.base.slot L o ho (I.ok.frf L hL) hL fun z => I.ok.exfs L z hL
      exact ⟨hk, ⟨L, _, hf, hn, e, hd⟩, ih (fun b hb => hs b (by unfold frs; rw [List.filterMap_cons, hf]; exact List.mem_cons_of_mem _ hb)) hr⟩
  exact all X.outer (fun _ hb => hb) I.ok.funs
theorem Inv.stack (I : Inv X pins σ H s) : s.heap.FunFrames X.base X.stack := by
  rcases I.ok.stk with e | ⟨e, hf⟩
  · rw [e]; exact I.funs
  · rw [e]
    obtain ⟨m, hn, _⟩ := I.loc
    refine .cons (by rw [I.ok.kind]; decide) hf hn ?_ I.funs
    exact Heap.get?_none_of_le (Nat.le_trans I.ok.bsz I.ok.above)
theorem Inv.stkSub (I : Inv X pins σ H s) : ∀ b ∈ frs X.stack, b ∈ X.env.locals :: X.fs := fun b hb => by
  rcases I.ok.stk with e | ⟨e, hf⟩
  · rw [e] at hb; exact List.mem_cons_of_mem _ hb
  · rw [e] at hb
    unfold frs at hb
    rw [List.filterMap_cons, hf] at hb
    exact hb
theorem Inv.stkFree (I : Inv X pins σ H s) : ∀ b ∈ frs X.stack, H b = none := fun b hb => by
  rcases List.mem_cons.mp (I.stkSub b hb) with e | hb
  · rw [e]; exact I.free
  · obtain ⟨_, o, ho, _⟩ := I.ok.funs.mem hb
    exact I.base.free b o ho (I.ok.frf b hb) fun z => I.ok.exfs b z hb
theorem Inv.step {g' : Array GenState} {t' : Nat} {d' : Drawn} {ch : List Addr} (I : Inv X pins σ H s)
    (hch : ∀ b ∈ ch, (b ∈ X.ex ∨ X.s₀.heap.objs.size ≤ b) ∧ b ≠ X.env.locals ∧ (∀ x c, X.env.cells.lookup x = some c → c ≠ b) ∧ ∀ p ∈ X.pn ++ pins, p.1 ≠ b)
    (keep : ∀ b o, b ≠ X.env.locals → b ∉ X.fs → b ∉ ch → s.heap.get? b = some o → H b = none → h'.get? b = some o)
    (slot : ∀ b o, b ≠ X.env.locals → b ∈ X.fs → b ∉ ch → s.heap.get? b = some o → H b = none → ∃ sl, h'.get? b = some { o with slots := sl }) (free : ∀ b o, b ∉ ch → s.heap.get? b = some o → H b = none → H' b = none)
    (there : ∀ b o, b ∉ ch → s.heap.get? b = some o → ∃ o', h'.get? b = some o')
    (tups : ∀ b xs, H b = some (.tup xs) → H' b = some (.tup xs)) (frzs : ∀ b o u, H b = some (.frz o u) → H' b = some (.frz o u)) (tbls : ∀ b ps, H b = some (.tbl ps) → ∃ more, H' b = some (.tbl (ps ++ more)))
    (ns : ∀ m, s.heap.Ns X.env.locals m → h'.Ns X.env.locals m) (hok : HOk X.prog X.w H' h') (hg : AllBare g') :
    Inv X pins σ H' { s with heap := h', gens := g', drawn := d', toks := t' } := by
  have neL : ∀ b o, X.s₀.heap.get? b = some o → b ≠ X.env.locals := fun b o e => Nat.ne_of_lt (Nat.lt_of_lt_of_le (Heap.lt_size e) I.ok.above)
  have neC : ∀ b o, X.s₀.heap.get? b = some o → b ∉ X.ex → b ∉ ch := fun b o e hx hb => by
    rcases (hch b hb).1 with z | z
    · exact hx z
    · exact absurd (Nat.lt_of_lt_of_le (Heap.lt_size e) z) (Nat.lt_irrefl _)
  have cellK : ∀ x c, X.env.cells.lookup x = some c → ∀ v, s.heap.IsCell c v → h'.IsCell c v := fun x c e v ⟨o, ho, hd⟩ => by
    have nch : c ∉ ch := fun z => (hch c z).2.2.1 x c e rfl
    by_cases hc : c ∈ X.fs
    · obtain ⟨sl, q⟩ := slot c o (I.cne x c e) hc nch ho (I.freeC x c e)
      exact ⟨_, q, hd⟩
    · exact ⟨o, keep c o (I.cne x c e) hc nch ho (I.freeC x c e), hd⟩
  refine ⟨I.ok, I.os, hg, ⟨fun b o e n hb hx => ?_, fun b o e n hb hx => ?_, fun b o e n hx => ?_, fun b o e hx => ?_, fun b xs e => tups b xs (I.base.tups b xs e), fun b o xs e => frzs b o xs (I.base.frzs b o xs e), fun b ps e => ?_⟩, ?_, fun x c e => ?_, ?_, fun x c e => ?_, fun p hp => ?_, hok, I.len⟩
  · exact keep b o (neL b o e) hb (neC b o e hx) (I.base.keep b o e n hb hx) (I.base.free b o e n hx)
  · obtain ⟨sl, e1⟩ := I.base.slot b o e n hb hx
    obtain ⟨sl', e2⟩ := slot b _ (neL b o e) hb (neC b o e hx) e1 (I.base.free b o e n hx)
    exact ⟨sl', e2⟩
  · obtain ⟨o', e1⟩ := I.base.there b o e hx
    exact free b o' (neC b o e hx) e1 (I.base.free b o e n hx)
  · obtain ⟨o', e1⟩ := I.base.there b o e hx
    exact there b o' (neC b o e hx) e1
  · obtain ⟨m1, e1⟩ := I.base.tbls b ps e
    obtain ⟨m2, e2⟩ := tbls b _ e1
    exact ⟨m1 ++ m2, by rw [e2, Array.append_assoc]⟩
  · obtain ⟨m, hn, hl⟩ := I.loc
    refine ⟨m, ns m hn, fun i x v e1 e2 e3 => ?_⟩
    obtain ⟨u, r, l⟩ := hl i x v e1 e2 e3
    refine ⟨u, r, ?_⟩
    rcases l with l | ⟨k, c, e, z⟩
    · exact .inl l
    · exact .inr ⟨k, c, e, cellK x c e _ z⟩
  · obtain ⟨v, z⟩ := I.cell x c e
    exact ⟨v, cellK x c e v z⟩
  · obtain ⟨m, ⟨o, _, _, ho, _⟩, _⟩ := I.loc
    exact free _ o (fun z => (hch _ z).2.1 rfl) ho I.free
  · obtain ⟨v, o, ho, hd⟩ := I.cell x c e
    exact free c o (fun z => (hch c z).2.2.1 x c e rfl) ho (I.freeC x c e)
  · obtain ⟨e, n, ne, nf, d⟩ := I.pin p hp
    have nch : p.1 ∉ ch := fun z => (hch p.1 z).2.2.2 p hp rfl
    exact ⟨keep p.1 p.2 ne nf nch e n, free p.1 p.2 nch e n, ne, nf, d⟩
theorem Inv.un {t' : Nat} (I : Inv X pins σ H s) (u : Un X.fs [] H H' s.heap h') (hok : HOk X.prog X.w H' h') : Inv X pins σ H' { s with heap := h', toks := t' } := by
  obtain ⟨m, ⟨o, es, ep, ho, r⟩, _⟩ := id I.loc
  obtain ⟨sl, hL⟩ := u.any ho I.free (by simp)
  exact I.step (g' := s.gens) (d' := s.drawn) (ch := []) (fun _ z => nomatch z) (fun b o _ hb _ e n => u.keep b o e n hb (by simp)) (fun b o _ hb _ e n => u.slot b o e n hb (by simp)) (fun b o _ e n => u.free b o e n (by simp)) (fun b o _ e => u.there b o e (by simp)) u.tups u.frzs u.tbls (fun m' hm => by
    obtain ⟨o', es', ep', ho', r'⟩ := hm
    rw [ho] at ho'; cases ho'
    exact ⟨_, es', ep', hL, r'⟩) hok I.bare
theorem Inv.call {g' : Array GenState} {t' : Nat} {d' : Drawn} {ch : List Addr} (I : Inv X pins σ H s) (u : Un (frs X.stack) ch H H' s.heap h') (hok : HOk X.prog X.w H' h') (hg : AllBare g')
    (hch : ∀ b ∈ ch, (b ∈ X.ex ∨ X.s₀.heap.objs.size ≤ b) ∧ b ≠ X.env.locals ∧ (∀ x c, X.env.cells.lookup x = some c → c ≠ b) ∧ ∀ p ∈ X.pn ++ pins, p.1 ≠ b) :
    Inv X pins σ H' { s with heap := h', gens := g', drawn := d', toks := t' } := by
  obtain ⟨m, ⟨o, es, ep, ho, r⟩, _⟩ := id I.loc
  obtain ⟨sl, hL⟩ := u.any ho I.free fun z => (hch _ z).2.1 rfl
  exact I.step (ch := ch) hch (fun b o hL hb hc e n => u.keep b o e n (fun z => (List.mem_cons.mp (I.stkSub b z)).elim hL hb) hc) (fun b o _ _ hc e n => u.any e n hc) (fun b o hc e n => u.free b o e n hc) (fun b o hc e => u.there b o e hc) u.tups u.frzs u.tbls (fun m' hm => by
    obtain ⟨o', es', ep', ho', r'⟩ := hm
    rw [ho] at ho'; cases ho'
    exact ⟨_, es', ep', hL, r'⟩) hok hg
theorem Inv.turned {t' : Nat} {it : Addr} (I : Inv X pins σ H s) (k : ∀ b o, b ≠ it → s.heap.get? b = some o → h'.get? b = some o) (hn : H it = none) (hL : it ≠ X.env.locals)
    (h1 : it ∈ X.ex ∨ X.s₀.heap.objs.size ≤ it) (h2 : ∀ x c, X.env.cells.lookup x = some c → c ≠ it) (h3 : ∀ p ∈ X.pn ++ pins, p.1 ≠ it) : Inv X pins σ H { s with heap := h', toks := t' } := by
  have nit : ∀ b u, H b = some u → b ≠ it := fun b u e z => by rw [z, hn] at e; cases e
  refine I.step (g' := s.gens) (d' := s.drawn) (ch := [it]) (fun b hb => ?_) (fun b o _ _ hc e _ => k b o (fun z => hc (by simp [z])) e) (fun b o _ _ hc e _ => ⟨o.slots, k b o (fun z => hc (by simp [z])) e⟩) (fun _ _ _ _ n => n)
    (fun b o hc e => ⟨o, k b o (fun z => hc (by simp [z])) e⟩) (fun _ _ e => e) (fun _ _ _ e => e) (fun b ps e => ⟨#[], by rw [e]; simp⟩) (fun m hm => ?_) (fun b u e => ?_) I.bare
  · have e : b = it := by simpa using hb
    subst e
    exact ⟨h1, hL, h2, h3⟩
  · obtain ⟨o, es, ep, ho, r⟩ := hm
    exact ⟨o, es, ep, k _ o (Ne.symm hL) ho, r⟩
  · refine (I.hok b u e).stay (fun c v hc q => k c v ?_ q) (fun _ q => q) fun _ _ q => q
    rcases hc with z | z
    · rw [z]; exact nit b u e
    · exact nit c _ z
theorem Inv.tok (I : Inv X pins σ H s) (t : Nat) : Inv X pins σ H { s with toks := t } := I.un (h' := s.heap) (t' := t) Un.refl I.hok
theorem Inv.kept {t' : Nat} (I : Inv X pins σ H s) (k : ∀ b u, s.heap.get? b = some u → h'.get? b = some u) : Inv X pins σ H { s with heap := h', toks := t' } := I.un (Un.kept k) (I.hok.kept k)
theorem Inv.laid {a : Addr} {o : HO} {t' : Nat} (I : Inv X pins σ H s) (k : ∀ b u, s.heap.get? b = some u → h'.get? b = some u) (hp : s.heap.objs.size ≤ a) (new : ObjOk X.prog X.w (upd H a o) h' a o) :
    Inv X pins σ (upd H a o) { s with heap := h', toks := t' } := I.un (Un.laid k hp (I.hok.fresh hp)) (I.hok.laid k hp new)
theorem Inv.write {x e : Addr} {o : HO} {t' : Nat} (I : Inv X pins σ H s) (mu : Mut (H x)) (he : e = x ∨ H e = some (.own x)) (k : ∀ b u, b ≠ e → s.heap.get? b = some u → h'.get? b = some u) (heo : ∃ u, h'.get? e = some u)
    (new : ObjOk X.prog X.w (upd H x o) h' x o) : Inv X pins σ (upd H x o) { s with heap := h', toks := t' } := I.un (Un.write mu he k heo) (I.hok.write mu he k heo new)
theorem Inv.weak {σ' : List (Option V)} (I : Inv X pins σ H s) (hl : σ'.length = σ.length) (w : ∀ (i : Nat) v, σ'[i]? = some (some v) → σ[i]? = some (some v)) : Inv X pins σ' H s :=
  ⟨I.ok, I.os, I.bare, I.base, let ⟨m, hn, hl'⟩ := I.loc; ⟨m, hn, fun i x v e1 e2 e3 => hl' i x v e1 (w i v e2) e3⟩, I.cell, I.free, I.freeC, I.pin, I.hok, hl.trans I.len⟩
theorem Inv.pins_of {pins' : List (Addr × Obj)} (I : Inv X pins σ H s) (h : ∀ p ∈ pins', s.heap.get? p.1 = some p.2 ∧ H p.1 = none ∧ p.1 ≠ X.env.locals ∧ p.1 ∉ X.fs ∧ ∀ v, p.2.data ≠ .cell v) : Inv X pins' σ H s :=
  ⟨I.ok, I.os, I.bare, I.base, I.loc, I.cell, I.free, I.freeC, fun p hp => (List.mem_append.mp hp).elim (fun z => I.pin p (List.mem_append_left _ z)) (h p), I.hok, I.len⟩
theorem nodup_ix {N : List Str} (hN : N.Nodup) {i j : Nat} {x : Str} (a : N[i]? = some x) (b : N[j]? = some x) : i = j := by
  obtain ⟨h1, e1⟩ := List.getElem?_eq_some_iff.mp a
  obtain ⟨h2, e2⟩ := List.getElem?_eq_some_iff.mp b
  exact (List.getElem_inj hN).mp (e1.trans e2.symm)
theorem store_ok2 {M : Model} {A : Around} {E : Value → Shared → Prop} {i : Nat} {x : Str} {v : V} {u : Value} {Q : Unit → Shared → Prop} (I : Inv X pins σ H s) (hN : X.N.Nodup) (hi : X.N[i]? = some x) (hx : Loc X.env.scope x) (r : RelV v u)
    (h : ∀ s', Inv X pins (σ.set i (some v)) H s' → (∃ a, Heap.SameBut a s.heap s'.heap ∧ (a = X.env.locals ∨ X.env.cells.lookup x = some a)) → Q () s') (hf : X.fn x = true ∨ X.env.scope.names.lookup x = some .local := by first | exact .inl rfl | exact .inr rfl | assumption) : wpAny M A (storeName X.env x u) Q E s := by
  obtain ⟨m, hn, hl⟩ := id I.loc
  have hcls : (X.env.scope.kind == .class || (X.env.scope.kind == .module && X.env.locals != X.env.globals)) = false := by rw [I.ok.kind]; rfl
  have hiσ : i < σ.length := by rw [I.len]; exact (List.getElem?_eq_some_iff.mp hi).1
  have cne := I.cne
  have tracked : ∀ {a : Addr} {h' : Heap}, (∃ o, s.heap.get? a = some o ∧ H a = none) → Heap.SameBut a s.heap h' → HOk X.prog X.w H h' := fun {a h'} ha hs b ob e => by
    obtain ⟨_, _, hfree⟩ := ha
    refine (I.hok b ob e).stay (fun c w' hc q => (hs.2 c ?_).trans q) (fun _ q => q) fun _ _ q => q
    rintro rfl
    rcases hc with rfl | hc
    · rw [hfree] at e; cases e
    · rw [hfree] at hc; cases hc
  rcases hx with hk | hk
  · refine wpAny_storeName_local hk hn (fun h' hn' hs => ?_) hcls
    obtain ⟨oL, _, _, hoL, _⟩ := id hn
    refine h _ ⟨I.ok, I.os, I.bare, ⟨fun b o e n hb hx => ?_, fun b o e n hb hx => ?_, I.base.free, fun b o e hx => ?_, I.base.tups, I.base.frzs, I.base.tbls⟩, ⟨_, hn', fun j y v' e1 e2 e3 => ?_⟩, fun y c e => ?_, I.free, I.freeC, fun p hp => ?_, tracked ⟨oL, hoL, I.free⟩ hs, by simpa using I.len⟩ ⟨_, hs, .inl rfl⟩
    · exact (hs.2 b (Nat.ne_of_lt (Nat.lt_of_lt_of_le (Heap.lt_size e) I.ok.above))).trans (I.base.keep b o e n hb hx)
    · obtain ⟨sl, e1⟩ := I.base.slot b o e n hb hx
      exact ⟨sl, (hs.2 b (Nat.ne_of_lt (Nat.lt_of_lt_of_le (Heap.lt_size e) I.ok.above))).trans e1⟩
    · obtain ⟨o', e1⟩ := I.base.there b o e hx
      exact ⟨o', (hs.2 b (Nat.ne_of_lt (Nat.lt_of_lt_of_le (Heap.lt_size e) I.ok.above))).trans e1⟩
    · by_cases hj : j = i
      · subst hj
        rw [hi] at e1; cases e1
        rw [List.getElem?_set_self hiσ] at e2
        cases e2
        exact ⟨u, r, .inl ⟨hk, by simp⟩⟩
      · rw [List.getElem?_set_ne (Ne.symm hj)] at e2
        obtain ⟨u', r', q⟩ := hl j y v' e1 e2 e3
        refine ⟨u', r', ?_⟩
        rcases q with ⟨k, e⟩ | ⟨k, c, e, z⟩
        · refine .inl ⟨k, ?_⟩
          have : y ≠ x := fun e => hj (nodup_ix hN e1 (e ▸ hi))
          simp [this, e]
        · exact .inr ⟨k, c, e, z.sameBut hs (cne y c e)⟩
    · obtain ⟨w', z⟩ := I.cell y c e
      exact ⟨w', z.sameBut hs (cne y c e)⟩
    · obtain ⟨e, n, ne, nf, d⟩ := I.pin p hp
      exact ⟨(hs.2 p.1 ne).trans e, n, ne, nf, d⟩
  · have hfn : X.fn x = true := by
      rcases hf with z | z
      · exact z
      · rw [z] at hk; cases hk
    obtain ⟨c, hc⟩ := I.ok.has x (.inl hk)
    obtain ⟨w', z⟩ := I.cell x c hc
    refine wpAny_storeName_cell I.ok.kind hk hc z (fun h' hc' hs => ?_)
    obtain ⟨oc, hoc, hocd⟩ := id z
    refine h { s with heap := h' } ⟨I.ok, I.os, I.bare, ⟨fun b o e n hb hx => ?_, fun b o e n hb hx => ?_, I.base.free, fun b o e hx => ?_, I.base.tups, I.base.frzs, I.base.tbls⟩, ⟨m, hn.sameBut hs (Ne.symm (cne x c hc)), fun j y v' e1 e2 e3 => ?_⟩, fun y c' e => ?_, I.free, I.freeC, fun p hp => ?_, tracked ⟨oc, hoc, I.freeC x c hc⟩ hs, by simpa using I.len⟩ ⟨c, hs, .inr hc⟩
    · exact (hs.2 b (Nat.ne_of_lt (Nat.lt_of_lt_of_le (Heap.lt_size e) (I.ok.cab x c hfn hc)))).trans (I.base.keep b o e n hb hx)
    · obtain ⟨sl, e1⟩ := I.base.slot b o e n hb hx
      exact ⟨sl, (hs.2 b (Nat.ne_of_lt (Nat.lt_of_lt_of_le (Heap.lt_size e) (I.ok.cab x c hfn hc)))).trans e1⟩
    · obtain ⟨o', e1⟩ := I.base.there b o e hx
      exact ⟨o', (hs.2 b (Nat.ne_of_lt (Nat.lt_of_lt_of_le (Heap.lt_size e) (I.ok.cab x c hfn hc)))).trans e1⟩
    · by_cases hj : j = i
      · subst hj
        rw [hi] at e1; cases e1
        rw [List.getElem?_set_self hiσ] at e2
        cases e2
        exact ⟨u, r, .inr ⟨.inl hk, c, hc, hc'⟩⟩
      · rw [List.getElem?_set_ne (Ne.symm hj)] at e2
        obtain ⟨u', r', q⟩ := hl j y v' e1 e2 e3
        refine ⟨u', r', ?_⟩
        rcases q with q | ⟨k, c', e, z'⟩
        · exact .inl q
        · refine .inr ⟨k, c', e, z'.sameBut hs ?_⟩
          rintro rfl
          exact hj (nodup_ix hN e1 (I.ok.inj _ _ _ e hc ▸ hi))
    · by_cases hcc : c' = c
      · subst hcc; exact ⟨_, hc'⟩
      · obtain ⟨w2, z2⟩ := I.cell y c' e
        exact ⟨w2, z2.sameBut hs hcc⟩
    · obtain ⟨e, n, ne, nf, d⟩ := I.pin p hp
      refine ⟨(hs.2 p.1 ?_).trans e, n, ne, nf, d⟩
      intro q
      rw [q, hoc] at e
      have q' : oc = p.2 := Option.some.inj e
      exact d w' (by rw [← q']; exact hocd)
theorem store_ok {M : Model} {A : Around} {E : Value → Shared → Prop} {i : Nat} {x : Str} {v : V} {u : Value} {Q : Unit → Shared → Prop} (I : Inv X pins σ H s) (hN : X.N.Nodup) (hi : X.N[i]? = some x) (hx : Loc X.env.scope x) (r : RelV v u)
    (h : ∀ s', Inv X pins (σ.set i (some v)) H s' → Q () s') (hf : X.fn x = true ∨ X.env.scope.names.lookup x = some .local := by first | exact .inl rfl | exact .inr rfl | assumption) : wpAny M A (storeName X.env x u) Q E s :=
  store_ok2 I hN hi hx r (fun s' I' _ => h s' I') hf
theorem Inv.call' {s' : Shared} {ch : List Addr} (I : Inv X pins σ H s) (ho : s'.os = s.os) (u : Un (frs X.stack) ch H H' s.heap s'.heap) (hok : HOk X.prog X.w H' s'.heap) (hg : AllBare s'.gens)
    (hch : ∀ b ∈ ch, (b ∈ X.ex ∨ X.s₀.heap.objs.size ≤ b) ∧ b ≠ X.env.locals ∧ (∀ x c, X.env.cells.lookup x = some c → c ≠ b) ∧ ∀ p ∈ X.pn ++ pins, p.1 ≠ b) : Inv X pins σ H' s' := by
  obtain ⟨h', g', d', t', o'⟩ := s'
  have e : o' = s.os := ho
  subst e
  exact I.call (g' := g') (t' := t') (d' := d') u hok hg hch
end
noncomputable abbrev XK := Value → Option Addr → Hp → Prop
noncomputable abbrev St := List (Option V)
noncomputable abbrev VK := V → Hp → Prop
noncomputable abbrev TE := St → Hp → VK → Prop
noncomputable abbrev TT := St → Hp → (Bool → Hp → Prop) → Prop
noncomputable abbrev TA := St → Hp → (List V → Hp → Prop) → Prop
structure Ends where
  nx : St → Hp → Prop
  rt : VK
  bk : St → Hp → Prop := fun _ _ => False
  ct : St → Hp → Prop := fun _ _ => False
noncomputable abbrev TS := Ends → St → Hp → Prop
noncomputable def EP (X : Cx) (pins : List (Addr × Obj)) (σ : St) (Q : VK) (u : Value) (s' : Shared) : Prop := ∃ v H', Inv X pins σ H' s' ∧ RelV v u ∧ Q v H'
noncomputable def TP (X : Cx) (pins : List (Addr × Obj)) (σ : St) (Q : Bool → Hp → Prop) (b : Bool) (s' : Shared) : Prop := ∃ H', Inv X pins σ H' s' ∧ Q b H'
noncomputable def AP (X : Cx) (pins : List (Addr × Obj)) (σ : St) (Q : List V → Hp → Prop) (us : List Value) (s' : Shared) : Prop := ∃ vs H', Inv X pins σ H' s' ∧ Vals vs us ∧ Q vs H'
noncomputable def SP (X : Cx) (pins : List (Addr × Obj)) (D : Ends) (f : Flow) (s' : Shared) : Prop :=
  match f with
  | .next => ∃ σ' H', Inv X pins σ' H' s' ∧ D.nx σ' H'
  | .brk => ∃ σ' H', Inv X pins σ' H' s' ∧ D.bk σ' H'
  | .cont => ∃ σ' H', Inv X pins σ' H' s' ∧ D.ct σ' H'
  | .ret u => ∃ v σ' H', Inv X pins σ' H' s' ∧ RelV v u ∧ D.rt v H'
noncomputable def PE (X : Cx) (e : Expr) (t : TE) : Prop :=
  ∀ (pins : List (Addr × Obj)) (s : Shared) (σ : St) (H : Hp) (Q : VK), Inv X pins σ H s → t σ H Q → wpAny (model X.prog X.w) X.A (eval e X.env) (EP X pins σ Q) X.xe s
noncomputable def PT (X : Cx) (e : Expr) (t : TT) : Prop :=
  ∀ (pins : List (Addr × Obj)) (s : Shared) (σ : St) (H : Hp) (Q : Bool → Hp → Prop), Inv X pins σ H s → t σ H Q → wpAny (model X.prog X.w) X.A (isTrue e X.env (eval e X.env)) (TP X pins σ Q) X.xe s
noncomputable def PW (X : Cx) (e : Expr) (t : TT) : Prop :=
  ∀ (whole : Sem Value) (pins : List (Addr × Obj)) (s : Shared) (σ : St) (H : Hp) (Q : Bool → Hp → Prop), Inv X pins σ H s → t σ H Q → wpAny (model X.prog X.w) X.A (isTrue e X.env whole) (TP X pins σ Q) X.xe s
theorem PW.pt {X : Cx} {e : Expr} {t : TT} (h : PW X e t) : PT X e t := h _
noncomputable def PA (X : Cx) (es : List Expr) (t : TA) : Prop :=
  ∀ (pos : Pos) (pins : List (Addr × Obj)) (s : Shared) (σ : St) (H : Hp) (Q : List V → Hp → Prop), Inv X pins σ H s → t σ H Q → wpAny (model X.prog X.w) X.A (spliced (backTo pos (starEach es X.env))) (AP X pins σ Q) X.xe s
noncomputable def PS (X : Cx) (st : Stmt) (t : TS) : Prop :=
  ∀ (pins : List (Addr × Obj)) (s : Shared) (σ : St) (H : Hp) (D : Ends), Inv X pins σ H s → t D σ H → wpAny (model X.prog X.w) X.A (exec st X.env) (SP X pins D) X.xe s
noncomputable def PSs (X : Cx) (st : List Stmt) (t : TS) : Prop :=
  ∀ (pins : List (Addr × Obj)) (s : Shared) (σ : St) (H : Hp) (D : Ends), Inv X pins σ H s → t D σ H → wpAny (model X.prog X.w) X.A (execs st X.env) (SP X pins D) X.xe s
theorem thn {α : Type} {t : Sem α} {Q Q' : α → Shared → Prop} {M : Model} {A : Around} {E : Value → Shared → Prop} {s : Shared} (h : wpAny M A t Q E s) (hQ : ∀ a s, Q a s → Q' a s) : wpAny M A t Q' E s := wpAny_mono h hQ fun _ _ x => x
end L2
namespace L2
open PySem PySem.Spec PyProof.Rows
section
variable {X : Cx}
noncomputable def tVar (i : Nat) : TE := fun σ H Q => ∃ v, σ[i]? = some (some v) ∧ Q v H
noncomputable def tC (v : V) : TE := fun _ H Q => Q v H
theorem pe_var {i : Nat} {x : Str} {pos : Pos} (hN : X.N[i]? = some x) (hv : Vis X.env.scope x) (hd : (x == ("__debug__" : Str)) = false := by decide) (hcd : (x == ("__classdict__" : Str)) = false := by decide) : PE X (.Name x pos) (tVar i) := by
  intro pins s σ H Q I h
  obtain ⟨v, e, h⟩ := h
  obtain ⟨m, hn, hl⟩ := I.loc
  obtain ⟨u, r, l⟩ := hl i x v hN e hv
  have fin : EP X pins σ Q u s := ⟨v, H, I, r, h⟩
  rcases l with ⟨hk, hm⟩ | ⟨hk, c, hc, hcell⟩
  · exact wpAny_Name (wpAny_loadName_local I.ok.kind hk hn hm fin) hd
  · rcases hk with hk | hk
    · exact wpAny_Name (wpAny_loadName_cell I.ok.kind hk hc hcell fin) hd
    · exact wpAny_Name (wpAny_loadName_free I.ok.kind hk hc hcell fin hcd) hd
theorem pe_int {i j pos} : PE X (.Constant (.int i) j pos) (tC (.int i)) := fun _ _ _ H _ I h => wpAny_Constant_int ⟨.int i, H, I.tok _, ⟨_, rfl⟩, h⟩
theorem pe_bl {b j pos} : PE X (.Constant (.bool b) j pos) (tC (.bl b)) := fun _ _ _ H _ I h => Constant_bool ⟨.bl b, H, I, rfl, h⟩
theorem pe_non {j pos} : PE X (.Constant .none j pos) (tC .non) := fun _ _ _ H _ I h => Constant_none ⟨.non, H, I, rfl, h⟩
theorem pe_str {x j pos} : PE X (.Constant (.str x) j pos) (tC (.str x)) := fun _ _ _ H _ I h => Calls.Constant_str ⟨.str x, H, I.tok _, ⟨_, rfl⟩, h⟩
noncomputable def Gl (X : Cx) (x : Str) : Prop := X.env.kindOf x = some .globalImplicit
theorem ld_glob {E : Value → Shared → Prop} {pins : List (Addr × Obj)} {s : Shared} {σ : St} {H : Hp} {x : Str} {u : Value} {pos : Pos} {Q : Value → Shared → Prop} (I : Inv X pins σ H s) (hg : Gl X x) (hm : X.mg x = some u) (h : Q u s)
    (hd : (x == ("__debug__" : Str)) = false := by decide) : wpAny (model X.prog X.w) X.A (eval (.Name x pos) X.env) Q E s :=
  Calls.Name_function_global I.ok.kind hg (Calls.loadGlobal_global (by rw [I.ok.glob]; exact I.mod.glob.keeps I.bk) hm h) hd
theorem ld_blt {E : Value → Shared → Prop} {pins : List (Addr × Obj)} {s : Shared} {σ : St} {H : Hp} {x : Str} {u : Value} {pos : Pos} {Q : Value → Shared → Prop} (I : Inv X pins σ H s) (hg : Gl X x) (hm : X.mg x = none) (hv : bootBuiltins x = some u) (h : Q u s)
    (hn : x ≠ "__name__" := by decide) (hd : (x == ("__debug__" : Str)) = false := by decide) : wpAny (model X.prog X.w) X.A (eval (.Name x pos) X.env) Q E s := by
  obtain ⟨mb, h1, h2⟩ := I.mod.blt
  exact Calls.Name_function_global I.ok.kind hg (Calls.loadGlobal_builtin (by rw [I.ok.glob]; exact I.mod.glob.keeps I.bk) hm (by rw [I.ok.blt]; exact h1.keeps I.bk) ((h2 x hn).trans hv) h) hd
theorem pe_glob {x : Str} {v : V} {u : Value} {pos : Pos} (hg : Gl X x) (hm : X.mg x = some u) (r : RelV v u) (hd : (x == ("__debug__" : Str)) = false := by decide) : PE X (.Name x pos) (tC v) :=
  fun _ _ _ H _ I h => ld_glob I hg hm ⟨v, H, I, r, h⟩ hd
theorem pe_bltn {x : Str} {v : V} {u : Value} {pos : Pos} (hg : Gl X x) (hm : X.mg x = none) (hv : bootBuiltins x = some u) (r : RelV v u) (hn : x ≠ "__name__" := by decide) (hd : (x == ("__debug__" : Str)) = false := by decide) : PE X (.Name x pos) (tC v) :=
  fun _ _ _ H _ I h => ld_blt I hg hm hv ⟨v, H, I, r, h⟩ hn hd
noncomputable def t2I (ta tb : TE) (k : Int → Int → Hp → Prop) : St → Hp → Prop := fun σ H => ta σ H fun x H1 => tb σ H1 fun y H2 => ∃ i j, x = .int i ∧ y = .int j ∧ k i j H2
variable {a b : Expr} {ta tb : TE} {pos : Pos}
noncomputable def tCmp (p : Int → Int → Bool) (ta tb : TE) : TE := fun σ H Q => t2I ta tb (fun i j H2 => Q (.bl (p i j)) H2) σ H
noncomputable abbrev tLt : TE → TE → TE := tCmp fun i j => decide (i < j)
noncomputable abbrev tLe : TE → TE → TE := tCmp fun i j => decide (i ≤ j)
noncomputable abbrev tGt : TE → TE → TE := tCmp fun i j => decide (j < i)
noncomputable abbrev tGe : TE → TE → TE := tCmp fun i j => decide (j ≤ i)
noncomputable abbrev tEqI : TE → TE → TE := tCmp fun i j => decide (i = j)
noncomputable abbrev tNeI : TE → TE → TE := tCmp fun i j => !decide (i = j)
variable {tA tB' : TT} {rest : List Expr}
noncomputable def tAnd (t u : TT) : TT := fun σ H Q => t σ H fun c H1 => if c = true then u σ H1 Q else Q false H1
noncomputable def tOr (t u : TT) : TT := fun σ H Q => t σ H fun c H1 => if c = true then Q true H1 else u σ H1 Q
noncomputable def tNot (t : TT) : TT := fun σ H Q => t σ H fun c H1 => Q (!c) H1
theorem pw_and1 (ha : PT X a tA) : PW X (.BoolOp .And [a] pos) tA := by
  intro wh pins s σ H Q I h
  refine isTrue_and (thn (ha pins s σ H Q I h) fun c s1 e => ?_)
  cases c with
  | true => exact isTrue_and_nil e
  | false => exact e
theorem pw_or1 (ha : PT X a tA) : PW X (.BoolOp .Or [a] pos) tA := by
  intro wh pins s σ H Q I h
  refine isTrue_or (thn (ha pins s σ H Q I h) fun c s1 e => ?_)
  cases c with
  | false => exact isTrue_or_nil e
  | true => exact e
theorem pw_and (ha : PT X a tA) (hb : PW X (.BoolOp .And (b :: rest) pos) tB') : PW X (.BoolOp .And (a :: b :: rest) pos) (tAnd tA tB') := by
  intro wh pins s σ H Q I h
  refine isTrue_and (thn (ha pins s σ H _ I h) fun c s1 ⟨H1, I1, q1⟩ => ?_)
  cases c with
  | true => exact hb wh pins s1 σ H1 Q I1 q1
  | false => exact ⟨H1, I1, q1⟩
theorem pw_or (ha : PT X a tA) (hb : PW X (.BoolOp .Or (b :: rest) pos) tB') : PW X (.BoolOp .Or (a :: b :: rest) pos) (tOr tA tB') := by
  intro wh pins s σ H Q I h
  refine isTrue_or (thn (ha pins s σ H _ I h) fun c s1 ⟨H1, I1, q1⟩ => ?_)
  cases c with
  | true => exact ⟨H1, I1, q1⟩
  | false => exact hb wh pins s1 σ H1 Q I1 q1
theorem pt_not (ha : PT X a tA) : PT X (.UnaryOp .Not a pos) (tNot tA) := by
  intro pins s σ H Q I h
  exact isTrue_not (ha pins s σ H (fun c H1 => Q (!c) H1) I h)
noncomputable def tAndV (ta tb : TE) : TE := fun σ H Q => ta σ H fun x H1 => ∃ c, x = .bl c ∧ if c = true then tb σ H1 Q else Q (.bl false) H1
noncomputable def tOrV (ta tb : TE) : TE := fun σ H Q => ta σ H fun x H1 => ∃ c, x = .bl c ∧ if c = true then Q (.bl true) H1 else tb σ H1 Q
noncomputable def tNotV (ta : TE) : TE := fun σ H Q => ta σ H fun x H1 => ∃ c, x = .bl c ∧ Q (.bl (!c)) H1
theorem pe_one {op} {t : TE} (h : PE X a t) : PE X (.BoolOp op [a] pos) t := fun pins s σ H Q I hw => BoolOp_one (h pins s σ H Q I hw)
theorem pe_and (ha : PE X a ta) (hb : PE X (.BoolOp .And (b :: rest) pos) tb) : PE X (.BoolOp .And (a :: b :: rest) pos) (tAndV ta tb) := by
  intro pins s σ H Q I h
  refine BoolOp_and (thn (ha pins s σ H _ I h) fun v s1 ⟨x, H1, I1, r1, q1⟩ => ?_)
  obtain ⟨c, rfl, q1⟩ := q1
  cases r1
  refine wpAny_truthy_bool ?_
  cases c with
  | true => exact hb pins s1 σ H1 Q I1 q1
  | false => exact ⟨.bl false, H1, I1, rfl, q1⟩
theorem pe_or (ha : PE X a ta) (hb : PE X (.BoolOp .Or (b :: rest) pos) tb) : PE X (.BoolOp .Or (a :: b :: rest) pos) (tOrV ta tb) := by
  intro pins s σ H Q I h
  refine BoolOp_or (thn (ha pins s σ H _ I h) fun v s1 ⟨x, H1, I1, r1, q1⟩ => ?_)
  obtain ⟨c, rfl, q1⟩ := q1
  cases r1
  refine wpAny_truthy_bool ?_
  cases c with
  | false => exact hb pins s1 σ H1 Q I1 q1
  | true => exact ⟨.bl true, H1, I1, rfl, q1⟩
theorem pe_not (ha : PE X a ta) : PE X (.UnaryOp .Not a pos) (tNotV ta) := by
  intro pins s σ H Q I h
  refine UnaryOp_ (thn (ha pins s σ H _ I h) fun v s1 ⟨x, H1, I1, r1, q1⟩ => ?_)
  obtain ⟨c, rfl, q1⟩ := q1
  cases r1
  exact not_of (wpAny_truthy_bool ⟨.bl (!c), H1, I1, rfl, q1⟩)
end
end L2
namespace L2
open PySem PySem.Spec PyProof.Rows
noncomputable def SqL (K : PySem.W.Frag) (H : Hp) (a : Addr) (xs : List V) : Prop :=
  Rd H a (.lst xs) ∨
    ∃ (o : Obj) (its : Array Value) (n : Nat), K.lookup a = some o ∧ o.cls = .type "list" ∧ o.dict = none ∧ o.data = .seq its n ∧ its.size ≤ sizeLine ∧ Vals xs its.toList
noncomputable def SqT (K : PySem.W.Frag) (H : Hp) (a : Addr) (xs : List V) : Prop :=
  Rd H a (.tup xs) ∨
    ∃ (o : Obj) (its : Array Value) (n : Nat), K.lookup a = some o ∧ o.cls = .type "tuple" ∧ o.data = .seq its n ∧ its.size ≤ sizeLine ∧ Vals xs its.toList
noncomputable def absV : Value → Option V
  | .none => some .non
  | .bool b => some (.bl b)
  | .int i _ => some (.int i)
  | .str x _ => some (.str x)
  | .bytes b _ => some (.byt b)
  | .float b _ => some (.flt b)
  | .ref a => some (.ref a)
  | .type n => some (.ty n)
  | _ => none
theorem RelV.abs {x : V} {u : Value} (r : RelV x u) : absV u = some x := by
  cases x with
  | non => cases r; rfl
  | bl _ => cases r; rfl
  | int _ => obtain ⟨t, rfl⟩ := r; rfl
  | str _ => obtain ⟨t, rfl⟩ := r; rfl
  | byt _ => obtain ⟨t, rfl⟩ := r; rfl
  | flt _ => obtain ⟨t, rfl⟩ := r; rfl
  | ref _ => cases r; rfl
  | ty _ => cases r; rfl
theorem RelV.inj {x y : V} {u : Value} (r : RelV x u) (q : RelV y u) : x = y := Option.some.inj (r.abs.symm.trans q.abs)
theorem Vals.inj : ∀ {xs ys : List V} {us : List Value}, Vals xs us → Vals ys us → xs = ys
  | _, _, _, .nil, .nil => rfl
  | _, _, _, .cons r t, .cons r' t' => by rw [r.inj r', Vals.inj t t']
section
variable {X : Cx} {pins : List (Addr × Obj)} {σ : St} {H : Hp} {s : Shared} {a : Addr} {xs ys : List V}
theorem SqL.of {K : PySem.W.Frag} (h : H a = some (.lst xs)) : SqL K H a xs := .inl (.inl h)
theorem SqT.of {K : PySem.W.Frag} (h : H a = some (.tup xs)) : SqT K H a xs := .inl (.inl h)
theorem Inv.list (I : Inv X pins σ H s) (h : SqL X.K H a xs) : ∃ its : List Value, Vals xs its ∧ PlainL s.heap a its.toArray ∧ xs.length ≤ sizeLine := by
  rcases h with h | ⟨o, its, n, hk, hc, hd, hs, hz, r⟩
  · obtain ⟨z, its, n, r, e⟩ := h.ok I.hok
    exact ⟨its, r, ⟨_, n, e, rfl, rfl, rfl⟩, z⟩
  · refine ⟨its.toList, r, ⟨o, n, I.kIn a o hk, hc, hd, by simpa using hs⟩, ?_⟩
    have e := r.length
    simp only [Array.length_toList] at e
    omega
theorem Inv.tuple (I : Inv X pins σ H s) (h : SqT X.K H a xs) : ∃ its : List Value, Vals xs its ∧ IsTup s.heap a its.toArray ∧ xs.length ≤ sizeLine := by
  rcases h with h | ⟨o, its, n, hk, hc, hs, hz, r⟩
  · obtain ⟨z, its, r, p⟩ := h.ok I.hok
    exact ⟨its, r, p, z⟩
  · refine ⟨its.toList, r, ⟨o, I.kIn a o hk, hc, n, by simpa using hs⟩, ?_⟩
    have e := r.length
    simp only [Array.length_toList] at e
    omega
theorem Inv.list_inj (I : Inv X pins σ H s) (h : SqL X.K H a xs) (h' : SqL X.K H a ys) : xs = ys := by
  obtain ⟨its, r, ⟨o, n, e, _, _, d⟩, _⟩ := I.list h
  obtain ⟨its', r', ⟨o', n', e', _, _, d'⟩, _⟩ := I.list h'
  rw [e] at e'; cases e'
  rw [d] at d'
  injection d' with d1 _
  have : its = its' := by simpa using congrArg Array.toList d1
  subst this
  exact r.inj r'
theorem Inv.tuple_inj (I : Inv X pins σ H s) (h : SqT X.K H a xs) (h' : SqT X.K H a ys) : xs = ys := by
  obtain ⟨its, r, ⟨o, e, _, n, d⟩, _⟩ := I.tuple h
  obtain ⟨its', r', ⟨o', e', _, n', d'⟩, _⟩ := I.tuple h'
  rw [e] at e'; cases e'
  rw [d] at d'
  injection d' with d1 _
  have : its = its' := by simpa using congrArg Array.toList d1
  subst this
  exact r.inj r'
end
noncomputable abbrev Cx.wish (X : Cx) (E : Value → Shared → Prop) : Cx := { X with xe := E }
noncomputable abbrev Cx.nox (X : Cx) : Cx := X.wish fun _ _ => False
theorem Cx.Ok.wish {X : Cx} (ok : X.Ok) (E : Value → Shared → Prop) : (X.wish E).Ok :=
  ⟨ok.mod, ok.kind, ok.glob, ok.blt, ok.above, ok.inj, ok.has, ok.cab, ok.hd, ok.frames, ok.stk, ok.exf, ok.bs, ok.bsz, ok.noex, ok.exfs, ok.funs, ok.frf⟩
theorem Cx.Ok.unwish {X : Cx} {E : Value → Shared → Prop} (ok : (X.wish E).Ok) : X.Ok :=
  ⟨ok.mod, ok.kind, ok.glob, ok.blt, ok.above, ok.inj, ok.has, ok.cab, ok.hd, ok.frames, ok.stk, ok.exf, ok.bs, ok.bsz, ok.noex, ok.exfs, ok.funs, ok.frf⟩
section
variable {X : Cx} {pins : List (Addr × Obj)} {σ : St} {H : Hp} {s : Shared} {E : Value → Shared → Prop}
theorem Inv.wish (I : Inv X pins σ H s) (E : Value → Shared → Prop) : Inv (X.wish E) pins σ H s := ⟨I.ok.wish E, I.os, I.bare, I.base, I.loc, I.cell, I.free, I.freeC, I.pin, I.hok, I.len⟩
theorem Inv.unwish (I : Inv (X.wish E) pins σ H s) : Inv X pins σ H s := ⟨I.ok.unwish, I.os, I.bare, I.base, I.loc, I.cell, I.free, I.freeC, I.pin, I.hok, I.len⟩
theorem SP.unwish {D : Ends} {f : Flow} {s' : Shared} (h : SP (X.wish E) pins D f s') : SP X pins D f s' := by
  cases f with
  | next => obtain ⟨σ', H', I, q⟩ := h; exact ⟨σ', H', I.unwish, q⟩
  | brk => obtain ⟨σ', H', I, q⟩ := h; exact ⟨σ', H', I.unwish, q⟩
  | cont => obtain ⟨σ', H', I, q⟩ := h; exact ⟨σ', H', I.unwish, q⟩
  | ret u => obtain ⟨v, σ', H', I, r, q⟩ := h; exact ⟨v, σ', H', I.unwish, r, q⟩
theorem PE.nox {e : Expr} {t : TE} (h : PE X.nox e t) : PE X e t := fun pins s σ H Q I hw =>
  wpAny_mono (h pins s σ H Q (I.wish _) hw) (fun _ _ ⟨v, H', I', r, q⟩ => ⟨v, H', I'.unwish, r, q⟩) fun _ _ z => False.elim z
theorem PT.nox {e : Expr} {t : TT} (h : PT X.nox e t) : PT X e t := fun pins s σ H Q I hw =>
  wpAny_mono (h pins s σ H Q (I.wish _) hw) (fun _ _ ⟨H', I', q⟩ => ⟨H', I'.unwish, q⟩) fun _ _ z => False.elim z
theorem PSs.nox {st : List Stmt} {t : TS} (h : PSs X.nox st t) : PSs X st t := fun pins s σ H D I hw =>
  wpAny_mono (h pins s σ H D (I.wish _) hw) (fun _ _ q => q.unwish) fun _ _ z => False.elim z
end
section
variable {X : Cx} {st : Stmt} {rest : List Stmt} {t u : TS} {e : Expr} {te : TE} {pos : Pos}
noncomputable def tNext : TS := fun D σ H => D.nx σ H
noncomputable def tSeq (t u : TS) : TS := fun D σ H => t { D with nx := u D } σ H
theorem pss_nil : PSs X [] tNext := fun _ _ σ H _ I h => wpAny_execs_nil ⟨σ, H, I, h⟩
theorem pss_cons (h1 : PS X st t) (h2 : PSs X rest u) : PSs X (st :: rest) (tSeq t u) := by
  intro pins s σ H D I h
  refine wpAny_execs_cons (thn (h1 pins s σ H { D with nx := u D } I h) fun f s1 q => ?_)
  cases f with
  | next =>
    obtain ⟨σ', H', I', q⟩ := q
    exact h2 pins s1 σ' H' D I' q
  | ret v => exact q
  | brk => exact q
  | cont => exact q
theorem pss_one (h1 : PS X st t) : PSs X [st] t := by
  intro pins s σ H D I h
  refine wpAny_execs_cons (thn (h1 pins s σ H D I h) fun f s1 q => ?_)
  cases f with
  | next => exact wpAny_execs_nil q
  | ret v => exact q
  | brk => exact q
  | cont => exact q
theorem Inv.quiet {pins : List (Addr × Obj)} {σ : St} {H : Hp} {s : Shared} (I : Inv X pins σ H s) : interactive X.env = false := by simp [interactive, I.ok.kind]
noncomputable def tDrop (te : TE) : TS := fun D σ H => te σ H fun _ H1 => D.nx σ H1
theorem ps_expr (he : PE X e te) (hs : swapsWith e none pos.line X.env = pure false := by rfl) : PS X (.Expr e pos) (tDrop te) := by
  intro pins s σ H D I h
  exact wpAny_Expr_any (thn (he pins s σ H _ I h) fun v s1 ⟨x, H1, I1, r1, q1⟩ => ⟨σ, H1, I1, q1⟩) I.quiet hs
noncomputable def tRet (te : TE) : TS := fun D σ H => te σ H D.rt
theorem ps_ret (he : PE X e te) : PS X (.Return (some e) pos) (tRet te) := by
  intro pins s σ H D I h
  exact wpAny_Return_some (thn (he pins s σ H _ I h) fun v s1 ⟨x, H1, I1, r1, q1⟩ => ⟨x, σ, H1, I1, r1, q1⟩)
noncomputable def tIfS (c : TT) (t u : TS) : TS := fun D σ H => c σ H fun b H1 => if b = true then t D σ H1 else u D σ H1
theorem ps_if {c : Expr} {a b : List Stmt} {tc : TT} (hc : PT X c tc) (ha : PSs X a t) (hb : PSs X b u) : PS X (.If c a b pos) (tIfS tc t u) := by
  intro pins s σ H D I h
  refine wpAny_If (thn (hc pins s σ H _ I h) fun d s1 ⟨H1, I1, q1⟩ => ?_)
  cases d with
  | true => exact ha pins s1 σ H1 D I1 q1
  | false => exact hb pins s1 σ H1 D I1 q1
noncomputable def tNever : TS := fun _ _ _ => False
theorem pss_never {sts : List Stmt} : PSs X sts tNever := fun _ _ _ _ _ _ h => h.elim
end
noncomputable abbrev TG := V → St → Hp → (St → Hp → Prop) → Prop
noncomputable abbrev TGs := List V → St → Hp → (St → Hp → Prop) → Prop
noncomputable def PG (X : Cx) (target : Expr) (t : TG) : Prop :=
  ∀ (pins : List (Addr × Obj)) (s : Shared) (σ : St) (H : Hp) (v : V) (u : Value) (Q : St → Hp → Prop), Inv X pins σ H s → RelV v u → t v σ H Q →
    wpAny (model X.prog X.w) X.A (assign target X.env u) (fun _ s' => ∃ σ' H', Inv X pins σ' H' s' ∧ Q σ' H') X.xe s
noncomputable def PGs (X : Cx) (ts : List Expr) (t : TGs) : Prop :=
  ∀ (pins : List (Addr × Obj)) (s : Shared) (σ : St) (H : Hp) (vs : List V) (us : List Value) (Q : St → Hp → Prop), Inv X pins σ H s → Vals vs us → t vs σ H Q →
    wpAny (model X.prog X.w) X.A (assignInOrder ((assignEach ts X.env).map (·.2)) us) (fun _ s' => ∃ σ' H', Inv X pins σ' H' s' ∧ Q σ' H') X.xe s
noncomputable abbrev TSet := V → V → V → Hp → (Hp → Prop) → Prop
noncomputable abbrev TIp := V → V → Hp → VK → Prop
section
variable {X : Cx} {pos : Pos}
noncomputable def gName (i : Nat) : TG := fun v σ H Q => Q (σ.set i (some v)) H
theorem pg_name {i : Nat} {x : Str} (hN : X.N.Nodup) (hi : X.N[i]? = some x) (hx : Loc X.env.scope x) (hf : X.fn x = true ∨ X.env.scope.names.lookup x = some .local := by first | exact .inl rfl | exact .inr rfl | assumption) : PG X (.Name x pos) (gName i) := by
  intro pins s σ H v u Q I r h
  exact wpAny_assign_Name (store_ok I hN hi hx r (fun s' I' => ⟨_, H, I', h⟩) hf)
noncomputable def gNil : TGs := fun vs σ H Q => vs = [] ∧ Q σ H
noncomputable def gCons (t : TG) (u : TGs) : TGs := fun vs σ H Q => ∃ v r, vs = v :: r ∧ t v σ H fun σ' H' => u r σ' H' Q
theorem pgs_nil : PGs X [] gNil := by
  intro pins s σ H vs us Q I r h
  obtain ⟨e, h⟩ := h
  subst e
  cases r
  exact assignInOrder_nil ⟨σ, H, I, h⟩
theorem pgs_cons {e : Expr} {es : List Expr} {t : TG} {u : TGs} (h1 : PG X e t) (h2 : PGs X es u)
    (hs : (assignEach (e :: es) X.env).map (·.2) = assign e X.env :: (assignEach es X.env).map (·.2) := by rfl) : PGs X (e :: es) (gCons t u) := by
  intro pins s σ H vs us Q I r h
  obtain ⟨v, vr, e1, h⟩ := h
  subst e1
  cases r with
  | cons r rr =>
    rw [hs]
    refine assignInOrder_cons (thn (h1 pins s σ H _ _ _ I r h) fun _ s1 ⟨σ1, H1, I1, q1⟩ => ?_)
    exact h2 pins s1 σ1 H1 _ _ Q I1 rr q1
noncomputable def gTup (K : PySem.W.Frag) (n : Nat) (t : TGs) : TG := fun v σ H Q => ∃ a xs, v = .ref a ∧ SqT K H a xs ∧ xs.length = n ∧ t xs σ H Q
theorem pg_tup {es : List Expr} {k : Nat} {t : TGs} {n : Nat} (hc : X.calm = true) (h : PGs X es t)
    (hn : (assignEach es X.env).length = n := by rfl) (hst : (assignEach es X.env).findIdx? (·.1) = none := by rfl) : PG X (.Tuple es k pos) (gTup X.K n t) := by
  intro pins s σ H v u Q I r hw
  obtain ⟨a, xs, e1, hq, hl, hw⟩ := hw
  subst e1
  cases r
  obtain ⟨its, rv, ht, hz⟩ := I.tuple hq
  refine assign_Tuple_tuple (I.ok.hd hc) ht (by simp [hn, ← hl, rv.length]) hst fun h' hx => ?_
  have I1 : Inv X pins σ H { s with heap := h' } := I.kept (t' := s.toks) fun b o e => hx b o (Nat.ne_of_lt (Heap.lt_size e)) e
  exact h pins _ σ H xs _ Q I1 (by simpa using rv) hw
noncomputable def tAsg (te : TE) (g : TG) : TS := fun D σ H => te σ H fun x H1 => g x σ H1 D.nx
theorem ps_set {i : Nat} {x : Str} {e : Expr} {te : TE} {pos' : Pos} (hN : X.N.Nodup) (hi : X.N[i]? = some x) (hx : Loc X.env.scope x) (he : PE X e te) (hs : swapsWith e (some (.Name x pos')) pos.line X.env = pure false := by rfl) (hf : X.fn x = true ∨ X.env.scope.names.lookup x = some .local := by first | exact .inl rfl | exact .inr rfl | assumption) :
    PS X (.Assign [.Name x pos'] e pos) (tAsg te (gName i)) := by
  intro pins s σ H D I h
  refine wpAny_Assign_Name (thn (he pins s σ H _ I h) fun v s1 ⟨y, H1, I1, r1, q1⟩ => ?_) hs
  exact store_ok I1 hN hi hx r1 (fun s2 I2 => ⟨_, H1, I2, q1⟩) hf
end
section
variable {X : Cx} {pos : Pos}
end
structure It where
  go : Nat → Hp → Prop
  yld : Nat → Hp → V → Hp → Prop
  stop : Nat → Hp → Prop
noncomputable def FpOk (X : Cx) (pins : List (Addr × Obj)) (H : Hp) (b : Addr) : Prop :=
  H b = none ∧ b ≠ X.env.locals ∧ b ∉ X.fs ∧ (b ∈ X.ex ∨ X.s₀.heap.objs.size ≤ b) ∧ (∀ x c, X.env.cells.lookup x = some c → c ≠ b) ∧ ∀ p ∈ X.pn ++ pins, p.1 ≠ b
theorem Inv.fpOk {X : Cx} {pins : List (Addr × Obj)} {σ : St} {H H' : Hp} {s : Shared} {b : Addr} (I : Inv X pins σ H s) (hb : s.heap.objs.size ≤ b) (hn : H' b = none) : FpOk X pins H' b := by
  refine ⟨hn, Nat.ne_of_gt (Nat.lt_of_lt_of_le I.lt hb), I.nofs hb, .inr (Nat.le_trans I.sz hb), fun x c e z => ?_, fun p hp z => ?_⟩
  · obtain ⟨v, q⟩ := I.cell x c e
    exact absurd (Nat.lt_of_lt_of_le q.lt (by rw [z]; exact hb)) (Nat.lt_irrefl _)
  · exact absurd (Nat.lt_of_lt_of_le (Heap.lt_size (I.pin p hp).1) (by rw [z]; exact hb)) (Nat.lt_irrefl _)
structure Turn (P : Program) (w : World) (K : PySem.W.Frag) (tg : Expr) (J : It) (fp : List Addr) (it : Addr) (tn : Nat → Heap → Prop) : Prop where
  mem : it ∈ fp
  obj : ∀ i h, tn i h → ∀ b ∈ fp, ∃ o, h.get? b = some o ∧ ∀ v, o.data ≠ .cell v
  keep : ∀ i h h', tn i h → (∀ b ∈ fp, ∀ o, h.get? b = some o → h'.get? b = some o) → tn i h'
  item : ∀ (X : Cx), X.prog = P → X.w = w → X.K = K → X.calm = true → ∀ (i : Nat) (pins : List (Addr × Obj)) (s : Shared) (σ : St) (H : Hp) (E : Value → Shared → Prop), Inv X pins σ H s → (∀ b ∈ fp, FpOk X pins H b) → tn i s.heap → J.go i H →
    wpAny (model P w) X.A (pyNext (.ref it)) (fun r s1 => ∃ u, r = some u ∧
      wpAny (model P w) X.A (letOwnedTupleGo tg (.ref it) u) (fun _ s2 => ∃ x H', Inv X pins σ H' s2 ∧ RelV x u ∧ J.yld i H x H' ∧ tn (i + 1) s2.heap ∧ ∀ b ∈ fp, H' b = none) E s1) E s
  done : ∀ (X : Cx), X.prog = P → X.w = w → X.K = K → X.calm = true → ∀ (i : Nat) (pins : List (Addr × Obj)) (s : Shared) (σ : St) (H : Hp) (E : Value → Shared → Prop), Inv X pins σ H s → (∀ b ∈ fp, FpOk X pins H b) → tn i s.heap → J.stop i H →
    wpAny (model P w) X.A (pyNext (.ref it)) (fun r s1 => r = none ∧ Inv X pins σ H s1) E s
  self : ∀ (A : Around) (i : Nat) (s : Shared) (Q : Value → Shared → Prop) (E : Value → Shared → Prop), tn i s.heap → Q (.ref it) s → wpAny (model P w) A (pyIter (.ref it)) Q E s
noncomputable abbrev TI := St → Hp → (It → Hp → Prop) → Prop
noncomputable def PIE (X : Cx) (pins : List (Addr × Obj)) (σ : St) (tg : Expr) (R : It → Hp → Prop) (itv : Value) (s2 : Shared) : Prop :=
  ∃ (it : Addr) (fp : List Addr) (tn : Nat → Heap → Prop) (J : It) (H' : Hp), itv = .ref it ∧ Inv X pins σ H' s2 ∧ Turn X.prog X.w X.K tg J fp it tn ∧ tn 0 s2.heap ∧ (∀ b ∈ fp, FpOk X pins H' b) ∧ R J H'
noncomputable def PI (X : Cx) (tg iter : Expr) (wi : TI) : Prop :=
  ∀ (pins : List (Addr × Obj)) (s : Shared) (σ : St) (H : Hp) (R : It → Hp → Prop), Inv X pins σ H s → wi σ H R →
    wpAny (model X.prog X.w) X.A (eval iter X.env) (fun v s1 => wpAny (model X.prog X.w) X.A (pyIter v) (PIE X pins σ tg R) X.xe s1) X.xe s
theorem go_of {M : Model} {A : Around} {E : Value → Shared → Prop} {s : Shared} {tg : Expr} {it : Addr} {u : Value} {o : Obj} {n : String} {vs : Array Value} {Q : Unit → Shared → Prop} (ho : s.heap.get? it = some o) (hc : o.cls = .type n) (hd : o.data = .fields vs)
    (hn : ["enumerate", "zip", "dict_itemiterator", "dict_reverseitemiterator", "odict_iterator", "itertools.zip_longest", "itertools.pairwise"].contains n = false) (hQ : Q () s) : wpAny M A (letOwnedTupleGo tg (.ref it) u) Q E s := by
  unfold letOwnedTupleGo
  cases tg <;> first
    | exact wpAny_pure hQ
    | (cases u <;> first
        | exact wpAny_pure hQ
        | (refine wpAny_bind (wpAny_load ho ?_)
           rw [hc, hd]
           show wpAny M A (if (["enumerate", "zip", "dict_itemiterator", "dict_reverseitemiterator", "odict_iterator", "itertools.zip_longest", "itertools.pairwise"].contains n && vs[0]? == some (rawInt _)) = true then _ else _) Q E s
           rw [if_neg (by intro h; rw [hn, Bool.false_and] at h; cases h)]
           exact wpAny_pure hQ))
noncomputable def Itl (K : PySem.W.Frag) (a : Addr) : It :=
  ⟨fun i H => ∃ xs x, SqL K H a xs ∧ xs[i]? = some x, fun i H x H' => H' = H ∧ ∀ xs, SqL K H a xs → xs[i]? = some x, fun i H => ∃ xs, SqL K H a xs ∧ xs.length ≤ i⟩
noncomputable def Itt (K : PySem.W.Frag) (a : Addr) : It :=
  ⟨fun i H => ∃ xs x, SqT K H a xs ∧ xs[i]? = some x, fun i H x H' => H' = H ∧ ∀ xs, SqT K H a xs → xs[i]? = some x, fun i H => ∃ xs, SqT K H a xs ∧ xs.length ≤ i⟩
noncomputable def Itr (lo : Int) (n : Nat) : It := ⟨fun i _ => i < n, fun i H x H' => H' = H ∧ x = .int (lo + i), fun i _ => n ≤ i⟩
theorem turn_list {P : Program} {w : World} {K : PySem.W.Frag} {tg : Expr} (a it : Addr) : Turn P w K tg (Itl K a) [it] it (fun i h => h.IsListIter it a i) where
  mem := by simp
  obj := fun i h st b hb => by
    have e : b = it := by simpa using hb
    subst e
    obtain ⟨o, e, c, d⟩ := st
    exact ⟨o, e, fun v z => by rw [d] at z; cases z⟩
  keep := fun i h h' st k => st.at fun o e => k it (by simp) o e
  item := by
    intro X hP hw hK hc i pins s σ H E I hf st hg
    subst hP hw hK
    obtain ⟨xs, x, hq, hx⟩ := hg
    obtain ⟨its, rv, p, hz⟩ := I.list hq
    obtain ⟨u, hu, ru⟩ := rv.get hx
    obtain ⟨f0, f1, f2, f3, f4, f5⟩ := hf it (by simp)
    refine wpAny_pyNext_list_item st p.isList (x := u) (by simpa using hu) fun h' st' sb => ?_
    have I1 : Inv X pins σ H { s with heap := h' } := I.turned (t' := s.toks) (fun b o hb e => (sb.2 b hb).trans e) f0 f1 f3 f4 f5
    obtain ⟨o, e, c, d⟩ := id st'
    exact ⟨u, rfl, go_of (s := { s with heap := h' }) e c d (by decide) ⟨x, H, I1, ru, ⟨rfl, fun ys hy => by rw [I.list_inj hy hq]; exact hx⟩, st', fun b hb => (hf b hb).1⟩⟩
  done := by
    intro X hP hw hK hc i pins s σ H E I hf st hg
    subst hP hw hK
    obtain ⟨xs, hq, hx⟩ := hg
    obtain ⟨its, rv, p, hz⟩ := I.list hq
    obtain ⟨f0, f1, f2, f3, f4, f5⟩ := hf it (by simp)
    have hl := rv.length
    exact wpAny_pyNext_list_end (I.ok.hd hc) st p.isList (by simp; omega) fun h' eb => ⟨rfl, I.turned (t' := s.toks) (fun b o hb e => eb b o hb e) f0 f1 f3 f4 f5⟩
  self := fun _ _ _ _ _ st h => wpAny_pyIter_listiter st h
theorem turn_tuple {P : Program} {w : World} {K : PySem.W.Frag} {tg : Expr} (a it : Addr) : Turn P w K tg (Itt K a) [it] it (fun i h => h.IsTupleIter it a i) where
  mem := by simp
  obj := fun i h st b hb => by
    have e : b = it := by simpa using hb
    subst e
    obtain ⟨o, e, c, d⟩ := st
    exact ⟨o, e, fun v z => by rw [d] at z; cases z⟩
  keep := fun i h h' st k => st.at fun o e => k it (by simp) o e
  item := by
    intro X hP hw hK hc i pins s σ H E I hf st hg
    subst hP hw hK
    obtain ⟨xs, x, hq, hx⟩ := hg
    obtain ⟨its, rv, p, hz⟩ := I.tuple hq
    obtain ⟨u, hu, ru⟩ := rv.get hx
    obtain ⟨f0, f1, f2, f3, f4, f5⟩ := hf it (by simp)
    refine wpAny_pyNext_tuple_item st (show s.heap.IsTuple a its.toArray from p) (x := u) (by simpa using hu) fun h' st' sb => ?_
    have I1 : Inv X pins σ H { s with heap := h' } := I.turned (t' := s.toks) (fun b o hb e => (sb.2 b hb).trans e) f0 f1 f3 f4 f5
    obtain ⟨o, e, c, d⟩ := id st'
    exact ⟨u, rfl, go_of (s := { s with heap := h' }) e c d (by decide) ⟨x, H, I1, ru, ⟨rfl, fun ys hy => by rw [I.tuple_inj hy hq]; exact hx⟩, st', fun b hb => (hf b hb).1⟩⟩
  done := by
    intro X hP hw hK hc i pins s σ H E I hf st hg
    subst hP hw hK
    obtain ⟨xs, hq, hx⟩ := hg
    obtain ⟨its, rv, p, hz⟩ := I.tuple hq
    obtain ⟨f0, f1, f2, f3, f4, f5⟩ := hf it (by simp)
    have hl := rv.length
    exact wpAny_pyNext_tuple_end (I.ok.hd hc) st (show s.heap.IsTuple a its.toArray from p) (by simp; omega) fun h' eb => ⟨rfl, I.turned (t' := s.toks) (fun b o hb e => eb b o hb e) f0 f1 f3 f4 f5⟩
  self := fun _ _ _ _ _ st h => wpAny_pyIter_tupleiter st h
theorem turn_range {P : Program} {w : World} {K : PySem.W.Frag} {tg : Expr} (it : Addr) (lo : Int) (n : Nat) : Turn P w K tg (Itr lo n) [it] it (fun i h => IsRangeIter h it (lo + (i : Nat) * 1) ((n : Int) - (i : Nat)) 1) where
  mem := by simp
  obj := fun i h st b hb => by
    have e : b = it := by simpa using hb
    subst e
    exact ⟨_, st, fun v z => by
      have z' : Data.fields _ = Data.cell v := z
      cases z'⟩
  keep := fun i h h' st k => k it (by simp) _ st
  item := by
    intro X hP hw hK hc i pins s σ H E I hf st hg
    subst hP hw hK
    obtain ⟨f0, f1, f2, f3, f4, f5⟩ := hf it (by simp)
    have W := Walks.range (prog := X.prog) (w := X.w) (I.ok.hd hc) it lo 1 n
    refine W.item i s _ _ hg st fun v h' tk hv st' kk => ?_
    obtain ⟨t, rfl⟩ := hv
    have I1 : Inv X pins σ H { s with heap := h', toks := tk } := I.turned (fun b o hb e => kk b o (by simpa using hb) e) f0 f1 f3 f4 f5
    refine ⟨_, rfl, go_of (s := { s with heap := h', toks := tk }) (n := "range_iterator") st' rfl rfl (by decide) ⟨.int (lo + i), H, I1, ⟨t, ?_⟩, ⟨rfl, rfl⟩, st', fun b hb => (hf b hb).1⟩⟩
    rw [Int.mul_one]
  done := by
    intro X hP hw hK hc i pins s σ H E I hf st hg
    subst hP hw hK
    obtain ⟨f0, f1, f2, f3, f4, f5⟩ := hf it (by simp)
    exact wpAny_pyNext_range_end (I.ok.hd hc) st (by have : n ≤ i := hg; omega) fun h' eb => ⟨rfl, I.turned (t' := s.toks) (fun b o hb e => eb b o hb e) f0 f1 f3 f4 f5⟩
  self := fun _ _ _ _ _ st h => wpAny_pyIter_rangeiter st h
end L2
namespace L2
open PySem PySem.Spec PyProof.Rows
section
variable {X : Cx} {tg : Expr}
noncomputable def iList (K : PySem.W.Frag) (tl : TE) : TI := fun σ H R => tl σ H fun x H1 => ∃ a, x = .ref a ∧ (∃ xs, SqL K H1 a xs) ∧ R (Itl K a) H1
theorem pi_list {l : Expr} {tl : TE} (hl : PE X l tl) : PI X tg l (iList X.K tl) := by
  intro pins s σ H R I h
  refine thn (hl pins s σ H _ I h) fun v s1 ⟨x, H1, I1, r1, q1⟩ => ?_
  obtain ⟨a, e, ⟨xs, hq⟩, q⟩ := q1
  subst e
  cases r1
  obtain ⟨its, rv, p, hz⟩ := I1.list hq
  refine wpAny_pyIter_list p.isList ?_
  refine ⟨s1.heap.objs.size, [s1.heap.objs.size], _, _, H1, rfl, I1.kept (t' := s1.toks) fun b o e => Heap.get?_push_of_some _ e, turn_list a _, ⟨_, Heap.get?_push_size _ rfl, rfl, rfl⟩, fun b hb => ?_, q⟩
  have e : b = s1.heap.objs.size := by simpa using hb
  subst e
  exact I1.fpOk (Nat.le_refl _) (I1.hok.fresh (Nat.le_refl _))
theorem range_it {pins : List (Addr × Obj)} {σ : St} {H : Hp} {s : Shared} {R : It → Hp → Prop} {E : Value → Shared → Prop} {lo hi : Int} {t u v : Tok} {tk : Nat} (I : Inv X pins σ H s) (h1 : -(2 ^ 62) ≤ lo) (h2 : lo < 2 ^ 62) (h3 : -(2 ^ 62) ≤ hi) (h4 : hi < 2 ^ 62)
    (q : R (Itr lo (hi - lo).toNat) H) : wpAny (model X.prog X.w) X.A (pyIter (.ref s.heap.objs.size)) (PIE X pins σ tg R) E { s with heap := s.heap.push { cls := .type "range", data := .fields #[.int lo t, .int hi u, .int 1 v] }, toks := tk } := by
  refine wpAny_pyIter_range (IsRange.new ..) (small_one h1 h2 h3 h4) ?_
  have I1 : Inv X pins σ H { s with heap := s.heap.push { cls := .type "range", data := .fields #[.int lo t, .int hi u, .int 1 v] }, toks := tk } := I.kept fun b o e => Heap.get?_push_of_some _ e
  refine ⟨(s.heap.push { cls := .type "range", data := .fields #[.int lo t, .int hi u, .int 1 v] }).objs.size, [(s.heap.push { cls := .type "range", data := .fields #[.int lo t, .int hi u, .int 1 v] }).objs.size], _, _, H, rfl,
    I1.kept (t' := tk) fun b o e => Heap.get?_push_of_some _ e, turn_range _ lo (hi - lo).toNat, ?_, fun b hb => ?_, q⟩
  · have e1 : lo + ((0 : Nat) : Int) * 1 = lo := by simp
    have e2 : (((hi - lo).toNat : Nat) : Int) - ((0 : Nat) : Int) = Builtin.Range.rangeSize lo hi 1 := by rw [rangeSize_one]; split <;> omega
    show IsRangeIter _ _ (lo + ((0 : Nat) : Int) * 1) ((((hi - lo).toNat : Nat) : Int) - ((0 : Nat) : Int)) 1
    rw [e1, e2]
    exact Heap.get?_push_size _ rfl
  · have e : b = (s.heap.push { cls := .type "range", data := .fields #[.int lo t, .int hi u, .int 1 v] }).objs.size := by simpa using hb
    subst e
    exact I1.fpOk (Nat.le_refl _) (I1.hok.fresh (Nat.le_refl _))
noncomputable def iRng1 (ta : TA) : TI := fun σ H R => ta σ H fun vs H1 => ∃ j : Int, vs = [.int j] ∧ -(2 ^ 62) ≤ j ∧ j < 2 ^ 62 ∧ R (Itr 0 j.toNat) H1
noncomputable def iRng2 (ta : TA) : TI := fun σ H R => ta σ H fun vs H1 => ∃ i j : Int, vs = [.int i, .int j] ∧ (-(2 ^ 62) ≤ i ∧ i < 2 ^ 62 ∧ -(2 ^ 62) ≤ j ∧ j < 2 ^ 62) ∧ R (Itr i (j - i).toNat) H1
theorem pi_range1 {a : Expr} {ta : TA} {p pos : Pos} (hg : Gl X "range") (hm : X.mg "range" = none) (ha : PA X [a] ta) (hs : starEach [a] X.env = [(false, eval a X.env)] := by rfl) : PI X tg (.Call (.Name "range" p) [a] [] pos) (iRng1 ta) := by
  intro pins s σ H R I h
  refine Call_ (ld_blt I hg hm boot_range (PyProof.Rows.callWith_type1 (thn (ha pos pins s σ H _ I h) fun us s1 ⟨vs, H1, I1, r1, q1⟩ => ?_) hs rfl))
  obtain ⟨j, e, q1, q2, q⟩ := q1
  subst e
  cases r1 with
  | cons r rr =>
    cases rr
    obtain ⟨t, rfl⟩ := r
    exact call_range_1 (range_it I1 (by omega) (by omega) q1 q2 (by simpa using q))
theorem pi_range2 {a b : Expr} {ta : TA} {p pos : Pos} (hg : Gl X "range") (hm : X.mg "range" = none) (ha : PA X [a, b] ta) (hs : starEach [a, b] X.env = [(false, eval a X.env), (false, eval b X.env)] := by rfl) (hs2 : starEach [b] X.env = [(false, eval b X.env)] := by rfl) :
    PI X tg (.Call (.Name "range" p) [a, b] [] pos) (iRng2 ta) := by
  intro pins s σ H R I h
  refine Call_ (ld_blt I hg hm boot_range (PyProof.Rows.callWith_type1 (thn (ha pos pins s σ H _ I h) fun us s1 ⟨vs, H1, I1, r1, q1⟩ => ?_) (by rw [hs, hs2]) (by rw [hs2]; rfl)))
  obtain ⟨i, j, e, ⟨q1, q2, q3, q4⟩, q⟩ := q1
  subst e
  cases r1 with
  | cons r rr =>
    cases rr with
    | cons r' rr =>
      cases rr
      obtain ⟨t, rfl⟩ := r
      obtain ⟨t', rfl⟩ := r'
      exact call_range_2 (range_it I1 q1 q2 q3 q4 q)
noncomputable def tFor (wi : TI) (g : TG) (tb : TS) : TS := fun D σ H => wi σ H fun J H1 => ∃ W : Nat → Nat → St → Hp → Prop, (∃ m, W 0 m σ H1) ∧ ∀ i m σ H, W i m σ H →
  (J.stop i H ∧ D.nx σ H) ∨ (J.go i H ∧ ∃ N : St → Hp → Prop, (∀ σ' H', N σ' H' → ∃ m', m' < m ∧ W (i + 1) m' σ' H') ∧ ∀ x H', J.yld i H x H' → g x σ H' fun σ2 H2 => tb { D with nx := N, ct := N, bk := D.nx } σ2 H2)
noncomputable def pinsAt (fp : List Addr) (h : Heap) : List (Addr × Obj) := fp.filterMap fun b => (h.get? b).map fun o => (b, o)
theorem mem_pinsAt {fp : List Addr} {h : Heap} {b : Addr} {o : Obj} (hb : b ∈ fp) (e : h.get? b = some o) : (b, o) ∈ pinsAt fp h := List.mem_filterMap.mpr ⟨b, hb, by rw [e]; rfl⟩
theorem of_pinsAt {fp : List Addr} {h : Heap} {p : Addr × Obj} (hp : p ∈ pinsAt fp h) : p.1 ∈ fp ∧ h.get? p.1 = some p.2 := by
  obtain ⟨b, hb, e⟩ := List.mem_filterMap.mp hp
  cases q : h.get? b with
  | none => rw [q] at e; cases e
  | some o =>
    rw [q] at e
    have e' : (b, o) = p := Option.some.inj e
    subst e'
    exact ⟨hb, q⟩
theorem Inv.pinned {pins : List (Addr × Obj)} {σ : St} {H : Hp} {s : Shared} {fp : List Addr} (I : Inv X pins σ H s) (hf : ∀ b ∈ fp, FpOk X pins H b) (ho : ∀ b ∈ fp, ∃ o, s.heap.get? b = some o ∧ ∀ v, o.data ≠ .cell v) : Inv X (pins ++ pinsAt fp s.heap) σ H s :=
  I.pins_of fun p hp => (List.mem_append.mp hp).elim (fun z => I.pin p (List.mem_append_right _ z)) fun z => by
    obtain ⟨hb, e⟩ := of_pinsAt z
    obtain ⟨f0, f1, f2, _⟩ := hf p.1 hb
    obtain ⟨o, e', d⟩ := ho p.1 hb
    rw [e] at e'; cases e'
    exact ⟨e, f0, f1, f2, d⟩
theorem Inv.unpinned {pins pl : List (Addr × Obj)} {σ : St} {H : Hp} {s : Shared} (I : Inv X (pins ++ pl) σ H s) : Inv X pins σ H s := I.pins_of fun p hp => I.pin p (List.mem_append_right _ (List.mem_append_left _ hp))
theorem ps_for {iter : Expr} {body : List Stmt} {wi : TI} {g : TG} {tb : TS} {pos : Pos} (hp : PassesOwn (model X.prog X.w) X.A X.env X.xe) (hc : X.calm = true) (hi : PI X tg iter wi) (hg : PG X tg g) (hb : PSs X body tb)
    (hs : ∀ x, foldedSetIterable iter X.env x = pure x := by intro _; rfl) : PS X (.For tg iter body [] pos) (tFor wi g tb) := by
  intro pins s σ H D I h
  refine wpAny_For (thn (hi pins s σ H _ I h) fun v s1 h1 => thn h1 fun itv s2 h2 => ?_) hs
  obtain ⟨it, fp, tn, J, H2, e, I2, T, st2, f2, W, ⟨m0, w0⟩, turn⟩ := h2
  subst e
  -- what stays true of the iterator's objects through the loop
  have stat : ∀ {H' : Hp}, (∀ b ∈ fp, H' b = none) → ∀ b ∈ fp, FpOk X pins H' b := fun hn b hb => ⟨hn b hb, (f2 b hb).2⟩
  refine codeAny_forLoop_any (fun n s' => ∃ i σ' H', Inv X pins σ' H' s' ∧ tn i s'.heap ∧ (∀ b ∈ fp, H' b = none) ∧ W i n σ' H') ?_ m0 ⟨0, σ, H2, I2, st2, fun b hb => (f2 b hb).1, w0⟩
  rintro n s3 ⟨i, σ3, H3, I3, st3, fr3, w3⟩
  rcases turn i n σ3 H3 w3 with ⟨stop, qn⟩ | ⟨go, N, hN, step⟩
  · refine wpAny_passesOwn hp (thn (T.done X rfl rfl rfl hc i pins s3 σ3 H3 X.xe I3 (stat fr3) st3 stop) fun r s4 ⟨hr, I4⟩ => ?_)
    subst hr
    exact wpAny_execs_nil ⟨σ3, H3, I4, qn⟩
  · refine wpAny_passesOwn hp (thn (T.item X rfl rfl rfl hc i pins s3 σ3 H3 X.xe I3 (stat fr3) st3 go) fun r s4 ⟨u, hr, h4⟩ => ?_)
    subst hr
    refine wpAny_passesOwn hp (thn h4 fun _ s5 ⟨x, H5, I5, r5, y5, st5, fr5⟩ => ?_)
    have I5' := I5.pinned (stat fr5) (T.obj _ _ st5)
    refine wpAny_passesOwn hp (thn (hg _ s5 σ3 H5 x u _ I5' r5 (step x H5 y5)) fun _ s6 ⟨σ6, H6, I6, q6⟩ => ?_)
    refine wpAny_passesOwn hp (thn (hb _ s6 σ6 H6 _ I6 q6) fun f s7 q7 => ?_)
    have again : ∀ {σ7 : St} {H7 : Hp}, Inv X (pins ++ pinsAt fp s5.heap) σ7 H7 s7 → N σ7 H7 → ∃ m, m < n ∧ ∃ i σ' H', Inv X pins σ' H' s7 ∧ tn i s7.heap ∧ (∀ b ∈ fp, H' b = none) ∧ W i m σ' H' := fun {σ7 H7} I7 n7 => by
      obtain ⟨m', hm, w7⟩ := hN σ7 H7 n7
      refine ⟨m', hm, i + 1, σ7, H7, I7.unpinned, T.keep _ _ _ st5 fun b hb o e => (I7.pin (b, o) (List.mem_append_right _ (List.mem_append_right _ (mem_pinsAt hb e)))).1, fun b hb => ?_, w7⟩
      obtain ⟨o, e, d⟩ := T.obj _ _ st5 b hb
      exact (I7.pin (b, o) (List.mem_append_right _ (List.mem_append_right _ (mem_pinsAt hb e)))).2.1
    cases f with
    | next => obtain ⟨σ7, H7, I7, n7⟩ := q7; exact again I7 n7
    | cont => obtain ⟨σ7, H7, I7, n7⟩ := q7; exact again I7 n7
    | brk => obtain ⟨σ7, H7, I7, q7⟩ := q7; exact ⟨σ7, H7, I7.unpinned, q7⟩
    | ret v => obtain ⟨x7, σ7, H7, I7, r7, q7⟩ := q7; exact ⟨x7, σ7, H7, I7.unpinned, r7, q7⟩
end
end L2
namespace L2
open PySem PySem.Spec PyProof.Rows
noncomputable abbrev R2 := V → V → Hp → VK → Prop
noncomputable def OpR (X : Cx) (f : Value → Value → Sem Value) (r : R2) : Prop :=
  ∀ (pins : List (Addr × Obj)) (s : Shared) (σ : St) (H : Hp) (x y : V) (v u : Value) (Q : VK), Inv X pins σ H s → RelV x v → RelV y u → r x y H Q →
    wpAny (model X.prog X.w) X.A (f v u) (EP X pins σ Q) X.xe s
noncomputable def UnR (X : Cx) (f : Value → Sem Value) (r : V → Hp → VK → Prop) : Prop :=
  ∀ (pins : List (Addr × Obj)) (s : Shared) (σ : St) (H : Hp) (x : V) (v : Value) (Q : VK), Inv X pins σ H s → RelV x v → r x H Q →
    wpAny (model X.prog X.w) X.A (f v) (EP X pins σ Q) X.xe s
noncomputable def CallR (X : Cx) (f : Value) (r : List V → Hp → VK → Prop) : Prop :=
  ∀ (pins : List (Addr × Obj)) (s : Shared) (σ : St) (H : Hp) (xs : List V) (us : List Value) (Q : VK), Inv X pins σ H s → Vals xs us → r xs H Q →
    wpAny (model X.prog X.w) X.A (call f us) (EP X pins σ Q) X.xe s
noncomputable def TruR (X : Cx) (r : V → Hp → (Bool → Hp → Prop) → Prop) : Prop :=
  ∀ (pins : List (Addr × Obj)) (s : Shared) (σ : St) (H : Hp) (x : V) (v : Value) (Q : Bool → Hp → Prop), Inv X pins σ H s → RelV x v → r x H Q →
    wpAny (model X.prog X.w) X.A (truthy v) (TP X pins σ Q) X.xe s
noncomputable def tOp (r : R2) (ta tb : TE) : TE := fun σ H Q => ta σ H fun x H1 => tb σ H1 fun y H2 => r x y H2 Q
noncomputable def tUn (r : V → Hp → VK → Prop) (ta : TE) : TE := fun σ H Q => ta σ H fun x H1 => r x H1 Q
noncomputable def rI (C : Int → Int → Prop) (g : Int → Int → V) : R2 := fun x y H Q => ∃ i j, x = .int i ∧ y = .int j ∧ C i j ∧ Q (g i j) H
noncomputable def rI0 (g : Int → Int → V) : R2 := fun x y H Q => ∃ i j, x = .int i ∧ y = .int j ∧ Q (g i j) H
noncomputable def rU (g : Int → V) : V → Hp → VK → Prop := fun x H Q => ∃ i, x = .int i ∧ Q (g i) H
section
variable {X : Cx} {a b c : Expr} {ta tb tc : TE} {pos : Pos}
theorem binT (ha : PE X a ta) (hb : PE X b tb) {pins : List (Addr × Obj)} {s : Shared} {σ : St} {H : Hp} {R : V → V → Hp → Prop} (I : Inv X pins σ H s)
    (h : ta σ H fun x H1 => tb σ H1 fun y H2 => R x y H2) {Q : Value → Shared → Prop} {f : Value → Value → Sem Value}
    (hf : ∀ v u s2 x y H2, Inv X pins σ H2 s2 → RelV x v → RelV y u → R x y H2 → wpAny (model X.prog X.w) X.A (f v u) Q X.xe s2) :
    wpAny (model X.prog X.w) X.A (eval a X.env) (fun v s₁ => wpAny (model X.prog X.w) X.A (eval b X.env) (fun u s₂ => wpAny (model X.prog X.w) X.A (f v u) Q X.xe s₂) X.xe s₁) X.xe s := by
  refine thn (ha pins s σ H _ I h) fun v s1 ⟨x, H1, I1, r1, q1⟩ => ?_
  refine thn (hb pins s1 σ H1 _ I1 q1) fun u s2 ⟨y, H2, I2, r2, q2⟩ => ?_
  exact hf v u s2 x y H2 I2 r1 r2 q2
theorem pe_op {op : Operator} {r : R2} (ho : OpR X (binaryOp op) r) (ha : PE X a ta) (hb : PE X b tb) : PE X (.BinOp a op b pos) (tOp r ta tb) := by
  intro pins s σ H Q I h
  exact wpAny_BinOp (binT ha hb I h fun v u s2 x y H2 I2 rx ry q => ho pins s2 σ H2 x y v u Q I2 rx ry q)
theorem pe_un {op : UnaryOp} {r : V → Hp → VK → Prop} (ho : UnR X (unaryOp op) r) (ha : PE X a ta) : PE X (.UnaryOp op a pos) (tUn r ta) := by
  intro pins s σ H Q I h
  exact UnaryOp_ (thn (ha pins s σ H _ I h) fun v s1 ⟨x, H1, I1, r1, q1⟩ => ho pins s1 σ H1 x v Q I1 r1 q1)
theorem opI {f : Value → Value → Sem Value} {C : Int → Int → Prop} {g : Int → Int → Int}
    (rule : ∀ (i j : Int) (t u : Tok) (s : Shared) (Q : Value → Shared → Prop) (E : Value → Shared → Prop), C i j → Q (.int (g i j) s.toks) { s with toks := s.toks + 1 } → wpAny (model X.prog X.w) X.A (f (.int i t) (.int j u)) Q E s) :
    OpR X f (rI C fun i j => .int (g i j)) := by
  intro pins s σ H x y v u Q I rx ry h
  obtain ⟨i, j, rfl, rfl, hc, q⟩ := h
  obtain ⟨t, rfl⟩ := rx
  obtain ⟨t', rfl⟩ := ry
  exact rule i j t t' s _ _ hc ⟨.int (g i j), H, I.tok _, ⟨_, rfl⟩, q⟩
theorem opI0 {f : Value → Value → Sem Value} {g : Int → Int → Int}
    (rule : ∀ (i j : Int) (t u : Tok) (s : Shared) (Q : Value → Shared → Prop) (E : Value → Shared → Prop), Q (.int (g i j) s.toks) { s with toks := s.toks + 1 } → wpAny (model X.prog X.w) X.A (f (.int i t) (.int j u)) Q E s) :
    OpR X f (rI0 fun i j => .int (g i j)) := by
  intro pins s σ H x y v u Q I rx ry h
  obtain ⟨i, j, rfl, rfl, q⟩ := h
  obtain ⟨t, rfl⟩ := rx
  obtain ⟨t', rfl⟩ := ry
  exact rule i j t t' s _ _ ⟨.int (g i j), H, I.tok _, ⟨_, rfl⟩, q⟩
theorem opB0 {f : Value → Value → Sem Value} {g : Int → Int → Bool}
    (rule : ∀ (i j : Int) (t u : Tok) (s : Shared) (Q : Value → Shared → Prop) (E : Value → Shared → Prop), Q (.bool (g i j)) s → wpAny (model X.prog X.w) X.A (f (.int i t) (.int j u)) Q E s) :
    OpR X f (rI0 fun i j => .bl (g i j)) := by
  intro pins s σ H x y v u Q I rx ry h
  obtain ⟨i, j, rfl, rfl, q⟩ := h
  obtain ⟨t, rfl⟩ := rx
  obtain ⟨t', rfl⟩ := ry
  exact rule i j t t' s _ _ ⟨.bl (g i j), H, I, rfl, q⟩
noncomputable def CPow (i j : Int) : Prop := 0 ≤ j ∧ j ≤ 1000000 ∧ i.natAbs < 2 ^ 64
noncomputable def CMul (i j : Int) : Prop := (-(2 ^ 64) < i ∧ i < 2 ^ 64) ∨ (-(2 ^ 64) < j ∧ j < 2 ^ 64)
theorem CMul.ok {i j : Int} (h : CMul i j) : IntMulOk i j := by
  rcases h with ⟨h1, h2⟩ | ⟨h1, h2⟩
  · exact .of_left (intBits_le_64 h1 h2)
  · exact .of_right (intBits_le_64 h1 h2)
theorem op_add : OpR X (binaryOp .Add) (rI0 fun i j => .int (i + j)) := opI0 fun _ _ _ _ _ _ _ q => add_int q
theorem op_sub : OpR X (binaryOp .Sub) (rI0 fun i j => .int (i - j)) := opI0 fun _ _ _ _ _ _ _ q => sub_int q
theorem op_mod : OpR X (binaryOp .Mod) (rI (fun _ j => 0 < j) fun i j => .int (i % j)) := opI fun i j _ _ _ _ _ hc q => by
  have h1 : (0 : Int) < j := hc
  exact mod_int' (by omega) (by rw [Int.fmod_eq_emod_of_nonneg i (by omega)]; exact q)
theorem op_pow : OpR X (binaryOp .Pow) (rI CPow fun i j => .int (i ^ j.toNat)) := opI fun _ _ _ _ _ _ _ hc q => pow_int_small hc.1 hc.2.1 hc.2.2 q
theorem unI {f : Value → Sem Value} {g : Int → Int}
    (rule : ∀ (i : Int) (t : Tok) (s : Shared) (Q : Value → Shared → Prop) (E : Value → Shared → Prop), Q (.int (g i) s.toks) { s with toks := s.toks + 1 } → wpAny (model X.prog X.w) X.A (f (.int i t)) Q E s) :
    UnR X f (rU fun i => .int (g i)) := by
  intro pins s σ H x v Q I rx h
  obtain ⟨i, rfl, q⟩ := h
  obtain ⟨t, rfl⟩ := rx
  exact rule i t s _ _ ⟨.int (g i), H, I.tok _, ⟨_, rfl⟩, q⟩
theorem un_neg : UnR X (unaryOp .USub) (rU fun i => .int (-i)) := unI fun _ _ _ _ _ q => neg_int q
end
noncomputable def scal : V → V → Bool
  | .non, .non => true | .non, .int _ => true | .int _, .non => true | .non, .bl _ => true | .bl _, .non => true | .non, .str _ => true | .str _, .non => true
  | .int _, .int _ => true | .bl _, .bl _ => true | .str _, .str _ => true | .byt _, .byt _ => true
  | .int _, .str _ => true | .str _, .int _ => true | .bl _, .str _ => true | .str _, .bl _ => true
  | _, _ => false
noncomputable def rEq : R2 := fun x y H Q => scal x y = true ∧ Q (.bl (decide (x = y))) H
noncomputable def rNe : R2 := fun x y H Q => scal x y = true ∧ Q (.bl (!decide (x = y))) H
theorem dec_int {i j : Int} : decide (V.int i = V.int j) = (i == j) := by
  rw [Bool.eq_iff_iff]
  simp
theorem dec_bl {i j : Bool} : decide (V.bl i = V.bl j) = (i == j) := by
  rw [Bool.eq_iff_iff]
  simp
theorem dec_str {i j : Str} : decide (V.str i = V.str j) = (i == j) := by
  rw [Bool.eq_iff_iff]
  simp
theorem dec_byt {i j : Array UInt8} : decide (V.byt i = V.byt j) = (i.toList == j.toList) := by
  rw [Bool.eq_iff_iff]
  cases i
  cases j
  simp
section
variable {X : Cx} {a b c : Expr} {ta tb tc : TE} {pos : Pos}
theorem fin_bl {pins : List (Addr × Obj)} {σ : St} {H : Hp} {s : Shared} {Q : VK} {k k' : Bool} (I : Inv X pins σ H s) (q : Q (.bl k) H) (e : k = k') : EP X pins σ Q (.bool k') s := by
  subst e
  exact ⟨.bl k, H, I, rfl, q⟩
theorem op_eq : OpR X (compareOp .Eq) rEq := by
  intro pins s σ H x y v u Q I rx ry h
  obtain ⟨hs, q⟩ := h
  cases x with
  | non =>
    cases rx
    cases y with
    | non => cases ry; exact PySem.EqNone.eq_none_none (fin_bl I q (by simp))
    | bl j => cases ry; exact PySem.EqNone.eq_none_bool (fin_bl I q (by simp))
    | int j => obtain ⟨t', rfl⟩ := ry; exact PySem.EqNone.eq_none_int (fin_bl I q (by simp))
    | str j => obtain ⟨t', rfl⟩ := ry; exact PySem.EqNone.eq_none_str (fin_bl I q (by simp))
    | _ => exact absurd (show false = true from hs) Bool.false_ne_true
  | bl i =>
    cases rx
    cases y with
    | non => cases ry; exact PySem.EqNone.eq_bool_none (fin_bl I q (by simp))
    | bl j => cases ry; exact eq_bool (fin_bl I q dec_bl)
    | str j => obtain ⟨t', rfl⟩ := ry; exact PySem.EqMixed.eq_bool_str (fin_bl I q (by simp))
    | _ => exact absurd (show false = true from hs) Bool.false_ne_true
  | int i =>
    obtain ⟨t, rfl⟩ := rx
    cases y with
    | non => cases ry; exact PySem.EqNone.eq_int_none (fin_bl I q (by simp))
    | int j => obtain ⟨t', rfl⟩ := ry; exact eq_int (fin_bl I q dec_int)
    | str j => obtain ⟨t', rfl⟩ := ry; exact PySem.EqMixed.eq_int_str (fin_bl I q (by simp))
    | _ => exact absurd (show false = true from hs) Bool.false_ne_true
  | str i =>
    obtain ⟨t, rfl⟩ := rx
    cases y with
    | non => cases ry; exact PySem.EqNone.eq_str_none (fin_bl I q (by simp))
    | bl j => cases ry; exact PySem.EqMixed.eq_str_bool (fin_bl I q (by simp))
    | int j => obtain ⟨t', rfl⟩ := ry; exact PySem.EqMixed.eq_str_int (fin_bl I q (by simp))
    | str j => obtain ⟨t', rfl⟩ := ry; exact eq_str (fin_bl I q dec_str)
    | _ => exact absurd (show false = true from hs) Bool.false_ne_true
  | byt i =>
    obtain ⟨t, rfl⟩ := rx
    cases y with
    | byt j => obtain ⟨t', rfl⟩ := ry; exact PySem.W.eq_bytes (fin_bl I q dec_byt)
    | _ => exact absurd (show false = true from hs) Bool.false_ne_true
  | _ => cases y <;> exact absurd (show false = true from hs) Bool.false_ne_true
theorem op_ne : OpR X (compareOp .NotEq) rNe := by
  intro pins s σ H x y v u Q I rx ry h
  obtain ⟨hs, q⟩ := h
  cases x with
  | non =>
    cases rx
    cases y with
    | non => cases ry; exact PySem.EqNone.ne_none_none (fin_bl I q (by simp))
    | bl j => cases ry; exact PySem.EqNone.ne_none_bool (fin_bl I q (by simp))
    | int j => obtain ⟨t', rfl⟩ := ry; exact PySem.EqNone.ne_none_int (fin_bl I q (by simp))
    | str j => obtain ⟨t', rfl⟩ := ry; exact PySem.EqNone.ne_none_str (fin_bl I q (by simp))
    | _ => exact absurd (show false = true from hs) Bool.false_ne_true
  | bl i =>
    cases rx
    cases y with
    | non => cases ry; exact PySem.EqNone.ne_bool_none (fin_bl I q (by simp))
    | bl j => cases ry; exact ne_bool (fin_bl I q (congrArg not dec_bl))
    | str j => obtain ⟨t', rfl⟩ := ry; exact PySem.EqMixed.ne_bool_str (fin_bl I q (by simp))
    | _ => exact absurd (show false = true from hs) Bool.false_ne_true
  | int i =>
    obtain ⟨t, rfl⟩ := rx
    cases y with
    | non => cases ry; exact PySem.EqNone.ne_int_none (fin_bl I q (by simp))
    | int j => obtain ⟨t', rfl⟩ := ry; exact ne_int (fin_bl I q (congrArg not dec_int))
    | str j => obtain ⟨t', rfl⟩ := ry; exact PySem.EqMixed.ne_int_str (fin_bl I q (by simp))
    | _ => exact absurd (show false = true from hs) Bool.false_ne_true
  | str i =>
    obtain ⟨t, rfl⟩ := rx
    cases y with
    | non => cases ry; exact PySem.EqNone.ne_str_none (fin_bl I q (by simp))
    | bl j => cases ry; exact PySem.EqMixed.ne_str_bool (fin_bl I q (by simp))
    | int j => obtain ⟨t', rfl⟩ := ry; exact PySem.EqMixed.ne_str_int (fin_bl I q (by simp))
    | str j => obtain ⟨t', rfl⟩ := ry; exact ne_str (fin_bl I q (congrArg not dec_str))
    | _ => exact absurd (show false = true from hs) Bool.false_ne_true
  | byt i =>
    obtain ⟨t, rfl⟩ := rx
    cases y with
    | byt j => obtain ⟨t', rfl⟩ := ry; exact PySem.W.ne_bytes (fin_bl I q (congrArg not dec_byt))
    | _ => exact absurd (show false = true from hs) Bool.false_ne_true
  | _ => cases y <;> exact absurd (show false = true from hs) Bool.false_ne_true
theorem op_lt : OpR X (compareOp .Lt) (rI0 fun i j => .bl (decide (i < j))) := opB0 fun _ _ _ _ _ _ _ q => lt_int q
theorem op_le : OpR X (compareOp .LtE) (rI0 fun i j => .bl (decide (i ≤ j))) := opB0 fun _ _ _ _ _ _ _ q => le_int q
theorem op_gt : OpR X (compareOp .Gt) (rI0 fun i j => .bl (decide (j < i))) := opB0 fun _ _ _ _ _ _ _ q => gt_int q
theorem op_ge : OpR X (compareOp .GtE) (rI0 fun i j => .bl (decide (j ≤ i))) := opB0 fun _ _ _ _ _ _ _ q => ge_int q
theorem op_in_str : OpR X (compareOp .In) (fun x y H Q => ∃ i j, x = .str i ∧ y = .str j ∧ Q (.bl (!(Builtin.Str.occurrences j i 0 j.length 1).isEmpty)) H) := by
  intro pins s σ H x y v u Q I rx ry h
  obtain ⟨i, j, rfl, rfl, q⟩ := h
  obtain ⟨t, rfl⟩ := rx
  obtain ⟨t', rfl⟩ := ry
  exact in_str (fin_bl I q rfl)
theorem op_isN : OpR X (compareOp .Is) (fun x y H Q => y = .non ∧ Q (.bl (decide (x = .non))) H) := by
  intro pins s σ H x y v u Q I rx ry h
  obtain ⟨rfl, q⟩ := h
  cases ry
  refine is_none_gen (fin_bl I q ?_)
  cases x <;> first
    | (cases rx; rfl)
    | (obtain ⟨t, rfl⟩ := rx; rfl)
theorem op_notN : OpR X (compareOp .IsNot) (fun x y H Q => y = .non ∧ Q (.bl (!decide (x = .non))) H) := by
  intro pins s σ H x y v u Q I rx ry h
  obtain ⟨rfl, q⟩ := h
  cases ry
  refine isnot_none_gen (fin_bl I q ?_)
  cases x <;> first
    | (cases rx; rfl)
    | (obtain ⟨t, rfl⟩ := rx; rfl)
theorem op_notin_str : OpR X (compareOp .NotIn) (fun x y H Q => ∃ i j, x = .str i ∧ y = .str j ∧ Q (.bl (!(!(Builtin.Str.occurrences j i 0 j.length 1).isEmpty))) H) := by
  intro pins s σ H x y v u Q I rx ry h
  obtain ⟨i, j, rfl, rfl, q⟩ := h
  obtain ⟨t, rfl⟩ := rx
  obtain ⟨t', rfl⟩ := ry
  exact notIn_str (fin_bl I q rfl)
theorem OpR.or {f : Value → Value → Sem Value} {r r' : R2} (h : OpR X f r) (h' : OpR X f r') : OpR X f (fun x y H Q => r x y H Q ∨ r' x y H Q) := by
  intro pins s σ H x y v u Q I rx ry q
  rcases q with q | q
  · exact h pins s σ H x y v u Q I rx ry q
  · exact h' pins s σ H x y v u Q I rx ry q
theorem nomark (b : Expr) {op : CmpOp} (h : op ≠ .In := by decide) (h2 : op ≠ .NotIn := by decide) : behindInMarks op b = false := by
  have e1 : (op == CmpOp.In) = false := by cases op <;> first | rfl | exact absurd rfl h
  have e2 : (op == CmpOp.NotIn) = false := by cases op <;> first | rfl | exact absurd rfl h2
  cases b <;> simp [behindInMarks, e1, e2]
theorem pe_cmpR {op : CmpOp} {r : R2} (ho : OpR X (compareOp op) r) (ha : PE X a ta) (hb : PE X b tb) (hm : behindInMarks op b = false) : PE X (.Compare a [op] [b] pos) (tOp r ta tb) := by
  intro pins s σ H Q I h
  exact wpAny_Compare1 (binT ha hb I h fun v u s2 x y H2 I2 rx ry q => ho pins s2 σ H2 x y v u Q I2 rx ry q) hm
noncomputable def tTest (t : TE) : TT := fun σ H Q => t σ H fun x H' => ∃ k, x = .bl k ∧ Q k H'
theorem pt_cmpR {op : CmpOp} {r : R2} (ho : OpR X (compareOp op) r) (ha : PE X a ta) (hb : PE X b tb) (hm : behindInMarks op b = false) : PT X (.Compare a [op] [b] pos) (tTest (tOp r ta tb)) := by
  intro pins s σ H Q I h
  refine wpAny_isTrue_Compare1 (thn (ha pins s σ H _ I h) fun v s1 ⟨x, H1, I1, r1, q1⟩ => thn (hb pins s1 σ H1 _ I1 q1) fun u s2 ⟨y, H2, I2, r2, q2⟩ =>
    thn (ho pins s2 σ H2 x y v u _ I2 r1 r2 q2) fun c s3 ⟨z, H3, I3, r3, k, e, q3⟩ => ?_) hm
  subst e
  cases r3
  exact wpAny_truthy_bool ⟨H3, I3, q3⟩
noncomputable def TruV (K : PySem.W.Frag) (x : V) (H : Hp) (k : Bool) : Prop :=
  match x with
  | .non => k = false
  | .bl b => k = b
  | .int i => k = (i != 0)
  | .str y => y.length ≤ sizeLine ∧ k = ((y.length : Int) != 0)
  | .byt y => y.size ≤ sizeLine ∧ k = ((y.size : Int) != 0)
  | .ref p => (∃ xs, SqL K H p xs ∧ k = !xs.isEmpty) ∨ (∃ xs, SqT K H p xs ∧ k = !xs.isEmpty) ∨ ∃ kvs, H p = some (.dK kvs) ∧ k = !kvs.isEmpty
  | _ => False
theorem isEmpty_kv {κ : Type} {kvs : List (κ × V)} {vs : List (κ × Value)} (r : KV kvs vs) : (!vs.isEmpty) = !kvs.isEmpty := by
  cases r <;> rfl
theorem isEmpty_of {xs : List V} {its : List Value} (r : Vals xs its) : (!its.toArray.isEmpty) = !xs.isEmpty := by
  cases r <;> simp
theorem line63 : (sizeLine : Nat) < 2 ^ 63 := by rw [sizeLine_eq]; decide
theorem tru_ok : TruR X (fun x H Q => ∃ k, TruV X.K x H k ∧ Q k H) := by
  intro pins s σ H x v Q I rx h
  obtain ⟨k, e, q⟩ := h
  have hl := line63
  have hs : sizeLine = 16777216 := sizeLine_eq
  cases x with
  | non =>
    cases rx
    have e' : k = false := e
    subst e'
    exact truthy_none ⟨H, I, q⟩
  | bl b =>
    cases rx
    have e' : k = b := e
    subst e'
    exact wpAny_truthy_bool ⟨H, I, q⟩
  | int i =>
    obtain ⟨t, rfl⟩ := rx
    have e' : k = (i != 0) := e
    subst e'
    exact PySem.P.truthy_int ⟨H, I, q⟩
  | str y =>
    obtain ⟨t, rfl⟩ := rx
    obtain ⟨hy, e'⟩ : y.length ≤ sizeLine ∧ k = ((y.length : Int) != 0) := e
    subst e'
    exact PySem.P.truthy_str (by omega) ⟨H, I.tok _, q⟩
  | byt y =>
    obtain ⟨t, rfl⟩ := rx
    obtain ⟨hy, e'⟩ : y.size ≤ sizeLine ∧ k = ((y.size : Int) != 0) := e
    subst e'
    exact PySem.W.truthy_bytes (by omega) ⟨H, I.tok _, q⟩
  | ref p =>
    cases rx
    have e' : (∃ xs, SqL X.K H p xs ∧ k = !xs.isEmpty) ∨ (∃ xs, SqT X.K H p xs ∧ k = !xs.isEmpty) ∨ ∃ kvs, H p = some (.dK kvs) ∧ k = !kvs.isEmpty := e
    rcases e' with ⟨xs, hx, e'⟩ | ⟨xs, hx, e'⟩ | ⟨kvs, hx, e'⟩
    · subst e'
      obtain ⟨its, r, pl, hz⟩ := I.list hx
      have hlen := r.length
      exact wpAny_truthy_list pl.isList (by simp only [List.size_toArray]; omega) ⟨H, I.tok _, by rw [isEmpty_of r]; exact q⟩
    · subst e'
      obtain ⟨its, r, pl, hz⟩ := I.tuple hx
      have hlen := r.length
      exact truthy_tuple pl (by simp only [List.size_toArray]; omega) ⟨H, I.tok _, by rw [isEmpty_of r]; exact q⟩
    · subst e'
      obtain ⟨hz, hS, vs, r, m⟩ : kvs.length ≤ sizeLine ∧ (p == sysModules) = false ∧ ∃ vs, KV kvs vs ∧ s.heap.DictOf (mixKind X.prog X.w) p vs := I.hok p _ hx
      have hlen : kvs.length = vs.length := Paired.length r
      exact wpAny_truthy_dict hS m (by omega) ⟨H, I.tok _, by rw [isEmpty_kv r]; exact q⟩
  | _ => exact (show False from e).elim
theorem pt_truth (ha : PE X a ta) (he : ∀ whole, isTrue a X.env whole = (do let v ← whole; standAt a.pos; holding [v] (truthy v))) :
    PT X a (fun σ H Q => ta σ H fun x H' => ∃ k, TruV X.K x H' k ∧ Q k H') := by
  intro pins s σ H Q I h
  exact isTrue_plain (thn (ha pins s σ H _ I h) fun v s1 ⟨x, H1, I1, r1, q1⟩ => tru_ok pins s1 σ H1 x v Q I1 r1 q1) (he _)
theorem op_add_str : OpR X (binaryOp .Add) (fun x y H Q => ∃ i j, x = .str i ∧ y = .str j ∧ i.length + j.length ≤ sizeLine ∧ Q (.str (i ++ j)) H) := by
  intro pins s σ H x y v u Q I rx ry h
  obtain ⟨i, j, rfl, rfl, hz, q⟩ := h
  obtain ⟨t, rfl⟩ := rx
  obtain ⟨t', rfl⟩ := ry
  exact add_str (fun t' tk => ⟨.str (i ++ j), H, I.tok _, ⟨_, rfl⟩, q⟩) hz
theorem vals1 {x : V} {us : List Value} (r : Vals [x] us) : ∃ u, us = [u] ∧ RelV x u := by
  cases r with
  | cons r1 r2 => cases r2; exact ⟨_, rfl, r1⟩
theorem vals2 {x y : V} {us : List Value} (r : Vals [x, y] us) : ∃ u w', us = [u, w'] ∧ RelV x u ∧ RelV y w' := by
  cases r with
  | cons r1 r2 =>
    cases r2 with
    | cons r3 r4 => cases r4; exact ⟨_, _, rfl, r1, r3⟩
theorem call_int1 : CallR X (.type "int") (fun xs H Q => (∃ i, xs = [.int i] ∧ Q (.int i) H) ∨ ∃ k, xs = [.bl k] ∧ Q (.int (if k then 1 else 0)) H) := by
  intro pins s σ H xs us Q I r h
  rcases h with ⟨i, rfl, q⟩ | ⟨k, rfl, q⟩
  · obtain ⟨u, rfl, t, rfl⟩ := vals1 r
    exact call_int_int ⟨.int i, H, I, ⟨_, rfl⟩, q⟩
  · obtain ⟨u, rfl, r1⟩ := vals1 r
    cases r1
    exact call_int_bool ⟨.int (if k then 1 else 0), H, I.tok _, ⟨_, rfl⟩, q⟩
end
end L2
namespace L2
open PySem PySem.Spec PyProof.Rows
structure ObjM (h : Heap) (x dx C : Addr) (mA : Str → Option Value) : Prop where
  obj : h.get? x = some (PySem.W.instObj C dx)
  ns : h.Ns1 dx mA
  ne : dx ≠ x
theorem lookIn_ns {h : Heap} {dx : Addr} {mA : Str → Option Value} (n : h.Ns1 dx mA) : ∃ od, h.get? dx = some od ∧ ∀ name, PySem.W.lookIn name od = some (mA name) := by
  obtain ⟨o, es, ep, ho, hd, hk, _, hm⟩ := n
  refine ⟨o, ho, fun name => ?_⟩
  have e := hm name
  unfold nsFind findBy at e
  rw [← Array.find?_toList] at e
  unfold PySem.W.lookIn
  rw [hd]
  dsimp only
  split
  · rename_i y q
    rw [q] at e
    exact congrArg some e
  · rename_i q
    rw [q] at e
    have a : es.toList.any (·.refKey) = false := by
      rw [List.any_eq_false]
      intro y hy
      obtain ⟨z, t, hkey⟩ := hk y (Array.mem_toList_iff.mp hy)
      simp [DictEntry.refKey, hkey]
    have a' : ¬ es.toList.any (·.refKey) = true := by rw [a]; exact Bool.false_ne_true
    rw [if_neg a']
    exact congrArg some e
theorem ObjM.look {h : Heap} {x dx C : Addr} {mA : Str → Option Value} (I : ObjM h x dx C mA) : ∃ od, PySem.W.InstAt h x (PySem.W.instObj C dx) C (some od) ∧ ∀ name, PySem.W.lookIn name od = some (mA name) :=
  let ⟨od, ho, hl⟩ := lookIn_ns I.ns
  ⟨od, ⟨I.obj, rfl, rfl, ho⟩, hl⟩
section
variable {prog : Program} {w : World} {A : Around} {E : Value → Shared → Prop} {s : Shared} {K : PySem.W.Frag} {x dx C f : Addr} {mA : Str → Option Value} {name : Str} {v : Value}
end
theorem RelO.some_of {v : V} {o : Option Value} (r : RelO (some v) o) : ∃ u, o = some u ∧ RelV v u := by
  cases o with
  | none => exact (show False from r).elim
  | some u => exact ⟨u, rfl, r⟩
theorem RelO.none_of {o : Option Value} (r : RelO none o) : o = none := by
  cases o with
  | none => rfl
  | some u => exact (show False from r).elim
section
variable {P : Program} {w : World} {H H' : Hp} {h h' : Heap} {a C dx : Addr} {fs fs' : List (Str × V)}
theorem ins_get (hok : HOk P w H h) (e : H a = some (.ins C dx fs)) : ∃ mA, ObjM h a dx C mA ∧ (∀ f, RelO (fs.lookup f) (mA f)) ∧ PySem.Within mA (fs.map (·.1)) ∧ fs.length ≤ 1000 ∧ H dx = some (.own a) := by
  obtain ⟨d, z, ne, ob, mA, n, r, q⟩ := (show ObjOk P w H h a (.ins C dx fs) from hok a _ e)
  exact ⟨mA, ⟨ob, n, ne⟩, r, q, z, d⟩
end
structure Cls (K : PySem.W.Frag) (C : Addr) : Prop where
  pg : PySem.W.plainGet K C Str.empty = true
  hd : PySem.W.hasDictIn K C = true
  po : PySem.W.plainOver K C = true
  sa : PySem.W.findIn K (.ref C) "__setattr__" = some (some (.builtin "object.__setattr__"))
theorem Cls.get {K : PySem.W.Frag} {C : Addr} (c : Cls K C) (f : Str) : PySem.W.plainGet K C f = true := c.pg
structure Con (K : PySem.W.Frag) (C : Addr) (f : Str) (v : V) (u : Value) : Prop where
  at_ : PySem.W.findIn K (.ref C) f = some (some u)
  rel : RelV v u
  get : PySem.W.specialIn K u "__get__" = some none
  cp : PySem.W.copiedNames.contains f = false
structure Meth (K : PySem.W.Frag) (C : Addr) (m : Str) (f : Addr) : Prop where
  at_ : PySem.W.findIn K (.ref C) m = some (some (.ref f))
  fn : PySem.W.isFn K (.ref f) = true
  kp : PySem.W.keepIn K (.ref f) = true
section
variable {X : Cx} {pins : List (Addr × Obj)} {σ : St} {H : Hp} {s : Shared} {a C dx : Addr} {fs : List (Str × V)} {f : Str} {v : V} {A : Around} {E : Value → Shared → Prop}
end
section
variable {X : Cx} {o e value : Expr} {f : Str} {pos pos' tpos : Pos} {ta tv : TE}
end
section
variable {X : Cx} {pins : List (Addr × Obj)} {σ : St} {H : Hp} {s : Shared} {A : Around} {E : Value → Shared → Prop} {Q : Value → Shared → Prop} {c : Value} {b : Bool}
inductive TyOf (K : PySem.W.Frag) (H : Hp) : V → Value → Prop where
  | non : TyOf K H .non (.type "NoneType")
  | bl (x : Bool) : TyOf K H (.bl x) (.type "bool")
  | int (i : Int) : TyOf K H (.int i) (.type "int")
  | str (x : Str) : TyOf K H (.str x) (.type "str")
  | flt (x : UInt64) : TyOf K H (.flt x) (.type "float")
  | lst {a : Addr} {xs : List V} (e : H a = some (.lst xs)) : TyOf K H (.ref a) (.type "list")
  | frz {a : Addr} {o : Obj} {xs : List V} (e : H a = some (.frz o (.lst xs))) : TyOf K H (.ref a) (.type "list")
  | tup {a : Addr} {xs : List V} (e : H a = some (.tup xs)) : TyOf K H (.ref a) (.type "tuple")
  | dK {a : Addr} {kvs : List (Key × V)} (e : H a = some (.dK kvs)) : TyOf K H (.ref a) (.type "dict")
  | dT {a : Addr} {kvs : List (List Key × V)} (e : H a = some (.dT kvs)) : TyOf K H (.ref a) (.type "dict")
  | ins {a C dx : Addr} {fs : List (Str × V)} (e : H a = some (.ins C dx fs)) (cl : Cls K C) (ha : PySem.W.findIn K (.ref C) "__class__" = some (some (.builtin "object.__class__")))
      (hn : PySem.W.specialIn K (.builtin "object.__class__") "__get__" = some (some (.builtin "getset_descriptor.__get__"))) (htk : PySem.W.takesIn K (.builtin "object.__class__") = some true)
      (hm : PySem.W.mroIn K C (.type "object") = some true) : TyOf K H (.ref a) (.ref C)
theorem isinst_ok {x : V} {u t : Value} (I : Inv X pins σ H s) (rx : RelV x u) (ty : TyOf X.K H x t) (e : PySem.W.kitOne X.K t c = some b) (h : ∀ tk, Q (.bool b) { s with toks := tk }) :
    wpAny (model X.prog X.w) A (call (.builtin "isinstance") [u, c]) Q E s := by
  cases ty with
  | non => cases (show u = Value.none from rx); exact PySem.W.kia_one PySem.W.kitx_none I.kIn True.intro e (fun z => nomatch z) h
  | bl y => cases (show u = Value.bool y from rx); exact PySem.W.kia_one PySem.W.kitx_bool I.kIn True.intro e (fun z => nomatch z) h
  | int i => obtain ⟨t, q⟩ := (show ∃ t, u = Value.int i t from rx); cases q; exact PySem.W.kia_one PySem.W.kitx_int I.kIn True.intro e (fun z => nomatch z) h
  | str y => obtain ⟨t, q⟩ := (show ∃ t, u = Value.str y t from rx); cases q; exact PySem.W.kia_one PySem.W.kitx_str I.kIn True.intro e (fun z => nomatch z) h
  | flt y => obtain ⟨t, q⟩ := (show ∃ t, u = Value.float y t from rx); cases q; exact PySem.W.kia_one PySem.W.kitx_float I.kIn True.intro e (fun z => nomatch z) h
  | @lst a xs ea =>
    cases (show u = Value.ref a from rx)
    obtain ⟨_, _, n, _, h1⟩ := (show ObjOk X.prog X.w H s.heap a (.lst xs) from I.hok a _ ea)
    exact PySem.W.kia_one PySem.W.kitx_list I.kIn ⟨_, h1, rfl⟩ e (fun z => nomatch z) h
  | @frz a ob xs ea =>
    cases (show u = Value.ref a from rx)
    obtain ⟨_, _, _, n, _, h1⟩ := (show ObjOk X.prog X.w H s.heap a (.frz ob (.lst xs)) from I.hok a _ ea)
    exact PySem.W.kia_one PySem.W.kitx_list I.kIn ⟨_, h1, rfl⟩ e (fun z => nomatch z) h
  | @tup a xs ea =>
    cases (show u = Value.ref a from rx)
    obtain ⟨_, _, _, p⟩ := (show ObjOk X.prog X.w H s.heap a (.tup xs) from I.hok a _ ea)
    obtain ⟨o, h1, h2, _⟩ := p
    exact PySem.W.kia_one PySem.W.kitx_tuple I.kIn ⟨o, h1, h2⟩ e (fun z => nomatch z) h
  | @dK a kvs ea =>
    cases (show u = Value.ref a from rx)
    obtain ⟨_, _, vs, _, p⟩ := (show ObjOk X.prog X.w H s.heap a (.dK kvs) from I.hok a _ ea)
    obtain ⟨o, es, ep, h1, h2, _⟩ := p
    exact PySem.W.kia_one PySem.W.kitx_dict I.kIn ⟨o, h1, h2.1⟩ e (fun z => nomatch z) h
  | @dT a kvs ea =>
    cases (show u = Value.ref a from rx)
    obtain ⟨_, _, xs, _, o, es, ep, h1, h2, _⟩ := (show ObjOk X.prog X.w H s.heap a (.dT kvs) from I.hok a _ ea)
    exact PySem.W.kia_one PySem.W.kitx_dict I.kIn ⟨o, h1, h2.1⟩ e (fun z => nomatch z) h
  | @ins a C dx fs ea cl ha hn htk hm =>
    cases (show u = Value.ref a from rx)
    obtain ⟨mA, O, _⟩ := ins_get I.hok ea
    obtain ⟨od, J, _⟩ := O.look
    exact PySem.W.kia_one (PySem.W.kitx_own (cl.get _) cl.hd ha hn htk hm) I.kIn J e (fun z => nomatch z) h
end
end L2
namespace L2
open PySem PySem.Spec PyProof.Rows
structure Room (k : Nat) (A : Around) : Prop where
  hd : A.handled = none
  dp : A.depth + 3 * k + 5 < recursionLimit
  un : A.units + 16 * k + 200 < cLine
theorem Room.mono {j k : Nat} {A : Around} (r : Room k A) (h : j ≤ k) : Room j A := ⟨r.hd, by have := r.dp; omega, by have := r.un; omega⟩
theorem Room.deeper {k : Nat} {A : Around} (r : Room (k + 1) A) (env : Env) : Room k (A.deeper env) :=
  ⟨r.hd, by have := r.dp; show A.depth + 1 + 3 * k + 5 < _; omega, by have := r.un; show A.units + 3 + 16 * k + 200 < _; omega⟩
theorem Room.in1 {k : Nat} {A : Around} (r : Room (k + 1) A) : Room k A.in1 :=
  ⟨r.hd, by have := r.dp; show A.depth + 3 * k + 5 < _; omega, by have := r.un; show A.units + 1 + 16 * k + 200 < _; omega⟩
theorem make_depth {A : Around} {C : Addr} {us : List Value} {kw : List (Str × Value)} : (A.under (.builtin "type.__call__" ⟨.ref C :: us, kw⟩)).depth = A.depth + 1 := by
  first | rfl | simp [Around.under, Code.weight, Code.isCreation, Code.isGuard, Code.isCaller, Code.frames, Code.isFrame, guardIds]
theorem make_units {A : Around} {C : Addr} {us : List Value} {kw : List (Str × Value)} : (A.under (.builtin "type.__call__" ⟨.ref C :: us, kw⟩)).units = A.units + 1 := by
  first | rfl | simp [Around.under, Code.cUnits, Code.frames, Code.isFrame]
theorem Room.make {k : Nat} {A : Around} (r : Room (k + 1) A) (C : Addr) (us : List Value) (kw : List (Str × Value)) : Room k (A.under (.builtin "type.__call__" ⟨.ref C :: us, kw⟩)) :=
  ⟨r.hd, by have := r.dp; rw [make_depth]; omega, by have := r.un; rw [make_units]; omega⟩
theorem Room.depth {k : Nat} {A : Around} (r : Room k A) : A.depth < recursionLimit := by have := r.dp; omega
theorem Room.units {k : Nat} {A : Around} (r : Room k A) : A.units + 64 < cLine := by have := r.un; omega
noncomputable def tNil : TA := fun _ H Q => Q [] H
noncomputable def tCons (ta : TE) (tr : TA) : TA := fun σ H Q => ta σ H fun x H1 => tr σ H1 fun xs H2 => Q (x :: xs) H2
section
variable {X : Cx} {e : Expr} {es : List Expr} {te : TE} {t : TA} {pos : Pos}
theorem pa_nil : PA X [] tNil := fun _ _ _ _ H Q I h => Calls.spliced_nil ⟨[], H, I, .nil, h⟩
theorem pa_cons (ha : PE X e te) (hr : PA X es t) (hs : starEach (e :: es) X.env = (false, eval e X.env) :: starEach es X.env := by rfl) : PA X (e :: es) (tCons te t) := by
  intro pos pins s σ H Q I h
  rw [hs]
  show wpAny _ _ (spliced ((false, eval e X.env) :: backTo pos (starEach es X.env))) _ _ s
  refine Calls.spliced_cons (thn (ha pins s σ H _ I h) fun u s1 ⟨x, H1, I1, r1, q1⟩ => ?_)
  exact thn (hr pos pins s1 σ H1 _ I1 q1) fun us s2 ⟨xs, H2, I2, r2, q2⟩ => ⟨x :: xs, H2, I2, .cons r1 r2, q2⟩
noncomputable def tTup (t : TA) : TE := fun σ H Q => t σ H fun xs H1 => xs.length ≤ sizeLine ∧ ∀ p, H1 p = none → Q (.ref p) (upd H1 p (.tup xs))
noncomputable def tLst (t : TA) : TE := fun σ H Q => t σ H fun xs H1 => xs.length ≤ sizeLine ∧ ∀ p, H1 p = none → Q (.ref p) (upd H1 p (.lst xs))
theorem pe_tup {x1} (h : PA X es t) : PE X (.Tuple es x1 pos) (tTup t) := by
  intro pins s σ H Q I hq
  refine wpAny_Tuple_spliced (thn (h pos pins s σ H _ I hq) fun us s1 ⟨xs, H1, I1, r, z, q⟩ => ⟨by rw [← r.length]; exact z, ?_⟩)
  have hf : H1 s1.heap.objs.size = none := I1.hok.fresh (Nat.le_refl _)
  refine ⟨.ref s1.heap.objs.size, upd H1 s1.heap.objs.size (.tup xs), I1.laid (t' := s1.toks) (fun b u e => Heap.get?_push_of_some _ e) (Nat.le_refl _) ?_, rfl, q _ hf⟩
  exact ⟨z, us, r, ⟨_, Heap.get?_push_size _ rfl, rfl, _, rfl⟩⟩
theorem pe_lst (h : PA X es t) : PE X (.List es pos) (tLst t) := by
  intro pins s σ H Q I hq
  refine wpAny_List_spliced (thn (h pos pins s σ H _ I hq) fun us s1 ⟨xs, H1, I1, r, z, q⟩ => ⟨by rw [← r.length]; exact z, ?_⟩)
  have hf : H1 s1.heap.objs.size = none := I1.hok.fresh (Nat.le_refl _)
  refine ⟨.ref s1.heap.objs.size, upd H1 s1.heap.objs.size (.lst xs), I1.laid (t' := s1.toks) (fun b u e => Heap.get?_push_of_some _ e) (Nat.le_refl _) ?_, rfl, q _ hf⟩
  exact ⟨z, us, 0, r, Heap.get?_push_size _ rfl⟩
end
noncomputable abbrev Sp := List V → Hp → VK → XK → Prop
noncomputable abbrev CXT := List Env → Hp → Shared → XK → Value → Shared → Prop
structure Env0 (P : Program) (w : World) (K : PySem.W.Frag) (mg : Str → Option Value) (base : Heap) (A : Around) (outer : List Env) (s : Shared) (H : Hp) : Prop where
  frames : A.frames = some outer
  mod : Mod K mg base
  bs : ∀ b o, base.get? b = some o → s.heap.get? b = some o ∧ H b = none
  bsz : base.objs.size ≤ s.heap.objs.size
  funs : s.heap.FunFrames base outer
  frf : ∀ b ∈ frs outer, H b = none
  hok : HOk P w H s.heap
  bare : AllBare s.gens
noncomputable def CE (outer : List Env) (P : Program) (w : World) (H : Hp) (s : Shared) (Q : VK) (u : Value) (s' : Shared) : Prop :=
  ∃ v H', s'.os = s.os ∧ AllBare s'.gens ∧ Un (frs outer) [] H H' s.heap s'.heap ∧ HOk P w H' s'.heap ∧ RelV v u ∧ Q v H'
noncomputable def CR (CX : CXT) (outer : List Env) (P : Program) (w : World) (H : Hp) (s : Shared) (Q : VK) (E : XK) (r : Result) (s' : Shared) : Prop :=
  match r with
  | .ok (.ret u) => CE outer P w H s Q u s'
  | .ok _ => False
  | .error e => CX outer H s E e s'
structure FnOk (P : Program) (w : World) (K : PySem.W.Frag) (mg : Str → Option Value) (base : Heap) (CX : CXT) (k : Nat) (f : Addr) (fd : FuncData) (ps : List Str) (sp : Sp) : Prop where
  len : ∀ vs H Q E, sp vs H Q E → vs.length = ps.length
  run : ∀ (A : Around) (outer : List Env) (s : Shared) (H : Hp) (args : Args) (us : List Value) (vs : List V) (Q : VK) (E : XK), Room k A → Env0 P w K mg base A outer s H → BindsTo s fd args (ps.zip us) → Vals vs us → sp vs H Q E →
    codeAny (model P w) A (.call (.ref f) args) (CR CX outer P w H s Q E) s
theorem FnOk.mono {P : Program} {w : World} {K : PySem.W.Frag} {mg : Str → Option Value} {base : Heap} {CX : CXT} {j k : Nat} {f : Addr} {fd : FuncData} {ps : List Str} {sp : Sp} (F : FnOk P w K mg base CX j f fd ps sp) (h : j ≤ k) :
    FnOk P w K mg base CX k f fd ps sp := ⟨F.len, fun A outer s H args us vs Q E hr => F.run A outer s H args us vs Q E (hr.mono h)⟩
theorem FnOk.imp {P : Program} {w : World} {K : PySem.W.Frag} {mg : Str → Option Value} {base : Heap} {CX : CXT} {k : Nat} {f : Addr} {fd : FuncData} {ps : List Str} {sp sp' : Sp} (F : FnOk P w K mg base CX k f fd ps sp)
    (h : ∀ vs H Q E, sp' vs H Q E → sp vs H Q E) : FnOk P w K mg base CX k f fd ps sp' :=
  ⟨fun vs H Q E q => F.len vs H Q E (h _ _ _ _ q), fun A outer s H args us vs Q E hr he hb hv hs => F.run A outer s H args us vs Q E hr he hb hv (h _ _ _ _ hs)⟩
theorem Env0.make {P : Program} {w : World} {K : PySem.W.Frag} {mg : Str → Option Value} {base : Heap} {A : Around} {outer : List Env} {s : Shared} {H : Hp} (e : Env0 P w K mg base A outer s H) (C : Addr) (us : List Value) (kw : List (Str × Value)) :
    Env0 P w K mg base (A.under (.builtin "type.__call__" ⟨.ref C :: us, kw⟩)) outer s H := ⟨by first | exact e.frames | (simpa [Around.under, Code.envs, Code.isFrame, pushEnvs] using e.frames), e.mod, e.bs, e.bsz, e.funs, e.frf, e.hok, e.bare⟩
theorem Env0.in1 {P : Program} {w : World} {K : PySem.W.Frag} {mg : Str → Option Value} {base : Heap} {A : Around} {outer : List Env} {s : Shared} {H : Hp} (e : Env0 P w K mg base A outer s H) :
    Env0 P w K mg base A.in1 outer s H := ⟨e.frames, e.mod, e.bs, e.bsz, e.funs, e.frf, e.hok, e.bare⟩
section
variable {X : Cx} {pins : List (Addr × Obj)} {σ : St} {H : Hp} {s s' : Shared}
theorem Inv.env0 (I : Inv X pins σ H s) : Env0 X.prog X.w X.K X.mg X.base X.A X.stack s H :=
  ⟨I.ok.frames, I.ok.mod, I.bs, Nat.le_trans I.ok.bsz I.sz, I.stack, I.stkFree, I.hok, I.bare⟩
theorem Inv.after {Q : VK} {u : Value} (I : Inv X pins σ H s) (h : CE X.stack X.prog X.w H s Q u s') : EP X pins σ Q u s' := by
  obtain ⟨v, H', os, bare, un, hok, r, q⟩ := h
  obtain ⟨hh, g, d, t, os'⟩ := s'
  obtain rfl : os' = s.os := os
  exact ⟨v, H', I.call (h' := hh) (g' := g) (d' := d) (t' := t) (ch := []) un hok bare (fun b z => absurd z (by simp)), r, q⟩
end
noncomputable def tCall (sp : Sp) (dvs : List V) (E : XK) (t : TA) : TE := fun σ H Q => t σ H fun vs H1 => sp (vs ++ dvs) H1 Q E
noncomputable def Binds (K : PySem.W.Frag) (fd : FuncData) (ps : List Str) (ds : List Value) : Prop :=
  ∀ (s : Shared) (us : List Value), K.In s.heap → (us ++ ds).length = ps.length → BindsTo s fd ⟨us, []⟩ (ps.zip (us ++ ds))
theorem Binds.all {K : PySem.W.Frag} {fd : FuncData} {ps : List Str} (h : ∀ us : List Value, us.length = ps.length → bindArgs fd ⟨us, []⟩ = pure (ps.zip us)) : Binds K fd ps [] := fun s us _ hl => by
  rw [List.append_nil] at hl ⊢
  exact .of_eq (h us hl)
noncomputable def Passes (CX : CXT) (X : Cx) (E : XK) : Prop := ∀ (pins : List (Addr × Obj)) (σ : St) (H : Hp) (s : Shared) (e : Value) (s' : Shared), Inv X pins σ H s → CX X.stack H s E e s' → X.xe e s'
section
variable {X : Cx} {CX : CXT} {k : Nat} {f C : Addr} {fd : FuncData} {ps : List Str} {sp : Sp} {dvs : List V} {ds : List Value} {E : XK} {x m : Str} {p pos apos : Pos} {e o : Expr} {es : List Expr} {ta : TE} {t : TA}
theorem run_fn {pins : List (Addr × Obj)} {σ : St} {H : Hp} {s : Shared} {Q : VK} {us : List Value} {vs : List V} (F : FnOk X.prog X.w X.K X.mg X.base CX k f fd ps sp) (hr : Room k X.A) (hb : Binds X.K fd ps ds) (hd : Vals dvs ds) (hx : Passes CX X E)
    (I : Inv X pins σ H s) (r : Vals vs us) (h : sp (vs ++ dvs) H Q E) : wpAny (model X.prog X.w) X.A (call (.ref f) us) (EP X pins σ Q) X.xe s := by
  have r2 : Vals (vs ++ dvs) (us ++ ds) := r.append hd
  have hl : (us ++ ds).length = ps.length := by rw [← r2.length]; exact F.len _ _ _ _ h
  refine wpAny_call (codeAny_mono (F.run X.A X.stack s H ⟨us, []⟩ (us ++ ds) (vs ++ dvs) Q E hr I.env0 (hb s us I.kIn hl) r2 h) fun r s' hq => ?_)
  cases r with
  | error e => exact hx pins σ H s e s' I hq
  | ok fl =>
    cases fl with
    | ret u => exact I.after hq
    | next => exact False.elim hq
    | brk => exact False.elim hq
    | cont => exact False.elim hq
theorem pe_call (F : FnOk X.prog X.w X.K X.mg X.base CX k f fd ps sp) (hr : Room k X.A) (hg : Gl X x) (hm : X.mg x = some (.ref f)) (hk : PySem.W.keepIn X.K (.ref f) = true) (hb : Binds X.K fd ps ds) (hd : Vals dvs ds) (hx : Passes CX X E)
    (ha : PA X (e :: es) t) (hdb : (x == ("__debug__" : Str)) = false := by decide) (he : starEach (e :: es) X.env = (false, eval e X.env) :: starEach es X.env := by rfl) (hpl : (backTo pos (starEach es X.env)).any (·.1) = false := by rfl) :
    PE X (.Call (.Name x p) (e :: es) [] pos) (tCall sp dvs E t) := by
  intro pins s σ H Q I h
  refine wpAny_Call_Name_kw (ld_glob I hg hm ?_ hdb)
  refine PySem.W.callWith_K (h₀ := X.base) I.ok.mod.kin hk (thn (ha pos pins s σ H _ I h) fun us s1 ⟨vs, H1, I1, r, q⟩ => ⟨I1.kIn, ?_⟩) he hpl
  exact run_fn F hr hb hd hx I1 r q
structure Mk (K : PySem.W.Frag) (C f : Addr) : Prop where
  makes : PySem.W.makesIn K C = true
  init : PySem.W.findIn K (.ref C) "__init__" = some (some (.ref f))
  fn : PySem.W.isFn K (.ref f) = true
  kp : PySem.W.keepIn K (.ref C) = true
end
section
variable {X : Cx} {CX : CXT} {k : Nat} {f C : Addr} {fd : FuncData} {ps ks : List Str} {sp : Sp} {E : XK} {x m : Str} {p pos apos kpos : Pos} {e o : Expr} {es : List Expr} {kws : List Keyword} {te ta : TE} {t tk : TA} {nm : Option Str}
structure KBinds (K : PySem.W.Frag) (fd : FuncData) (ps ks : List Str) (g : List Value → List Value → List Value) (gV : List V → List V → List V) : Prop where
  to : ∀ (s : Shared) (us ws : List Value), K.In s.heap → (g us ws).length = ps.length → BindsTo s fd ⟨us, ks.zip ws⟩ (ps.zip (g us ws))
  rel : ∀ {vs : List V} {us : List Value} {zs : List V} {ws : List Value}, Vals vs us → Vals zs ws → Vals (gV vs zs) (g us ws)
variable {g : List Value → List Value → List Value} {gV : List V → List V → List V}
end
structure FnScope (N P : List Str) (sc : Scope) : Prop where
  kind : sc.kind = .function
  co : sc.isCoroutine = false
  gen : sc.isGenerator = false
  nd : N.Nodup
  pre : N.take P.length = P
  par : ∀ x ∈ P, sc.names.lookup x = some .local ∨ sc.names.lookup x = some .cell
  nofree : ∀ y ∈ sc.names, y.2 ≠ .free
theorem bindL_out {kindOf : Str → Option NameKind} {x : Str} : ∀ {binds : List (Str × Value)} {m : Str → Option Value}, (∀ v, (x, v) ∉ binds) → bindL kindOf binds m x = m x
  | [], _, _ => rfl
  | (n, v) :: r, m, h => by
    unfold bindL
    rw [bindL_out fun w hw => h w (List.mem_cons_of_mem _ hw)]
    split
    · have : x ≠ n := by rintro rfl; exact h v List.mem_cons_self
      simp [this]
    · rfl
theorem bindC_out {kindOf : Str → Option NameKind} {x : Str} : ∀ {binds : List (Str × Value)} {m : Str → Option Value}, (∀ v, (x, v) ∉ binds) → bindC kindOf binds m x = m x
  | [], _, _ => rfl
  | (n, v) :: r, m, h => by
    unfold bindC
    rw [bindC_out fun w hw => h w (List.mem_cons_of_mem _ hw)]
    split
    · rfl
    · have : x ≠ n := by rintro rfl; exact h v List.mem_cons_self
      simp [this]
theorem bindL_get {kindOf : Str → Option NameKind} {x : Str} {v : Value} : ∀ {P : List Str} {vs : List Value} {i : Nat} {m : Str → Option Value}, P.Nodup → P[i]? = some x → vs[i]? = some v → kindOf x = some .local →
    bindL kindOf (P.zip vs) m x = some v
  | [], _, _, _, _, h, _, _ => by simp at h
  | _ :: _, [], _, _, _, _, h, _ => by simp at h
  | p :: P, w :: vs, 0, m, nd, h1, h2, hk => by
    simp at h1 h2; subst h1; subst h2
    show bindL kindOf ((p, w) :: P.zip vs) m p = _
    unfold bindL
    rw [bindL_out fun v hv => (List.nodup_cons.mp nd).1 (List.of_mem_zip hv).1, if_pos hk]
    simp
  | p :: P, w :: vs, i + 1, m, nd, h1, h2, hk => by
    show bindL kindOf ((p, w) :: P.zip vs) m x = _
    unfold bindL
    exact bindL_get (i := i) (List.nodup_cons.mp nd).2 (by simpa using h1) (by simpa using h2) hk
theorem bindC_get {kindOf : Str → Option NameKind} {x : Str} {v : Value} : ∀ {P : List Str} {vs : List Value} {i : Nat} {m : Str → Option Value}, P.Nodup → P[i]? = some x → vs[i]? = some v → kindOf x ≠ some .local →
    bindC kindOf (P.zip vs) m x = some v
  | [], _, _, _, _, h, _, _ => by simp at h
  | _ :: _, [], _, _, _, _, h, _ => by simp at h
  | p :: P, w :: vs, 0, m, nd, h1, h2, hk => by
    simp at h1 h2; subst h1; subst h2
    show bindC kindOf ((p, w) :: P.zip vs) m p = _
    unfold bindC
    rw [bindC_out fun v hv => (List.nodup_cons.mp nd).1 (List.of_mem_zip hv).1, if_neg hk]
    simp
  | p :: P, w :: vs, i + 1, m, nd, h1, h2, hk => by
    show bindC kindOf ((p, w) :: P.zip vs) m x = _
    unfold bindC
    exact bindC_get (i := i) (List.nodup_cons.mp nd).2 (by simpa using h1) (by simpa using h2) hk
noncomputable def start (N : List Str) (vs : List V) : St := vs.map some ++ List.replicate (N.length - vs.length) none
noncomputable def cxOf (CX : CXT) (P : Program) (w : World) (K : PySem.W.Frag) (mg : Str → Option Value) (base : Heap) (N : List Str) (qual : Str) (scope : Scope) (f : Addr) (cd : Value) (A : Around) (outer : List Env) (s : Shared) (H : Hp) (E : XK) : Cx where
  prog := P
  w := w
  K := K
  mg := mg
  base := base
  A := A.deeper (envOfC qual scope s.heap.objs.size f cd)
  N := N
  s₀ := s
  H₀ := H
  env := envOfC qual scope s.heap.objs.size f cd
  outer := outer
  stack := envOfC qual scope s.heap.objs.size f cd :: outer
  ex := []
  calm := true
  fn := fun _ => true
  pn := []
  xe := fun e s' => wpAny (model P w) (A.deeper (envOfC qual scope s.heap.objs.size f cd)) (leaving (envOfC qual scope s.heap.objs.size f cd) e) (fun _ s'' => CX outer H s E e s'') (fun e' s'' => CX outer H s E e' s'') s'
theorem cell_has {sc : Scope} {n : Nat} {x : Str} (h : sc.names.lookup x = some .cell) : ∃ c, (cellsFrom n sc.names []).lookup x = some c := by
  have q := PySem.W.cellsFrom_some sc.names n [] (.inl h)
  exact Option.isSome_iff_exists.mp q
theorem inv_start {CX : CXT} {P : Program} {w : World} {K : PySem.W.Frag} {mg : Str → Option Value} {base : Heap} {N ps : List Str} {qual : Str} {scope : Scope} {f : Addr} {cd : Value} {A : Around} {outer : List Env} {s s1 : Shared} {H : Hp} {E : XK} {us : List Value} {vs : List V}
    (S : FnScope N ps scope) (hd : A.handled = none) (e0 : Env0 P w K mg base A outer s H) (hl : vs.length = ps.length) (r : Vals vs us)
    (x : InCallC s s.heap.objs.size (bindL (envOfC qual scope s.heap.objs.size f cd).kindOf (ps.zip us) fun _ => none) (cellsFrom (s.heap.objs.size + 1) scope.names []) (bindC (envOfC qual scope s.heap.objs.size f cd).kindOf (ps.zip us) fun _ => none) s1) :
    Inv (cxOf CX P w K mg base N qual scope f cd A outer s H E) [] (start N vs) H s1 := by
  have hpl : ps.length ≤ N.length := by have := congrArg List.length S.pre; rw [List.length_take] at this; omega
  obtain ⟨h1, tk, rfl, hk⟩ := x.done
  have noA : ∀ b : Addr, b ∉ (cxOf CX P w K mg base N qual scope f cd A outer s H E).ex := fun b z => absurd (show b ∈ ([] : List Addr) from z) (by simp)
  refine ⟨⟨e0.mod, S.kind, rfl, rfl, Nat.le_refl _, fun y z c h1 h2 => ?_, fun y hy => ?_, fun y c _ h => ?_, fun _ => hd, Around.frames_deeper e0.frames, .inr ⟨rfl, rfl⟩, fun b z => absurd z (noA b), e0.bs, e0.bsz, fun b _ _ => noA b, fun b z => absurd z (noA b), e0.funs, e0.frf⟩,
    rfl, e0.bare, Un.kept hk, ⟨_, x.toInCall.ns, fun i y v h1 h2 h3 => ?_⟩, fun y c h => ⟨_, x.cell y c h⟩, e0.hok.fresh (Nat.le_refl _), fun y c h => ?_, fun p hp => absurd (show p ∈ ([] : List (Addr × Obj)) from hp) (by simp), e0.hok.kept hk, ?_⟩
  · exact name_of_addr x.apart (PySem.mem_of_lookup h1) (PySem.mem_of_lookup h2)
  · have hy : scope.names.lookup y = some .cell ∨ scope.names.lookup y = some .free := hy
    rcases hy with hy | hy
    · exact cell_has hy
    · exact absurd rfl (S.nofree _ (PySem.mem_of_lookup hy))
  · exact Nat.le_of_lt (x.above y c (PySem.mem_of_lookup h))
  · have hi : i < vs.length := by
      unfold start at h2
      by_cases hi : i < vs.length
      · exact hi
      · rw [List.getElem?_append_right (by simpa using hi)] at h2
        rw [List.getElem?_replicate] at h2
        split at h2 <;> cases h2
    have ha : vs[i]? = some v := by
      unfold start at h2
      rw [List.getElem?_append_left (by simpa using hi), List.getElem?_map] at h2
      cases e : vs[i]? with
      | none => rw [e] at h2; cases h2
      | some a => rw [e] at h2; cases h2; rfl
    obtain ⟨u, hu, rv⟩ := r.get ha
    have hp : ps[i]? = some y := by
      rw [← S.pre, List.getElem?_take_of_lt (by omega)]; exact h1
    have ndP : ps.Nodup := by rw [← S.pre]; exact S.nd.sublist (List.take_sublist _ _)
    refine ⟨u, rv, ?_⟩
    rcases S.par y (List.mem_of_getElem? hp) with k | k
    · exact .inl ⟨k, bindL_get ndP hp hu k⟩
    · obtain ⟨c, e⟩ := cell_has (n := s.heap.objs.size + 1) k
      refine .inr ⟨.inl k, c, e, ?_⟩
      have q := x.cell y c e
      rw [bindC_get ndP hp hu (by show scope.names.lookup y ≠ _; rw [k]; decide)] at q
      exact q
  · exact e0.hok.fresh (Nat.le_of_lt (x.above y c (PySem.mem_of_lookup h)))
  · unfold start
    show _ = N.length
    rw [List.length_append, List.length_map, List.length_replicate]
    omega
theorem fn_of {CX : CXT} {P : Program} {w : World} {K : PySem.W.Frag} {mg : Str → Option Value} {base : Heap} {k : Nat} {f : Addr} {name qual : Str} {params : Arguments} {body : List Stmt} {scope : Scope} {dV kV doc pm cdv ct oc : Value} {an od : Option Addr}
    {osl : Array (Option Value)} {N ps : List Str} {sp : Sp} (lk : K.lookup f = some ⟨oc, od, .func (PySem.W.fnOf name qual params body scope dV kV doc pm an cdv ct), osl⟩) (hcd : PySem.W.codeIn K cdv qual = true) (S : FnScope N ps scope)
    (len : ∀ vs H Q E, sp vs H Q E → vs.length = ps.length)
    (hbody : ∀ (A : Around) (outer : List Env) (s : Shared) (H : Hp) (vs : List V) (Q : VK) (E : XK), Room k (A.deeper (envOfC qual scope s.heap.objs.size f cdv)) → sp vs H Q E →
      ∃ t, PSs (cxOf CX P w K mg base N qual scope f cdv A outer s H E) body t ∧ t { nx := fun _ H' => Q .non H', rt := Q } (start N vs) H) :
    FnOk P w K mg base CX (k + 1) f (PySem.W.fnOf name qual params body scope dV kV doc pm an cdv ct) ps sp := by
  refine ⟨len, fun A outer s H args us vs Q E hr e0 hb r hsp => ?_⟩
  have hl := len _ _ _ _ hsp
  have KX : K.In s.heap := e0.mod.kin.keeps fun b o e => (e0.bs b o e).1
  have lim : s.heap.NoLimit := e0.mod.nolimit.keeps fun b o e => (e0.bs b o e).1
  have hkind : ∀ y ∈ ps.zip us, scope.names.lookup y.1 = some .local ∨ (scope.names.lookup y.1 = some .cell ∧ ((cellsFrom (s.heap.objs.size + 1) scope.names []).lookup y.1).isSome = true) := fun ⟨n, v⟩ hy => by
    rcases S.par n (List.of_mem_zip hy).1 with q | q
    · exact .inl q
    · exact .inr ⟨q, PySem.W.cellsFrom_some _ _ _ (.inl q)⟩
  refine codeAny_call_function hr.depth (KX _ _ lk) rfl S.co S.gen rfl (PySem.W.codeRec_of KX hcd) (hb _ _ _ _ ?_)
  refine wpAny_newFunctionEnv_cells S.kind hkind fun env he s1 x => ?_
  subst he
  refine ⟨lim.keeps x.toInCall.keep, codeAny_func ?_⟩
  obtain ⟨t, ht, hq⟩ := hbody A outer s H vs Q E (hr.deeper _) hsp
  have I : Inv (cxOf CX P w K mg base N qual scope f cdv A outer s H E) [] (start N vs) H s1 := inv_start S hr.hd e0 hl r x
  refine wpAny_mono (ht [] s1 (start N vs) H _ I hq) (fun fl s' hs => ?_) fun e s' hs => hs
  have fin : ∀ {σ' : St} {H' : Hp} {v : V} {u : Value}, Inv (cxOf CX P w K mg base N qual scope f cdv A outer s H E) [] σ' H' s' → RelV v u → Q v H' → CE outer P w H s Q u s' :=
    fun {σ' H' v u} J rv q => ⟨v, H', J.os, J.bare, J.base, J.hok, rv, q⟩
  cases fl with
  | ret u =>
    obtain ⟨v, σ', H', J, rv, q⟩ := hs
    exact fin J rv q
  | next =>
    obtain ⟨σ', H', J, q⟩ := hs
    exact fin (v := V.non) (u := Value.none) J rfl q
  | brk =>
    obtain ⟨_, _, _, q⟩ := hs
    exact False.elim q
  | cont =>
    obtain ⟨_, _, _, q⟩ := hs
    exact False.elim q
end L2
namespace L2
open PySem PySem.Spec PyProof.Rows
section
variable {X : Cx} {x : Str} {p pos : Pos} {e : Expr} {es : List Expr} {t : TA} {id T : String} {r : List V → Hp → VK → Prop}
noncomputable def tCB (r : List V → Hp → VK → Prop) (t : TA) : TE := fun σ H Q => t σ H fun vs H1 => r vs H1 Q
theorem pe_callB (hc : CallR X (.builtin id) r) (hg : Gl X x) (hm : X.mg x = none) (hv : bootBuiltins x = some (.builtin id)) (ha : PA X (e :: es) t) (hn : x ≠ "__name__" := by decide) (hdb : (x == ("__debug__" : Str)) = false := by decide)
    (he : starEach (e :: es) X.env = (false, eval e X.env) :: starEach es X.env := by rfl) (hpl : (backTo pos (starEach es X.env)).any (·.1) = false := by rfl) : PE X (.Call (.Name x p) (e :: es) [] pos) (tCB r t) := by
  intro pins s σ H Q I h
  refine wpAny_Call_Name_kw (ld_blt I hg hm hv ?_ hn hdb)
  exact PyProof.Rows.callWith_builtin1 (thn (ha pos pins s σ H _ I h) fun us s1 ⟨vs, H1, I1, r1, q1⟩ => hc pins s1 σ H1 vs us Q I1 r1 q1) he hpl
theorem pe_callTy (hc : CallR X (.type T) r) (hg : Gl X x) (hm : X.mg x = none) (hv : bootBuiltins x = some (.type T)) (ha : PA X (e :: es) t) (hn : x ≠ "__name__" := by decide) (hdb : (x == ("__debug__" : Str)) = false := by decide)
    (he : starEach (e :: es) X.env = (false, eval e X.env) :: starEach es X.env := by rfl) (hpl : (backTo pos (starEach es X.env)).any (·.1) = false := by rfl) : PE X (.Call (.Name x p) (e :: es) [] pos) (tCB r t) := by
  intro pins s σ H Q I h
  refine wpAny_Call_Name_kw (ld_blt I hg hm hv ?_ hn hdb)
  exact PyProof.Rows.callWith_type1 (thn (ha pos pins s σ H _ I h) fun us s1 ⟨vs, H1, I1, r1, q1⟩ => hc pins s1 σ H1 vs us Q I1 r1 q1) he hpl
end
end L2
namespace HT
open PySem PyProof.Rows
section
open PySem.SeqAt
open PySem.AutoSeq1 (wpAny_loadPart')
open PySem.MeetsSeq PySem.MeetsSeq2 PySem.MeetsSeq3
end
section
variable {prog : Program} {w : World} {A : Around} {E : Value → Shared → Prop} {s : Shared}
theorem cat_tup {t b : Addr} {vs ws : List Value} {Q : Value → Shared → Prop} (ht : IsTup s.heap t vs.toArray) (hb : IsTup s.heap b ws.toArray) (hv : vs ≠ [])
    (h1 : ws = [] → Q (.ref t) s) (h2 : ws ≠ [] → Q (.ref s.heap.objs.size) { s with heap := s.heap.push { cls := .type "tuple", data := .seq (vs ++ ws).toArray } })
    (hsz : vs.length + ws.length ≤ sizeLine) : wpAny (model prog w) A (binaryOp .Add (.ref t) (.ref b)) Q E s := by
  obtain ⟨⟨cls, dd, data, sl⟩, ho, hc, n, hd⟩ := id ht
  obtain ⟨⟨cls2, dd2, data2, sl2⟩, ho2, hc2, n2, hd2⟩ := id hb
  simp only at hc hd hc2 hd2
  subst hc hd hc2 hd2
  have e : vs.toArray ++ ws.toArray = (vs ++ ws).toArray := by simp
  by_cases hw : ws = []
  · exact concat_meets ⟨_, ho, rfl⟩ ⟨_, ho2, rfl⟩ noFill_tuple_add seq_tuple_add PySem.F.slot_tuple_add PySem.F.entry_tuple_add (PySem.F.args_tuple_add_2 _ _)
      (tuple_addW1 t b vs.toArray ws.toArray n n2 dd dd2 sl sl2 (by simpa using hv) (by simp [hw])) ⟨ho, ho2, h1 hw⟩
  · refine concat_meets ⟨_, ho, rfl⟩ ⟨_, ho2, rfl⟩ noFill_tuple_add seq_tuple_add PySem.F.slot_tuple_add PySem.F.entry_tuple_add (PySem.F.args_tuple_add_2 _ _)
      (tuple_addW2 t b vs.toArray ws.toArray n n2 dd dd2 sl sl2 (by simpa using hv) (by simpa using hw) (by rw [List.size_toArray, List.size_toArray]; exact hsz)) ⟨ho, ho2, ?_⟩
    rw [e]
    exact h2 hw
noncomputable def sIx (n d : Nat) : Option Int → Nat
  | none => d
  | some v => if v < 0 then (v + (n : Int)).toNat else min v.toNat n
theorem sIx_le (n d : Nat) (hd : d ≤ n) (o : Option Int) : sIx n d o ≤ n := by
  cases o with
  | none => exact hd
  | some v =>
    show (if v < 0 then (v + (n : Int)).toNat else min v.toNat n) ≤ n
    by_cases hv : v < 0
    · rw [if_pos hv]; omega
    · rw [if_neg hv]; exact Nat.min_le_right _ _
theorem clip_eq (v : Int) (n d : Nat) : (if v < 0 then max (v + (n : Int)) 0 else min v (n : Int)) = ((sIx n d (some v) : Nat) : Int) := by
  show (if v < 0 then max (v + (n : Int)) 0 else min v (n : Int)) = (((if v < 0 then (v + (n : Int)).toNat else min v.toNat n) : Nat) : Int)
  by_cases hv : v < 0
  · simp only [if_pos hv]; omega
  · simp only [if_neg hv]; omega
theorem adjust_gen (lo hi : Option Int) (n : Nat) : Builtin.Slice.sliceAdjust lo hi 1 (n : Int) = (((sIx n 0 lo : Nat) : Int), ((sIx n n hi : Nat) : Int)) := by
  have h1 : ¬ ((1 : Int) < 0) := by omega
  unfold Builtin.Slice.sliceAdjust
  simp only [h1, if_false]
  refine Prod.ext ?_ ?_
  · cases lo with
    | none => rfl
    | some v => exact clip_eq v n 0
  · cases hi with
    | none => rfl
    | some v => exact clip_eq v n n
theorem places_gen (i j : Nat) : Builtin.Slice.slicePlaces (i : Int) (j : Int) 1 = j - i := by
  unfold Builtin.Slice.slicePlaces
  have h1 : (1 : Int) > 0 := by omega
  simp only [h1, if_true, Int.ediv_one]
  split <;> omega
theorem slicePart_ {v : Value} {o : Option Int} {Q : Option Int → Shared → Prop} (p : IsPart v o) (h : Q o s) : wpAny (model prog w) A (Builtin.Slice.slicePartIndex v) Q E s := by
  cases p with
  | none => exact slicePart_none h
  | int i t => exact slicePart_int h
theorem sliceApplied_gen {sl : Addr} {vl vu : Value} {lo hi : Option Int} {n : Nat} {Q : Int × Int × Nat → Shared → Prop} (hs : s.heap.IsSliceOf sl vl vu .none) (pl : IsPart vl lo) (pu : IsPart vu hi)
    (h : Q (((sIx n 0 lo : Nat) : Int), 1, sIx n n hi - sIx n 0 lo) s) : wpAny (model prog w) A (Builtin.Slice.sliceApplied (.ref sl) (pure (n : Int))) Q E s := by
  obtain ⟨os, hos, hcs, hds⟩ := id hs
  unfold Builtin.Slice.sliceApplied Builtin.Slice.sliceFields
  refine wpAny_bind (wpAny_bind (wpAny_field hos hds (x := vl) rfl (wpAny_bind (wpAny_field hos hds (x := vu) rfl (wpAny_bind (wpAny_field hos hds (x := .none) rfl (wpAny_pure ?_)))))))
  refine wpAny_bind (slicePart_none ?_)
  show wpAny _ _ (if ((1 : Int) == 0) = true then _ else _) _ _ s
  rw [if_neg (by decide)]
  refine wpAny_bind (slicePart_ pl (wpAny_bind (slicePart_ pu (wpAny_bind (wpAny_pure ?_)))))
  show wpAny _ _ (match Builtin.Slice.sliceAdjust lo hi 1 (n : Int) with | (lo, hi) => pure (lo, (1 : Int), Builtin.Slice.slicePlaces lo hi 1)) _ _ s
  rw [adjust_gen lo hi n]
  show wpAny _ _ (pure (((sIx n 0 lo : Nat) : Int), (1 : Int), Builtin.Slice.slicePlaces ((sIx n 0 lo : Nat) : Int) ((sIx n n hi : Nat) : Int) 1)) _ _ s
  rw [places_gen]
  exact wpAny_pure h
theorem pick_gen (xs : Array Value) (i k : Nat) : ((List.range k).filterMap fun (m : Nat) => xs[((i : Int) + (m : Int) * 1).toNat]?).toArray = ((xs.toList.drop i).take k).toArray := by
  have e : (fun (m : Nat) => xs[((i : Int) + (m : Int) * 1).toNat]?) = fun m => xs[i + m]? := by
    funext m
    have : ((i : Int) + (m : Int) * 1).toNat = i + m := by omega
    rw [this]
  rw [e]
  have := pick_run xs i k
  rw [List.filterMap_map] at this
  have e2 : ((fun x => xs[x]?) ∘ fun x => i + x) = fun m => xs[i + m]? := rfl
  rw [e2] at this
  rw [this]
theorem getItem_tuple_cut {t sl : Addr} {items : Array Value} {vl vu : Value} {lo hi : Option Int} {Q : Value → Shared → Prop} (ht : IsTup s.heap t items) (hs : s.heap.IsSliceOf sl vl vu .none) (pl : IsPart vl lo) (pu : IsPart vu hi)
    (hw : ¬ (sIx items.size 0 lo = 0 ∧ sIx items.size items.size hi = items.size))
    (h : Q (.ref s.heap.objs.size) { s with heap := s.heap.push { cls := .type "tuple", data := .seq ((items.toList.drop (sIx items.size 0 lo)).take (sIx items.size items.size hi - sIx items.size 0 lo)).toArray } })
    (hsz : items.size ≤ sizeLine) : wpAny (model prog w) A (getItem (.ref t) (.ref sl)) Q E s := by
  have htake : sizeOk (.seq ((items.toList.drop (sIx items.size 0 lo)).take (sIx items.size items.size hi - sIx items.size 0 lo)).toArray) := by
    show ((items.toList.drop (sIx items.size 0 lo)).take (sIx items.size items.size hi - sIx items.size 0 lo)).toArray.size ≤ sizeLine
    rw [List.size_toArray, List.length_take, List.length_drop, Array.length_toList]
    omega
  have hj : sIx items.size items.size hi ≤ items.size := sIx_le _ _ (Nat.le_refl _) hi
  obtain ⟨os, hos, hcs, hds⟩ := id hs
  have hTs : s.TypeIs (.ref sl) "slice" := ⟨os, hos, hcs⟩
  unfold getItem
  try with_reducible refine wpAny_holding ?_
  first | refine wpAny_bind (wpAny_pure ?_) | skip
  refine wpAny_bind (wpAny_sequenceKey ht.typeIs (by decide) ?_)
  refine wpAny_bind (wpAny_callSpecial?_slot (name := Str.ofString "__getitem__") ht.typeIs PyProof.Rows.slot_tuple_getitem
    (wpAny_call_entry PyProof.Rows.slot_tuple_getitem ht.typeIs entry_tuple_getitem ?_ (args_tuple_getitem _ _)))
  show wpAny _ _ (Builtin.Tuple.tupleItemsOf (.ref t) >>= _) _ _ s
  refine wpAny_bind (tupleItemsOf_ ht ?_)
  refine wpAny_bind (wpAny_typeOf hTs ?_)
  rw [if_pos (by decide)]
  refine wpAny_bind (sliceApplied_gen hs pl pu ?_)
  have hno : ¬ ((((sIx items.size 0 lo : Nat) : Int) == 0 && (1 : Int) == 1 && (sIx items.size items.size hi - sIx items.size 0 lo) == items.size) = true) := by
    intro q
    rw [Bool.and_eq_true, Bool.and_eq_true] at q
    have q1 : ((sIx items.size 0 lo : Nat) : Int) = 0 := eq_of_beq q.1.1
    have q2 : sIx items.size items.size hi - sIx items.size 0 lo = items.size := eq_of_beq q.2
    exact hw ⟨by omega, by omega⟩
  show wpAny _ _ (if (((sIx items.size 0 lo : Nat) : Int) == 0 && (1 : Int) == 1 && (sIx items.size items.size hi - sIx items.size 0 lo) == items.size) = true then _ else _) _ _ s
  rw [if_neg hno, pick_gen]
  first
    | exact wpAny_bind (m := Builtin.Tuple.tupleExact _) (wpAny_newObj_type (wpAny_pure ⟨_, rfl, wpAny_pure h⟩) htake)
    | exact wpAny_bind (m := Builtin.Tuple.tupleExact _) (wpAny_newObj_type (wpAny_bind (wpAny_pure (wpAny_pure ⟨_, rfl, wpAny_pure h⟩))) htake)
    | exact wpAny_bind (wpAny_bind (m := Builtin.Tuple.tupleExact _) (wpAny_newObj_type (wpAny_pure (wpAny_pure ⟨_, rfl, wpAny_pure h⟩)) htake))
    | exact wpAny_bind (wpAny_bind (m := Builtin.Tuple.tupleExact _) (wpAny_newObj_type (wpAny_pure ⟨_, rfl, wpAny_pure h⟩) htake))
end
end HT
namespace L2
open PySem PySem.Spec PyProof.Rows
noncomputable abbrev TO := St → Hp → (Option Int → Hp → Prop) → Prop
noncomputable def PO (X : Cx) (e : Option Expr) (t : TO) : Prop :=
  ∀ (pins : List (Addr × Obj)) (s : Shared) (σ : St) (H : Hp) (Q : Option Int → Hp → Prop), Inv X pins σ H s → t σ H Q →
    wpAny (model X.prog X.w) X.A (evalPart e X.env) (fun u s' => ∃ o H', Inv X pins σ H' s' ∧ IsPart u o ∧ Q o H') X.xe s
noncomputable def tNoPart : TO := fun _ H Q => Q none H
noncomputable def tPart (t : TE) : TO := fun σ H Q => t σ H fun x H1 => ∃ i, x = .int i ∧ Q (some i) H1
section
variable {X : Cx} {e : Expr} {te : TE} {lo hi : Option Expr} {tl th : TO} {pos p2 : Pos}
theorem po_none : PO X none tNoPart := by
  intro pins s σ H Q I h
  rw [evalPart_none]
  exact wpAny_pure ⟨none, H, I, .none, h⟩
theorem po_some (h : PE X e te) : PO X (some e) (tPart te) := by
  intro pins s σ H Q I hw
  rw [evalPart_some]
  refine thn (h pins s σ H _ I hw) fun u s1 ⟨x, H1, I1, r1, q1⟩ => ?_
  obtain ⟨i, rfl, q⟩ := q1
  obtain ⟨t, rfl⟩ := r1
  exact ⟨some i, H1, I1, .int i t, q⟩
noncomputable def SlR (X : Cx) (r : V → Option Int → Option Int → Hp → VK → Prop) : Prop :=
  ∀ (pins : List (Addr × Obj)) (s : Shared) (σ : St) (H : Hp) (x : V) (v vl vu : Value) (lo hi : Option Int) (sl : Addr) (Q : VK), Inv X pins σ H s → RelV x v → s.heap.IsSliceOf sl vl vu .none → IsPart vl lo → IsPart vu hi → r x lo hi H Q →
    ∃ T id, typeLookup (.type T) "__getitem__" = pure (some (.builtin id)) ∧ s.TypeIs v T ∧ wpAny (model X.prog X.w) X.A (getItem v (.ref sl)) (EP X pins σ Q) X.xe s
theorem SlR.or {r r' : V → Option Int → Option Int → Hp → VK → Prop} (h : SlR X r) (h' : SlR X r') : SlR X (fun x lo hi H Q => r x lo hi H Q ∨ r' x lo hi H Q) := by
  intro pins s σ H x v vl vu lo hi sl Q I rx hs pl pu q
  rcases q with q | q
  · exact h pins s σ H x v vl vu lo hi sl Q I rx hs pl pu q
  · exact h' pins s σ H x v vl vu lo hi sl Q I rx hs pl pu q
noncomputable def tSl (r : V → Option Int → Option Int → Hp → VK → Prop) (te : TE) (tl th : TO) : TE := fun σ H Q => te σ H fun x H1 => tl σ H1 fun l H2 => th σ H2 fun u H3 => r x l u H3 Q
theorem pe_slice {r : V → Option Int → Option Int → Hp → VK → Prop} (hr : SlR X r) (he : PE X e te) (hl : PO X lo tl) (hu : PO X hi th) : PE X (.Subscript e (.Slice lo hi none p2) pos) (tSl r te tl th) := by
  intro pins s σ H Q I h
  refine Subscript_ (thn (he pins s σ H _ I h) fun v s1 ⟨x, H1, I1, r1, q1⟩ => ?_)
  refine wpAny_Slice (thn (hl pins s1 σ H1 _ I1 q1) fun vl s2 ⟨l, H2, I2, pl, q2⟩ => thn (hu pins s2 σ H2 _ I2 q2) fun vu s3 ⟨u, H3, I3, pu, q3⟩ => ?_)
  rw [evalPart_none]
  refine wpAny_pure ?_
  have I4 : Inv X pins σ H3 { s3 with heap := s3.heap.push { cls := .type "slice", data := .fields #[vl, vu, .none] } } := I3.kept (t' := s3.toks) fun b ob q => Heap.get?_push_of_some _ q
  obtain ⟨T, id, hT, ht, hg⟩ := hr pins { s3 with heap := s3.heap.push { cls := .type "slice", data := .fields #[vl, vu, .none] } } σ H3 x v vl vu l u s3.heap.objs.size Q I4 r1 (Heap.IsSliceOf.new ..) pl pu q3
  show wpAny (model X.prog X.w) X.A (subscriptTail e (.Slice lo hi none p2) v (.ref s3.heap.objs.size)) (EP X pins σ Q) X.xe { s3 with heap := s3.heap.push { cls := .type "slice", data := .fields #[vl, vu, .none] } }
  exact tail_any (ops := [.ref s3.heap.objs.size, v]) ht hT hg (by with_unfolding_all rfl)
noncomputable def cutV (xs : List V) (lo hi : Option Int) : List V := (xs.drop (HT.sIx xs.length 0 lo)).take (HT.sIx xs.length xs.length hi - HT.sIx xs.length 0 lo)
theorem cutV_length (xs : List V) (lo hi : Option Int) : (cutV xs lo hi).length ≤ xs.length := by
  unfold cutV
  rw [List.length_take, List.length_drop]
  omega
noncomputable def rSlT (K : PySem.W.Frag) : V → Option Int → Option Int → Hp → VK → Prop := fun x lo hi H Q => ∃ a xs, x = .ref a ∧ SqT K H a xs ∧
  ¬ (HT.sIx xs.length 0 lo = 0 ∧ HT.sIx xs.length xs.length hi = xs.length) ∧ ∀ p, H p = none → Q (.ref p) (upd H p (.tup (cutV xs lo hi)))
theorem sl_tup : SlR X (rSlT X.K) := by
  intro pins s σ H x v vl vu lo hi sl Q I rx hs pl pu h
  obtain ⟨a, xs, rfl, hx, hw, q⟩ := h
  cases rx
  obtain ⟨its, r, ht, hz⟩ := I.tuple hx
  have hlen : its.toArray.size = xs.length := by rw [List.size_toArray]; exact r.length.symm
  refine ⟨"tuple", _, PyProof.Rows.slot_tuple_getitem.lookup, ht.typeIs, ?_⟩
  refine HT.getItem_tuple_cut ht hs pl pu (by rw [hlen]; exact hw) ?_ (by rw [hlen]; exact hz)
  rw [hlen]
  refine ⟨.ref s.heap.objs.size, _, I.laid (t' := s.toks) (o := .tup (cutV xs lo hi)) (fun b ob q => Heap.get?_push_of_some _ q) (Nat.le_refl _) ?_, rfl, q _ (I.hok.fresh (Nat.le_refl _))⟩
  exact ⟨Nat.le_trans (cutV_length xs lo hi) hz, _, (r.drop (HT.sIx xs.length 0 lo)).take (HT.sIx xs.length xs.length hi - HT.sIx xs.length 0 lo), IsTup.new _ _⟩
noncomputable def rCatT (K : PySem.W.Frag) : R2 := fun x y H Q => ∃ a b xs ys, x = .ref a ∧ y = .ref b ∧ SqT K H a xs ∧ SqT K H b ys ∧ xs ≠ [] ∧ xs.length + ys.length ≤ sizeLine ∧
  (ys = [] → Q (.ref a) H) ∧ (ys ≠ [] → ∀ p, H p = none → Q (.ref p) (upd H p (.tup (xs ++ ys))))
theorem Vals.nil_iff {xs : List V} {us : List Value} (r : Vals xs us) : us = [] ↔ xs = [] := by
  cases r with
  | nil => simp
  | cons _ _ => simp
theorem op_catT : OpR X (binaryOp .Add) (rCatT X.K) := by
  intro pins s σ H x y v u Q I rx ry h
  obtain ⟨a, b, xs, ys, rfl, rfl, ha, hb, hx, hz, q1, q2⟩ := h
  cases rx
  cases ry
  obtain ⟨its, r1, p1, _⟩ := I.tuple ha
  obtain ⟨its2, r2, p2, _⟩ := I.tuple hb
  refine HT.cat_tup p1 p2 (fun z => hx (r1.nil_iff.mp z)) (fun z => ⟨.ref a, H, I, rfl, q1 (r2.nil_iff.mp z)⟩) (fun z => ?_) (by rw [← r1.length, ← r2.length]; exact hz)
  refine ⟨.ref s.heap.objs.size, _, I.laid (t' := s.toks) (o := .tup (xs ++ ys)) (fun b ob q => Heap.get?_push_of_some _ q) (Nat.le_refl _) ?_, rfl, q2 (fun w => z (r2.nil_iff.mpr w)) _ (I.hok.fresh (Nat.le_refl _))⟩
  exact ⟨by rw [List.length_append]; exact hz, _, r1.append r2, IsTup.new _ _⟩
end
end L2
namespace L2
open PySem PySem.Spec PyProof.Rows
noncomputable def ixN (n : Nat) (i : Int) : Option Nat := if 0 ≤ i then (if i < n then some i.toNat else none) else if -(n : Int) ≤ i then some (i + n).toNat else none
noncomputable def atI {α : Type} (xs : List α) (i : Int) : Option α := (ixN xs.length i).bind fun j => xs[j]?
theorem ixN_seq {n : Nat} {i : Int} {j : Nat} (h : ixN n i = some j) : seqIndex? i n = some j ∧ j < n ∧ -(n : Int) ≤ i ∧ i < n := by
  unfold ixN at h
  by_cases h0 : 0 ≤ i
  · rw [if_pos h0] at h
    by_cases h1 : i < n
    · rw [if_pos h1] at h
      have e : i.toNat = j := Option.some.inj h
      exact ⟨by rw [seqIndex_of h0 h1, e], by omega, by omega, h1⟩
    · rw [if_neg h1] at h; cases h
  · rw [if_neg h0] at h
    by_cases h1 : -(n : Int) ≤ i
    · rw [if_pos h1] at h
      have e : (i + n).toNat = j := Option.some.inj h
      exact ⟨by rw [seqIndex_neg (by omega) h1, e], by omega, h1, by omega⟩
    · rw [if_neg h1] at h; cases h
theorem atI_get {α : Type} {xs : List α} {i : Int} {v : α} (h : atI xs i = some v) : ∃ j, seqIndex? i xs.length = some j ∧ xs[j]? = some v ∧ j < xs.length ∧ -(xs.length : Int) ≤ i ∧ i < xs.length := by
  unfold atI at h
  cases e : ixN xs.length i with
  | none => rw [e] at h; cases h
  | some j =>
    rw [e] at h
    obtain ⟨h1, h2, h3, h4⟩ := ixN_seq e
    exact ⟨j, h1, h, h2, h3, h4⟩
theorem atI_last {α : Type} (xs : List α) (v : α) : atI (xs ++ [v]) (-1) = some v := by
  have hl : (xs ++ [v]).length = xs.length + 1 := by simp
  have e : ixN (xs ++ [v]).length (-1) = some xs.length := by
    unfold ixN
    rw [hl, if_neg (by decide), if_pos (by omega)]
    congr 1
    omega
  unfold atI
  rw [e]
  show (xs ++ [v])[xs.length]? = some v
  simp
noncomputable def PlainIx (b : Expr) : Prop := ∀ o i, subscripted b false o i = operate [o, i] (getItem o i)
noncomputable def IxR (X : Cx) (r : R2) : Prop :=
  ∀ (value slice : Expr) (pins : List (Addr × Obj)) (s : Shared) (σ : St) (H : Hp) (x y : V) (v u : Value) (Q : VK), Inv X pins σ H s → RelV x v → RelV y u → r x y H Q →
    subscripted slice false v u = operate [v, u] (getItem v u) → wpAny (model X.prog X.w) X.A (subscriptTail value slice v u) (EP X pins σ Q) X.xe s
noncomputable def MtR (X : Cx) (id : String) (r : V → List V → Hp → VK → Prop) : Prop :=
  ∀ (pins : List (Addr × Obj)) (s : Shared) (σ : St) (H : Hp) (x : V) (xs : List V) (v : Value) (us : List Value) (Q : VK), Inv X pins σ H s → RelV x v → Vals xs us → r x xs H Q →
    wpAny (model X.prog X.w) X.A (call (.builtin id) (v :: us)) (EP X pins σ Q) X.xe s
section
variable {X : Cx} {a b : Expr} {ta tb : TE} {pos : Pos}
theorem IxR.or {r r' : R2} (h : IxR X r) (h' : IxR X r') : IxR X (fun x y H Q => r x y H Q ∨ r' x y H Q) := by
  intro value slice pins s σ H x y v u Q I rx ry q hs
  rcases q with q | q
  · exact h value slice pins s σ H x y v u Q I rx ry q hs
  · exact h' value slice pins s σ H x y v u Q I rx ry q hs
theorem MtR.or {id : String} {r r' : V → List V → Hp → VK → Prop} (h : MtR X id r) (h' : MtR X id r') : MtR X id (fun x xs H Q => r x xs H Q ∨ r' x xs H Q) := by
  intro pins s σ H x xs v us Q I rx rs q
  rcases q with q | q
  · exact h pins s σ H x xs v us Q I rx rs q
  · exact h' pins s σ H x xs v us Q I rx rs q
theorem pe_ix {r : R2} (hr : IxR X r) (ha : PE X a ta) (hb : PE X b tb) (hs : PlainIx b) : PE X (.Subscript a b pos) (tOp r ta tb) := by
  intro pins s σ H Q I h
  exact Subscript_ (binT ha hb I h fun v u s2 x y H2 I2 rx ry q => hr a b pins s2 σ H2 x y v u Q I2 rx ry q (hs _ _))
noncomputable def rIxL (K : PySem.W.Frag) : R2 := fun x y H Q => ∃ p xs i v, x = .ref p ∧ y = .int i ∧ SqL K H p xs ∧ atI xs i = some v ∧ Q v H
noncomputable def rIxT (K : PySem.W.Frag) : R2 := fun x y H Q => ∃ p xs i v, x = .ref p ∧ y = .int i ∧ SqT K H p xs ∧ atI xs i = some v ∧ Q v H
noncomputable def rIxS : R2 := fun x y H Q => ∃ z i c, x = .str z ∧ y = .int i ∧ z.length ≤ sizeLine ∧ atI z.cps.toList i = some c ∧ Q (.str ⟨#[c]⟩) H
theorem ix_list : IxR X (rIxL X.K) := by
  intro value slice pins s σ H x y v u Q I rx ry h hs
  obtain ⟨p, xs, i, z, rfl, rfl, hq, he, q⟩ := h
  cases rx
  obtain ⟨t, rfl⟩ := ry
  obtain ⟨its, r, pl, hz⟩ := I.list hq
  obtain ⟨j, h1, h2, h3, h4, h5⟩ := atI_get he
  obtain ⟨w, ew, rw'⟩ := r.get h2
  have hl := r.length
  have hn := line63
  have fin : EP X pins σ Q w s := ⟨z, H, I, rw', q⟩
  by_cases h0 : 0 ≤ i
  · have hj : i.toNat = j := by
      rw [seqIndex_of h0 h5] at h1
      exact Option.some.inj h1
    exact item_listR pl.isList h0 (by omega) (by rw [hj]; simpa using ew) fin hs
  · have hj : (i + (its.toArray.size : Int)).toNat = j := by
      rw [seqIndex_neg (by omega) h4] at h1
      rw [List.size_toArray, ← hl]
      exact Option.some.inj h1
    exact subscriptTail_builtinR (x := w) pl.isList.typeIs slot_list_getitem.lookup
      (wpAny_getItem_list_neg (Q := fun r s' => r = w ∧ EP X pins σ Q r s') pl.isList (by omega) (by rw [List.size_toArray] <;> omega) (by omega) (by rw [hj]; simpa using ew) ⟨rfl, fin⟩) hs
theorem ix_tup : IxR X (rIxT X.K) := by
  intro value slice pins s σ H x y v u Q I rx ry h hs
  obtain ⟨p, xs, i, z, rfl, rfl, hq, he, q⟩ := h
  cases rx
  obtain ⟨t, rfl⟩ := ry
  obtain ⟨its, r, pl, hz⟩ := I.tuple hq
  obtain ⟨j, h1, h2, h3, h4, h5⟩ := atI_get he
  obtain ⟨w, ew, rw'⟩ := r.get h2
  have hl := r.length
  have hn := line63
  have fin : EP X pins σ Q w s := ⟨z, H, I, rw', q⟩
  exact subscriptTail_builtinR (x := w) pl.typeIs slot_tuple_getitem.lookup
    (getItem_tuple (j := j) (Q := fun r s' => r = w ∧ EP X pins σ Q r s') pl (by omega) (by omega) (by rw [List.size_toArray, ← hl]; exact h1) (by simpa using ew) ⟨rfl, fin⟩) hs
theorem ix_str : IxR X rIxS := by
  intro value slice pins s σ H x y v u Q I rx ry h hs
  obtain ⟨z, i, c, rfl, rfl, hz, he, q⟩ := h
  obtain ⟨t, rfl⟩ := rx
  obtain ⟨t', rfl⟩ := ry
  obtain ⟨j, h1, h2, h3, h4, h5⟩ := atI_get he
  have hl : z.cps.toList.length = z.length := by simp [Str.length]
  rw [hl] at h1 h4 h5
  have hn := line63
  exact tail_any (typeIs_str s z t) slot_str_getitem.lookup (getItem_str (c := c) (by
    have e1 : decide (i < -(2 ^ 63 : Int)) = false := decide_eq_false (by omega)
    have e2 : decide (i ≥ 2 ^ 63) = false := decide_eq_false (by omega)
    rw [e1, e2, Bool.or_false]) (by rw [h1]; simpa using h2) ⟨.str ⟨#[c]⟩, H, I.tok _, ⟨_, rfl⟩, q⟩) hs
theorem Inv.lst {pins : List (Addr × Obj)} {σ : St} {H : Hp} {s : Shared} {p : Addr} {xs : List V} (I : Inv X pins σ H s) (h : H p = some (.lst xs)) :
    ∃ (its : List Value) (n : Nat), Vals xs its ∧ s.heap.get? p = some { cls := .type "list", data := .seq its.toArray n } ∧ xs.length ≤ sizeLine := by
  obtain ⟨z, its, n, r, e⟩ := I.hok p _ h
  exact ⟨its, n, r, e, z⟩
theorem slice_bounds (lo hi : Option Int) (n : Nat) : (sliceBounds lo hi none n).1 = ((HT.sIx n 0 lo : Nat) : Int) ∧ (sliceBounds lo hi none n).2.1 = ((HT.sIx n n hi : Nat) : Int) ∧ (sliceBounds lo hi none n).2.2 = 1 := by
  refine ⟨?_, ?_, rfl⟩
  · cases lo with
    | none => simp [sliceBounds, HT.sIx]
    | some i =>
      simp only [sliceBounds, HT.sIx, Option.getD_none, show (1 : Int) > 0 by decide, if_true]
      by_cases h : i < 0
      · simp only [h, if_true] <;> omega
      · simp only [h, if_false] <;> omega
  · cases hi with
    | none => simp [sliceBounds, HT.sIx]
    | some i =>
      simp only [sliceBounds, HT.sIx, Option.getD_none, show (1 : Int) > 0 by decide, if_true]
      by_cases h : i < 0
      · simp only [h, if_true] <;> omega
      · simp only [h, if_false] <;> omega
theorem slicePick_cut (its : List Value) (lo hi : Option Int) : slicePick its.toArray lo hi none = ((its.drop (HT.sIx its.length 0 lo)).take (HT.sIx its.length its.length hi - HT.sIx its.length 0 lo)).toArray := by
  obtain ⟨h1, h2, h3⟩ := slice_bounds lo hi its.toArray.size
  unfold slicePick
  rw [h1, h2, h3]
  simp only [sliceRange_one, pick_run, List.size_toArray] <;> rfl
noncomputable def rSlL (K : PySem.W.Frag) : V → Option Int → Option Int → Hp → VK → Prop := fun x lo hi H Q => ∃ a xs, x = .ref a ∧ SqL K H a xs ∧ ∀ p, H p = none → Q (.ref p) (upd H p (.lst (cutV xs lo hi)))
theorem sl_list : SlR X (rSlL X.K) := by
  intro pins s σ H x v vl vu lo hi sl Q I rx hs pl pu h
  obtain ⟨a, xs, rfl, hx, q⟩ := h
  cases rx
  obtain ⟨its, r, ht, hz⟩ := I.list hx
  have hlen := r.length
  refine ⟨"list", _, slot_list_getitem.lookup, ht.isList.typeIs, ?_⟩
  refine wpAny_getItem_list_slice ht.isList hs pl pu .none (by simp) ?_ (by rw [List.size_toArray] <;> omega)
  rw [slicePick_cut, ← hlen]
  refine ⟨.ref s.heap.objs.size, _, I.laid (t' := s.toks) (o := .lst (cutV xs lo hi)) (fun b ob q => Heap.get?_push_of_some _ q) (Nat.le_refl _) ?_, rfl, q _ (I.hok.fresh (Nat.le_refl _))⟩
  exact ⟨Nat.le_trans (cutV_length xs lo hi) hz, _, 0, (r.drop (HT.sIx xs.length 0 lo)).take (HT.sIx xs.length xs.length hi - HT.sIx xs.length 0 lo), Heap.get?_push_size _ rfl⟩
theorem call_len_seq : CallR X (.builtin "len") (fun xs H Q => ∃ p ys, xs = [.ref p] ∧ (SqL X.K H p ys ∨ SqT X.K H p ys) ∧ Q (.int ys.length) H) := by
  intro pins s σ H xs us Q I r h
  obtain ⟨p, ys, rfl, hq, q⟩ := h
  obtain ⟨u, rfl, rx⟩ := vals1 r
  cases rx
  have hn := line63
  rcases hq with hq | hq
  · obtain ⟨its, r', pl, hz⟩ := I.list hq
    have hlen := r'.length
    exact Calls.call_len_list pl.isList (by simp only [List.size_toArray] <;> omega) ⟨.int ys.length, H, I.tok _, ⟨s.toks + 1, by rw [List.size_toArray, hlen]⟩, q⟩
  · obtain ⟨its, r', pl, hz⟩ := I.tuple hq
    have hlen := r'.length
    exact len_tuple pl (by simp only [List.size_toArray] <;> omega) ⟨.int ys.length, H, I.tok _, ⟨s.toks + 1, by rw [List.size_toArray, hlen]⟩, q⟩
theorem call_len_str : CallR X (.builtin "len") (fun xs H Q => ∃ z, xs = [.str z] ∧ z.length ≤ sizeLine ∧ Q (.int z.length) H) := by
  intro pins s σ H xs us Q I r h
  obtain ⟨z, rfl, hz, q⟩ := h
  obtain ⟨u, rfl, t, rfl⟩ := vals1 r
  have hn := line63
  exact len_str (by omega) ⟨.int z.length, H, I.tok _, ⟨_, rfl⟩, q⟩
theorem CallR.or {f : Value} {r r' : List V → Hp → VK → Prop} (h : CallR X f r) (h' : CallR X f r') : CallR X f (fun xs H Q => r xs H Q ∨ r' xs H Q) := by
  intro pins s σ H xs us Q I rs q
  rcases q with q | q
  · exact h pins s σ H xs us Q I rs q
  · exact h' pins s σ H xs us Q I rs q
theorem call_list_of : CallR X (.type "list") (fun xs H Q => ∃ p ys, xs = [.ref p] ∧ (SqL X.K H p ys ∨ SqT X.K H p ys) ∧ ∀ l, H l = none → Q (.ref l) (upd H l (.lst ys))) := by
  intro pins s σ H xs us Q I r h
  obtain ⟨p, ys, rfl, hq, q⟩ := h
  obtain ⟨u, rfl, rx⟩ := vals1 r
  cases rx
  have fin : ∀ (its : List Value), Vals ys its → ys.length ≤ sizeLine → ∀ (h' : Heap) (c' : Nat), (∀ b o', s.heap.get? b = some o' → h'.get? b = some o') →
      h'.get? s.heap.objs.size = some { cls := .type "list", dict := none, data := .seq its.toArray c', slots := #[] } → EP X pins σ Q (.ref s.heap.objs.size) { s with heap := h' } := fun its r' hz h' c' kp e =>
    ⟨.ref s.heap.objs.size, _, I.laid (t' := s.toks) kp (Nat.le_refl _) (show ObjOk X.prog X.w _ h' _ (.lst ys) from ⟨hz, its, c', r', e⟩), rfl, q _ (I.hok.fresh (Nat.le_refl _))⟩
  rcases hq with hq | hq
  · obtain ⟨its, r', pl, hz⟩ := I.list hq
    have hlen := r'.length
    obtain ⟨o, ho, hc, n, hd⟩ := pl.isList
    exact call_list_seq p (.inl rfl) ho hc hd (fun h' c' kp e => fin its r' hz h' c' kp e) (by simp only [List.size_toArray] <;> omega)
  · obtain ⟨its, r', pl, hz⟩ := I.tuple hq
    have hlen := r'.length
    obtain ⟨o, ho, hc, n, hd⟩ := pl
    exact call_list_seq p (.inr rfl) ho hc hd (fun h' c' kp e => fin its r' hz h' c' kp e) (by simp only [List.size_toArray] <;> omega)
noncomputable def tyV (K : PySem.W.Frag) (T : String) (x : V) (H : Hp) : Prop := match x with
  | .str _ => T = "str"
  | .int _ => T = "int"
  | .ref p => (T = "list" ∧ ∃ xs, SqL K H p xs) ∨ (T = "tuple" ∧ ∃ o, K.lookup p = some o ∧ o.cls = .type "tuple" ∧ o.dict = none) ∨
      (T = "dict" ∧ ((∃ kvs, H p = some (.dK kvs)) ∨ ∃ kvs, H p = some (.dT kvs))) ∨ (T = "set" ∧ ∃ S n, H p = some (.set S n))
  | _ => False
theorem tyV_is {pins : List (Addr × Obj)} {σ : St} {H : Hp} {s : Shared} {T : String} {x : V} {v : Value} (I : Inv X pins σ H s) (r : RelV x v) (ty : tyV X.K T x H) :
    s.TypeIs v T ∧ ∀ a, v = .ref a → ∃ ob, s.heap.get? a = some ob ∧ ob.dict = none := by
  cases x with
  | str z =>
    obtain ⟨t, rfl⟩ := r
    cases (show T = "str" from ty)
    exact ⟨typeIs_str s z t, fun _ e => nomatch e⟩
  | int i =>
    obtain ⟨t, rfl⟩ := r
    cases (show T = "int" from ty)
    exact ⟨typeIs_int s i t, fun _ e => nomatch e⟩
  | ref p =>
    cases r
    rcases ty with ⟨rfl, xs, hq⟩ | ⟨rfl, o, hk, hc, hd⟩ | ⟨rfl, hk⟩ | ⟨rfl, S, n, hk⟩
    · obtain ⟨its, _, pl, _⟩ := I.list hq
      refine ⟨pl.isList.typeIs, fun a e => ?_⟩
      cases e
      obtain ⟨o, n, e, c, hd, _⟩ := pl
      exact ⟨o, e, hd⟩
    · refine ⟨⟨o, I.kIn p o hk, hc⟩, fun a e => ?_⟩
      cases e
      exact ⟨o, I.kIn _ o hk, hd⟩
    · have z : ∃ o, s.heap.get? p = some o ∧ o.ExactDict := by
        rcases hk with ⟨kvs, hk⟩ | ⟨kvs, hk⟩
        · obtain ⟨_, _, _, _, o, _, _, e, ex, _⟩ := I.hok p _ hk
          exact ⟨o, e, ex⟩
        · obtain ⟨_, _, _, _, o, _, _, e, ex, _⟩ := I.hok p _ hk
          exact ⟨o, e, ex⟩
      obtain ⟨o, e, ex⟩ := z
      refine ⟨⟨o, e, ex.1⟩, fun a e2 => ?_⟩
      cases e2
      exact ⟨o, e, ex.2.1⟩
    · obtain ⟨o, _, _, _, e, ex, _⟩ := I.hok p _ hk
      refine ⟨⟨o, e, ex.1⟩, fun a e2 => ?_⟩
      cases e2
      exact ⟨o, e, ex.2.1⟩
  | _ => exact False.elim ty
noncomputable def tBM0 (K : PySem.W.Frag) (T : String) (r : V → List V → Hp → VK → Prop) (to : TE) : TE := fun σ H Q => to σ H fun x H1 => tyV K T x H1 ∧ r x [] H1 Q
noncomputable def tBM (K : PySem.W.Frag) (T : String) (r : V → List V → Hp → VK → Prop) (to : TE) (t : TA) : TE := fun σ H Q => to σ H fun x H1 => tyV K T x H1 ∧ t σ H1 fun xs H2 => r x xs H2 Q
variable {o e : Expr} {es : List Expr} {to : TE} {t : TA} {name : Str} {apos cpos : Pos} {T id : String} {r : V → List V → Hp → VK → Prop}
theorem pe_bm0 (pa : PlainAttrs T) (slot : Slot T name id) (hty : typeOf (.builtin id) = pure (.type "method_descriptor")) (hm : MtR X id r) (ho : PE X o to)
    (hbase : attributeBase o name X.env (eval o X.env) = eval o X.env := by rfl) (hline : (apos.endLine == cpos.line) = true := by rfl) : PE X (.Call (.Attribute o name apos) [] [] cpos) (tBM0 X.K T r to) := by
  intro pins s σ H Q I h
  refine wpAny_Call_method0_late hbase hline (thn (ho pins s σ H _ I h) fun v s1 ⟨x, H1, I1, r1, ty, q1⟩ => ?_)
  obtain ⟨h1, h2⟩ := tyV_is I1 r1 ty
  exact ⟨T, id, pa, slot, hty, h1, h2, Calls.callWith_builtin rfl (PySem.evalArgs_none (hm pins s1 σ H1 x [] v [] Q I1 r1 .nil q1))⟩
theorem pe_bm (pa : PlainAttrs T) (slot : Slot T name id) (hty : typeOf (.builtin id) = pure (.type "method_descriptor")) (hm : MtR X id r) (ho : PE X o to) (ha : PA X (e :: es) t)
    (hbase : attributeBase o name X.env (eval o X.env) = eval o X.env := by rfl)
    (hfew : ((backTo cpos (starEach (e :: es) X.env)).all (fun x => !x.1) && (backToKw cpos (keywordEach [] X.env)).all (fun x => x.1.isSome)
      && decide ((e :: es).length + ([] : List Keyword).length + (if ([] : List Keyword).isEmpty then 0 else 1) < 30)) = true := by rfl)
    (hline : (apos.endLine == cpos.line) = true := by rfl) (hs : starEach (e :: es) X.env = (false, eval e X.env) :: starEach es X.env := by rfl) (hplain : (backTo cpos (starEach es X.env)).any (·.1) = false := by rfl) :
    PE X (.Call (.Attribute o name apos) (e :: es) [] cpos) (tBM X.K T r to t) := by
  intro pins s σ H Q I h
  refine wpAny_Call_method_late hbase hfew hline rfl (thn (ho pins s σ H _ I h) fun v s1 ⟨x, H1, I1, r1, ty, q1⟩ => ?_)
  obtain ⟨h1, h2⟩ := tyV_is I1 r1 ty
  refine ⟨T, id, pa, slot, hty, h1, h2, ?_⟩
  have hA := ha cpos pins s1 σ H1 _ I1 q1
  rw [hs] at hA ⊢
  refine Calls.callWith_builtin (by show (false || (backTo cpos (starEach es X.env)).any (·.1)) = false; rw [hplain] <;> rfl) (Calls.evalArgs_plain ?_)
  exact thn hA fun us s2 ⟨vs, H2, I2, r2, q2⟩ => hm pins s2 σ H2 x vs v us Q I2 r1 r2 q2
end
end L2
namespace L2
open PySem PySem.Spec PyProof.Rows
noncomputable def MtM (X : Cx) (id : String) (r : V → List V → Hp → VK → Prop) : Prop :=
  ∀ (pins : List (Addr × Obj)) (s : Shared) (σ : St) (H : Hp) (x : V) (xs : List V) (v : Value) (us : List Value) (Q : VK), Inv X pins σ H s → RelV x v → Vals xs us → r x xs H Q →
    wpAny (model X.prog X.w) X.A (call (.builtin id) (v :: us)) (EP X pins σ Q) X.xe s
theorem Vals.one : ∀ {x : V} {us : List Value}, Vals [x] us → ∃ u, us = [u] ∧ RelV x u
  | _, _, .cons r .nil => ⟨_, rfl, r⟩
theorem Vals.zero : ∀ {us : List Value}, Vals [] us → us = []
  | _, .nil => rfl
theorem Vals.dropLast {xs : List V} {us : List Value} (h : Vals xs us) : Vals xs.dropLast us.dropLast := by
  induction h with
  | nil => exact .nil
  | cons r t ih =>
    cases t with
    | nil => exact .nil
    | cons q t' => exact .cons r ih
theorem Vals.reverse {xs : List V} {us : List Value} (h : Vals xs us) : Vals xs.reverse us.reverse := by
  induction h with
  | nil => exact .nil
  | cons r t ih => rw [List.reverse_cons, List.reverse_cons]; exact Vals.append ih (.cons r .nil)
theorem Vals.rep {xs : List V} {us : List Value} (h : Vals xs us) : ∀ k : Nat, Vals (List.replicate k xs).flatten (List.replicate k us).flatten
  | 0 => .nil
  | k + 1 => by
    rw [List.replicate_succ, List.replicate_succ, List.flatten_cons, List.flatten_cons]
    exact Vals.append h (Vals.rep h k)
theorem foldl_rep (its : List Value) : ∀ (k : Nat) (acc : List Value),
    List.foldl (fun x1 x2 => x1 ++ x2) acc.toArray (List.replicate k its.toArray) = (acc ++ (List.replicate k its).flatten).toArray
  | 0, acc => by simp
  | k + 1, acc => by
    have e : acc.toArray ++ its.toArray = (acc ++ its).toArray := by simp
    have e2 : (acc ++ its) ++ (List.replicate k its).flatten = acc ++ (List.replicate (k + 1) its).flatten := by
      rw [List.replicate_succ, List.flatten_cons, List.append_assoc]
    rw [← e2, ← foldl_rep its k (acc ++ its), ← e, List.replicate_succ, List.foldl_cons]
section
variable {X : Cx} {pins : List (Addr × Obj)} {σ : St} {H : Hp} {s : Shared} {l b : Addr} {xs ys zs : List V}
theorem Inv.lset {its its' : List Value} {n : Nat} {f : Array Value → Array Value} {t' : Nat} (I : Inv X pins σ H s) (hH : H l = some (.lst xs))
    (e : s.heap.get? l = some { cls := .type "list", data := .seq its.toArray n }) (hf : f its.toArray = its'.toArray) (hv : Vals ys its') (hz : ys.length ≤ sizeLine) :
    Inv X pins σ (upd H l (.lst ys)) { s with heap := s.heap.update l (Obj.mapSeq f), toks := t' } := by
  have q := PySem.IsL.update e f
  rw [hf] at q
  refine I.write (x := l) (e := l) (by rw [hH]; exact trivial) (.inl rfl) (fun b' u hb hu => (Heap.get?_update_other s.heap (Obj.mapSeq f) (Ne.symm hb)).trans hu) ⟨_, q⟩ ?_
  exact ⟨hz, its', _, hv, q⟩
theorem Inv.lnew {its : List Value} {t' : Nat} (I : Inv X pins σ H s) (hv : Vals ys its) (hz : ys.length ≤ sizeLine) :
    Inv X pins σ (upd H s.heap.objs.size (.lst ys)) { s with heap := s.heap.push { cls := .type "list", data := .seq its.toArray }, toks := t' } :=
  I.laid (fun _ _ q => Heap.get?_push_of_some _ q) (Nat.le_refl _) ⟨hz, its, 0, hv, Heap.get?_push_size _ rfl⟩
theorem Inv.fresh (I : Inv X pins σ H s) : H s.heap.objs.size = none := I.hok.fresh (Nat.le_refl _)
theorem Inv.lstM (I : Inv X pins σ H s) (hH : H l = some (.lst xs)) : xs.length ≤ sizeLine ∧ ∃ (its : List Value) (n : Nat), Vals xs its ∧ xs.length = its.length ∧ s.heap.get? l = some { cls := .type "list", data := .seq its.toArray n } := by
  obtain ⟨z, its, n, r, e⟩ := I.hok l _ hH
  exact ⟨z, its, n, r, r.length, e⟩
theorem notLongL {n : Nat} (h : n ≤ sizeLine) : Builtin.List.listTooLong n = false := by
  unfold Builtin.List.listTooLong
  exact decide_eq_false (by omega)
end
section
variable {X : Cx}
noncomputable def rAppend : V → List V → Hp → VK → Prop := fun x vs H Q => ∃ l xs y, x = .ref l ∧ vs = [y] ∧ H l = some (.lst xs) ∧ xs.length < sizeLine ∧ Q .non (upd H l (.lst (xs ++ [y])))
theorem mt_append : MtM X "list.append" rAppend := by
  intro pins s σ H x vs v us Q I rx rv h
  obtain ⟨l, xs, y, rfl, rfl, hH, hz, q⟩ := h
  cases rx
  obtain ⟨u, rfl, ru⟩ := rv.one
  obtain ⟨z, its, n, r, hl, e⟩ := I.lstM hH
  refine call_meets F.slot_list_append ⟨_, e, rfl⟩ F.entry_list_append (F.args_list_append_2 _ _) (PySem.list_append l its.toArray n u (by rw [List.size_toArray]; omega)) ⟨e, ?_⟩
  refine ⟨.non, _, I.lset (its' := its ++ [u]) hH e (by simp) (r.append (.cons ru .nil)) ?_, rfl, q⟩
  rw [List.length_append, List.length_singleton]
  omega
noncomputable def rExtend : V → List V → Hp → VK → Prop := fun x vs H Q => ∃ l b xs zs, x = .ref l ∧ vs = [.ref b] ∧ H l = some (.lst xs) ∧ H b = some (.lst zs) ∧ xs.length + zs.length ≤ sizeLine ∧ Q .non (upd H l (.lst (xs ++ zs)))
theorem mt_extend : MtM X "list.extend" rExtend := by
  intro pins s σ H x vs v us Q I rx rv h
  obtain ⟨l, b, xs, zs, rfl, rfl, hH, hB, hz, q⟩ := h
  cases rx
  obtain ⟨u, rfl, ru⟩ := rv.one
  cases ru
  obtain ⟨z, its, n, r, hl, e⟩ := I.lstM hH
  obtain ⟨z2, its2, n2, r2, hl2, e2⟩ := I.lstM hB
  have hsz : its.toArray.size + its2.toArray.size ≤ sizeLine := by rw [List.size_toArray, List.size_toArray]; omega
  have hlong : ¬ (!its.toArray.isEmpty && Builtin.List.listTooLong (its.toArray.size + its2.toArray.size)) = true := by
    rw [notLongL hsz, Bool.and_false]
    exact Bool.false_ne_true
  refine call_meets F.slot_list_extend ⟨_, e, rfl⟩ F.entry_list_extend (F.args_list_extend_2 _ _)
    (AutoSeq1.list_extend_list_list_0 l its.toArray n b its2.toArray n2 hlong (by rw [List.size_toArray]; omega) (by omega)) ⟨e, e2, ?_⟩
  refine ⟨.non, _, I.lset (its' := its ++ its2) hH e (by simp) (r.append r2) ?_, rfl, q⟩
  rw [List.length_append]
  omega
noncomputable def rClear : V → List V → Hp → VK → Prop := fun x vs H Q => ∃ l xs, x = .ref l ∧ vs = [] ∧ H l = some (.lst xs) ∧ Q .non (upd H l (.lst []))
theorem mt_clear : MtM X "list.clear" rClear := by
  intro pins s σ H x vs v us Q I rx rv h
  obtain ⟨l, xs, rfl, rfl, hH, q⟩ := h
  cases rx
  have hus := rv.zero
  subst hus
  obtain ⟨z, its, n, r, hl, e⟩ := I.lstM hH
  refine call_meets F.slot_list_clear ⟨_, e, rfl⟩ F.entry_list_clear (F.args_list_clear_1 _) (AutoSeq1.list_clear_list_0 l its.toArray n (by rw [List.size_toArray]; omega)) ⟨e, ?_⟩
  exact ⟨.non, _, I.lset (its' := []) (ys := []) hH e rfl .nil (Nat.zero_le _), rfl, q⟩
noncomputable def rCat : R2 := fun x y H Q => ∃ l b xs zs, x = .ref l ∧ y = .ref b ∧ H l = some (.lst xs) ∧ H b = some (.lst zs) ∧ xs.length + zs.length ≤ sizeLine ∧ ∀ p, H p = none → Q (.ref p) (upd H p (.lst (xs ++ zs)))
theorem op_cat : OpR X (binaryOp .Add) rCat := by
  intro pins s σ H x y v u Q I rx ry h
  obtain ⟨l, b, xs, zs, rfl, rfl, hH, hB, hz, q⟩ := h
  cases rx
  cases ry
  obtain ⟨z, its, n, r, hl, e⟩ := I.lstM hH
  obtain ⟨z2, its2, n2, r2, hl2, e2⟩ := I.lstM hB
  refine PySem.P.add_list e e2 ?_ (by rw [List.size_toArray, List.size_toArray]; omega)
  have ea : its.toArray ++ its2.toArray = (its ++ its2).toArray := by simp
  rw [ea]
  exact ⟨.ref _, _, I.lnew (t' := s.toks) (r.append r2) (by rw [List.length_append]; omega), rfl, q _ I.fresh⟩
noncomputable def rRep : R2 := fun x y H Q => ∃ l k xs, x = .ref l ∧ y = .int k ∧ H l = some (.lst xs) ∧ -(2 ^ 63) ≤ k ∧ k < 2 ^ 63 ∧ xs.length * k.toNat ≤ sizeLine ∧
  ∀ p, H p = none → Q (.ref p) (upd H p (.lst (List.replicate k.toNat xs).flatten))
theorem len_rep {α : Type} (xs : List α) (k : Nat) : (List.replicate k xs).flatten.length = k * xs.length := by
  induction k with
  | zero => simp
  | succ k ih => rw [List.replicate_succ, List.flatten_cons, List.length_append, ih, Nat.succ_mul, Nat.add_comm]
theorem op_rep : OpR X (binaryOp .Mult) rRep := by
  intro pins s σ H x y v u Q I rx ry h
  obtain ⟨l, k, xs, rfl, rfl, hH, h1, h2, hz, q⟩ := h
  cases rx
  obtain ⟨t, rfl⟩ := ry
  obtain ⟨z, its, n, r, hl, e⟩ := I.lstM hH
  have hlen : its.toArray.size * k.toNat ≤ sizeLine := by rw [List.size_toArray, ← hl]; exact hz
  have hcap : ¬ its.toArray.size * k.toNat > (2 ^ 63 - 1) / 8 := by
    have : (sizeLine : Nat) ≤ (2 ^ 63 - 1) / 8 := by decide
    omega
  have hfit : ¬ (!Builtin.List.listFitsIndex k) = true := by
    rw [fitsIndex_both h1 h2]
    exact Bool.false_ne_true
  have hlong : ¬ Builtin.List.listTooLong (its.toArray.size * k.toNat) = true := by
    rw [notLongL hlen]
    exact Bool.false_ne_true
  have hnew : List.foldl (fun x1 x2 => x1 ++ x2) #[] (List.replicate (if its.toArray.isEmpty = true then 0 else k.toNat) its.toArray) = (List.replicate k.toNat its).flatten.toArray := by
    have f0 : ∀ m : Nat, List.foldl (fun x1 x2 => x1 ++ x2) #[] (List.replicate m its.toArray) = (List.replicate m its).flatten.toArray := fun m => by
      have := foldl_rep its m []
      rw [List.nil_append] at this
      exact this
    rw [f0]
    cases its with
    | nil => simp
    | cons a r' => rw [if_neg (by simp)]
  refine wpAny_binaryOp_repeat_ref (T := "list") (U := "int") (by decide) ⟨_, e, rfl⟩ (fun s' => typeIs_int s' k t) noFill_list_mul F.fills_int_mul F.slot_int_rmul repeat_list F.slot_int_index.lookup
    (call_meets F.slot_int_rmul (typeIs_int s k t) F.entry_int_rmul (F.args_int_rmul_2 _ _) (int___rmul___int_list k t l its.toArray n)
      ⟨e, rfl, ⟨_, e, rfl⟩, call_meets F.slot_list_mul ⟨_, e, rfl⟩ F.entry_list_mul (F.args_list_mul_2 _ _) (AutoListH.list___mul___list_int_3 l its.toArray n k t hfit hcap hlong) ⟨e, ?_⟩⟩)
  rw [hnew]
  exact ⟨.ref _, _, I.lnew (t' := s.toks) (r.rep k.toNat) (by rw [len_rep, Nat.mul_comm]; exact hz), rfl, q _ I.fresh⟩
end
section
variable {prog : Program} {w : World} {A : Around} {E : Value → Shared → Prop} {s : Shared}
end
section
variable {X : Cx}
end
end L2
namespace L2
open PySem PySem.Spec PyProof.Rows
section
variable {κ : Type} [DecidableEq κ]
noncomputable def valV (kvs : List (κ × V)) (k : κ) : Option V := (kvs.find? fun kv => decide (kv.1 = k)).map (·.2)
noncomputable def putK (kvs : List (κ × V)) (k : κ) (v : V) : List (κ × V) :=
  if (kvs.any fun kv => decide (kv.1 = k)) = true then kvs.map (fun kv => if kv.1 = k then (kv.1, v) else kv) else kvs ++ [(k, v)]
noncomputable def dropK (kvs : List (κ × V)) (k : κ) : List (κ × V) := kvs.filter fun kv => decide (kv.1 ≠ k)
theorem valV_pos {p : κ × V} {r : List (κ × V)} {k : κ} (e : p.1 = k) : valV (p :: r) k = some p.2 := by simp [valV, List.find?_cons, e]
theorem valV_neg {p : κ × V} {r : List (κ × V)} {k : κ} (e : ¬ p.1 = k) : valV (p :: r) k = valV r k := by simp [valV, List.find?_cons, e]
theorem valV_any (k : κ) : ∀ kvs : List (κ × V), (kvs.any fun kv => decide (kv.1 = k)) = (valV kvs k).isSome
  | [] => rfl
  | p :: r => by
    rw [List.any_cons]
    by_cases e : p.1 = k
    · simp only [valV_pos e, decide_eq_true e, Bool.true_or, Option.isSome_some]
    · rw [valV_neg e, decide_eq_false e, Bool.false_or]; exact valV_any k r
theorem RelO.isSome_eq {o : Option V} {u : Option Value} (r : RelO o u) : o.isSome = u.isSome := by
  cases o with
  | none => cases u with
    | none => rfl
    | some _ => exact (show False from r).elim
  | some _ => cases u with
    | none => exact (show False from r).elim
    | some _ => rfl
theorem RelO.getD {o : Option V} {u : Option Value} {d : V} {d' : Value} (r : RelO o u) (rd : RelV d d') : RelV (o.getD d) (u.getD d') := by
  cases o with
  | none => cases u with
    | none => exact rd
    | some _ => exact (show False from r).elim
  | some _ => cases u with
    | none => exact (show False from r).elim
    | some _ => exact r
theorem KV.val {kvs : List (κ × V)} {vs : List (κ × Value)} (r : KV kvs vs) (k : κ) : RelO (valV kvs k) (valueAt vs k) := by
  unfold KV at r
  induction r with
  | nil => exact True.intro
  | @cons p q ps qs h t ih =>
    obtain ⟨h1, h2⟩ := h
    by_cases e : p.1 = k
    · have e' : q.1 = k := h1.symm.trans e
      have b : valueAt (q :: qs) k = some q.2 := by simp [valueAt, List.find?_cons, e']
      rw [valV_pos e, b]; exact h2
    · have e' : ¬ q.1 = k := fun z => e (h1.trans z)
      have b : valueAt (q :: qs) k = valueAt qs k := by simp [valueAt, List.find?_cons, e']
      rw [valV_neg e, b]; exact ih
theorem KV.any {kvs : List (κ × V)} {vs : List (κ × Value)} (r : KV kvs vs) (k : κ) : (kvs.any fun kv => decide (kv.1 = k)) = vs.any fun kv => decide (kv.1 = k) := by
  unfold KV at r
  induction r with
  | nil => rfl
  | cons h t ih => rw [List.any_cons, List.any_cons, ih, h.1]
theorem KV.repl {kvs : List (κ × V)} {vs : List (κ × Value)} (r : KV kvs vs) (k : κ) {y : V} {u : Value} (ry : RelV y u) :
    KV (kvs.map fun kv => if kv.1 = k then (kv.1, y) else kv) (vs.map fun kv => if kv.1 = k then (kv.1, u) else kv) := by
  unfold KV at r ⊢
  induction r with
  | nil => exact .nil
  | @cons p q ps qs h t ih =>
    rw [List.map_cons, List.map_cons]
    refine .cons ?_ ih
    obtain ⟨h1, h2⟩ := h
    by_cases e : p.1 = k
    · rw [if_pos e, if_pos (h1.symm.trans e)]; exact ⟨h1, ry⟩
    · rw [if_neg e, if_neg (fun z => e (h1.trans z))]; exact ⟨h1, h2⟩
theorem KV.put {kvs : List (κ × V)} {vs : List (κ × Value)} (r : KV kvs vs) (k : κ) {y : V} {u : Value} (ry : RelV y u) : KV (putK kvs k y) (stored vs k u) := by
  unfold putK stored
  rw [r.any k]
  by_cases e : (vs.any fun kv => decide (kv.1 = k)) = true
  · rw [if_pos e, if_pos e]; exact r.repl k ry
  · rw [if_neg e, if_neg e]; exact Paired.snoc r ⟨rfl, ry⟩
theorem KV.drop {kvs : List (κ × V)} {vs : List (κ × Value)} (r : KV kvs vs) (k : κ) : KV (dropK kvs k) (without vs k) := by
  unfold KV at r ⊢
  unfold dropK without
  induction r with
  | nil => exact .nil
  | @cons p q ps qs h t ih =>
    obtain ⟨h1, h2⟩ := h
    rw [List.filter_cons, List.filter_cons]
    by_cases e : p.1 = k
    · have a : ¬ decide (p.1 ≠ k) = true := by simp [e]
      have b : ¬ decide (q.1 ≠ k) = true := by simp [h1.symm.trans e]
      rw [if_neg a, if_neg b]; exact ih
    · have e' : ¬ q.1 = k := fun z => e (h1.trans z)
      have a : decide (p.1 ≠ k) = true := by simp [e]
      have b : decide (q.1 ≠ k) = true := by simp [e']
      rw [if_pos a, if_pos b]; exact .cons ⟨h1, h2⟩ ih
theorem KV.length {kvs : List (κ × V)} {vs : List (κ × Value)} (r : KV kvs vs) : kvs.length = vs.length := Paired.length r
end
theorem kV_is {P : Program} {w : World} {k : Key} {u : Value} (r : RelV (kV k) u) : (mixKind P w).is k u = true := by
  cases k with
  | inl i => obtain ⟨t, e⟩ := (show ∃ t, u = Value.int i t from r); subst e; exact mixKind_int P w i t
  | inr x => obtain ⟨t, e⟩ := (show ∃ t, u = Value.str x t from r); subst e; exact mixKind_str P w x t
theorem items_are {P : Program} {w : World} : ∀ {ks : List Key} {us : List Value}, Vals (ks.map kV) us → ItemsAre (mixKind P w) ks us
  | [], _, r => by rw [List.map_nil] at r; cases r; exact .nil
  | k :: ks, _, r => by
    rw [List.map_cons] at r
    cases r with
    | cons h t => exact .cons (kV_is h) (items_are t)
noncomputable abbrev KT (H : Hp) : List (List Key × V) → List (List Key × Addr × Value) → Prop := Paired fun p q => p.1 = q.1 ∧ H q.2.1 = some (.tup (p.1.map kV)) ∧ RelV p.2 q.2.2
theorem KT.val {H : Hp} {kvs : List (List Key × V)} {xs : List (List Key × Addr × Value)} (r : KT H kvs xs) (k : List Key) : RelO (valV kvs k) ((atKey xs k).map (·.2)) := by
  induction r with
  | nil => exact True.intro
  | @cons p q ps qs h t ih =>
    obtain ⟨h1, _, h2⟩ := h
    by_cases e : p.1 = k
    · have e' : q.1 = k := h1.symm.trans e
      have b : atKey (q :: qs) k = some q.2 := by simp [atKey, List.find?_cons, e']
      rw [valV_pos e, b]; exact h2
    · have e' : ¬ q.1 = k := fun z => e (h1.trans z)
      have b : atKey (q :: qs) k = atKey qs k := by simp [atKey, List.find?_cons, e']
      rw [valV_neg e, b]; exact ih
theorem KT.repl {H : Hp} {kvs : List (List Key × V)} {xs : List (List Key × Addr × Value)} (r : KT H kvs xs) (k : List Key) {y : V} {u : Value} (ry : RelV y u) :
    KT H (kvs.map fun kv => if kv.1 = k then (kv.1, y) else kv) (xs.map (putAt k u)) := by
  induction r with
  | nil => exact .nil
  | @cons p q ps qs h t ih =>
    rw [List.map_cons, List.map_cons]
    refine .cons ?_ ih
    obtain ⟨h1, h2, h3⟩ := h
    unfold putAt
    by_cases e : p.1 = k
    · rw [if_pos e, if_pos (h1.symm.trans e)]; exact ⟨h1, h2, ry⟩
    · rw [if_neg e, if_neg (fun z => e (h1.trans z))]; exact ⟨h1, h2, h3⟩
theorem KT.put {H : Hp} {kvs : List (List Key × V)} {xs : List (List Key × Addr × Value)} (r : KT H kvs xs) (k : List Key) {b : Addr} {y : V} {u : Value} (hb : H b = some (.tup (k.map kV))) (ry : RelV y u) :
    KT H (putK kvs k y) (storedH xs k b u) := by
  have e : (kvs.any fun kv => decide (kv.1 = k)) = (atKey xs k).isSome := by
    rw [valV_any, (r.val k).isSome_eq, Option.isSome_map]
  unfold putK storedH
  rw [e]
  by_cases q : (atKey xs k).isSome = true
  · rw [if_pos q, if_pos q]; exact r.repl k ry
  · rw [if_neg q, if_neg q]; exact Paired.snoc r ⟨rfl, hb, ry⟩
theorem KT.keeps {H H' : Hp} {kvs : List (List Key × V)} {xs : List (List Key × Addr × Value)} (r : KT H kvs xs) (ht : ∀ b ys, H b = some (.tup ys) → H' b = some (.tup ys)) : KT H' kvs xs :=
  Paired.mapP r fun _ _ z => ⟨z.1, ht _ _ z.2.1, z.2.2⟩
section
variable {P : Program} {w : World} {H : Hp} {h : Heap} {a : Addr}
theorem rd_of {u : HO} (ok : HOk P w H h) (e : Rd H a u) : ObjOk P w H h a u := e.ok ok
theorem dk_rd {kvs : List (Key × V)} (ok : HOk P w H h) (e : Rd H a (.dK kvs)) : kvs.length ≤ sizeLine ∧ (a == sysModules) = false ∧ ∃ vs, KV kvs vs ∧ h.DictOf (mixKind P w) a vs :=
  show ObjOk P w H h a (.dK kvs) from rd_of ok e
theorem dk_of {kvs : List (Key × V)} (ok : HOk P w H h) (e : H a = some (.dK kvs)) : kvs.length ≤ sizeLine ∧ (a == sysModules) = false ∧ ∃ vs, KV kvs vs ∧ h.DictOf (mixKind P w) a vs := dk_rd ok (.inl e)
theorem key_of {ks : List Key} (ok : HOk P w H h) (e : H a = some (.tup (ks.map kV))) : (tupleKind (mixKind P w)).is h ks a := by
  obtain ⟨_, its, r, o, h1, h2, n, h3⟩ := (show ObjOk P w H h a (.tup (ks.map kV)) from ok a _ e)
  exact ⟨o, its.toArray, n, h1, h2, h3, by simpa using items_are r⟩
theorem dt_rd {kvs : List (List Key × V)} (ok : HOk P w H h) (e : Rd H a (.dT kvs)) : kvs.length ≤ sizeLine ∧ (a == sysModules) = false ∧
    ∃ xs, KT H kvs xs ∧ h.DictOfH (tupleKind (mixKind P w)) a xs := by
  obtain ⟨z, y, xs, r, o, es, ep, h1, h2, h3, h4, h5⟩ := (show ObjOk P w H h a (.dT kvs) from rd_of ok e)
  refine ⟨z, y, xs, r, o, es, ep, h1, h2, h3, h4, fun x hx => ?_, h5⟩
  have all : ∀ {l : List (List Key × V)} {m : List (List Key × Addr × Value)}, KT H l m → ∀ x ∈ m, (tupleKind (mixKind P w)).is h x.1 x.2.1 := by
    intro l m q
    induction q with
    | nil => intro x hx; exact nomatch hx
    | @cons p q ps qs hq t ih =>
      intro x hx
      rcases List.mem_cons.mp hx with e | hx
      · subst e
        exact key_of ok (by rw [← hq.1]; exact hq.2.1)
      · exact ih x hx
  exact all r x hx
end
noncomputable def DGet (H : Hp) (a : Addr) (y : V) (r : Option V) : Prop :=
  (∃ kvs k, Rd H a (.dK kvs) ∧ y = kV k ∧ r = valV kvs k) ∨ ∃ kvs k b, Rd H a (.dT kvs) ∧ y = .ref b ∧ H b = some (.tup (k.map kV)) ∧ r = valV kvs k
noncomputable def DPut (H : Hp) (a : Addr) (y v : V) (H' : Hp) : Prop :=
  (∃ kvs k, H a = some (.dK kvs) ∧ y = kV k ∧ kvs.length < sizeLine ∧ H' = upd H a (.dK (putK kvs k v))) ∨
  ∃ kvs k b, H a = some (.dT kvs) ∧ y = .ref b ∧ H b = some (.tup (k.map kV)) ∧ kvs.length < sizeLine ∧ H' = upd H a (.dT (putK kvs k v))
theorem DGet.k {H : Hp} {a : Addr} {kvs : List (Key × V)} {k : Key} (e : H a = some (.dK kvs)) : DGet H a (kV k) (valV kvs k) := .inl ⟨kvs, k, .inl e, rfl, rfl⟩
theorem DGet.t {H : Hp} {a b : Addr} {kvs : List (List Key × V)} {k : List Key} (e : H a = some (.dT kvs)) (eb : H b = some (.tup (k.map kV))) : DGet H a (.ref b) (valV kvs k) := .inr ⟨kvs, k, b, .inl e, rfl, eb, rfl⟩
theorem DPut.k {H : Hp} {a : Addr} {kvs : List (Key × V)} {k : Key} {v : V} (e : H a = some (.dK kvs)) (hl : kvs.length < sizeLine) : DPut H a (kV k) v (upd H a (.dK (putK kvs k v))) := .inl ⟨kvs, k, e, rfl, hl, rfl⟩
theorem DPut.t {H : Hp} {a b : Addr} {kvs : List (List Key × V)} {k : List Key} {v : V} (e : H a = some (.dT kvs)) (eb : H b = some (.tup (k.map kV))) (hl : kvs.length < sizeLine) :
    DPut H a (.ref b) v (upd H a (.dT (putK kvs k v))) := .inr ⟨kvs, k, b, e, rfl, eb, hl, rfl⟩
section
variable {X : Cx} {pins : List (Addr × Obj)} {σ : St} {H : Hp} {s : Shared} {a : Addr} {y v : V} {u r : Value} {o : Option V} {A : Around} {E : Value → Shared → Prop}
theorem d_getItem {Q : Value → Shared → Prop} (hu : A.units + 1 < cLine) (I : Inv X pins σ H s) (g : DGet H a y (some v)) (ry : RelV y u) (h : ∀ w' s', Inv X pins σ H s' → RelV v w' → Q w' s') :
    wpAny (model X.prog X.w) A (getItem (.ref a) u) Q E s := by
  rcases g with ⟨kvs, k, e, ey, l⟩ | ⟨kvs, k, b, e, ey, eb, l⟩
  · subst ey
    obtain ⟨z, hd, vs, rel, dd⟩ := dk_rd I.hok e
    obtain ⟨w', hw, rw'⟩ := RelO.some_of (v := v) (o := valueAt vs k) (by rw [l]; exact rel.val k)
    exact wpAny_getItem_of (kV_is ry) dd.mapOf hw (h w' _ (I.tok _) rw')
  · subst ey
    cases (show u = Value.ref b from ry)
    obtain ⟨z, hd, xs, rel, dd⟩ := dt_rd I.hok e
    obtain ⟨w', hw, rw'⟩ := RelO.some_of (v := v) (o := (atKey xs k).map (·.2)) (by rw [l]; exact rel.val k)
    obtain ⟨p, hp, hp2⟩ := Option.map_eq_some_iff.mp hw
    refine wpAny_getItem_heap (tupleKind_room_in1 hu) (key_of I.hok eb) dd hp ?_
    rw [hp2]
    exact h w' _ (I.tok _) rw'
theorem d_in {Q : Value → Shared → Prop} (hu : A.units + 1 < cLine) (I : Inv X pins σ H s) (g : DGet H a y o) (ry : RelV y u) (h : ∀ s', Inv X pins σ H s' → Q (.bool o.isSome) s') :
    wpAny (model X.prog X.w) A (compareOp .In u (.ref a)) Q E s := by
  rcases g with ⟨kvs, k, e, ey, l⟩ | ⟨kvs, k, b, e, ey, eb, l⟩
  · subst ey
    obtain ⟨z, hd, vs, rel, dd⟩ := dk_rd I.hok e
    refine wpAny_in_of (kV_is ry) hd dd.mapOf ?_
    rw [← (rel.val k).isSome_eq, ← l]
    exact h _ (I.tok _)
  · subst ey
    cases (show u = Value.ref b from ry)
    obtain ⟨z, hd, xs, rel, dd⟩ := dt_rd I.hok e
    refine wpAny_in_heap (tupleKind_room_in1 hu) (key_of I.hok eb) hd dd ?_
    have q := (rel.val k).isSome_eq
    rw [Option.isSome_map] at q
    rw [← q, ← l]
    exact h _ (I.tok _)
theorem d_notIn {Q : Value → Shared → Prop} (hu : A.units + 1 < cLine) (I : Inv X pins σ H s) (g : DGet H a y o) (ry : RelV y u) (h : ∀ s', Inv X pins σ H s' → Q (.bool (!o.isSome)) s') :
    wpAny (model X.prog X.w) A (compareOp .NotIn u (.ref a)) Q E s := by
  rcases g with ⟨kvs, k, e, ey, l⟩ | ⟨kvs, k, b, e, ey, eb, l⟩
  · subst ey
    obtain ⟨z, hd, vs, rel, dd⟩ := dk_rd I.hok e
    refine wpAny_notIn_of (kV_is ry) hd dd.mapOf ?_
    rw [← (rel.val k).isSome_eq, ← l]
    exact h _ (I.tok _)
  · subst ey
    cases (show u = Value.ref b from ry)
    obtain ⟨z, hd, xs, rel, dd⟩ := dt_rd I.hok e
    refine wpAny_notIn_heap (tupleKind_room_in1 hu) (key_of I.hok eb) hd dd ?_
    have q := (rel.val k).isSome_eq
    rw [Option.isSome_map] at q
    rw [← q, ← l]
    exact h _ (I.tok _)
end
section
variable {X : Cx} {pins : List (Addr × Obj)} {σ : St} {H : Hp} {s : Shared} {a : Addr} {kvs : List (Key × V)} {k : Key} {u : Value} {A : Around} {E : Value → Shared → Prop}
end
section
variable {X : Cx} {o i e value : Expr} {pos pos' tpos : Pos} {td ty tv : TE}
end
section
variable {X : Cx} {pos : Pos}
end
noncomputable abbrev VV : List (V × V) → List (Value × Value) → Prop := Paired fun p q => RelV p.1 q.1 ∧ RelV p.2 q.2
structure M1 (X : Cx) (o : Expr) (m : Str) (apos : Pos) (e : Expr) (cpos : Pos) : Prop where
  base : attributeBase o m X.env (eval o X.env) = eval o X.env
  few : ((backTo cpos (starEach [e] X.env)).all (fun x => !x.1) && (backToKw cpos (keywordEach [] X.env)).all (fun x => x.1.isSome)
    && decide (([e] : List Expr).length + ([] : List Keyword).length + (if ([] : List Keyword).isEmpty then 0 else 1) < 30)) = true
  line : (apos.endLine == cpos.line) = true
  trees : backTo cpos (starEach [e] X.env) = [(false, eval e X.env)]
structure M2 (X : Cx) (o : Expr) (m : Str) (apos : Pos) (e f : Expr) (cpos : Pos) : Prop where
  base : attributeBase o m X.env (eval o X.env) = eval o X.env
  few : ((backTo cpos (starEach [e, f] X.env)).all (fun x => !x.1) && (backToKw cpos (keywordEach [] X.env)).all (fun x => x.1.isSome)
    && decide (([e, f] : List Expr).length + ([] : List Keyword).length + (if ([] : List Keyword).isEmpty then 0 else 1) < 30)) = true
  line : (apos.endLine == cpos.line) = true
  trees : backTo cpos (starEach [e, f] X.env) = [(false, eval e X.env), (false, eval f X.env)]
section
variable {X : Cx} {pins : List (Addr × Obj)} {σ : St} {H : Hp} {s : Shared} {a : Addr} {y d : V} {u r : Value} {o : Option V} {A : Around} {E : Value → Shared → Prop}
end
section
variable {X : Cx} {o e f : Expr} {apos cpos : Pos} {td ty tx : TE}
end
section
variable {X : Cx} {pins : List (Addr × Obj)} {σ : St} {H : Hp} {s : Shared} {a : Addr} {kvs : List (Key × V)} {A : Around} {E : Value → Shared → Prop}
end
section
variable {X : Cx} {pins : List (Addr × Obj)} {σ : St} {H : Hp} {s : Shared} {a : Addr} {y : V} {u : Value} {A : Around} {E : Value → Shared → Prop}
end
end L2
namespace Att
open PySem PySem.W PySem.Calls PyProof.Rows
theorem ints_of_wellAll {P : Params} {h : Heap} : ∀ (ns : List Int) (vs : List Value), WellAll P h vs (ns.map WData.int) → IntsAre vs ns := by
  intro ns
  induction ns with
  | nil =>
    intro vs w
    rw [List.map_nil] at w
    cases w
    exact .nil
  | cons n ns ih =>
    intro vs w
    rw [List.map_cons] at w
    cases w with
    | cons a b =>
      cases a
      exact .cons _ _ (ih _ b)
theorem script_of {l : OpenLaw} {n : Nat} (hn : l.most = some n) {P : Params} {h : Heap} {args : List WData} {vals : List Value}
    (hpre : l.row.toRowW.claim.pre args = true) (hwl : WellAll P h vals args) :
    ∃ a vs ns, vals = [Value.ref a] ∧ args = [WData.list (ns.map WData.int)] ∧ h.get? a = some { cls := .type "list", data := .seq vs.toArray } ∧ IntsAre vs ns ∧ ns.length ≤ n := by
  have hsh : WShape.hasAll [] args [.list .int] = true := (pre_splitW hpre).1
  have hc : l.pre.holds [] { args := args } = true := (pre_splitW hpre).2
  obtain ⟨d, r, rfl, h1, h2⟩ := hasAllW_cons hsh
  obtain rfl := hasAllW_nil h2
  obtain ⟨xs, rfl, h3⟩ := hasW_list h1
  obtain ⟨ns, rfl⟩ := items_int h3
  have hlen : ns.length ≤ n := by
    unfold OpenLaw.pre at hc
    have h4 : (WTm.not (.lt (.lit (.int (n : Int))) (.len (.arg 0)))).holds [] { args := [.list (ns.map .int)] } = true := by
      have h4 := (holds_andW hc).1
      rw [hn] at h4
      exact h4
    have h5 := condW_of h4 (w_not (w_lt w_lit (w_len_list (w_arg rfl))))
    rw [List.length_map] at h5
    refine Nat.le_of_not_lt fun q => ?_
    have q' : (n : Int) < ((ns.length : Nat) : Int) := by omega
    first
      | (rw [decide_eq_true q'] at h5; exact absurd h5 (by decide))
      | (simp at h5; omega)
  cases hwl with
  | cons w1 w2 =>
    cases w2
    cases w1 with
    | list ho hall => exact ⟨_, _, ns, rfl, rfl, ho, ints_of_wellAll ns _ hall, hlen⟩
theorem post_true (l : OpenLaw) (args : List WData) : l.row.toRowW.claim.post args (.bool true) args = true :=
  postW_of (r := l.row.toRowW) (X := (true == true))
    (show WShape.has [] (.bool true) .bool = true by first | rfl | decide | simp [WShape.has, WShape.arms, WShape.armsAll])
    (show (WTm.eq .res (.lit (.bool true))).value [] { args := args, res := some (.bool true), after := args } = some (.bool (true == true)) from w_eq_bool (w_res rfl) w_lit) rfl
theorem attach_call {l : OpenLaw} {n : Nat} {q : Program} {loose : List Str} {XP : (Str → Option Value) → Heap → Prop} {YP : World → Heap → Prop} {d : DefRec}
    (hn : l.most = some n) (hdf : d.params.defaults = [])
    (call : ∀ (w : World) (s₀ s₁ : Shared) (mg mb : Str → Option Value) (fa : Addr) (o : Obj) (pm cd doc : Value) (a : Addr) (vs : List Value) (ns : List Int),
      Ground q loose [] XP w s₀ mg mb s₁.heap → YP w s₁.heap →
      s₁.heap.get? fa = some o → o.data = .func (docDef d.name d.params d.body d.scope pm cd doc) → s₁.heap.CodeRec cd d.name → mg d.name = some (.ref fa) →
      s₁.heap.get? a = some { cls := .type "list", data := .seq vs.toArray } → IntsAre vs ns → ns.length ≤ n → s₁.gens = #[] →
      codeAny (model l.prog w) callerA (.call (.ref fa) ⟨[.ref a], []⟩) (fun r s' => r = .ok (.ret (.bool true)) ∧ OldK s₁.heap s'.heap ∧ s'.os = s₁.os ∧ AllBare s'.gens) s₁) :
    WalkO q loose XP YP l.row.toRowW d [] (fun f vs => PySem.call f vs) := by
  intro w s₀ s₁ mg mb G Y fa o pm cd doc dV kV ho hd hcd hD hmg hg args vals as hpre hlay hrd hwl hlo
  obtain rfl : dV = .none := Dflts.none hD hdf
  obtain rfl : kV = .none := Dflts.noKw hD
  obtain ⟨a, vs, ns, rfl, rfl, hobj, hints, hlen⟩ := script_of hn hpre hwl
  refine enter_call (codeAny_mono (call w s₀ s₁ mg mb fa o pm cd doc a vs ns G Y ho (fd_plain hd) hcd hmg hobj hints hlen hg) fun r s' hq => ?_)
  obtain ⟨rfl, h2, h3, h4⟩ := hq
  exact ⟨.inl ⟨.bool true, .bool true, [], rfl, fun _ => rfl, .bool true, post_true l _, fun _ => ⟨List.Pairwise.nil, fun _ hm => (nomatch hm)⟩⟩, h2, h3, h4⟩
section
variable {prog : Program} {w : World} {A : Around} {E : Value → Shared → Prop} {s : Shared} {K : Frag}
end
end Att
namespace L2
open PySem PySem.Spec PyProof.Rows
theorem vals_ints : ∀ {vs : List Value} {ns : List Int}, IntsAre vs ns → Vals (ns.map V.int) vs
  | _, _, .nil => .nil
  | _, _, .cons n t h => .cons ⟨t, rfl⟩ (vals_ints h)
noncomputable def Only (H : Hp) : Prop := ∀ b, H b = none ∨ ∃ o xs, H b = some (.frz o (.lst xs))
theorem law_call {P : Program} {w : World} {K : PySem.W.Frag} {mg mb : Str → Option Value} {CX : CXT} {k : Nat} {fa a : Addr} {fd : FuncData} {x : Str} {sp : Sp} {s₁ : Shared} {vs : List Value} {ns : List Int}
    (KX : K.In s₁.heap) (hns : s₁.heap.Ns mainGlobals mg) (hb : s₁.heap.Ns builtinsNs mb) (hbb : ∀ x : Str, x ≠ "__name__" → mb x = bootBuiltins x) (hlim : s₁.heap.NoLimit) (hg : s₁.gens = #[])
    (ha : s₁.heap.get? a = some { cls := .type "list", data := .seq vs.toArray }) (hi : IntsAre vs ns) (hl : ns.length ≤ sizeLine) (hr : Room k callerA)
    (F : ∀ base : Heap, K.In base → base.Ns mainGlobals mg → FnOk P w K mg base CX k fa fd [x] sp) (hbind : ∀ (s : Shared) (u : Value), BindsTo s fd ⟨[u], []⟩ [(x, u)])
    (hsp : ∀ H : Hp, Only H → SqL K H a (ns.map V.int) → sp [.ref a] H (fun v _ => v = .bl true) fun _ _ _ => False)
    (hCX : ∀ H e s', CX [] H s₁ (fun _ _ _ => False) e s' → False) :
    codeAny (model P w) callerA (.call (.ref fa) ⟨[.ref a], []⟩) (fun r s' => r = .ok (.ret (.bool true)) ∧ OldK s₁.heap s'.heap ∧ s'.os = s₁.os ∧ AllBare s'.gens) s₁ := by
  have rv := vals_ints hi
  have lenV := hi.length
  -- from an abstract heap in which nothing but the script may be tracked
  have core : ∀ H : Hp, Only H → SqL K H a (ns.map V.int) → HOk P w H s₁.heap → (∀ b, H b ≠ none → b = a) → (H a ≠ none → K.lookup a = none) →
      codeAny (model P w) callerA (.call (.ref fa) ⟨[.ref a], []⟩) (fun r s' => r = .ok (.ret (.bool true)) ∧ OldK s₁.heap s'.heap ∧ s'.os = s₁.os ∧ AllBare s'.gens) s₁ := by
    intro H hO hS hok hA hK
    have base_of : ∀ {b : Addr} {o : Obj}, s₁.heap.get? b = some o → H b = none → (hidT s₁.heap H).get? b = some o := fun e n => hidT_get e n
    have noA : ∀ {b : Addr} {o : Obj} {es : Array DictEntry} {ep : Nat}, s₁.heap.get? b = some o → o.data = .dict es ep → H b = none := fun {b o es ep} e d => by
      cases q : H b with
      | none => rfl
      | some u =>
        have e' : b = a := hA b (by rw [q]; simp)
        subst e'
        rw [ha] at e; cases e
        have d' : Data.seq vs.toArray _ = Data.dict es ep := d
        cases d'
    have nsK : ∀ {b : Addr} {m : Str → Option Value}, s₁.heap.Ns b m → (hidT s₁.heap H).Ns b m := fun {b m} ⟨o, es, ep, e, d, r⟩ => ⟨o, es, ep, base_of e (noA e d), d, r⟩
    have hKb : K.In (hidT s₁.heap H) := fun b o e => base_of (KX b o e) (by
      cases q : H b with
      | none => rfl
      | some u =>
        have e' : b = a := hA b (by rw [q]; simp)
        subst e'
        rw [hK (by rw [q]; simp)] at e; cases e)
    have hM : Mod K mg (hidT s₁.heap H) := ⟨hKb, nsK hns, ⟨mb, nsK hb, hbb⟩, let ⟨mc, h1, h2⟩ := hlim; ⟨mc, nsK h1, h2⟩⟩
    have e0 : Env0 P w K mg (hidT s₁.heap H) callerA [] s₁ H := ⟨rfl, hM, fun b o e => of_hidT e, Nat.le_of_eq (hidT_size _ _), trivial, fun b hb => absurd (show b ∈ ([] : List Addr) from hb) (by simp), hok, .of_eq hg⟩
    refine codeAny_mono ((F _ hKb (nsK hns)).run callerA [] s₁ H ⟨[.ref a], []⟩ [.ref a] [.ref a] _ _ hr e0 (hbind s₁ (.ref a)) (.cons rfl .nil) (hsp H hO hS)) fun r s' h => ?_
    cases r with
    | error e => exact (hCX H e s' h).elim
    | ok fl =>
      cases fl with
      | next => exact False.elim h
      | brk => exact False.elim h
      | cont => exact False.elim h
      | ret u =>
        obtain ⟨v, H', os, bare, un, hok', r', q⟩ := h
        have q' : v = .bl true := q
        subst q'
        obtain rfl : u = Value.bool true := r'
        refine ⟨rfl, OldK.of_keep fun b o e => ?_, os, bare⟩
        cases q : H b with
        | none => exact un.keep b o e q (by intro z; exact absurd (show b ∈ ([] : List Addr) from z) (by simp)) (by simp)
        | some u =>
          rcases hO b with z | ⟨ob, xs, z⟩
          · rw [q] at z; cases z
          · have z2 := un.frzs b ob _ z
            obtain ⟨e1, _⟩ := hok b _ z
            obtain ⟨e2, _⟩ := hok' b _ z2
            rw [e] at e1; cases e1
            exact e2
  cases hk : K.lookup a with
  | some o =>
    -- the script is one of the module's own objects
    have e := KX a o hk
    rw [ha] at e
    cases e
    refine core (fun _ => none) (fun _ => .inl rfl) (.inr ⟨_, vs.toArray, _, hk, rfl, rfl, rfl, by rw [List.size_toArray, lenV]; exact hl, by simpa using rv⟩) (fun b u z => by have z' : (none : Option HO) = some u := z; cases z') (fun b z => absurd rfl z) fun z => absurd rfl z
  | none =>
    refine core (fun b => if b = a then some (.frz { cls := .type "list", data := .seq vs.toArray } (.lst (ns.map V.int))) else none) (fun b => ?_) (.inl (.inr ⟨{ cls := .type "list", data := .seq vs.toArray }, if_pos rfl⟩)) (fun b u z => ?_) (fun b z => ?_) fun _ => hk
    · by_cases hb : b = a
      · exact .inr ⟨_, _, if_pos hb⟩
      · exact .inl (if_neg hb)
    · by_cases hb : b = a
      · have z' := (if_pos hb).symm.trans z
        cases z'
        subst hb
        exact ⟨ha, by rw [List.length_map]; exact hl, vs, _, rv, ha⟩
      · have z' := (if_neg hb).symm.trans z
        cases z'
    · by_cases hb : b = a
      · exact hb
      · exact absurd (if_neg hb) z
end L2
namespace L2
open PySem PySem.Spec PyProof.Rows
noncomputable abbrev KOf {K : PySem.W.Frag} {h : Heap} (_ : K.In h) : PySem.W.Frag := K
theorem walk_of {l : PySem.W.OpenLaw} {n k : Nat} {q : Program} {loose : List Str} {XP : (Str → Option Value) → Heap → Prop} {YP : World → Heap → Prop} {d : DefRec} {K : Params → PySem.W.Frag} {CX : World → CXT} {sp : World → Sp} {x : Str}
    (hn : l.most = some n) (hn2 : n ≤ sizeLine) (hdf : d.params.defaults = []) (hr : Room k callerA)
    (hY : ∀ (w : World) (h : Heap), YP w h → (K w.params).In h)
    (F : ∀ (w : World) (mg : Str → Option Value) (fa : Addr) (h : Heap), (K w.params).In h → h.Ns mainGlobals mg → mg d.name = some (.ref fa) →
      ∃ fd : FuncData, (∀ (s : Shared) (u : Value), BindsTo s fd ⟨[u], []⟩ [(x, u)]) ∧
        ∀ base : Heap, (K w.params).In base → base.Ns mainGlobals mg → FnOk l.prog w (K w.params) mg base (CX w) k fa fd [x] (sp w))
    (hsp : ∀ (w : World) (H : Hp) (a : Addr) (ns : List Int), ns.length ≤ n → Only H → SqL (K w.params) H a (ns.map V.int) → sp w [.ref a] H (fun v _ => v = .bl true) fun _ _ _ => False)
    (hCX : ∀ (w : World) (H : Hp) (s : Shared) (e : Value) (s' : Shared), CX w [] H s (fun _ _ _ => False) e s' → False) :
    PySem.W.WalkO q loose XP YP l.row.toRowW d [] (fun f vs => PySem.call f vs) := by
  refine Att.attach_call hn hdf fun w s₀ s₁ mg mb fa o pm cd doc a vs ns G Y ho hd hcd hmg hobj hints hlen hg => ?_
  have KX := hY w _ Y
  obtain ⟨fd, hb, hF⟩ := F w mg fa _ KX G.T.g hmg
  exact law_call KX G.T.g G.T.b G.T.builtins G.T.nolimit hg hobj hints (Nat.le_trans hlen hn2) hr hF hb (fun H hO hS => hsp w H a ns hlen hO hS) fun H e s' => hCX w H s₁ e s'
theorem walk_ofK {l : PySem.W.OpenLaw} {n k : Nat} {q : Program} {loose : List Str} {XP : (Str → Option Value) → Heap → Prop} {YP : World → Heap → Prop} {d : DefRec} {K : Params → PySem.W.Frag} {CX : CXT} {sp : PySem.W.Frag → Sp} {x : Str}
    (hn : l.most = some n) (hn2 : n ≤ sizeLine) (hdf : d.params.defaults = []) (hr : Room k callerA)
    (hY : ∀ (w : World) (h : Heap), YP w h → (K w.params).In h)
    (F : ∀ (w : World) (mg : Str → Option Value) (fa : Addr) (h : Heap), (K w.params).In h → h.Ns mainGlobals mg → mg d.name = some (.ref fa) →
      ∃ fd : FuncData, (∀ (s : Shared) (u : Value), BindsTo s fd ⟨[u], []⟩ [(x, u)]) ∧
        ∀ base : Heap, (K w.params).In base → base.Ns mainGlobals mg → FnOk l.prog w (K w.params) mg base CX k fa fd [x] (sp (K w.params)))
    (hsp : ∀ (K : PySem.W.Frag) (H : Hp) (a : Addr) (ns : List Int), ns.length ≤ n → Only H → SqL K H a (ns.map V.int) → sp K [.ref a] H (fun v _ => v = .bl true) fun _ _ _ => False)
    (hCX : ∀ (H : Hp) (s : Shared) (e : Value) (s' : Shared), CX [] H s (fun _ _ _ => False) e s' → False) :
    PySem.W.WalkO q loose XP YP l.row.toRowW d [] (fun f vs => PySem.call f vs) :=
  walk_of (K := K) (CX := fun _ => CX) (sp := fun w => sp (K w.params)) hn hn2 hdf hr hY F (fun w H a ns h1 h2 h3 => hsp (K w.params) H a ns h1 h2 h3) fun _ H s e s' => hCX H s e s'
end L2
namespace L2
open PySem PySem.Spec PyProof.Rows
noncomputable def defArgs (s : Stmt) : Arguments := match s with
  | .FunctionDef _ a _ _ _ _ _ _ _ _ => a
  | _ => { posonlyargs := [], args := [], vararg := none, kwonlyargs := [], kw_defaults := [], kwarg := none, defaults := [] }
noncomputable def defBody (s : Stmt) : List Stmt := match s with
  | .FunctionDef _ _ b _ _ _ _ _ _ _ => b
  | _ => []
noncomputable def defScope (s : Stmt) : Scope := match s with
  | .FunctionDef _ _ _ _ _ _ sc _ _ _ => sc
  | _ => { kind := .function, names := [], isGenerator := false, isCoroutine := false }
noncomputable abbrev CX0 : CXT := fun _ _ _ _ _ _ => False
noncomputable abbrev E0 : XK := fun _ _ _ => False
theorem pass0 {X : Cx} : Passes CX0 X E0 := fun _ _ _ _ _ _ _ h => h.elim
structure Fun (K : PySem.W.Frag) (x qual : Str) (st : Stmt) (f : Addr) (fd : FuncData) : Prop where
  ex : ∃ (oc : Value) (od : Option Addr) (kV doc pm : Value) (an : Option Addr) (cdv ct : Value) (osl : Array (Option Value)),
    fd = PySem.W.fnOf x qual (defArgs st) (defBody st) (defScope st) .none kV doc pm an cdv ct ∧ K.lookup f = some ⟨oc, od, .func fd, osl⟩ ∧ PySem.W.codeIn K cdv qual = true
  kp : PySem.W.keepIn K (.ref f) = true
section
variable {P : Program} {w : World} {K : PySem.W.Frag} {mg : Str → Option Value} {base : Heap}
theorem Fun.ok {x qual : Str} {st : Stmt} {f : Addr} {fd : FuncData} {N ps : List Str} {k : Nat} {sp : Sp} (F : Fun K x qual st f fd) (S : FnScope N ps (defScope st)) (len : ∀ vs H Q E, sp vs H Q E → vs.length = ps.length)
    (hbody : ∀ (cdv : Value) (A : Around) (outer : List Env) (s : Shared) (H : Hp) (vs : List V) (Q : VK) (E : XK), Room k (A.deeper (envOfC qual (defScope st) s.heap.objs.size f cdv)) → sp vs H Q E →
      ∃ t, PSs (cxOf CX0 P w K mg base N qual (defScope st) f cdv A outer s H E).nox (defBody st) t ∧ t { nx := fun _ H' => Q .non H', rt := Q } (start N vs) H) : FnOk P w K mg base CX0 (k + 1) f fd ps sp := by
  obtain ⟨oc, od, kV, doc, pm, an, cdv, ct, osl, rfl, lk, hcd⟩ := F.ex
  refine fn_of lk hcd S len fun A outer s H vs Q E hr hsp => ?_
  obtain ⟨t, h, q⟩ := hbody cdv A outer s H vs Q E hr hsp
  exact ⟨t, h.nox, q⟩
theorem Fun.binds {x qual : Str} {st : Stmt} {f : Addr} {fd : FuncData} {ps : List Str} (F : Fun K x qual st f fd)
    (h : ∀ (kV doc pm : Value) (an : Option Addr) (cdv ct : Value) (us : List Value), us.length = ps.length → bindArgs (PySem.W.fnOf x qual (defArgs st) (defBody st) (defScope st) .none kV doc pm an cdv ct) ⟨us, []⟩ = pure (ps.zip us)) : Binds K fd ps [] := by
  obtain ⟨oc, od, kV, doc, pm, an, cdv, ct, osl, rfl, lk, hcd⟩ := F.ex
  exact .all (h kV doc pm an cdv ct)
theorem fun_mk {x qual : Str} {st : Stmt} {f : Addr} {oc : Value} {od an : Option Addr} {osl : Array (Option Value)} {kV doc pm cdv ct : Value} (l : K.lookup f = some ⟨oc, od, .func (PySem.W.fnOf x qual (defArgs st) (defBody st) (defScope st) .none kV doc pm an cdv ct), osl⟩)
    (c : PySem.W.codeIn K cdv qual = true) (k : PySem.W.keepIn K (.ref f) = true) : Fun K x qual st f (PySem.W.fnOf x qual (defArgs st) (defBody st) (defScope st) .none kV doc pm an cdv ct) := ⟨⟨oc, od, kV, doc, pm, an, cdv, ct, osl, rfl, l, c⟩, k⟩
end
section
variable {X : Cx}
end
noncomputable def Same (H H' : Hp) : Prop := ∀ b o, H b = some o → H' b = some o
theorem Same.refl (H : Hp) : Same H H := fun _ _ h => h
theorem Same.trans {H H1 H2 : Hp} (a : Same H H1) (b : Same H1 H2) : Same H H2 := fun c o h => b c o (a c o h)
theorem Same.free {H H' : Hp} (e : Same H H') {l : Addr} (h : H' l = Option.none) : H l = Option.none := by
  cases q : H l with
  | none => rfl
  | some o =>
    rw [e l o q] at h
    cases h
theorem Same.seq {K : PySem.W.Frag} {H H' : Hp} {a : Addr} {xs : List V} (e : Same H H') (h : SqL K H a xs) : SqL K H' a xs := by
  rcases h with (h | ⟨o, h⟩) | h
  · exact .inl (.inl (e _ _ h))
  · exact .inl (.inr ⟨o, e _ _ h⟩)
  · exact .inr h
section
variable {κ : Type} [DecidableEq κ]
end
end L2
namespace Ev
open PySem L2
inductive P where
  | non | bl (b : Bool) | int (i : Int) | str (x : Str) | tup (xs : List P) | lst (xs : List P) | ro (xs : List P) | dct (ks : List Key) (vs : List P)
inductive D where
  | p (v : P) | ref (i : Nat)
inductive SO where
  | lst (xs : List D) | dct (ks : List Key) (vs : List D) | fz (v : P)
noncomputable abbrev Sto := List SO
noncomputable abbrev Lc := List (Option D)
noncomputable def KTup (K : PySem.W.Frag) (a : Addr) (xs : List V) : Prop := SqT K (fun _ => none) a xs
noncomputable def KLst (K : PySem.W.Frag) (a : Addr) (xs : List V) : Prop := SqL K (fun _ => none) a xs
noncomputable def TupAt (K : PySem.W.Frag) (H : Hp) (a : Addr) (xs : List V) : Prop := H a = some (.tup xs) ∨ KTup K a xs
noncomputable def LstAt (F : Addr → Prop) (H : Hp) (a : Addr) (xs : List V) : Prop := F a ∧ H a = some (.lst xs)
noncomputable def RoAt (K : PySem.W.Frag) (F : Addr → Prop) (H : Hp) (a : Addr) (xs : List V) : Prop := (F a ∧ ∃ o, H a = some (.frz o (.lst xs))) ∨ KLst K a xs
theorem TupAt.sq {K : PySem.W.Frag} {H : Hp} {a : Addr} {xs : List V} (h : TupAt K H a xs) : SqT K H a xs := by
  rcases h with h | (h | h)
  · exact .inl (.inl h)
  · rcases h with h | ⟨o, h⟩ <;> cases h
  · exact .inr h
theorem LstAt.sq {K : PySem.W.Frag} {F : Addr → Prop} {H : Hp} {a : Addr} {xs : List V} (h : LstAt F H a xs) : SqL K H a xs := .inl (.inl h.2)
theorem RoAt.sq {K : PySem.W.Frag} {F : Addr → Prop} {H : Hp} {a : Addr} {xs : List V} (h : RoAt K F H a xs) : SqL K H a xs := by
  rcases h with ⟨_, o, h⟩ | (h | h)
  · exact .inl (.inr ⟨o, h⟩)
  · rcases h with h | ⟨o, h⟩ <;> cases h
  · exact .inr h
section
variable (K : PySem.W.Frag) (F : Addr → Prop) (H : Hp)
mutual
noncomputable def RP : P → V → Prop
  | .non, v => v = .non
  | .bl b, v => v = .bl b
  | .int i, v => v = .int i
  | .str x, v => v = .str x
  | .tup ds, v => ∃ a xs, v = .ref a ∧ TupAt K H a xs ∧ RPs ds xs
  | .lst ds, v => ∃ a xs, v = .ref a ∧ LstAt F H a xs ∧ RPs ds xs
  | .ro ds, v => ∃ a xs, v = .ref a ∧ RoAt K F H a xs ∧ RPs ds xs
  | .dct ks ds, v => ∃ a kvs, v = .ref a ∧ F a ∧ H a = some (.dK kvs) ∧ kvs.map (·.1) = ks ∧ RPs ds (kvs.map (·.2))
noncomputable def RPs : List P → List V → Prop
  | [], xs => xs = []
  | d :: ds, xs => ∃ x r, xs = x :: r ∧ RP d x ∧ RPs ds r
end
noncomputable def RD (m : List Addr) : D → V → Prop
  | .p d, v => RP K F H d v
  | .ref i, v => ∃ a, v = .ref a ∧ m[i]? = some a
noncomputable def RDs (m : List Addr) : List D → List V → Prop
  | [], xs => xs = []
  | d :: ds, xs => ∃ x r, xs = x :: r ∧ RD K F H m d x ∧ RDs m ds r
noncomputable def RO (m : List Addr) (a : Addr) : SO → Prop
  | .lst ds => ∃ xs, H a = some (.lst xs) ∧ RDs K F H m ds xs
  | .dct ks ds => ∃ kvs, H a = some (.dK kvs) ∧ kvs.map (·.1) = ks ∧ RDs K F H m ds (kvs.map (·.2))
  | .fz v => RP K F H v (.ref a)
noncomputable def SO.own : SO → Prop
  | .fz _ => False
  | _ => True
structure Rel (m : List Addr) (S : Sto) : Prop where
  len : m.length = S.length
  nd : m.Nodup
  obj : ∀ (i : Nat) a o, m[i]? = some a → S[i]? = some o → RO K F H m a o
  sep : ∀ (i : Nat) a o, m[i]? = some a → S[i]? = some o → o.own → ¬ F a
  trk : ∀ a ∈ m, H a ≠ none
  ft : ∀ a, F a → H a ≠ none
end
structure Kp (F : Addr → Prop) (m : List Addr) (H : Hp) (F' : Addr → Prop) (m' : List Addr) (H' : Hp) : Prop where
  pre : ∃ n, m' = m ++ n
  frz : ∀ b, F b → F' b
  frk : ∀ b o, F b → H b = some o → H' b = some o
  tup : ∀ b xs, H b = some (.tup xs) → H' b = some (.tup xs)
structure Stp (F : Addr → Prop) (m : List Addr) (H : Hp) (F' : Addr → Prop) (m' : List Addr) (H' : Hp) : Prop where
  pre : ∃ n, m' = m ++ n
  oth : ∀ b o, H b = some o → b ∉ m → H' b = some o
  frz : ∀ b, F b → F' b
  frk : ∀ b o, F b → H b = some o → H' b = some o
  tup : ∀ b xs, H b = some (.tup xs) → H' b = some (.tup xs)
  trk : ∀ b, H b ≠ none → H' b ≠ none
  nf : ∀ b, F' b → F b ∨ H b = none ∨ b ∈ m
  nm : ∀ b, b ∈ m' → b ∈ m ∨ H b = none
theorem Stp.kp {F F' : Addr → Prop} {m m' : List Addr} {H H' : Hp} (s : Stp F m H F' m' H') : Kp F m H F' m' H' := ⟨s.pre, s.frz, s.frk, s.tup⟩
theorem Stp.refl {F : Addr → Prop} {m : List Addr} {H : Hp} : Stp F m H F m H :=
  ⟨⟨[], by simp⟩, fun _ _ h _ => h, fun _ h => h, fun _ _ _ h => h, fun _ _ h => h, fun _ h => h, fun _ h => .inl h, fun _ h => .inl h⟩
theorem Stp.trans {F F1 F2 : Addr → Prop} {m m1 m2 : List Addr} {H H1 H2 : Hp} (a : Stp F m H F1 m1 H1) (b : Stp F1 m1 H1 F2 m2 H2) : Stp F m H F2 m2 H2 where
  pre := by
    obtain ⟨n1, e1⟩ := a.pre
    obtain ⟨n2, e2⟩ := b.pre
    exact ⟨n1 ++ n2, by rw [e2, e1, List.append_assoc]⟩
  oth := fun c o h hc => b.oth c o (a.oth c o h hc) fun z => by
    rcases a.nm c z with z | z
    · exact hc z
    · rw [h] at z; cases z
  frz := fun c h => b.frz c (a.frz c h)
  frk := fun c o h e => b.frk c o (a.frz c h) (a.frk c o h e)
  tup := fun c xs h => b.tup c xs (a.tup c xs h)
  trk := fun c h => b.trk c (a.trk c h)
  nf := fun c h => by
    rcases b.nf c h with h | h | h
    · exact a.nf c h
    · by_cases e : H c = none
      · exact .inr (.inl e)
      · exact absurd h (a.trk c e)
    · rcases a.nm c h with h | h
      · exact .inr (.inr h)
      · exact .inr (.inl h)
  nm := fun c h => by
    rcases b.nm c h with h | h
    · exact a.nm c h
    · by_cases e : H c = none
      · exact .inr e
      · exact absurd h (a.trk c e)
section
variable {K : PySem.W.Frag} {F F' : Addr → Prop} {H H' : Hp} {m m' : List Addr} {S S' : Sto}
theorem TupAt.kp {a : Addr} {xs : List V} (s : Kp F m H F' m' H') (h : TupAt K H a xs) : TupAt K H' a xs := by
  rcases h with h | h
  · exact .inl (s.tup _ _ h)
  · exact .inr h
theorem LstAt.kp {a : Addr} {xs : List V} (s : Kp F m H F' m' H') (h : LstAt F H a xs) : LstAt F' H' a xs := ⟨s.frz _ h.1, s.frk _ _ h.1 h.2⟩
theorem RoAt.kp {a : Addr} {xs : List V} (s : Kp F m H F' m' H') (h : RoAt K F H a xs) : RoAt K F' H' a xs := by
  rcases h with ⟨f, o, h⟩ | h
  · exact .inl ⟨s.frz _ f, o, s.frk _ _ f h⟩
  · exact .inr h
mutual
theorem RP.kp (s : Kp F m H F' m' H') : ∀ {d : P} {v : V}, RP K F H d v → RP K F' H' d v
  | .non, _, h => h
  | .bl _, _, h => h
  | .int _, _, h => h
  | .str _, _, h => h
  | .tup _, _, h => by
    obtain ⟨a, xs, e, t, r⟩ := h
    exact ⟨a, xs, e, t.kp s, RPs.kp s r⟩
  | .lst _, _, h => by
    obtain ⟨a, xs, e, t, r⟩ := h
    exact ⟨a, xs, e, t.kp s, RPs.kp s r⟩
  | .ro _, _, h => by
    obtain ⟨a, xs, e, t, r⟩ := h
    exact ⟨a, xs, e, t.kp s, RPs.kp s r⟩
  | .dct _ _, _, h => by
    obtain ⟨a, kvs, e, f, t, k, r⟩ := h
    exact ⟨a, kvs, e, s.frz _ f, s.frk _ _ f t, k, RPs.kp s r⟩
theorem RPs.kp (s : Kp F m H F' m' H') : ∀ {ds : List P} {xs : List V}, RPs K F H ds xs → RPs K F' H' ds xs
  | [], _, h => h
  | _ :: _, _, h => by
    obtain ⟨x, r, e, h1, h2⟩ := h
    exact ⟨x, r, e, RP.kp s h1, RPs.kp s h2⟩
end
theorem RD.kp (s : Kp F m H F' m' H') : ∀ {d : D} {v : V}, RD K F H m d v → RD K F' H' m' d v
  | .p _, _, h => RP.kp s h
  | .ref i, _, h => by
    obtain ⟨a, e, h⟩ := h
    obtain ⟨n, e2⟩ := s.pre
    refine ⟨a, e, ?_⟩
    rw [e2]
    have hi : i < m.length := (List.getElem?_eq_some_iff.mp h).1
    rw [List.getElem?_append_left hi]; exact h
theorem RDs.kp (s : Kp F m H F' m' H') : ∀ {ds : List D} {xs : List V}, RDs K F H m ds xs → RDs K F' H' m' ds xs
  | [], _, h => h
  | _ :: _, _, h => by
    obtain ⟨x, r, e, h1, h2⟩ := h
    exact ⟨x, r, e, RD.kp s h1, RDs.kp s h2⟩
theorem RP.mono (s : Stp F m H F' m' H') {d : P} {v : V} (h : RP K F H d v) : RP K F' H' d v := RP.kp s.kp h
theorem RPs.mono (s : Stp F m H F' m' H') {d : List P} {v : List V} (h : RPs K F H d v) : RPs K F' H' d v := RPs.kp s.kp h
theorem RD.mono (s : Stp F m H F' m' H') {d : D} {v : V} (h : RD K F H m d v) : RD K F' H' m' d v := RD.kp s.kp h
theorem RDs.mono (s : Stp F m H F' m' H') {d : List D} {v : List V} (h : RDs K F H m d v) : RDs K F' H' m' d v := RDs.kp s.kp h
theorem RPs.length : ∀ {ds : List P} {xs : List V}, RPs K F H ds xs → ds.length = xs.length
  | [], _, h => by rw [show _ = ([] : List V) from h] <;> rfl
  | _ :: _, _, h => by
    obtain ⟨x, r, e, _, h2⟩ := h
    rw [e, List.length_cons, List.length_cons, RPs.length h2]
theorem RDs.length : ∀ {ds : List D} {xs : List V}, RDs K F H m ds xs → ds.length = xs.length
  | [], _, h => by rw [show _ = ([] : List V) from h] <;> rfl
  | _ :: _, _, h => by
    obtain ⟨x, r, e, _, h2⟩ := h
    rw [e, List.length_cons, List.length_cons, RDs.length h2]
theorem RPs.get : ∀ {ds : List P} {xs : List V} {i : Nat} {d : P}, RPs K F H ds xs → ds[i]? = some d → ∃ x, xs[i]? = some x ∧ RP K F H d x
  | [], _, _, _, _, e => by simp at e
  | _ :: _, _, 0, _, h, e => by
    obtain ⟨x, r, rfl, h1, _⟩ := h
    simp at e; subst e
    exact ⟨x, rfl, h1⟩
  | _ :: _, _, i + 1, d, h, e => by
    obtain ⟨x, r, rfl, _, h2⟩ := h
    obtain ⟨y, e1, h3⟩ := RPs.get (i := i) h2 (by simpa using e)
    exact ⟨y, by simpa using e1, h3⟩
theorem RPs.append : ∀ {ds es : List P} {xs ys : List V}, RPs K F H ds xs → RPs K F H es ys → RPs K F H (ds ++ es) (xs ++ ys)
  | [], _, _, _, h, g => by rw [show _ = ([] : List V) from h]; exact g
  | _ :: _, _, _, _, h, g => by
    obtain ⟨x, r, rfl, h1, h2⟩ := h
    exact ⟨x, r ++ _, rfl, h1, RPs.append h2 g⟩
theorem RDs.append : ∀ {ds es : List D} {xs ys : List V}, RDs K F H m ds xs → RDs K F H m es ys → RDs K F H m (ds ++ es) (xs ++ ys)
  | [], _, _, _, h, g => by rw [show _ = ([] : List V) from h]; exact g
  | _ :: _, _, _, _, h, g => by
    obtain ⟨x, r, rfl, h1, h2⟩ := h
    exact ⟨x, r ++ _, rfl, h1, RDs.append h2 g⟩
theorem RPs.take : ∀ (n : Nat) {ds : List P} {xs : List V}, RPs K F H ds xs → RPs K F H (ds.take n) (xs.take n)
  | 0, _, _, _ => rfl
  | _ + 1, [], _, h => by rw [show _ = ([] : List V) from h]; rfl
  | n + 1, _ :: _, _, h => by
    obtain ⟨x, r, rfl, h1, h2⟩ := h
    exact ⟨x, r.take n, rfl, h1, RPs.take n h2⟩
theorem RPs.drop : ∀ (n : Nat) {ds : List P} {xs : List V}, RPs K F H ds xs → RPs K F H (ds.drop n) (xs.drop n)
  | 0, _, _, h => h
  | _ + 1, [], _, h => by rw [show _ = ([] : List V) from h]; rfl
  | n + 1, _ :: _, _, h => by
    obtain ⟨x, r, rfl, _, h2⟩ := h
    exact RPs.drop n h2
theorem RDs.take : ∀ (n : Nat) {ds : List D} {xs : List V}, RDs K F H m ds xs → RDs K F H m (ds.take n) (xs.take n)
  | 0, _, _, _ => rfl
  | _ + 1, [], _, h => by rw [show _ = ([] : List V) from h]; rfl
  | n + 1, _ :: _, _, h => by
    obtain ⟨x, r, rfl, h1, h2⟩ := h
    exact ⟨x, r.take n, rfl, h1, RDs.take n h2⟩
theorem RDs.get : ∀ {ds : List D} {xs : List V} {i : Nat} {d : D}, RDs K F H m ds xs → ds[i]? = some d → ∃ x, xs[i]? = some x ∧ RD K F H m d x
  | [], _, _, _, _, e => by simp at e
  | _ :: _, _, 0, _, h, e => by
    obtain ⟨x, r, rfl, h1, _⟩ := h
    simp at e; subst e
    exact ⟨x, rfl, h1⟩
  | _ :: _, _, i + 1, d, h, e => by
    obtain ⟨x, r, rfl, _, h2⟩ := h
    obtain ⟨y, e1, h3⟩ := RDs.get (i := i) h2 (by simpa using e)
    exact ⟨y, by simpa using e1, h3⟩
theorem RDs.ofP : ∀ {ds : List P} {xs : List V}, RPs K F H ds xs → RDs K F H m (ds.map .p) xs
  | [], _, h => h
  | _ :: _, _, h => by
    obtain ⟨x, r, e, h1, h2⟩ := h
    exact ⟨x, r, e, h1, RDs.ofP h2⟩
theorem Rel.fresh_m (r : Rel K F H m S) {p : Addr} (hp : H p = none) : p ∉ m := fun z => r.trk p z hp
theorem Rel.fresh_F (r : Rel K F H m S) {p : Addr} (hp : H p = none) : ¬ F p := fun z => r.ft p z hp
theorem stp_new {p : Addr} {o : HO} (hp : H p = none) : Stp F m H F m (upd H p o) where
  pre := ⟨[], by simp⟩
  oth := fun b u h _ => by rw [upd_ne (by rintro rfl; rw [hp] at h; cases h)]; exact h
  frz := fun _ h => h
  frk := fun b u _ h => by rw [upd_ne (by rintro rfl; rw [hp] at h; cases h)]; exact h
  tup := fun b u h => by rw [upd_ne (by rintro rfl; rw [hp] at h; cases h)]; exact h
  trk := fun b h => by
    by_cases e : b = p
    · subst e; rw [upd_same]; exact fun z => nomatch z
    · rw [upd_ne e]; exact h
  nf := fun _ h => .inl h
  nm := fun _ h => .inl h
theorem RO.kp (s : Kp F m H F' m' H') {a : Addr} {o : SO} (k : ∀ u, H a = some u → H' a = some u) (h : RO K F H m a o) : RO K F' H' m' a o := by
  cases o with
  | lst ds =>
    obtain ⟨xs, e, r⟩ := h
    exact ⟨xs, k _ e, RDs.kp s r⟩
  | dct ks ds =>
    obtain ⟨kvs, e, e2, r⟩ := h
    exact ⟨kvs, k _ e, e2, RDs.kp s r⟩
  | fz v => exact RP.kp s (show RP K F H v (.ref a) from h)
theorem RO.mono (s : Stp F m H F' m' H') {a : Addr} {o : SO} (k : ∀ u, H a = some u → H' a = some u) (h : RO K F H m a o) : RO K F' H' m' a o := RO.kp s.kp k h
theorem Rel.stayK (r : Rel K F H m S) (s : Kp F m H F' m H') (k : ∀ a u, a ∈ m → H a = some u → H' a = some u) (nF : ∀ a, F' a → F a ∨ H a = none) (ft : ∀ a, F' a → H' a ≠ none) : Rel K F' H' m S where
  len := r.len
  nd := r.nd
  obj := fun i a o e1 e2 => (r.obj i a o e1 e2).kp s fun u h => k a u (List.mem_of_getElem? e1) h
  sep := fun i a o e1 e2 w f => by
    rcases nF a f with f | f
    · exact r.sep i a o e1 e2 w f
    · exact r.trk a (List.mem_of_getElem? e1) f
  trk := fun a h => by
    cases q : H a with
    | none => exact absurd q (r.trk a h)
    | some u => rw [k a u h q]; exact fun z => nomatch z
  ft := ft
theorem Rel.stay (r : Rel K F H m S) (s : Stp F m H F' m H') (k : ∀ a u, a ∈ m → H a = some u → H' a = some u) (nF : ∀ a, F' a → F a ∨ H a = none) (ft : ∀ a, F' a → H' a ≠ none) : Rel K F' H' m S where
  len := r.len
  nd := r.nd
  obj := fun i a o e1 e2 => (r.obj i a o e1 e2).mono s fun u h => k a u (List.mem_of_getElem? e1) h
  sep := fun i a o e1 e2 w f => by
    rcases nF a f with f | f
    · exact r.sep i a o e1 e2 w f
    · exact r.trk a (List.mem_of_getElem? e1) f
  trk := fun a h => s.trk a (r.trk a h)
  ft := ft
theorem Rel.new (r : Rel K F H m S) {p : Addr} {o : HO} (hp : H p = none) : Rel K F (upd H p o) m S :=
  r.stay (stp_new hp) (fun a u ha h => by rw [upd_ne (by rintro rfl; exact r.fresh_m hp ha)]; exact h) (fun _ f => .inl f) fun a f => (stp_new (F := F) (m := m) hp).trk a (r.ft a f)
theorem stp_own {p : Addr} {o : HO} (hp : H p = none) : Stp F m H F (m ++ [p]) (upd H p o) where
  pre := ⟨[p], rfl⟩
  oth := (stp_new (F := F) (m := m) (o := o) hp).oth
  frz := fun _ h => h
  frk := (stp_new (F := F) (m := m) (o := o) hp).frk
  tup := (stp_new (F := F) (m := m) (o := o) hp).tup
  trk := (stp_new (F := F) (m := m) (o := o) hp).trk
  nf := fun _ h => .inl h
  nm := fun b h => by
    rcases List.mem_append.mp h with h | h
    · exact .inl h
    · have : b = p := by simpa using h
      subst this; exact .inr hp
theorem Rel.own (r : Rel K F H m S) {p : Addr} {o : HO} {so : SO} (hp : H p = none) (ho : RO K F (upd H p o) (m ++ [p]) p so) : Rel K F (upd H p o) (m ++ [p]) (S ++ [so]) where
  len := by rw [List.length_append, List.length_append, r.len]; rfl
  nd := by
    rw [List.nodup_append]
    refine ⟨r.nd, by simp, fun a ha b hb e => ?_⟩
    have : b = p := by simpa using hb
    subst this; subst e
    exact r.fresh_m hp ha
  obj := fun i a u e1 e2 => by
    by_cases hi : i < m.length
    · rw [List.getElem?_append_left hi] at e1
      rw [List.getElem?_append_left (by rw [← r.len]; exact hi)] at e2
      exact (r.obj i a u e1 e2).mono (stp_own hp) fun w h => by rw [upd_ne (by rintro rfl; rw [hp] at h; cases h)]; exact h
    · have hl : i = m.length := by
        have := (List.getElem?_eq_some_iff.mp e1).1
        rw [List.length_append] at this; simp at this; omega
      subst hl
      rw [List.getElem?_append_right (Nat.le_refl _)] at e1
      rw [r.len, List.getElem?_append_right (Nat.le_refl _)] at e2
      simp at e1 e2
      subst e1; subst e2; exact ho
  sep := fun i a u e1 e2 w f => by
    by_cases hi : i < m.length
    · rw [List.getElem?_append_left hi] at e1
      rw [List.getElem?_append_left (by rw [← r.len]; exact hi)] at e2
      exact r.sep i a u e1 e2 w f
    · have hl : i = m.length := by
        have := (List.getElem?_eq_some_iff.mp e1).1
        rw [List.length_append] at this; simp at this; omega
      subst hl
      rw [List.getElem?_append_right (Nat.le_refl _)] at e1
      simp at e1
      subst e1; exact r.fresh_F hp f
  trk := fun a h => by
    rcases List.mem_append.mp h with h | h
    · exact (stp_own (F := F) (m := m) hp).trk a (r.trk a h)
    · have : a = p := by simpa using h
      subst this; rw [upd_same]; exact fun z => nomatch z
  ft := fun a f => (stp_own (F := F) (m := m) hp).trk a (r.ft a f)
theorem stp_set (r : Rel K F H m S) {i : Nat} {p : Addr} {so : SO} {o : HO} (hm : m[i]? = some p) (hs : S[i]? = some so) (hw : so.own) (ht : ∀ xs, H p ≠ some (.tup xs)) : Stp F m H F m (upd H p o) where
  pre := ⟨[], by simp⟩
  oth := fun b u h hb => by rw [upd_ne (by rintro rfl; exact hb (List.mem_of_getElem? hm))]; exact h
  frz := fun _ h => h
  frk := fun b u f h => by rw [upd_ne (by rintro rfl; exact r.sep i _ so hm hs hw f)]; exact h
  tup := fun b xs h => by rw [upd_ne (by rintro rfl; exact ht xs h)]; exact h
  trk := fun b h => by
    by_cases e : b = p
    · subst e; rw [upd_same]; exact fun z => nomatch z
    · rw [upd_ne e]; exact h
  nf := fun _ h => .inl h
  nm := fun _ h => .inl h
theorem nodup_at {m : List Addr} (h : m.Nodup) {i j : Nat} {a : Addr} (e1 : m[i]? = some a) (e2 : m[j]? = some a) : i = j := by
  exact (List.getElem?_inj (List.getElem?_eq_some_iff.mp e1).1 h).mp (e1.trans e2.symm)
theorem Rel.set (r : Rel K F H m S) {i : Nat} {p : Addr} {so so' : SO} {o : HO} (hm : m[i]? = some p) (hs : S[i]? = some so) (hw : so.own) (ht : ∀ xs, H p ≠ some (.tup xs)) (ho : RO K F (upd H p o) m p so') :
    Rel K F (upd H p o) m (S.set i so') where
  len := by rw [List.length_set]; exact r.len
  nd := r.nd
  obj := fun j a u e1 e2 => by
    by_cases hj : i = j
    · subst hj
      rw [hm] at e1; cases e1
      rw [List.getElem?_set_self (by exact (List.getElem?_eq_some_iff.mp hs).1)] at e2
      cases e2; exact ho
    · rw [List.getElem?_set_ne hj] at e2
      exact (r.obj j a u e1 e2).mono (stp_set r hm hs hw ht) fun w h => by rw [upd_ne (by rintro rfl; exact hj (nodup_at r.nd hm e1))]; exact h
  sep := fun j a u e1 e2 w f => by
    by_cases hj : i = j
    · subst hj
      rw [hm] at e1; cases e1
      exact r.sep i p so hm hs hw f
    · rw [List.getElem?_set_ne hj] at e2
      exact r.sep j a u e1 e2 w f
  trk := fun a h => (stp_set (o := o) r hm hs hw ht).trk a (r.trk a h)
  ft := fun a f => (stp_set (o := o) r hm hs hw ht).trk a (r.ft a f)
theorem stp_frz {p : Addr} (hm : p ∈ m) : Stp F m H (fun b => F b ∨ b = p) m H :=
  ⟨⟨[], by simp⟩, fun _ _ h _ => h, fun _ h => .inl h, fun _ _ _ h => h, fun _ _ h => h, fun _ h => h, fun b h => by
    rcases h with h | h
    · exact .inl h
    · subst h; exact .inr (.inr hm), fun _ h => .inl h⟩
theorem Rel.frz (r : Rel K F H m S) {i : Nat} {p : Addr} {so : SO} {v : P} (hm : m[i]? = some p) (hs : S[i]? = some so) (ho : RP K (fun b => F b ∨ b = p) H v (.ref p)) : Rel K (fun b => F b ∨ b = p) H m (S.set i (.fz v)) where
  len := by rw [List.length_set]; exact r.len
  nd := r.nd
  obj := fun j a u e1 e2 => by
    by_cases hj : i = j
    · subst hj
      rw [hm] at e1; cases e1
      rw [List.getElem?_set_self (by exact (List.getElem?_eq_some_iff.mp hs).1)] at e2
      cases e2; exact ho
    · rw [List.getElem?_set_ne hj] at e2
      exact (r.obj j a u e1 e2).mono (stp_frz (List.mem_of_getElem? hm)) fun w h => h
  sep := fun j a u e1 e2 w f => by
    by_cases hj : i = j
    · subst hj
      rw [List.getElem?_set_self (by exact (List.getElem?_eq_some_iff.mp hs).1)] at e2
      cases e2; exact w
    · rw [List.getElem?_set_ne hj] at e2
      rcases f with f | f
      · exact r.sep j a u e1 e2 w f
      · subst f; exact hj (nodup_at r.nd hm e1)
  trk := r.trk
  ft := fun a f => by
    rcases f with f | f
    · exact r.ft a f
    · subst f; exact r.trk _ (List.mem_of_getElem? hm)
end
end Ev
namespace Ev
open PySem L2
noncomputable abbrev EE := Lc → Sto → Option (D × Sto)
noncomputable abbrev EV := Lc → Sto → Option (P × Sto)
noncomputable abbrev EB := Lc → Sto → Option (Bool × Sto)
noncomputable abbrev EVs := Lc → Sto → Option (List P × Sto)
inductive Fl where
  | nx | rt (d : D) | bk | ct
noncomputable abbrev ES := Lc → Sto → Option (Fl × Lc × Sto)
noncomputable def bnd {α β : Type} (x : Option (α × Sto)) (f : α → Sto → Option β) : Option β := match x with
  | some (a, S) => f a S
  | none => none
@[simp] theorem bnd_some {α β : Type} (a : α) (S : Sto) (f : α → Sto → Option β) : bnd (some (a, S)) f = f a S := rfl
@[simp] theorem bnd_none {α β : Type} (f : α → Sto → Option β) : bnd none f = none := rfl
theorem bnd_eq {α β : Type} {x : Option (α × Sto)} {f : α → Sto → Option β} {r : β} (h : bnd x f = some r) : ∃ a S, x = some (a, S) ∧ f a S = some r := by
  cases x with
  | none => cases h
  | some p => exact ⟨p.1, p.2, rfl, h⟩
noncomputable def mapS (f : D → Sto → Option (P × Sto)) : List D → Sto → Option (List P × Sto)
  | [], S => some ([], S)
  | d :: r, S => bnd (f d S) fun v S1 => bnd (mapS f r S1) fun vs S2 => some (v :: vs, S2)
noncomputable def toP : Nat → D → Sto → Option (P × Sto)
  | _, .p v, S => some (v, S)
  | 0, .ref _, _ => none
  | n + 1, .ref i, S => match S[i]? with
    | some (.lst ds) => bnd (mapS (toP n) ds S) fun vs S1 => some (.lst vs, S1.set i (.fz (.lst vs)))
    | some (.dct ks ds) => bnd (mapS (toP n) ds S) fun vs S1 => some (.dct ks vs, S1.set i (.fz (.dct ks vs)))
    | some (.fz v) => some (v, S)
    | none => none
@[simp] theorem toP_p (n : Nat) (v : P) (S : Sto) : toP n (.p v) S = some (v, S) := by cases n <;> rfl
theorem mapS_ps (n : Nat) : ∀ (vs : List P) (S : Sto), mapS (toP n) (vs.map .p) S = some (vs, S)
  | [], _ => rfl
  | v :: r, S => by simp [mapS, mapS_ps n r S]
theorem toP_lst {n : Nat} {i : Nat} {S : Sto} {vs : List P} (h : S[i]? = some (.lst (vs.map .p))) : toP (n + 1) (.ref i) S = some (.lst vs, S.set i (.fz (.lst vs))) := by
  simp [toP, h, mapS_ps]
section
variable {K : PySem.W.Frag} {F : Addr → Prop} {H : Hp} {m : List Addr} {S S' : Sto}
theorem mapS_ok {f : D → Sto → Option (P × Sto)}
    (hf : ∀ {d : D} {x : V} {v : P} {F : Addr → Prop} {S S' : Sto}, f d S = some (v, S') → Rel K F H m S → RD K F H m d x → ∃ F', Stp F m H F' m H ∧ Rel K F' H m S' ∧ S'.length = S.length ∧ RP K F' H v x) :
    ∀ {ds : List D} {xs : List V} {vs : List P} {F : Addr → Prop} {S S' : Sto}, mapS f ds S = some (vs, S') → Rel K F H m S → RDs K F H m ds xs → ∃ F', Stp F m H F' m H ∧ Rel K F' H m S' ∧ S'.length = S.length ∧ RPs K F' H vs xs
  | [], xs, vs, F, S, S', h, r, rd => by
    cases h
    exact ⟨F, .refl, r, rfl, rd⟩
  | d :: ds, xs, vs, F, S, S', h, r, rd => by
    obtain ⟨x, xr, e, h1, h2⟩ := rd
    obtain ⟨v, S1, e1, h⟩ := bnd_eq h
    obtain ⟨vr, S2, e2, h⟩ := bnd_eq h
    cases h
    obtain ⟨F1, s1, r1, l1, p1⟩ := hf e1 r h1
    obtain ⟨F2, s2, r2, l2, p2⟩ := mapS_ok hf e2 r1 (RDs.mono s1 h2)
    exact ⟨F2, s1.trans s2, r2, l2.trans l1, x, xr, e, RP.mono s2 p1, p2⟩
theorem toP_ok : ∀ (n : Nat) {d : D} {x : V} {v : P} {F : Addr → Prop} {S S' : Sto}, toP n d S = some (v, S') → Rel K F H m S → RD K F H m d x → ∃ F', Stp F m H F' m H ∧ Rel K F' H m S' ∧ S'.length = S.length ∧ RP K F' H v x
  | n, .p w, x, v, F, S, S', h, r, rd => by
    rw [toP_p] at h; cases h
    exact ⟨F, .refl, r, rfl, rd⟩
  | 0, .ref i, x, v, F, S, S', h, r, rd => by cases h
  | n + 1, .ref i, x, v, F, S, S', h, r, rd => by
    obtain ⟨a, e, hm⟩ := rd
    subst e
    have hi : i < S.length := by rw [← r.len]; exact (List.getElem?_eq_some_iff.mp hm).1
    obtain ⟨o, ho⟩ : ∃ o, S[i]? = some o := ⟨S[i], by simp [hi]⟩
    have ob := r.obj i a o hm ho
    simp only [toP, ho] at h
    cases o with
    | fz w =>
      cases h
      exact ⟨F, .refl, r, rfl, ob⟩
    | lst ds =>
      obtain ⟨vs, S1, e1, h⟩ := bnd_eq h
      cases h
      obtain ⟨xs, hH, rs⟩ := ob
      obtain ⟨F1, s1, r1, l1, p1⟩ := mapS_ok (fun h => toP_ok n h) e1 r rs
      obtain ⟨o1, ho1⟩ : ∃ o, S1[i]? = some o := ⟨S1[i]'(by rw [l1]; exact hi), by simp [l1, hi]⟩
      have st : Stp F1 m H (fun b => F1 b ∨ b = a) m H := stp_frz (List.mem_of_getElem? hm)
      have q : RP K (fun b => F1 b ∨ b = a) H (.lst vs) (.ref a) := ⟨a, xs, rfl, ⟨.inr rfl, hH⟩, RPs.mono st p1⟩
      exact ⟨_, s1.trans st, r1.frz hm ho1 q, by rw [List.length_set]; exact l1, q⟩
    | dct ks ds =>
      obtain ⟨vs, S1, e1, h⟩ := bnd_eq h
      cases h
      obtain ⟨kvs, hH, hk, rs⟩ := ob
      obtain ⟨F1, s1, r1, l1, p1⟩ := mapS_ok (fun h => toP_ok n h) e1 r rs
      obtain ⟨o1, ho1⟩ : ∃ o, S1[i]? = some o := ⟨S1[i]'(by rw [l1]; exact hi), by simp [l1, hi]⟩
      have st : Stp F1 m H (fun b => F1 b ∨ b = a) m H := stp_frz (List.mem_of_getElem? hm)
      have q : RP K (fun b => F1 b ∨ b = a) H (.dct ks vs) (.ref a) := ⟨a, kvs, rfl, .inr rfl, hH, hk, RPs.mono st p1⟩
      exact ⟨_, s1.trans st, r1.frz hm ho1 q, by rw [List.length_set]; exact l1, q⟩
end
structure Grow (F : Addr → Prop) (H : Hp) (F' : Addr → Prop) (H' : Hp) : Prop where
  keep : ∀ b o, H b = some o → H' b = some o
  frz : ∀ b, F b → F' b
  nf : ∀ b, F' b → F b ∨ (H b = none ∧ H' b ≠ none)
section
variable {K : PySem.W.Frag} {F F' F1 F2 : Addr → Prop} {H H' H1 H2 : Hp} {m : List Addr} {S S' : Sto}
theorem Grow.refl : Grow F H F H := ⟨fun _ _ h => h, fun _ h => h, fun _ h => .inl h⟩
theorem Grow.trans (a : Grow F H F1 H1) (b : Grow F1 H1 F2 H2) : Grow F H F2 H2 :=
  ⟨fun c o h => b.keep c o (a.keep c o h), fun c h => b.frz c (a.frz c h), fun c h => by
    rcases b.nf c h with h | ⟨h, h2⟩
    · rcases a.nf c h with h | ⟨h, h2⟩
      · exact .inl h
      · refine .inr ⟨h, ?_⟩
        cases q : H1 c with
        | none => exact absurd q h2
        | some o => rw [b.keep c o q]; exact fun z => nomatch z
    · refine .inr ⟨?_, h2⟩
      cases q : H c with
      | none => rfl
      | some o => rw [a.keep c o q] at h; cases h⟩
theorem Grow.stp (g : Grow F H F' H') : Stp F m H F' m H' where
  pre := ⟨[], by simp⟩
  oth := fun b o h _ => g.keep b o h
  frz := g.frz
  frk := fun b o _ h => g.keep b o h
  tup := fun b xs h => g.keep b _ h
  trk := fun b h => by
    cases q : H b with
    | none => exact absurd q h
    | some o => rw [g.keep b o q]; exact fun z => nomatch z
  nf := fun b h => by
    rcases g.nf b h with h | ⟨h, _⟩
    · exact .inl h
    · exact .inr (.inl h)
  nm := fun _ h => .inl h
theorem Rel.grow (r : Rel K F H m S) (g : Grow F H F' H') : Rel K F' H' m S :=
  r.stay g.stp (fun a u _ h => g.keep a u h) (fun a f => by
    rcases g.nf a f with f | ⟨f, _⟩
    · exact .inl f
    · exact .inr f) fun a f => by
    rcases g.nf a f with f | ⟨_, f⟩
    · exact (g.stp (m := m)).trk a (r.ft a f)
    · exact f
theorem grow_new {p : Addr} {o : HO} (hp : H p = none) : Grow F H F (upd H p o) :=
  ⟨fun b u h => by rw [upd_ne (by rintro rfl; rw [hp] at h; cases h)]; exact h, fun _ h => h, fun _ h => .inl h⟩
theorem grow_frz {p : Addr} {o : HO} (hp : H p = none) : Grow F H (fun b => F b ∨ b = p) (upd H p o) :=
  ⟨fun b u h => by rw [upd_ne (by rintro rfl; rw [hp] at h; cases h)]; exact h, fun _ h => .inl h, fun b h => by
    rcases h with h | h
    · exact .inl h
    · subst h; exact .inr ⟨hp, by rw [upd_same]; exact fun z => nomatch z⟩⟩
theorem RP.grow {d : P} {v : V} (g : Grow F H F' H') (h : RP K F H d v) : RP K F' H' d v := RP.mono (m := []) g.stp h
theorem RPs.grow {d : List P} {v : List V} (g : Grow F H F' H') (h : RPs K F H d v) : RPs K F' H' d v := RPs.mono (m := []) g.stp h
theorem RP.newTup {p : Addr} {ds : List P} {xs : List V} (hp : H p = none) (r : RPs K F H ds xs) : RP K F (upd H p (.tup xs)) (.tup ds) (.ref p) := ⟨p, xs, rfl, .inl upd_same, r.grow (grow_new hp)⟩
theorem RP.newLst {p : Addr} {ds : List P} {xs : List V} (hp : H p = none) (r : RPs K F H ds xs) : RP K (fun b => F b ∨ b = p) (upd H p (.lst xs)) (.lst ds) (.ref p) := ⟨p, xs, rfl, ⟨.inr rfl, upd_same⟩, r.grow (grow_frz hp)⟩
end
noncomputable def vC (v : P) : EV := fun _ S => some (v, S)
noncomputable def eVar (i : Nat) : EE := fun L S => match L[i]? with
  | some (some d) => some (d, S)
  | _ => none
noncomputable def vE (f : EE) : EV := fun L S => bnd (f L S) (toP 9)
noncomputable def eV (f : EV) : EE := fun L S => bnd (f L S) fun v S1 => some (.p v, S1)
noncomputable def vVar (i : Nat) : EV := vE (eVar i)
noncomputable def vOp (g : P → P → Option P) (a b : EV) : EV := fun L S => bnd (a L S) fun x S1 => bnd (b L S1) fun y S2 => (g x y).map fun v => (v, S2)
noncomputable def vUn (g : P → Option P) (a : EV) : EV := fun L S => bnd (a L S) fun x S1 => (g x).map fun v => (v, S1)
noncomputable def bV (a : EV) : EB := fun L S => bnd (a L S) fun x S1 => match x with
  | .bl b => some (b, S1)
  | _ => none
noncomputable def bAnd (a b : EB) : EB := fun L S => bnd (a L S) fun c S1 => if c = true then b L S1 else some (false, S1)
noncomputable def bOr (a b : EB) : EB := fun L S => bnd (a L S) fun c S1 => if c = true then some (true, S1) else b L S1
noncomputable def bNot (a : EB) : EB := fun L S => bnd (a L S) fun c S1 => some (!c, S1)
noncomputable def vB (a : EB) : EV := fun L S => bnd (a L S) fun c S1 => some (.bl c, S1)
noncomputable def vsNil : EVs := fun _ S => some ([], S)
noncomputable def vsCons (a : EV) (r : EVs) : EVs := fun L S => bnd (a L S) fun x S1 => bnd (r L S1) fun xs S2 => some (x :: xs, S2)
noncomputable def vCall (g : List P → Option P) (a : EVs) : EV := fun L S => bnd (a L S) fun xs S1 => (g xs).map fun v => (v, S1)
noncomputable def sNx : ES := fun L S => some (.nx, L, S)
noncomputable def sSeq (f g : ES) : ES := fun L S => match f L S with
  | some (.nx, L1, S1) => g L1 S1
  | r => r
noncomputable def sSet (i : Nat) (f : EE) : ES := fun L S => bnd (f L S) fun d S1 => some (.nx, L.set i (some d), S1)
noncomputable def sRet (f : EE) : ES := fun L S => bnd (f L S) fun d S1 => some (.rt d, L, S1)
noncomputable def sDrop (f : EE) : ES := fun L S => bnd (f L S) fun _ S1 => some (.nx, L, S1)
noncomputable def sIf (c : EB) (a b : ES) : ES := fun L S => bnd (c L S) fun k S1 => if k = true then a L S1 else b L S1
noncomputable def sNever : ES := fun _ _ => none
noncomputable abbrev TGv := P → Lc → Option Lc
noncomputable def gSet (i : Nat) : TGv := fun v L => some (L.set i (some (.p v)))
noncomputable def forGo (g : TGv) (b : ES) : List P → Lc → Sto → Option (Fl × Lc × Sto)
  | [], L, S => some (.nx, L, S)
  | v :: r, L, S => match g v L with
    | none => none
    | some L1 => match b L1 S with
      | some (.nx, L2, S2) => forGo g b r L2 S2
      | some (.ct, L2, S2) => forGo g b r L2 S2
      | some (.bk, L2, S2) => some (.nx, L2, S2)
      | x => x
noncomputable def sFor (it : EVs) (g : TGv) (b : ES) : ES := fun L S => bnd (it L S) fun xs S1 => forGo g b xs L S1
end Ev
namespace Ev
open PySem PySem.Spec PyProof.Rows L2
section
variable (K : PySem.W.Frag)
structure RL (F : Addr → Prop) (H : Hp) (m : List Addr) (σ : L2.St) (L : Lc) : Prop where
  len : σ.length = L.length
  at' : ∀ (i : Nat) d, L[i]? = some (some d) → ∃ v, σ[i]? = some (some v) ∧ RD K F H m d v
noncomputable def tE (f : EE) : TE := fun σ H Q => ∃ F m L S d S', Rel K F H m S ∧ RL K F H m σ L ∧ f L S = some (d, S') ∧ ∀ v F' m' H', Stp F m H F' m' H' → Rel K F' H' m' S' → RD K F' H' m' d v → Q v H'
noncomputable def tV (f : EV) : TE := fun σ H Q => ∃ F m L S d S', Rel K F H m S ∧ RL K F H m σ L ∧ f L S = some (d, S') ∧ ∀ v F' m' H', Stp F m H F' m' H' → Rel K F' H' m' S' → RP K F' H' d v → Q v H'
noncomputable def tQ (f : EB) : TT := fun σ H Q => ∃ F m L S b S', Rel K F H m S ∧ RL K F H m σ L ∧ f L S = some (b, S') ∧ ∀ F' m' H', Stp F m H F' m' H' → Rel K F' H' m' S' → Q b H'
noncomputable def tVs (f : EVs) : TA := fun σ H Q => ∃ F m L S ds S', Rel K F H m S ∧ RL K F H m σ L ∧ f L S = some (ds, S') ∧ ∀ xs F' m' H', Stp F m H F' m' H' → Rel K F' H' m' S' → RPs K F' H' ds xs → Q xs H'
noncomputable def tFin (D : Ends) (F : Addr → Prop) (m : List Addr) (σ : L2.St) (H : Hp) : Fl → Prop
  | .nx => D.nx σ H
  | .bk => D.bk σ H
  | .ct => D.ct σ H
  | .rt d => ∀ v, RD K F H m d v → D.rt v H
noncomputable def tSt (f : ES) : TS := fun D σ H => ∃ F m L S fl L' S', Rel K F H m S ∧ RL K F H m σ L ∧ f L S = some (fl, L', S') ∧
  ∀ σ' F' m' H', Stp F m H F' m' H' → Rel K F' H' m' S' → RL K F' H' m' σ' L' → tFin K D F' m' σ' H' fl
end
section
variable {K : PySem.W.Frag} {F F' : Addr → Prop} {H H' : Hp} {m m' : List Addr} {σ : L2.St} {L : Lc} {S : Sto}
theorem RL.mono (s : Stp F m H F' m' H') (h : RL K F H m σ L) : RL K F' H' m' σ L := ⟨h.len, fun i d e => by
  obtain ⟨v, e1, r⟩ := h.at' i d e
  exact ⟨v, e1, RD.mono s r⟩⟩
theorem RL.set (h : RL K F H m σ L) {d : D} {v : V} (r : RD K F H m d v) (i : Nat) : RL K F H m (σ.set i (some v)) (L.set i (some d)) := ⟨by rw [List.length_set, List.length_set]; exact h.len, fun j e q => by
  by_cases hj : i = j
  · subst hj
    by_cases hi : i < L.length
    · rw [List.getElem?_set_self hi] at q
      cases q
      exact ⟨v, List.getElem?_set_self (by rw [h.len]; exact hi), r⟩
    · rw [List.getElem?_eq_none (by rw [List.length_set]; omega)] at q; cases q
  · rw [List.getElem?_set_ne hj] at q
    rw [List.getElem?_set_ne hj]
    exact h.at' j e q⟩
end
section
variable {X : Cx} {e : Expr} {es : List Expr} {st : Stmt} {sts : List Stmt}
theorem _root_.L2.PE.imp' {t t' : TE} (h : PE X e t) (i : ∀ σ H Q, t' σ H Q → t σ H Q) : PE X e t' := fun pins s σ H Q I q => h pins s σ H Q I (i σ H Q q)
theorem _root_.L2.PT.imp' {t t' : TT} (h : PT X e t) (i : ∀ σ H Q, t' σ H Q → t σ H Q) : PT X e t' := fun pins s σ H Q I q => h pins s σ H Q I (i σ H Q q)
theorem _root_.L2.PW.imp' {t t' : TT} (h : PW X e t) (i : ∀ σ H Q, t' σ H Q → t σ H Q) : PW X e t' := fun wh pins s σ H Q I q => h wh pins s σ H Q I (i σ H Q q)
theorem _root_.L2.PA.imp' {t t' : TA} (h : PA X es t) (i : ∀ σ H Q, t' σ H Q → t σ H Q) : PA X es t' := fun pos pins s σ H Q I q => h pos pins s σ H Q I (i σ H Q q)
theorem _root_.L2.PS.imp' {t t' : TS} (h : PS X st t) (i : ∀ D σ H, t' D σ H → t D σ H) : PS X st t' := fun pins s σ H D I q => h pins s σ H D I (i D σ H q)
theorem _root_.L2.PSs.imp' {t t' : TS} (h : PSs X sts t) (i : ∀ D σ H, t' D σ H → t D σ H) : PSs X sts t' := fun pins s σ H D I q => h pins s σ H D I (i D σ H q)
end
section
variable {X : Cx} {a b c e : Expr} {es : List Expr} {fa fb : EV} {fe : EE} {pos : Pos}
theorem xVE (h : PE X e (tE X.K fe)) : PE X e (tV X.K (vE fe)) := h.imp' fun σ H Q ⟨F, m, L, S, d, S', r, l, q, k⟩ => by
  obtain ⟨d0, S1, e1, e2⟩ := bnd_eq q
  refine ⟨F, m, L, S, d0, S1, r, l, e1, fun v F' m' H' s r' rd => ?_⟩
  obtain ⟨F2, s2, r2, _, p⟩ := toP_ok 9 e2 r' rd
  exact k v F2 m' H' (s.trans s2) r2 p
theorem xEV (h : PE X e (tV X.K fa)) : PE X e (tE X.K (eV fa)) := h.imp' fun σ H Q ⟨F, m, L, S, d, S', r, l, q, k⟩ => by
  obtain ⟨d0, S1, e1, e2⟩ := bnd_eq q
  cases e2
  exact ⟨F, m, L, S, d0, S', r, l, e1, fun v F' m' H' s r' rd => k v F' m' H' s r' rd⟩
theorem xVar (i : Nat) {x : Str} {pos : Pos} (hN : X.N[i]? = some x := by rfl) (hv : Vis X.env.scope x := by first | exact Or.inl rfl | exact Or.inr (Or.inl rfl) | exact Or.inr (Or.inr rfl)) (hd : (x == ("__debug__" : Str)) = false := by decide)
    (hcd : (x == ("__classdict__" : Str)) = false := by decide) : PE X (.Name x pos) (tE X.K (eVar i)) := (pe_var hN hv hd hcd).imp' fun σ H Q ⟨F, m, L, S, d, S', r, l, q, k⟩ => by
  unfold eVar at q
  split at q
  · rename_i d' e
    cases q
    obtain ⟨v, e1, rd⟩ := l.at' i _ e
    exact ⟨v, e1, k v F m H .refl r rd⟩
  · cases q
theorem xC {v : V} {d : P} (h : PE X e (tC v)) (r : ∀ F H, RP X.K F H d v) : PE X e (tV X.K (vC d)) := h.imp' fun σ H Q ⟨F, m, L, S, d', S', r', l, q, k⟩ => by
  cases q
  exact k v F m H .refl r' (r F H)
theorem xInt {i j pos} : PE X (.Constant (.int i) j pos) (tV X.K (vC (.int i))) := xC pe_int fun _ _ => rfl
theorem xBl {i j pos} : PE X (.Constant (.bool i) j pos) (tV X.K (vC (.bl i))) := xC pe_bl fun _ _ => rfl
theorem xNon {j pos} : PE X (.Constant .none j pos) (tV X.K (vC .non)) := xC pe_non fun _ _ => rfl
theorem xStr {i j pos} : PE X (.Constant (.str i) j pos) (tV X.K (vC (.str i))) := xC pe_str fun _ _ => rfl
noncomputable def rP (K : PySem.W.Frag) (g : P → P → Option P) : R2 := fun x y H Q => ∃ F dx dy d, (∀ a, F a → H a ≠ none) ∧ RP K F H dx x ∧ RP K F H dy y ∧ g dx dy = some d ∧ ∀ v F' H', Grow F H F' H' → RP K F' H' d v → Q v H'
noncomputable def OpP (X : Cx) (f : Value → Value → Sem Value) (g : P → P → Option P) : Prop := OpR X f (rP X.K g)
theorem tOp_of {g : P → P → Option P} {σ : L2.St} {H : Hp} {Q : VK} (h : tV X.K (vOp g fa fb) σ H Q) : tOp (rP X.K g) (tV X.K fa) (tV X.K fb) σ H Q := by
  obtain ⟨F, m, L, S, d, S', r, l, q, k⟩ := h
  obtain ⟨x, S1, e1, q⟩ := bnd_eq q
  obtain ⟨y, S2, e2, q⟩ := bnd_eq q
  refine ⟨F, m, L, S, x, S1, r, l, e1, fun v F1 m1 H1 s1 r1 p1 => ?_⟩
  refine ⟨F1, m1, L, S1, y, S2, r1, l.mono s1, e2, fun u F2 m2 H2 s2 r2 p2 => ?_⟩
  cases eg : g x y with
  | none => rw [eg] at q; cases q
  | some z =>
    rw [eg] at q
    cases q
    refine ⟨F2, x, y, _, r2.ft, RP.mono s2 p1, p2, eg, fun w F3 H3 gr p3 => ?_⟩
    exact k w F3 m2 H3 (s1.trans (s2.trans gr.stp)) (r2.grow gr) p3
theorem xOp {op : Operator} {g : P → P → Option P} (ho : OpP X (binaryOp op) g) (ha : PE X a (tV X.K fa)) (hb : PE X b (tV X.K fb)) : PE X (.BinOp a op b pos) (tV X.K (vOp g fa fb)) :=
  (pe_op ho ha hb).imp' fun _ _ _ h => tOp_of h
theorem xCmp {op : CmpOp} {g : P → P → Option P} (ho : OpP X (compareOp op) g) (ha : PE X a (tV X.K fa)) (hb : PE X b (tV X.K fb)) (hm : behindInMarks op b = false) : PE X (.Compare a [op] [b] pos) (tV X.K (vOp g fa fb)) :=
  (pe_cmpR ho ha hb hm).imp' fun _ _ _ h => tOp_of h
theorem tTest_of {g : P → P → Option P} {σ : L2.St} {H : Hp} {Q : Bool → Hp → Prop} (h : tQ X.K (bV (vOp g fa fb)) σ H Q) : tTest (tOp (rP X.K g) (tV X.K fa) (tV X.K fb)) σ H Q := by
  refine tOp_of ?_
  obtain ⟨F, m, L, S, d, S', r, l, q, k⟩ := h
  obtain ⟨x, S1, e1, q⟩ := bnd_eq q
  cases x with
  | bl b => cases q; exact ⟨F, m, L, S, _, _, r, l, e1, fun v F' m' H' s r' p => ⟨_, p, k F' m' H' s r'⟩⟩
  | _ => cases q
theorem yCmp {op : CmpOp} {g : P → P → Option P} (ho : OpP X (compareOp op) g) (ha : PE X a (tV X.K fa)) (hb : PE X b (tV X.K fb)) (hm : behindInMarks op b = false) : PT X (.Compare a [op] [b] pos) (tQ X.K (bV (vOp g fa fb))) :=
  (pt_cmpR ho ha hb hm).imp' fun _ _ _ h => tTest_of h
variable {qa qb : EB} {rest : List Expr}
theorem yAnd1 (ha : PT X a (tQ X.K qa)) : PW X (.BoolOp .And [a] pos) (tQ X.K qa) := pw_and1 ha
theorem yOr1 (ha : PT X a (tQ X.K qa)) : PW X (.BoolOp .Or [a] pos) (tQ X.K qa) := pw_or1 ha
theorem yAnd (ha : PT X a (tQ X.K qa)) (hb : PW X (.BoolOp .And (b :: rest) pos) (tQ X.K qb)) : PW X (.BoolOp .And (a :: b :: rest) pos) (tQ X.K (bAnd qa qb)) :=
  (pw_and ha hb).imp' fun σ H Q ⟨F, m, L, S, d, S', r, l, q, k⟩ => by
    obtain ⟨c, S1, e1, q⟩ := bnd_eq q
    refine ⟨F, m, L, S, c, S1, r, l, e1, fun F' m' H' s r' => ?_⟩
    cases c with
    | true => rw [if_pos rfl] at q ⊢; exact ⟨F', m', L, S1, d, S', r', l.mono s, q, fun F2 m2 H2 s2 r2 => k F2 m2 H2 (s.trans s2) r2⟩
    | false => rw [if_neg Bool.false_ne_true] at q ⊢; cases q; exact k F' m' H' s r'
theorem yOr (ha : PT X a (tQ X.K qa)) (hb : PW X (.BoolOp .Or (b :: rest) pos) (tQ X.K qb)) : PW X (.BoolOp .Or (a :: b :: rest) pos) (tQ X.K (bOr qa qb)) :=
  (pw_or ha hb).imp' fun σ H Q ⟨F, m, L, S, d, S', r, l, q, k⟩ => by
    obtain ⟨c, S1, e1, q⟩ := bnd_eq q
    refine ⟨F, m, L, S, c, S1, r, l, e1, fun F' m' H' s r' => ?_⟩
    cases c with
    | false => rw [if_neg Bool.false_ne_true] at q ⊢; exact ⟨F', m', L, S1, d, S', r', l.mono s, q, fun F2 m2 H2 s2 r2 => k F2 m2 H2 (s.trans s2) r2⟩
    | true => rw [if_pos rfl] at q ⊢; cases q; exact k F' m' H' s r'
theorem yNot (ha : PT X a (tQ X.K qa)) : PT X (.UnaryOp .Not a pos) (tQ X.K (bNot qa)) :=
  (pt_not ha).imp' fun σ H Q ⟨F, m, L, S, d, S', r, l, q, k⟩ => by
    obtain ⟨c, S1, e1, q⟩ := bnd_eq q
    cases q
    exact ⟨F, m, L, S, c, S', r, l, e1, fun F' m' H' s r' => k F' m' H' s r'⟩
theorem xAnd1 {op} (h : PE X a (tV X.K (vB qa))) : PE X (.BoolOp op [a] pos) (tV X.K (vB qa)) := pe_one h
theorem vB_of {σ : L2.St} {H : Hp} {Q : VK} {k : Bool → Hp → Prop} (h : tQ X.K qa σ H k) (hk : ∀ b H', k b H' → Q (.bl b) H') : tV X.K (vB qa) σ H Q := by
  obtain ⟨F, m, L, S, d, S', r, l, q, kk⟩ := h
  exact ⟨F, m, L, S, .bl d, S', r, l, by unfold vB; rw [q]; rfl, fun v F' m' H' s r' p => by rw [show v = .bl d from p]; exact hk _ _ (kk F' m' H' s r')⟩
theorem of_vB {σ : L2.St} {H : Hp} {Q : VK} (h : tV X.K (vB qa) σ H Q) : tQ X.K qa σ H fun b H' => Q (.bl b) H' := by
  obtain ⟨F, m, L, S, d, S', r, l, q, kk⟩ := h
  obtain ⟨c, S1, e1, q⟩ := bnd_eq q
  cases q
  exact ⟨F, m, L, S, c, S', r, l, e1, fun F' m' H' s r' => kk _ F' m' H' s r' rfl⟩
theorem xAnd (ha : PE X a (tV X.K (vB qa))) (hb : PE X (.BoolOp .And (b :: rest) pos) (tV X.K (vB qb))) : PE X (.BoolOp .And (a :: b :: rest) pos) (tV X.K (vB (bAnd qa qb))) :=
  (pe_and ha hb).imp' fun σ H Q h => by
    obtain ⟨F, m, L, S, d, S', r, l, q, k⟩ := of_vB h
    obtain ⟨c, S1, e1, q⟩ := bnd_eq q
    refine vB_of (k := fun c H1 => if c = true then tV X.K (vB qb) σ H1 Q else Q (.bl false) H1) ⟨F, m, L, S, c, S1, r, l, e1, fun F' m' H' s r' => ?_⟩ fun b H' q => ⟨b, rfl, q⟩
    cases c with
    | true => rw [if_pos rfl] at q ⊢; exact vB_of (k := fun b H2 => Q (.bl b) H2) ⟨F', m', L, S1, d, S', r', l.mono s, q, fun F2 m2 H2 s2 r2 => k F2 m2 H2 (s.trans s2) r2⟩ fun _ _ q => q
    | false => rw [if_neg Bool.false_ne_true] at q ⊢; cases q; exact k F' m' H' s r'
theorem xOr (ha : PE X a (tV X.K (vB qa))) (hb : PE X (.BoolOp .Or (b :: rest) pos) (tV X.K (vB qb))) : PE X (.BoolOp .Or (a :: b :: rest) pos) (tV X.K (vB (bOr qa qb))) :=
  (pe_or ha hb).imp' fun σ H Q h => by
    obtain ⟨F, m, L, S, d, S', r, l, q, k⟩ := of_vB h
    obtain ⟨c, S1, e1, q⟩ := bnd_eq q
    refine vB_of (k := fun c H1 => if c = true then Q (.bl true) H1 else tV X.K (vB qb) σ H1 Q) ⟨F, m, L, S, c, S1, r, l, e1, fun F' m' H' s r' => ?_⟩ fun b H' q => ⟨b, rfl, q⟩
    cases c with
    | false => rw [if_neg Bool.false_ne_true] at q ⊢; exact vB_of (k := fun b H2 => Q (.bl b) H2) ⟨F', m', L, S1, d, S', r', l.mono s, q, fun F2 m2 H2 s2 r2 => k F2 m2 H2 (s.trans s2) r2⟩ fun _ _ q => q
    | true => rw [if_pos rfl] at q ⊢; cases q; exact k F' m' H' s r'
theorem xNot (ha : PE X a (tV X.K (vB qa))) : PE X (.UnaryOp .Not a pos) (tV X.K (vB (bNot qa))) :=
  (pe_not ha).imp' fun σ H Q h => by
    obtain ⟨F, m, L, S, d, S', r, l, q, k⟩ := of_vB h
    obtain ⟨c, S1, e1, q⟩ := bnd_eq q
    cases q
    exact vB_of (k := fun b H' => Q (.bl (!b)) H') ⟨F, m, L, S, c, S', r, l, e1, fun F' m' H' s r' => k F' m' H' s r'⟩ fun b H' q => ⟨b, rfl, q⟩
theorem xBool (h : PE X e (tV X.K fa)) : PE X e (tV X.K (vB (bV fa))) := h.imp' fun σ H Q h => by
  obtain ⟨F, m, L, S, d, S', r, l, q, k⟩ := of_vB h
  obtain ⟨x, S1, e1, q⟩ := bnd_eq q
  cases x with
  | bl b => cases q; exact ⟨F, m, L, S, _, _, r, l, e1, fun v F' m' H' s r' p => by cases (show v = .bl d from p); exact k F' m' H' s r'⟩
  | _ => cases q
variable {fs : EVs}
theorem aNil : PA X [] (tVs X.K vsNil) := pa_nil.imp' fun σ H Q ⟨F, m, L, S, d, S', r, l, q, k⟩ => by
  cases q
  exact k [] F m H .refl r rfl
theorem aCons (ha : PE X e (tV X.K fa)) (hr : PA X es (tVs X.K fs)) (hs : starEach (e :: es) X.env = (false, eval e X.env) :: starEach es X.env := by rfl) : PA X (e :: es) (tVs X.K (vsCons fa fs)) :=
  (pa_cons ha hr hs).imp' fun σ H Q ⟨F, m, L, S, d, S', r, l, q, k⟩ => by
    obtain ⟨x, S1, e1, q⟩ := bnd_eq q
    obtain ⟨xs, S2, e2, q⟩ := bnd_eq q
    cases q
    refine ⟨F, m, L, S, x, S1, r, l, e1, fun v F1 m1 H1 s1 r1 p1 => ?_⟩
    refine ⟨F1, m1, L, S1, xs, S', r1, l.mono s1, e2, fun vs F2 m2 H2 s2 r2 p2 => ?_⟩
    exact k (v :: vs) F2 m2 H2 (s1.trans s2) r2 ⟨v, vs, rfl, RP.mono s2 p1, p2⟩
noncomputable def few {α : Type} (xs : List α) : Bool := decide (xs.length ≤ 1000000)
theorem few_le {α : Type} {xs : List α} (h : few xs = true) : xs.length ≤ sizeLine := Nat.le_trans (of_decide_eq_true h) (by decide)
noncomputable def vTup' (a : EVs) : EV := fun L S => bnd (a L S) fun xs S1 => if few xs = true then some (.tup xs, S1) else none
noncomputable def vLst' (a : EVs) : EV := fun L S => bnd (a L S) fun xs S1 => if few xs = true then some (.lst xs, S1) else none
noncomputable def eLst' (a : EVs) : EE := fun L S => bnd (a L S) fun xs S1 => if few xs = true then some (.ref S1.length, S1 ++ [.lst (xs.map .p)]) else none
theorem xTup {x1} (h : PA X es (tVs X.K fs)) : PE X (.Tuple es x1 pos) (tV X.K (vTup' fs)) := (pe_tup h).imp' fun σ H Q ⟨F, m, L, S, d, S', r, l, q, k⟩ => by
  obtain ⟨xs, S1, e1, q⟩ := bnd_eq q
  split at q
  · rename_i hf
    cases q
    refine ⟨F, m, L, S, xs, S', r, l, e1, fun vs F1 m1 H1 s1 r1 p1 => ⟨by rw [← p1.length]; exact few_le hf, fun p hp => ?_⟩⟩
    exact k (.ref p) F1 m1 _ (s1.trans (grow_new hp).stp) (r1.grow (grow_new hp)) (.newTup hp p1)
  · cases q
theorem xLst (h : PA X es (tVs X.K fs)) : PE X (.List es pos) (tV X.K (vLst' fs)) := (pe_lst h).imp' fun σ H Q ⟨F, m, L, S, d, S', r, l, q, k⟩ => by
  obtain ⟨xs, S1, e1, q⟩ := bnd_eq q
  split at q
  · rename_i hf
    cases q
    refine ⟨F, m, L, S, xs, S', r, l, e1, fun vs F1 m1 H1 s1 r1 p1 => ⟨by rw [← p1.length]; exact few_le hf, fun p hp => ?_⟩⟩
    exact k (.ref p) _ m1 _ (s1.trans (grow_frz hp).stp) (r1.grow (grow_frz hp)) (.newLst hp p1)
  · cases q
theorem xLstE (h : PA X es (tVs X.K fs)) : PE X (.List es pos) (tE X.K (eLst' fs)) := (pe_lst h).imp' fun σ H Q ⟨F, m, L, S, d, S', r, l, q, k⟩ => by
  obtain ⟨xs, S1, e1, q⟩ := bnd_eq q
  split at q
  · rename_i hf
    cases q
    refine ⟨F, m, L, S, xs, S1, r, l, e1, fun vs F1 m1 H1 s1 r1 p1 => ⟨by rw [← p1.length]; exact few_le hf, fun p hp => ?_⟩⟩
    have s2 : Stp F1 m1 H1 F1 (m1 ++ [p]) (upd H1 p (.lst vs)) := stp_own hp
    refine k (.ref p) F1 (m1 ++ [p]) _ (s1.trans s2) (r1.own hp ⟨vs, upd_same, RDs.ofP (RPs.mono s2 p1)⟩) ⟨p, rfl, ?_⟩
    rw [← r1.len, List.getElem?_append_right (Nat.le_refl _)]; simp
  · cases q
noncomputable def rC (K : PySem.W.Frag) (g : List P → Option P) : List V → Hp → VK → Prop := fun xs H Q => ∃ F ds d, (∀ a, F a → H a ≠ none) ∧ RPs K F H ds xs ∧ g ds = some d ∧ ∀ v F' H', Grow F H F' H' → RP K F' H' d v → Q v H'
theorem tCB_of {g : List P → Option P} {σ : L2.St} {H : Hp} {Q : VK} (h : tV X.K (vCall g fs) σ H Q) : tVs X.K fs σ H fun vs H1 => rC X.K g vs H1 Q := by
  obtain ⟨F, m, L, S, d, S', r, l, q, k⟩ := h
  obtain ⟨xs, S1, e1, q⟩ := bnd_eq q
  cases eg : g xs with
  | none => rw [eg] at q; cases q
  | some z =>
    rw [eg] at q
    cases q
    exact ⟨F, m, L, S, xs, _, r, l, e1, fun vs F1 m1 H1 s1 r1 p1 => ⟨F1, xs, _, r1.ft, p1, eg, fun v F2 H2 gr p => k v F2 m1 H2 (s1.trans gr.stp) (r1.grow gr) p⟩⟩
theorem xCallT {x : Str} {p : Pos} {T : String} {g : List P → Option P} (hc : CallR X (.type T) (rC X.K g)) (hg : Gl X x) (hm : X.mg x = none) (hv : bootBuiltins x = some (.type T)) (ha : PA X (e :: es) (tVs X.K fs)) (hn : x ≠ "__name__" := by decide) (hdb : (x == ("__debug__" : Str)) = false := by decide)
    (he : starEach (e :: es) X.env = (false, eval e X.env) :: starEach es X.env := by rfl) (hpl : (backTo pos (starEach es X.env)).any (·.1) = false := by rfl) : PE X (.Call (.Name x p) (e :: es) [] pos) (tV X.K (vCall g fs)) :=
  (pe_callTy hc hg hm hv ha hn hdb he hpl).imp' fun _ _ _ h => tCB_of h
noncomputable def spV (K : PySem.W.Frag) (g : List P → Option P) : Sp := fun vs H Q _ => rC K g vs H Q
theorem xCall {f : Addr} {fd : FuncData} {ps : List Str} {k : Nat} {x : Str} {p : Pos} {g : List P → Option P} (G : FnOk X.prog X.w X.K X.mg X.base CX0 k f fd ps (spV X.K g)) (hr : Room k X.A) (hg : Gl X x) (hm : X.mg x = some (.ref f)) (hk : PySem.W.keepIn X.K (.ref f) = true) (hb : Binds X.K fd ps [])
    (ha : PA X (e :: es) (tVs X.K fs)) (hdb : (x == ("__debug__" : Str)) = false := by decide) (he : starEach (e :: es) X.env = (false, eval e X.env) :: starEach es X.env := by rfl) (hpl : (backTo pos (starEach es X.env)).any (·.1) = false := by rfl) :
    PE X (.Call (.Name x p) (e :: es) [] pos) (tV X.K (vCall g fs)) :=
  (pe_call G hr hg hm hk hb .nil pass0 ha hdb he hpl).imp' fun σ H Q h => by
    obtain ⟨F, m, L, S, ds, S', r, l, q, k⟩ := tCB_of h
    exact ⟨F, m, L, S, ds, S', r, l, q, fun xs F' m' H' s r' p => by show spV X.K g (xs ++ []) H' Q E0; rw [List.append_nil]; exact k xs F' m' H' s r' p⟩
end
section
variable {X : Cx} {a b e : Expr} {st : Stmt} {rest bs cs : List Stmt} {f g : ES} {fe : EE} {qa : EB} {pos : Pos}
theorem zNil : PSs X [] (tSt X.K sNx) := pss_nil.imp' fun D σ H ⟨F, m, L, S, fl, L', S', r, l, q, k⟩ => by
  cases q
  exact k σ F m H .refl r l
theorem zCons (h1 : PS X st (tSt X.K f)) (h2 : PSs X rest (tSt X.K g)) : PSs X (st :: rest) (tSt X.K (sSeq f g)) := (pss_cons h1 h2).imp' fun D σ H ⟨F, m, L, S, fl, L', S', r, l, q, k⟩ => by
  cases ef : f L S with
  | none => rw [show sSeq f g L S = none by unfold sSeq; rw [ef]] at q; cases q
  | some x =>
    obtain ⟨fl1, L1, S1⟩ := x
    cases fl1 with
    | nx =>
      have q' : g L1 S1 = some (fl, L', S') := by have := q; unfold sSeq at this; rw [ef] at this; exact this
      exact ⟨F, m, L, S, .nx, L1, S1, r, l, ef, fun σ1 F1 m1 H1 s1 r1 l1 => ⟨F1, m1, L1, S1, fl, L', S', r1, l1, q', fun σ2 F2 m2 H2 s2 r2 l2 => k σ2 F2 m2 H2 (s1.trans s2) r2 l2⟩⟩
    | rt d =>
      have q' : some (Fl.rt d, L1, S1) = some (fl, L', S') := by have := q; unfold sSeq at this; rw [ef] at this; exact this
      cases q'
      exact ⟨F, m, L, S, _, _, _, r, l, ef, fun σ1 F1 m1 H1 s1 r1 l1 => k σ1 F1 m1 H1 s1 r1 l1⟩
    | bk =>
      have q' : some (Fl.bk, L1, S1) = some (fl, L', S') := by have := q; unfold sSeq at this; rw [ef] at this; exact this
      cases q'
      exact ⟨F, m, L, S, _, _, _, r, l, ef, fun σ1 F1 m1 H1 s1 r1 l1 => k σ1 F1 m1 H1 s1 r1 l1⟩
    | ct =>
      have q' : some (Fl.ct, L1, S1) = some (fl, L', S') := by have := q; unfold sSeq at this; rw [ef] at this; exact this
      cases q'
      exact ⟨F, m, L, S, _, _, _, r, l, ef, fun σ1 F1 m1 H1 s1 r1 l1 => k σ1 F1 m1 H1 s1 r1 l1⟩
theorem zOne (h1 : PS X st (tSt X.K f)) : PSs X [st] (tSt X.K f) := pss_one h1
theorem zRet (h : PE X e (tE X.K fe)) : PS X (.Return (some e) pos) (tSt X.K (sRet fe)) := (ps_ret h).imp' fun D σ H ⟨F, m, L, S, fl, L', S', r, l, q, k⟩ => by
  obtain ⟨d, S1, e1, q⟩ := bnd_eq q
  cases q
  exact ⟨F, m, L, S, d, S', r, l, e1, fun v F' m' H' s r' p => k σ F' m' H' s r' (l.mono s) v p⟩
theorem zDrop (h : PE X e (tE X.K fe)) (hs : swapsWith e none pos.line X.env = pure false := by rfl) : PS X (.Expr e pos) (tSt X.K (sDrop fe)) := (ps_expr h hs).imp' fun D σ H ⟨F, m, L, S, fl, L', S', r, l, q, k⟩ => by
  obtain ⟨d, S1, e1, q⟩ := bnd_eq q
  cases q
  exact ⟨F, m, L, S, d, S', r, l, e1, fun v F' m' H' s r' p => k σ F' m' H' s r' (l.mono s)⟩
theorem zSet (i : Nat) {x : Str} {pos' : Pos} (hN : X.N.Nodup) (h : PE X e (tE X.K fe)) (hi : X.N[i]? = some x := by rfl) (hx : Loc X.env.scope x := by first | exact Or.inl rfl | exact Or.inr rfl) (hs : swapsWith e (some (.Name x pos')) pos.line X.env = pure false := by rfl)
    (hf : X.fn x = true ∨ X.env.scope.names.lookup x = some .local := by first | exact .inl rfl | exact .inr rfl | assumption) : PS X (.Assign [.Name x pos'] e pos) (tSt X.K (sSet i fe)) :=
  (ps_set hN hi hx h hs hf).imp' fun D σ H ⟨F, m, L, S, fl, L', S', r, l, q, k⟩ => by
    obtain ⟨d, S1, e1, q⟩ := bnd_eq q
    cases q
    exact ⟨F, m, L, S, d, S', r, l, e1, fun v F' m' H' s r' p => k (σ.set i (some v)) F' m' H' s r' ((l.mono s).set p i)⟩
theorem zIf {c : Expr} (hc : PT X c (tQ X.K qa)) (ha : PSs X bs (tSt X.K f)) (hb : PSs X cs (tSt X.K g)) : PS X (.If c bs cs pos) (tSt X.K (sIf qa f g)) := (ps_if hc ha hb).imp' fun D σ H ⟨F, m, L, S, fl, L', S', r, l, q, k⟩ => by
  obtain ⟨c, S1, e1, q⟩ := bnd_eq q
  refine ⟨F, m, L, S, c, S1, r, l, e1, fun F' m' H' s r' => ?_⟩
  cases c with
  | true => rw [if_pos rfl] at q ⊢; exact ⟨F', m', L, S1, fl, L', S', r', l.mono s, q, fun σ2 F2 m2 H2 s2 r2 l2 => k σ2 F2 m2 H2 (s.trans s2) r2 l2⟩
  | false => rw [if_neg Bool.false_ne_true] at q ⊢; exact ⟨F', m', L, S1, fl, L', S', r', l.mono s, q, fun σ2 F2 m2 H2 s2 r2 l2 => k σ2 F2 m2 H2 (s.trans s2) r2 l2⟩
noncomputable def gT (K : PySem.W.Frag) (g : TGv) : TG := fun x σ H Q => ∃ F m L v L', RL K F H m σ L ∧ RP K F H v x ∧ g v L = some L' ∧ ∀ σ', RL K F H m σ' L' → Q σ' H
theorem _root_.L2.PG.imp' {tg : Expr} {t t' : TG} (h : PG X tg t) (i : ∀ v σ H Q, t' v σ H Q → t v σ H Q) : PG X tg t' := fun pins s σ H v u Q I r q => h pins s σ H v u Q I r (i v σ H Q q)
theorem gName' (i : Nat) {x : Str} (hN : X.N.Nodup) (hi : X.N[i]? = some x := by rfl) (hx : Loc X.env.scope x := by first | exact Or.inl rfl | exact Or.inr rfl) (hf : X.fn x = true ∨ X.env.scope.names.lookup x = some .local := by first | exact .inl rfl | exact .inr rfl | assumption) :
    PG X (.Name x pos) (gT X.K (gSet i)) := (pg_name hN hi hx hf).imp' fun v σ H Q ⟨F, m, L, d, L', l, p, q, k⟩ => by
  cases q
  exact k _ (l.set (d := .p d) p i)
noncomputable def ItP (K : PySem.W.Frag) (J : It) (vs : List P) (F : Addr → Prop) (m : List Addr) (H : Hp) : Prop := ∀ F2 m2 H2, Stp F m H F2 m2 H2 →
  (∀ (i : Nat) v, vs[i]? = some v → J.go i H2 ∧ ∀ x H3, J.yld i H2 x H3 → ∃ F3, Grow F2 H2 F3 H3 ∧ RP K F3 H3 v x) ∧ J.stop vs.length H2
noncomputable def tI (K : PySem.W.Frag) (f : EVs) : TI := fun σ H R => ∃ F m L S vs S', Rel K F H m S ∧ RL K F H m σ L ∧ f L S = some (vs, S') ∧ ∀ J F' m' H', Stp F m H F' m' H' → Rel K F' H' m' S' → ItP K J vs F' m' H' → R J H'
theorem zFor {tg iter : Expr} {fi : EVs} {g : TGv} {body : List Stmt} {fb : ES} (hp : PassesOwn (model X.prog X.w) X.A X.env X.xe) (hc : X.calm = true) (hi : PI X tg iter (tI X.K fi)) (hg : PG X tg (gT X.K g)) (hb : PSs X body (tSt X.K fb))
    (hs : ∀ x, foldedSetIterable iter X.env x = pure x := by intro _; rfl) : PS X (.For tg iter body [] pos) (tSt X.K (sFor fi g fb)) :=
  (ps_for hp hc hi hg hb hs).imp' fun D σ H ⟨F, m, L, S, fl, L', S', r, l, q, k⟩ => by
    obtain ⟨vs, S1, e1, q⟩ := bnd_eq q
    refine ⟨F, m, L, S, vs, S1, r, l, e1, fun J F1 m1 H1 s1 r1 it => ?_⟩
    refine ⟨fun i n σ2 H2 => n = vs.length - i ∧ i ≤ vs.length ∧ ∃ F2 m2 L2 S2, Stp F1 m1 H1 F2 m2 H2 ∧ Rel X.K F2 H2 m2 S2 ∧ RL X.K F2 H2 m2 σ2 L2 ∧ forGo g fb (vs.drop i) L2 S2 = some (fl, L', S'),
      ⟨vs.length, rfl, Nat.zero_le _, F1, m1, L, S1, .refl, r1, l.mono s1, by rw [List.drop_zero]; exact q⟩, ?_⟩
    rintro i n σ2 H2 ⟨rfl, hi, F2, m2, L2, S2, s2, r2, l2, q2⟩
    obtain ⟨go, stop⟩ := it F2 m2 H2 s2
    by_cases hlt : i < vs.length
    · right
      have hv : vs[i]? = some vs[i] := by simp [hlt]
      rw [List.drop_eq_getElem_cons hlt] at q2
      obtain ⟨hgo, hy⟩ := go i _ hv
      refine ⟨hgo, fun σ3 H3 => ∃ n', n' < vs.length - i ∧ (n' = vs.length - (i + 1) ∧ i + 1 ≤ vs.length ∧ ∃ F2 m2 L2 S2, Stp F1 m1 H1 F2 m2 H3 ∧ Rel X.K F2 H3 m2 S2 ∧ RL X.K F2 H3 m2 σ3 L2 ∧ forGo g fb (vs.drop (i + 1)) L2 S2 = some (fl, L', S')), fun _ _ z => z, fun x H3 y => ?_⟩
      obtain ⟨F3, gr, p3⟩ := hy x H3 y
      unfold forGo at q2
      cases eg : g vs[i] L2 with
      | none => rw [eg] at q2; cases q2
      | some L3 =>
        rw [eg] at q2
        dsimp only at q2
        refine ⟨F3, m2, L2, vs[i], L3, l2.mono gr.stp, p3, eg, fun σ3 l3 => ?_⟩
        have s3 : Stp F1 m1 H1 F3 m2 H3 := s2.trans gr.stp
        have r3 := r2.grow gr
        cases eb : fb L3 S2 with
        | none => rw [eb] at q2; cases q2
        | some z =>
          obtain ⟨flb, L4, S4⟩ := z
          rw [eb] at q2
          refine ⟨F3, m2, L3, S2, flb, L4, S4, r3, l3, eb, fun σ4 F4 m4 H4 s4 r4 l4 => ?_⟩
          cases flb with
          | nx => exact ⟨vs.length - (i + 1), by omega, rfl, hlt, F4, m4, L4, S4, s3.trans s4, r4, l4, q2⟩
          | ct => exact ⟨vs.length - (i + 1), by omega, rfl, hlt, F4, m4, L4, S4, s3.trans s4, r4, l4, q2⟩
          | bk => cases q2; exact k σ4 F4 m4 H4 (s1.trans (s3.trans s4)) r4 l4
          | rt d => cases q2; exact k σ4 F4 m4 H4 (s1.trans (s3.trans s4)) r4 l4
    · left
      have e : i = vs.length := by omega
      subst e
      rw [List.drop_length] at q2
      cases q2
      exact ⟨stop, k σ2 F2 m2 H2 (s1.trans s2) r2 l2⟩
end
theorem Stp.toGrow {F F' : Addr → Prop} {m' : List Addr} {H H' : Hp} (s : Stp F [] H F' m' H') (ft : ∀ a, F' a → H' a ≠ none) : Grow F H F' H' :=
  ⟨fun b o h => s.oth b o h (by simp), s.frz, fun b h => by
    rcases s.nf b h with q | q | q
    · exact .inl q
    · exact .inr ⟨q, ft b h⟩
    · simp at q⟩
end Ev
namespace Ev
open PySem PySem.Spec PyProof.Rows L2
theorem noS {α : Prop} {β : Type} {d : β} (h : (none : Option β) = some d) : α := nomatch h
noncomputable def capN (n : Nat) : Bool := decide (n ≤ 1000000)
theorem capN_le {n : Nat} (h : capN n = true) : n ≤ sizeLine := Nat.le_trans (of_decide_eq_true h) (by decide)
section
variable {X : Cx}
noncomputable def dAdd : P → P → Option P
  | .int i, .int j => some (.int (i + j))
  | .str x, .str y => if capN (x.length + y.length) = true then some (.str (x ++ y)) else none
  | .tup xs, .tup ys => if (!xs.isEmpty && capN (xs.length + ys.length)) = true then some (.tup (xs ++ ys)) else none
  | .lst xs, .lst ys => if capN (xs.length + ys.length) = true then some (.lst (xs ++ ys)) else none
  | _, _ => none
theorem opAdd : OpP X (binaryOp .Add) dAdd := by
  intro pins s σ H x y v u Q I rx ry h
  obtain ⟨F, dx, dy, d, ft, px, py, q, k⟩ := h
  cases dx with
  | int i =>
    cases dy with
    | int j =>
      cases q
      cases (show x = .int i from px); cases (show y = .int j from py)
      exact op_add pins s σ H _ _ v u Q I rx ry ⟨i, j, rfl, rfl, k _ F H .refl rfl⟩
    | _ => exact noS q
  | str i =>
    cases dy with
    | str j =>
      simp only [dAdd] at q
      split at q
      · rename_i hc
        cases q
        cases (show x = .str i from px); cases (show y = .str j from py)
        exact op_add_str pins s σ H _ _ v u Q I rx ry ⟨i, j, rfl, rfl, capN_le hc, k _ F H .refl rfl⟩
      · cases q
    | _ => exact noS q
  | tup ds =>
    cases dy with
    | tup es =>
      simp only [dAdd] at q
      split at q
      · rename_i hc
        rw [Bool.and_eq_true] at hc
        cases q
        obtain ⟨a, xs, rfl, ta, ra⟩ := px
        obtain ⟨b, ys, rfl, tb, rb⟩ := py
        have la := ra.length
        have lb := rb.length
        have nx : xs ≠ [] := fun z => by
          subst z
          have : ds = [] := List.eq_nil_of_length_eq_zero la
          subst this
          simp at hc
        refine op_catT pins s σ H _ _ v u Q I rx ry ⟨a, b, xs, ys, rfl, rfl, ta.sq, tb.sq, nx, by rw [← la, ← lb]; exact capN_le hc.2, fun z => ?_, fun _ p hp => ?_⟩
        · subst z
          have e : es = [] := List.eq_nil_of_length_eq_zero lb
          subst e
          refine k _ F H .refl ?_
          rw [List.append_nil]
          exact ⟨a, xs, rfl, ta, ra⟩
        · exact k _ F _ (grow_new hp) (.newTup hp (ra.append rb))
      · cases q
    | _ => exact noS q
  | lst ds =>
    cases dy with
    | lst es =>
      simp only [dAdd] at q
      split at q
      · rename_i hc
        cases q
        obtain ⟨a, xs, rfl, ta, ra⟩ := px
        obtain ⟨b, ys, rfl, tb, rb⟩ := py
        exact op_cat pins s σ H _ _ v u Q I rx ry ⟨a, b, xs, ys, rfl, rfl, ta.2, tb.2, by rw [← ra.length, ← rb.length]; exact capN_le hc, fun p hp => k _ _ _ (grow_frz hp) (.newLst hp (ra.append rb))⟩
      · cases q
    | _ => exact noS q
  | _ => exact noS q
noncomputable def dII (c : Int → Int → Bool) (g : Int → Int → P) : P → P → Option P
  | .int i, .int j => if c i j = true then some (g i j) else none
  | _, _ => none
@[simp] theorem dII_int (c : Int → Int → Bool) (g : Int → Int → P) (i j : Int) : dII c g (.int i) (.int j) = if c i j = true then some (g i j) else none := rfl
theorem opII {f : Value → Value → Sem Value} {C : Int → Int → Prop} {gv : Int → Int → V} {c : Int → Int → Bool} {g : Int → Int → P} (ho : OpR X f (rI C gv)) (hc : ∀ i j, c i j = true → C i j) (hg : ∀ K F H i j, RP K F H (g i j) (gv i j)) : OpP X f (dII c g) := by
  intro pins s σ H x y v u Q I rx ry h
  obtain ⟨F, dx, dy, d, ft, px, py, q, k⟩ := h
  cases dx with
  | int i =>
    cases dy with
    | int j =>
      rw [dII_int] at q
      split at q
      · rename_i hh
        cases q
        cases (show x = .int i from px); cases (show y = .int j from py)
        exact ho pins s σ H _ _ v u Q I rx ry ⟨i, j, rfl, rfl, hc i j hh, k _ F H .refl (hg _ _ _ _ _)⟩
      · cases q
    | _ => exact noS q
  | _ => exact noS q
theorem rI_of0 {f : Value → Value → Sem Value} {gv : Int → Int → V} (h : OpR X f (rI0 gv)) : OpR X f (rI (fun _ _ => True) gv) := fun pins s σ H x y v u Q I rx ry ⟨i, j, e1, e2, _, q⟩ => h pins s σ H x y v u Q I rx ry ⟨i, j, e1, e2, q⟩
noncomputable abbrev yes2 : Int → Int → Bool := fun _ _ => true
noncomputable abbrev dSub := dII yes2 fun i j => .int (i - j)
theorem opSub : OpP X (binaryOp .Sub) dSub := opII (rI_of0 op_sub) (fun _ _ _ => trivial) fun _ _ _ _ _ => rfl
noncomputable abbrev posDiv : Int → Int → Bool := fun _ j => decide (0 < j) && decide (j < 1152921504606846976)
theorem op_fdivG : OpR X (binaryOp .FloorDiv) (rI (fun _ j => 0 < j ∧ j < 1152921504606846976) fun i j => .int (i / j)) := opI fun i j _ _ _ _ _ hc q => by
  have h1 : (0 : Int) < j := hc.1
  have h2 : j < 1152921504606846976 := hc.2
  have h3 : j.natAbs.log2 < 9000 := Nat.lt_of_lt_of_le ((Nat.log2_lt (by omega)).mpr (show j.natAbs < 2 ^ 60 by omega)) (by decide)
  exact floordiv_int (by omega) (by rw [Int.fdiv_eq_ediv_of_nonneg i (by omega)]; exact q) (.inl (PyProof.noPylong_of_log2 h3))
noncomputable abbrev dFloor := dII posDiv fun i j => .int (i / j)
theorem opFloor : OpP X (binaryOp .FloorDiv) dFloor := opII op_fdivG (fun i j h => by rw [Bool.and_eq_true] at h; exact ⟨of_decide_eq_true h.1, of_decide_eq_true h.2⟩) fun _ _ _ _ _ => rfl
noncomputable abbrev dMod := dII (fun _ j => decide (0 < j)) fun i j => .int (i % j)
theorem opMod : OpP X (binaryOp .Mod) dMod := opII op_mod (fun i j h => of_decide_eq_true h) fun _ _ _ _ _ => rfl
noncomputable abbrev dPow := dII (fun i j => decide (0 ≤ j) && decide (j ≤ 1000000) && decide (i.natAbs < 2 ^ 64)) fun i j => .int (i ^ j.toNat)
theorem opPow : OpP X (binaryOp .Pow) dPow := opII op_pow (fun i j h => by simp only [Bool.and_eq_true] at h; exact ⟨of_decide_eq_true h.1.1, of_decide_eq_true h.1.2, of_decide_eq_true h.2⟩) fun _ _ _ _ _ => rfl
noncomputable abbrev dLt := dII yes2 fun i j => .bl (decide (i < j))
theorem opLt : OpP X (compareOp .Lt) dLt := opII (rI_of0 op_lt) (fun _ _ _ => trivial) fun _ _ _ _ _ => rfl
noncomputable abbrev dLe := dII yes2 fun i j => .bl (decide (i ≤ j))
theorem opLe : OpP X (compareOp .LtE) dLe := opII (rI_of0 op_le) (fun _ _ _ => trivial) fun _ _ _ _ _ => rfl
noncomputable abbrev dGt := dII yes2 fun i j => .bl (decide (j < i))
theorem opGt : OpP X (compareOp .Gt) dGt := opII (rI_of0 op_gt) (fun _ _ _ => trivial) fun _ _ _ _ _ => rfl
noncomputable abbrev dGe := dII yes2 fun i j => .bl (decide (j ≤ i))
theorem opGe : OpP X (compareOp .GtE) dGe := opII (rI_of0 op_ge) (fun _ _ _ => trivial) fun _ _ _ _ _ => rfl
noncomputable def mulOk (i j : Int) : Bool := decide (i.natAbs.log2 + j.natAbs.log2 < 100000000)
theorem mulOk_ok {i j : Int} (h : mulOk i j = true) : IntMulOk i j := by
  have h' : i.natAbs.log2 + j.natAbs.log2 < 100000000 := of_decide_eq_true h
  have b : ∀ x : Int, Builtin.Int.intBits x ≤ x.natAbs.log2 + 1 := fun x => by
    unfold Builtin.Int.intBits
    split
    · exact Nat.zero_le _
    · exact Nat.le_refl _
  exact IntMulOk.of_le (b i) (b j) (by omega)
theorem op_mulG : OpR X (binaryOp .Mult) (rI (fun i j => IntMulOk i j) fun i j => .int (i * j)) := opI fun _ _ _ _ _ _ _ hc q => mul_int q hc
noncomputable def strRep (x : Str) (n : Nat) : Str := ⟨(List.replicate n x.cps).foldl (· ++ ·) #[]⟩
theorem strRep_one (x : Str) : strRep x 1 = x := by
  unfold strRep
  cases x
  simp
theorem foldl_nil (n : Nat) : (List.replicate n (#[] : Array Nat)).foldl (· ++ ·) #[] = #[] := by
  induction n with
  | zero => rfl
  | succ n ih => rw [List.replicate_succ, List.foldl_cons]; simpa using ih
theorem strRep_empty (x : Str) (n : Nat) (h : x.length = 0) : strRep x n = x := by
  have e : x.cps = #[] := Array.eq_empty_of_size_eq_zero (by simpa [Str.length] using h)
  unfold strRep
  cases x
  simp only at e
  subst e
  rw [foldl_nil]
theorem foldl_size (a : Array Nat) (n : Nat) : ∀ b : Array Nat, ((List.replicate n a).foldl (· ++ ·) b).size = b.size + n * a.size := by
  induction n with
  | zero => intro b; simp
  | succ n ih => intro b; rw [List.replicate_succ, List.foldl_cons, ih, Array.size_append, Nat.succ_mul]; omega
theorem strRep_length (x : Str) (n : Nat) : (strRep x n).length = n * x.length := by
  unfold strRep Str.length
  simp only
  rw [foldl_size]; simp
noncomputable def dMul : P → P → Option P
  | .int i, .int j => if mulOk i j = true then some (.int (i * j)) else none
  | .str x, .int n => if (capN (n.toNat * x.length) && decide (n.natAbs < 1000000)) = true then some (.str (strRep x n.toNat)) else none
  | .lst xs, .int n => if (capN (xs.length * n.toNat) && decide (n.natAbs < 1000000)) = true then some (.lst (List.replicate n.toNat xs).flatten) else none
  | _, _ => none
theorem RPs.rep {K : PySem.W.Frag} {F : Addr → Prop} {H : Hp} {ds : List P} {xs : List V} (h : RPs K F H ds xs) : ∀ k : Nat, RPs K F H (List.replicate k ds).flatten (List.replicate k xs).flatten
  | 0 => rfl
  | k + 1 => by
    rw [List.replicate_succ, List.replicate_succ, List.flatten_cons, List.flatten_cons]
    exact h.append (RPs.rep h k)
theorem opMul : OpP X (binaryOp .Mult) dMul := by
  intro pins s σ H x y v u Q I rx ry h
  obtain ⟨F, dx, dy, d, ft, px, py, q, k⟩ := h
  cases dx with
  | int i =>
    cases dy with
    | int j =>
      simp only [dMul] at q
      split at q
      · rename_i hc
        cases q
        cases (show x = .int i from px); cases (show y = .int j from py)
        exact op_mulG pins s σ H _ _ v u Q I rx ry ⟨i, j, rfl, rfl, mulOk_ok hc, k _ F H .refl rfl⟩
      · cases q
    | _ => exact noS q
  | str i =>
    cases dy with
    | int n =>
      simp only [dMul] at q
      split at q
      · rename_i hc
        rw [Bool.and_eq_true] at hc
        have h1 := of_decide_eq_true hc.2
        have h2 : n.toNat * i.length ≤ 1000000 := of_decide_eq_true hc.1
        have hn := line63
        have hz : (1000000 : Nat) ≤ sizeLine := by decide
        cases q
        cases (show x = .str i from px); cases (show y = .int n from py)
        obtain ⟨t, rfl⟩ := rx
        obtain ⟨t', rfl⟩ := ry
        refine PySem.P.mul_str (by
            have e1 : decide (n < -(2 ^ 63 : Int)) = false := decide_eq_false (by omega)
            have e2 : decide (n ≥ 2 ^ 63) = false := decide_eq_false (by omega)
            rw [e1, e2]; rfl) (fun a b => ?_) (fun a b => ?_) ?_
        · intro z
          have hb : ((i.length : Nat) : Int) ≤ (2 ^ 63 - 1) / n := by
            refine (Int.le_ediv_iff_mul_le (by omega)).mpr ?_
            have e : ((i.length : Nat) : Int) * n = ((n.toNat * i.length : Nat) : Int) := by
              rw [Int.natCast_mul, Int.toNat_of_nonneg (by omega), Int.mul_comm]
            rw [e]; omega
          omega
        · unfold Builtin.Str.tooLong
          first
            | exact decide_eq_false (by rw [Nat.mul_comm]; omega)
            | (rw [Nat.mul_comm]; exact decide_eq_false (by omega))
        · have key : Q (.str (strRep i n.toNat)) H := k _ F H .refl rfl
          by_cases c1 : n < 1
          · rw [if_pos c1]
            have e : n.toNat = 0 := by omega
            rw [e] at key
            exact ⟨by decide, ⟨.str Str.empty, H, I.tok _, ⟨_, rfl⟩, key⟩⟩
          · rw [if_neg c1]
            by_cases c2 : (n == 1 || i.length == 0) = true
            · rw [if_pos c2]
              rw [Bool.or_eq_true] at c2
              have e : strRep i n.toNat = i := by
                rcases c2 with c2 | c2
                · have : n = 1 := by simpa using c2
                  subst this; exact strRep_one i
                · exact strRep_empty i _ (by simpa using c2)
              rw [e] at key
              exact ⟨.str i, H, I, ⟨_, rfl⟩, key⟩
            · rw [if_neg c2]
              refine ⟨?_, ⟨.str (strRep i n.toNat), H, I.tok _, ⟨_, rfl⟩, key⟩⟩
              have := strRep_length i n.toNat
              unfold strRep at this
              rw [this]; omega
      · cases q
    | _ => exact noS q
  | lst ds =>
    cases dy with
    | int n =>
      simp only [dMul] at q
      split at q
      · rename_i hc
        rw [Bool.and_eq_true] at hc
        have h1 := of_decide_eq_true hc.2
        cases q
        obtain ⟨a, xs, rfl, ta, ra⟩ := px
        cases (show y = .int n from py)
        exact op_rep pins s σ H _ _ v u Q I rx ry ⟨a, n, xs, rfl, rfl, ta.2, by omega, by omega, by rw [← ra.length]; exact capN_le hc.1, fun p hp => k _ _ _ (grow_frz hp) (.newLst hp (ra.rep _))⟩
      · cases q
    | _ => exact noS q
  | _ => exact noS q
noncomputable def dEq : P → P → Option P
  | .int i, .int j => some (.bl (decide (i = j)))
  | .str x, .str y => some (.bl (decide (x = y)))
  | .bl a, .bl b => some (.bl (decide (a = b)))
  | _, _ => none
noncomputable def dNe : P → P → Option P
  | .int i, .int j => some (.bl (!decide (i = j)))
  | .str x, .str y => some (.bl (!decide (x = y)))
  | .bl a, .bl b => some (.bl (!decide (a = b)))
  | _, _ => none
theorem dec_inj_int {i j : Int} : decide (V.int i = V.int j) = decide (i = j) := by
  by_cases h : i = j
  · subst h; simp
  · rw [decide_eq_false h, decide_eq_false fun z => h (V.int.inj z)]
theorem dec_inj_str {i j : Str} : decide (V.str i = V.str j) = decide (i = j) := by
  by_cases h : i = j
  · subst h; simp
  · rw [decide_eq_false h, decide_eq_false fun z => h (V.str.inj z)]
theorem dec_inj_bl {i j : Bool} : decide (V.bl i = V.bl j) = decide (i = j) := by
  by_cases h : i = j
  · subst h; simp
  · rw [decide_eq_false h, decide_eq_false fun z => h (V.bl.inj z)]
theorem opEq : OpP X (compareOp .Eq) dEq := by
  intro pins s σ H x y v u Q I rx ry h
  obtain ⟨F, dx, dy, d, ft, px, py, q, k⟩ := h
  cases dx with
  | int i =>
    cases dy with
    | int j =>
      cases q
      cases (show x = .int i from px); cases (show y = .int j from py)
      exact op_eq pins s σ H _ _ v u Q I rx ry ⟨rfl, by rw [dec_inj_int]; exact k _ F H .refl rfl⟩
    | _ => exact noS q
  | str i =>
    cases dy with
    | str j =>
      cases q
      cases (show x = .str i from px); cases (show y = .str j from py)
      exact op_eq pins s σ H _ _ v u Q I rx ry ⟨rfl, by rw [dec_inj_str]; exact k _ F H .refl rfl⟩
    | _ => exact noS q
  | bl i =>
    cases dy with
    | bl j =>
      cases q
      cases (show x = .bl i from px); cases (show y = .bl j from py)
      exact op_eq pins s σ H _ _ v u Q I rx ry ⟨rfl, by rw [dec_inj_bl]; exact k _ F H .refl rfl⟩
    | _ => exact noS q
  | _ => exact noS q
theorem opNe : OpP X (compareOp .NotEq) dNe := by
  intro pins s σ H x y v u Q I rx ry h
  obtain ⟨F, dx, dy, d, ft, px, py, q, k⟩ := h
  cases dx with
  | int i =>
    cases dy with
    | int j =>
      cases q
      cases (show x = .int i from px); cases (show y = .int j from py)
      exact op_ne pins s σ H _ _ v u Q I rx ry ⟨rfl, by rw [dec_inj_int]; exact k _ F H .refl rfl⟩
    | _ => exact noS q
  | str i =>
    cases dy with
    | str j =>
      cases q
      cases (show x = .str i from px); cases (show y = .str j from py)
      exact op_ne pins s σ H _ _ v u Q I rx ry ⟨rfl, by rw [dec_inj_str]; exact k _ F H .refl rfl⟩
    | _ => exact noS q
  | bl i =>
    cases dy with
    | bl j =>
      cases q
      cases (show x = .bl i from px); cases (show y = .bl j from py)
      exact op_ne pins s σ H _ _ v u Q I rx ry ⟨rfl, by rw [dec_inj_bl]; exact k _ F H .refl rfl⟩
    | _ => exact noS q
  | _ => exact noS q
theorem atI_len {α β : Type} {xs : List α} {ys : List β} {i : Int} {d : α} (hl : xs.length = ys.length) (h : L2.atI xs i = some d) : ∃ j : Nat, xs[j]? = some d ∧ ∀ y, ys[j]? = some y → L2.atI ys i = some y := by
  unfold L2.atI at h ⊢
  rw [hl] at h
  cases e : ixN ys.length i with
  | none => rw [e] at h; cases h
  | some j => rw [e] at h; exact ⟨j, h, fun y hy => hy⟩
theorem RPs.atI {K : PySem.W.Frag} {F : Addr → Prop} {H : Hp} {ds : List P} {xs : List V} {i : Int} {d : P} (r : RPs K F H ds xs) (h : L2.atI ds i = some d) : ∃ x, L2.atI xs i = some x ∧ RP K F H d x := by
  obtain ⟨j, h1, h2⟩ := atI_len r.length h
  obtain ⟨x, e, p⟩ := r.get h1
  exact ⟨x, h2 x e, p⟩
theorem RDs.atI {K : PySem.W.Frag} {F : Addr → Prop} {H : Hp} {m : List Addr} {ds : List D} {xs : List V} {i : Int} {d : D} (r : RDs K F H m ds xs) (h : L2.atI ds i = some d) : ∃ x, L2.atI xs i = some x ∧ RD K F H m d x := by
  obtain ⟨j, h1, h2⟩ := atI_len r.length h
  obtain ⟨x, e, p⟩ := r.get h1
  exact ⟨x, h2 x e, p⟩
noncomputable def dLook {α : Type} (k : Key) : List Key → List α → Option α
  | k' :: ks, v :: vs => if k' = k then some v else dLook k ks vs
  | _, _ => none
noncomputable def keyOf : P → Option Key
  | .int i => some (.inl i)
  | .str x => some (.inr x)
  | _ => none
noncomputable def dIx : P → P → Option P
  | .tup xs, .int i => L2.atI xs i
  | .lst xs, .int i => L2.atI xs i
  | .ro xs, .int i => L2.atI xs i
  | .str x, .int i => if capN x.length = true then (L2.atI x.cps.toList i).map fun c => .str ⟨#[c]⟩ else none
  | .dct ks vs, y => match keyOf y with
    | some k => dLook k ks vs
    | none => none
  | _, _ => none
theorem valV_look {K : PySem.W.Frag} {F : Addr → Prop} {H : Hp} {k : Key} : ∀ {kvs : List (Key × V)} {ds : List P} {d : P}, RPs K F H ds (kvs.map (·.2)) → dLook k (kvs.map (·.1)) ds = some d → ∃ v, valV kvs k = some v ∧ RP K F H d v
  | [], ds, d, r, h => by cases ds <;> exact noS h
  | (k', v) :: kvs, [], d, r, h => noS h
  | (k', v) :: kvs, d0 :: ds, d, r, h => by
    obtain ⟨x, xr, e, p, rr⟩ := r
    rw [List.map_cons] at e
    injection e with e1 e2
    simp only [List.map_cons, dLook] at h
    by_cases hk : k' = k
    · rw [if_pos hk] at h
      cases h
      exact ⟨v, valV_pos (p := (k', v)) hk, by rw [show v = x from e1]; exact p⟩
    · rw [if_neg hk] at h
      rw [← e2] at rr
      obtain ⟨w, h1, h2⟩ := valV_look rr h
      exact ⟨w, by rw [valV_neg (p := (k', v)) hk]; exact h1, h2⟩
theorem keyOf_kV {K : PySem.W.Frag} {F : Addr → Prop} {H : Hp} {y : P} {k : Key} {v : V} (h : keyOf y = some k) (r : RP K F H y v) : v = kV k := by
  cases y with
  | int i => cases h; exact r
  | str x => cases h; exact r
  | _ => exact noS h
theorem ixDict (hu : X.A.units + 1 < cLine) : IxR X (fun x y H Q => ∃ a v, x = .ref a ∧ DGet H a y (some v) ∧ (∃ kvs, H a = some (.dK kvs)) ∧ Q v H) := by
  intro value slice pins s σ H x y v u Q I rx ry h hs
  obtain ⟨a, w, rfl, g, ⟨kvs, hk⟩, q⟩ := h
  cases rx
  have ex : ∃ o, s.heap.get? a = some o ∧ o.ExactDict := by
    obtain ⟨_, _, _, _, o, _, _, e, ex, _⟩ := I.hok a _ hk
    exact ⟨o, e, ex⟩
  obtain ⟨o, e, ex⟩ := ex
  exact tail_any ⟨o, e, ex.1⟩ slot_dict_getitem.lookup (d_getItem hu I g ry fun w' s' I' r' => ⟨w, H, I', r', q⟩) hs
theorem ixP (hu : X.A.units + 1 < cLine) : IxR X (rP X.K dIx) := by
  intro value slice pins s σ H x y v u Q I rx ry h hs
  obtain ⟨F, dx, dy, d, ft, px, py, q, k⟩ := h
  cases dx with
  | tup ds =>
    cases dy with
    | int i =>
      obtain ⟨a, xs, rfl, ta, ra⟩ := px
      cases (show y = .int i from py)
      obtain ⟨z, e, p⟩ := ra.atI (show L2.atI ds i = some d from q)
      exact ix_tup value slice pins s σ H _ _ v u Q I rx ry ⟨a, xs, i, z, rfl, rfl, ta.sq, e, k z F H .refl p⟩ hs
    | _ => exact noS q
  | lst ds =>
    cases dy with
    | int i =>
      obtain ⟨a, xs, rfl, ta, ra⟩ := px
      cases (show y = .int i from py)
      obtain ⟨z, e, p⟩ := ra.atI (show L2.atI ds i = some d from q)
      exact ix_list value slice pins s σ H _ _ v u Q I rx ry ⟨a, xs, i, z, rfl, rfl, ta.sq, e, k z F H .refl p⟩ hs
    | _ => exact noS q
  | ro ds =>
    cases dy with
    | int i =>
      obtain ⟨a, xs, rfl, ta, ra⟩ := px
      cases (show y = .int i from py)
      obtain ⟨z, e, p⟩ := ra.atI (show L2.atI ds i = some d from q)
      exact ix_list value slice pins s σ H _ _ v u Q I rx ry ⟨a, xs, i, z, rfl, rfl, ta.sq, e, k z F H .refl p⟩ hs
    | _ => exact noS q
  | str z =>
    cases dy with
    | int i =>
      cases (show x = .str z from px); cases (show y = .int i from py)
      simp only [dIx] at q
      split at q
      · rename_i hc
        cases e : L2.atI z.cps.toList i with
        | none => rw [e] at q; exact noS q
        | some c =>
          rw [e] at q
          cases q
          exact ix_str value slice pins s σ H _ _ v u Q I rx ry ⟨z, i, c, rfl, rfl, capN_le hc, e, k _ F H .refl rfl⟩ hs
      · cases q
    | _ => exact noS q
  | dct ks ds =>
    obtain ⟨a, kvs, rfl, fa, hk, ek, ra⟩ := px
    simp only [dIx] at q
    cases ey : keyOf dy with
    | none => rw [ey] at q; exact noS q
    | some key =>
      rw [ey] at q
      dsimp only at q
      subst ek
      obtain ⟨w, e1, p⟩ := valV_look ra q
      have eyv := keyOf_kV ey py
      subst eyv
      exact ixDict hu value slice pins s σ H _ _ v u Q I rx ry ⟨a, w, rfl, by rw [← e1]; exact DGet.k hk, ⟨kvs, hk⟩, k w F H .refl p⟩ hs
  | _ => exact noS q
theorem xIx {a b : Expr} {fa fb : EV} {pos : Pos} (hu : X.A.units + 1 < cLine) (ha : PE X a (tV X.K fa)) (hb : PE X b (tV X.K fb)) (hs : PlainIx b) : PE X (.Subscript a b pos) (tV X.K (vOp dIx fa fb)) :=
  (pe_ix (ixP hu) ha hb hs).imp' fun _ _ _ h => tOp_of h
end
end Ev
namespace Ev
open PySem PySem.Spec PyProof.Rows L2
section
variable {X : Cx}
noncomputable def eIx (r : EE) (k : EV) : EE := fun L S => bnd (r L S) fun d S1 => bnd (k L S1) fun y S2 => match d with
  | .p v => (dIx v y).map fun z => (.p z, S2)
  | .ref i => match S2[i]? with
    | some (.lst ds) => (match y with
      | .int j => (L2.atI ds j).map fun z => (z, S2)
      | _ => none)
    | some (.fz v) => (dIx v y).map fun z => (.p z, S2)
    | _ => none
theorem xIxE {a b : Expr} {fa : EE} {fb : EV} {pos : Pos} (hu : X.A.units + 1 < cLine) (ha : PE X a (tE X.K fa)) (hb : PE X b (tV X.K fb)) (hs : PlainIx b) : PE X (.Subscript a b pos) (tE X.K (eIx fa fb)) :=
  (pe_ix ((ixP hu).or ix_list) ha hb hs).imp' fun σ H Q ⟨F, m, L, S, d, S', r, l, q, k⟩ => by
    obtain ⟨x, S1, e1, q⟩ := bnd_eq q
    obtain ⟨y, S2, e2, q⟩ := bnd_eq q
    refine ⟨F, m, L, S, x, S1, r, l, e1, fun v F1 m1 H1 s1 r1 p1 => ?_⟩
    refine ⟨F1, m1, L, S1, y, S2, r1, l.mono s1, e2, fun u F2 m2 H2 s2 r2 p2 => ?_⟩
    have px := RD.mono s2 p1
    have pure' : ∀ w : P, RP X.K F2 H2 w v → (dIx w y).map (fun z => (D.p z, S2)) = some (d, S') → rP X.K dIx v u H2 Q := fun w pw q => by
      cases eg : dIx w y with
      | none => rw [eg] at q; cases q
      | some z =>
        rw [eg] at q
        cases q
        exact ⟨F2, w, y, z, r2.ft, pw, p2, eg, fun t F3 H3 gr p3 => k t F3 m2 H3 (s1.trans (s2.trans gr.stp)) (r2.grow gr) p3⟩
    cases x with
    | p w => exact .inl (pure' w px q)
    | ref i =>
      obtain ⟨a, rfl, hm⟩ := px
      dsimp only at q
      cases es : S2[i]? with
      | none => rw [es] at q; cases q
      | some so =>
        rw [es] at q
        have ob := r2.obj i a so hm es
        cases so with
        | fz w => exact .inl (pure' w ob q)
        | dct ks vs => cases q
        | lst ds =>
          dsimp only at q
          cases y with
          | int j =>
            dsimp only at q
            obtain ⟨xs, hH, rs⟩ := ob
            cases eg : L2.atI ds j with
            | none => rw [eg] at q; cases q
            | some z =>
              rw [eg] at q
              cases q
              obtain ⟨t, e3, p3⟩ := rs.atI eg
              cases (show u = .int j from p2)
              exact .inr ⟨a, xs, j, t, rfl, rfl, SqL.of hH, e3, k t F2 m2 H2 (s1.trans s2) r2 p3⟩
          | _ => cases q
noncomputable def lenP : P → Option Nat
  | .tup xs => some xs.length
  | .lst xs => some xs.length
  | .ro xs => some xs.length
  | .str x => if capN x.length = true then some x.length else none
  | _ => none
noncomputable def lenD : D → Sto → Option Nat
  | .p v, _ => lenP v
  | .ref i, S => match S[i]? with
    | some (.lst ds) => some ds.length
    | some (.fz v) => lenP v
    | _ => none
noncomputable def vLen (r : EE) : EV := fun L S => bnd (r L S) fun d S1 => (lenD d S1).map fun n => (.int n, S1)
theorem lenP_ok {F : Addr → Prop} {H : Hp} {w : P} {v : V} {n : Nat} {Q : VK} (p : RP X.K F H w v) (h : lenP w = some n) (q : Q (.int n) H) :
    (∃ p ys, [v] = [V.ref p] ∧ (SqL X.K H p ys ∨ SqT X.K H p ys) ∧ Q (.int ys.length) H) ∨ (∃ z, [v] = [V.str z] ∧ z.length ≤ sizeLine ∧ Q (.int z.length) H) := by
  cases w with
  | tup ds =>
    obtain ⟨a, xs, rfl, ta, ra⟩ := p
    cases h
    exact .inl ⟨a, xs, rfl, .inr ta.sq, by rw [← ra.length]; exact q⟩
  | lst ds =>
    obtain ⟨a, xs, rfl, ta, ra⟩ := p
    cases h
    exact .inl ⟨a, xs, rfl, .inl ta.sq, by rw [← ra.length]; exact q⟩
  | ro ds =>
    obtain ⟨a, xs, rfl, ta, ra⟩ := p
    cases h
    exact .inl ⟨a, xs, rfl, .inl ta.sq, by rw [← ra.length]; exact q⟩
  | str x =>
    cases (show v = .str x from p)
    simp only [lenP] at h
    split at h
    · rename_i hc
      cases h
      exact .inr ⟨x, rfl, capN_le hc, q⟩
    · cases h
  | _ => exact noS h
theorem xLen {e : Expr} {fe : EE} {p pos : Pos} (hg : Gl X "len") (hm : X.mg "len" = none) (he : PE X e (tE X.K fe)) (hs : starEach [e] X.env = [(false, eval e X.env)] := by rfl) : PE X (.Call (.Name "len" p) [e] [] pos) (tV X.K (vLen fe)) :=
  (pe_callB (call_len_seq.or call_len_str) hg hm PySem.boot_len (pa_cons he pa_nil (by rw [hs]; rfl)) (by decide) (by decide) (by rw [hs]; rfl) rfl).imp' fun σ H Q ⟨F, m, L, S, d, S', r, l, q, k⟩ => by
    obtain ⟨x, S1, e1, q⟩ := bnd_eq q
    refine ⟨F, m, L, S, x, S1, r, l, e1, fun v F1 m1 H1 s1 r1 p1 => ?_⟩
    cases en : lenD x S1 with
    | none => rw [en] at q; cases q
    | some n =>
      rw [en] at q
      cases q
      have key : Q (.int n) H1 := k _ F1 m1 H1 s1 r1 rfl
      cases x with
      | p w => exact lenP_ok p1 en key
      | ref i =>
        obtain ⟨a, rfl, hm⟩ := p1
        simp only [lenD] at en
        cases es : S'[i]? with
        | none => rw [es] at en; cases en
        | some so =>
          rw [es] at en
          have ob := r1.obj i a so hm es
          cases so with
          | fz w => exact lenP_ok ob en key
          | dct ks vs => cases en
          | lst ds =>
            cases en
            obtain ⟨xs, hH, rs⟩ := ob
            exact .inl ⟨a, xs, rfl, .inl (SqL.of hH), by rw [← rs.length]; exact key⟩
noncomputable def ownL (d : D) (S : Sto) : Option (Nat × List D) := match d with
  | .ref i => match S[i]? with
    | some (.lst ds) => some (i, ds)
    | _ => none
  | _ => none
theorem ownL_eq {d : D} {S : Sto} {i : Nat} {ds : List D} (h : ownL d S = some (i, ds)) : d = .ref i ∧ S[i]? = some (.lst ds) := by
  unfold ownL at h
  split at h
  · split at h
    · rename_i e; cases h; exact ⟨rfl, e⟩
    · cases h
  · cases h
noncomputable def eAppend (r : EE) (a : EE) : EE := fun L S => bnd (r L S) fun d S1 => match ownL d S1 with
  | none => none
  | some _ => bnd (a L S1) fun x S2 => match ownL d S2 with
    | some (i, ds) => if few ds = true then some (.p .non, S2.set i (.lst (ds ++ [x]))) else none
    | none => none
theorem xAppend {o e : Expr} {fo fe : EE} {apos cpos : Pos} (ho : PE X o (tE X.K fo)) (he : PE X e (tE X.K fe)) (hs : starEach [e] X.env = [(false, eval e X.env)] := by rfl)
    (hbase : attributeBase o "append" X.env (eval o X.env) = eval o X.env := by rfl) (hline : (apos.endLine == cpos.line) = true := by rfl) : PE X (.Call (.Attribute o "append" apos) [e] [] cpos) (tE X.K (eAppend fo fe)) :=
  (pe_bm PySem.F.plainAttrs_list PySem.F.slot_list_append PySem.F.type_list_append mt_append ho (pa_cons he pa_nil (by rw [hs]; rfl)) hbase (by rw [hs]; rfl) hline (by rw [hs]; rfl) rfl).imp' fun σ H Q ⟨F, m, L, S, d, S', r, l, q, k⟩ => by
    obtain ⟨x, S1, e1, q⟩ := bnd_eq q
    refine ⟨F, m, L, S, x, S1, r, l, e1, fun v F1 m1 H1 s1 r1 p1 => ?_⟩
    cases eo : ownL x S1 with
    | none => rw [eo] at q; cases q
    | some z =>
      obtain ⟨i, ds⟩ := z
      rw [eo] at q
      dsimp only at q
      obtain ⟨rfl, es⟩ := ownL_eq eo
      obtain ⟨a, rfl, hm⟩ := id p1
      obtain ⟨xs, hH, rs⟩ := r1.obj i a _ hm es
      refine ⟨.inl ⟨rfl, xs, SqL.of hH⟩, ?_⟩
      obtain ⟨y, S2, e2, q⟩ := bnd_eq q
      refine ⟨F1, m1, L, S1, y, S2, r1, l.mono s1, e2, fun u F2 m2 H2 s2 r2 p2 => ?_⟩
      cases eo2 : ownL (.ref i) S2 with
      | none => rw [eo2] at q; cases q
      | some z =>
        obtain ⟨i2, ds2⟩ := z
        rw [eo2] at q
        dsimp only at q
        obtain ⟨e3, es2⟩ := ownL_eq eo2
        cases e3
        split at q
        · rename_i hf
          cases q
          obtain ⟨a2, e4, hm2⟩ := RD.mono s2 p1
          cases e4
          obtain ⟨xs2, hH2, rs2⟩ := r2.obj i a _ hm2 es2
          have hl := few_le hf
          have hl' : xs2.length < sizeLine := by
            have : ds2.length ≤ 1000000 := of_decide_eq_true hf
            rw [← rs2.length]
            exact Nat.lt_of_le_of_lt this (by decide)
          have nt : ∀ zs, H2 a ≠ some (.tup zs) := fun zs z => by rw [hH2] at z; cases z
          have st : Stp F2 m2 H2 F2 m2 (upd H2 a (.lst (xs2 ++ [u]))) := stp_set r2 hm2 es2 trivial nt
          refine ⟨a, xs2, u, rfl, rfl, hH2, hl', ?_⟩
          exact k .non F2 m2 _ (s1.trans (s2.trans st)) (r2.set hm2 es2 trivial nt ⟨_, upd_same, RDs.mono st (rs2.append ⟨u, [], rfl, p2, rfl⟩)⟩) rfl
        · cases q
theorem RDs.dropLast {K : PySem.W.Frag} {F : Addr → Prop} {H : Hp} {m : List Addr} {ds : List D} {xs : List V} (r : RDs K F H m ds xs) : RDs K F H m ds.dropLast xs.dropLast := by
  rw [List.dropLast_eq_take, List.dropLast_eq_take, r.length]
  exact r.take _
noncomputable abbrev EO := Lc → Sto → Option (Option Int × Sto)
noncomputable def oNone : EO := fun _ S => some (none, S)
noncomputable def oSome (a : EV) : EO := fun L S => bnd (a L S) fun v S1 => match v with
  | .int i => some (some i, S1)
  | _ => none
noncomputable def tO (K : PySem.W.Frag) (f : EO) : TO := fun σ H Q => ∃ F m L S b S', Rel K F H m S ∧ RL K F H m σ L ∧ f L S = some (b, S') ∧ ∀ F' m' H', Stp F m H F' m' H' → Rel K F' H' m' S' → Q b H'
theorem _root_.L2.PO.imp' {e : Option Expr} {t t' : TO} (h : PO X e t) (i : ∀ σ H Q, t' σ H Q → t σ H Q) : PO X e t' := fun pins s σ H Q I q => h pins s σ H Q I (i σ H Q q)
theorem oNone' : PO X none (tO X.K oNone) := po_none.imp' fun σ H Q ⟨F, m, L, S, d, S', r, l, q, k⟩ => by
  cases q
  exact k F m H .refl r
theorem oSome' {e : Expr} {fa : EV} (h : PE X e (tV X.K fa)) : PO X (some e) (tO X.K (oSome fa)) := (po_some h).imp' fun σ H Q ⟨F, m, L, S, d, S', r, l, q, k⟩ => by
  obtain ⟨x, S1, e1, q⟩ := bnd_eq q
  cases x with
  | int i => cases q; exact ⟨F, m, L, S, _, _, r, l, e1, fun v F1 m1 H1 s1 r1 p1 => ⟨i, p1, k F1 m1 H1 s1 r1⟩⟩
  | _ => cases q
noncomputable def cut {α : Type} (xs : List α) (lo hi : Option Int) : List α := (xs.drop (HT.sIx xs.length 0 lo)).take (HT.sIx xs.length xs.length hi - HT.sIx xs.length 0 lo)
theorem RPs.cut {K : PySem.W.Frag} {F : Addr → Prop} {H : Hp} {ds : List P} {xs : List V} (r : RPs K F H ds xs) (lo hi : Option Int) : RPs K F H (Ev.cut ds lo hi) (cutV xs lo hi) := by
  unfold Ev.cut cutV
  rw [r.length]
  exact (r.drop _).take _
noncomputable def dSl : P → Option Int → Option Int → Option P
  | .lst xs, lo, hi => some (.lst (cut xs lo hi))
  | .ro xs, lo, hi => some (.lst (cut xs lo hi))
  | .tup xs, lo, hi => if HT.sIx xs.length 0 lo = 0 ∧ HT.sIx xs.length xs.length hi = xs.length then none else some (.tup (cut xs lo hi))
  | _, _, _ => none
noncomputable def vSl (a : EV) (lo hi : EO) : EV := fun L S => bnd (a L S) fun x S1 => bnd (lo L S1) fun i S2 => bnd (hi L S2) fun j S3 => (dSl x i j).map fun v => (v, S3)
theorem xSl {e : Expr} {lo hi : Option Expr} {fa : EV} {fl fh : EO} {pos p2 : Pos} (he : PE X e (tV X.K fa)) (hl : PO X lo (tO X.K fl)) (hh : PO X hi (tO X.K fh)) : PE X (.Subscript e (.Slice lo hi none p2) pos) (tV X.K (vSl fa fl fh)) :=
  (pe_slice (sl_list.or sl_tup) he hl hh).imp' fun σ H Q ⟨F, m, L, S, d, S', r, l, q, k⟩ => by
    obtain ⟨x, S1, e1, q⟩ := bnd_eq q
    obtain ⟨i, S2, e2, q⟩ := bnd_eq q
    obtain ⟨j, S3, e3, q⟩ := bnd_eq q
    refine ⟨F, m, L, S, x, S1, r, l, e1, fun v F1 m1 H1 s1 r1 p1 => ?_⟩
    refine ⟨F1, m1, L, S1, i, S2, r1, l.mono s1, e2, fun F2 m2 H2 s2 r2 => ?_⟩
    refine ⟨F2, m2, L, S2, j, S3, r2, (l.mono s1).mono s2, e3, fun F3 m3 H3 s3 r3 => ?_⟩
    have px := RP.mono s3 (RP.mono s2 p1)
    have ss := s1.trans (s2.trans s3)
    cases x with
    | lst ds =>
      cases q
      obtain ⟨a, xs, rfl, ta, ra⟩ := px
      exact .inl ⟨a, xs, rfl, ta.sq, fun p hp => k _ _ m3 _ (ss.trans (grow_frz hp).stp) (r3.grow (grow_frz hp)) (.newLst hp (ra.cut i j))⟩
    | ro ds =>
      cases q
      obtain ⟨a, xs, rfl, ta, ra⟩ := px
      exact .inl ⟨a, xs, rfl, ta.sq, fun p hp => k _ _ m3 _ (ss.trans (grow_frz hp).stp) (r3.grow (grow_frz hp)) (.newLst hp (ra.cut i j))⟩
    | tup ds =>
      obtain ⟨a, xs, rfl, ta, ra⟩ := px
      simp only [dSl] at q
      split at q
      · cases q
      · rename_i hw
        cases q
        rw [ra.length] at hw
        exact .inr ⟨a, xs, rfl, ta.sq, hw, fun p hp => k _ _ m3 _ (ss.trans (grow_new hp).stp) (r3.grow (grow_new hp)) (.newTup hp (ra.cut i j))⟩
    | _ => cases q
theorem _root_.L2.PI.imp' {tg iter : Expr} {t t' : TI} (h : PI X tg iter t) (i : ∀ σ H R, t' σ H R → t σ H R) : PI X tg iter t' := fun pins s σ H R I q => h pins s σ H R I (i σ H R q)
theorem itl_ok {K : PySem.W.Frag} {F : Addr → Prop} {m : List Addr} {H : Hp} {a : Addr} {vs : List P} {xs : List V} (hs : ∀ F2 m2 H2, Stp F m H F2 m2 H2 → SqL K H2 a xs) (r : RPs K F H vs xs) : ItP K (Itl K a) vs F m H := by
  intro F2 m2 H2 s
  have q := hs F2 m2 H2 s
  have r2 := RPs.mono s r
  refine ⟨fun i v e => ?_, ⟨xs, q, by rw [r2.length]; exact Nat.le_refl _⟩⟩
  obtain ⟨x, e1, p⟩ := r2.get e
  refine ⟨⟨xs, x, q, e1⟩, fun y H3 z => ?_⟩
  obtain ⟨rfl, z⟩ := z
  have := z xs q
  rw [e1] at this
  cases this
  exact ⟨F2, .refl, p⟩
theorem itt_ok {K : PySem.W.Frag} {F : Addr → Prop} {m : List Addr} {H : Hp} {a : Addr} {vs : List P} {xs : List V} (hs : TupAt K H a xs) (r : RPs K F H vs xs) : ItP K (Itt K a) vs F m H := by
  intro F2 m2 H2 s
  have q := (hs.kp s.kp).sq
  have r2 := RPs.mono s r
  refine ⟨fun i v e => ?_, ⟨xs, q, by rw [r2.length]; exact Nat.le_refl _⟩⟩
  obtain ⟨x, e1, p⟩ := r2.get e
  refine ⟨⟨xs, x, q, e1⟩, fun y H3 z => ?_⟩
  obtain ⟨rfl, z⟩ := z
  have := z xs q
  rw [e1] at this
  cases this
  exact ⟨F2, .refl, p⟩
noncomputable def intsFrom (lo : Int) (n : Nat) : List P := (List.range n).map fun (i : Nat) => .int (lo + (i : Int))
noncomputable def itR1 (a : EV) : EVs := fun L S => bnd (a L S) fun v S1 => match v with
  | .int j => if decide (j.natAbs < 1000000) = true then some (intsFrom 0 j.toNat, S1) else none
  | _ => none
theorem itr_ok {K : PySem.W.Frag} {F : Addr → Prop} {m : List Addr} {H : Hp} {lo : Int} {n : Nat} : ItP K (Itr lo n) (intsFrom lo n) F m H := by
  intro F2 m2 H2 s
  have hl : (intsFrom lo n).length = n := by unfold intsFrom; simp
  refine ⟨fun i v e => ?_, by show n ≤ (intsFrom lo n).length; rw [hl]; exact Nat.le_refl _⟩
  have hi : i < n := by rw [← hl]; exact (List.getElem?_eq_some_iff.mp e).1
  refine ⟨hi, fun x H3 z => ?_⟩
  obtain ⟨rfl, rfl⟩ := z
  refine ⟨F2, .refl, ?_⟩
  unfold intsFrom at e
  simp [hi] at e
  subst e
  exact rfl
theorem iR1 {tg a : Expr} {fa : EV} {p pos : Pos} (hg : Gl X "range") (hm : X.mg "range" = none) (ha : PE X a (tV X.K fa)) (hs : starEach [a] X.env = [(false, eval a X.env)] := by rfl) : PI X tg (.Call (.Name "range" p) [a] [] pos) (tI X.K (itR1 fa)) :=
  (pi_range1 hg hm (pa_cons ha pa_nil (by rw [hs]; rfl)) hs).imp' fun σ H R ⟨F, m, L, S, vs, S', r, l, q, k⟩ => by
    obtain ⟨v, S1, e1, q⟩ := bnd_eq q
    cases v with
    | int j =>
      dsimp only at q
      split at q
      · rename_i hc
        have hj : j.natAbs < 1000000 := of_decide_eq_true hc
        cases q
        refine ⟨F, m, L, S, _, _, r, l, e1, fun x F1 m1 H1 s1 r1 p1 => ?_⟩
        cases (show x = .int j from p1)
        exact ⟨j, rfl, by omega, by omega, k _ F1 m1 H1 s1 r1 itr_ok⟩
      · cases q
    | _ => cases q
end
end Ev
namespace Ev
open PySem PySem.Spec PyProof.Rows L2
noncomputable def compGo (g : TGv) (c : EB) (e : EV) : List P → Lc → Sto → Option (List P × Sto)
  | [], _, S => some ([], S)
  | v :: r, L, S => match g v L with
    | none => none
    | some L1 => bnd (c L1 S) fun k S1 => if k = true then bnd (e L1 S1) fun y S2 => bnd (compGo g c e r L1 S2) fun ys S3 => some (y :: ys, S3) else compGo g c e r L1 S1
noncomputable def upL {α : Type} (ts : List Nat) (n : Nat) (L : List (Option α)) : List (Option α) := (ts.foldl (fun L i => L.set i none) L) ++ List.replicate n none
noncomputable def vComp (it : EVs) (ts : List Nat) (n : Nat) (g : TGv) (c : EB) (e : EV) : EV := fun L S => bnd (it L S) fun xs S1 => if few xs = true then bnd (compGo g c e xs (upL ts n L) S1) fun ys S2 => some (.lst ys, S2) else none
noncomputable def bYes : EB := fun _ S => some (true, S)
theorem foldl_set_len {α : Type} (ts : List Nat) : ∀ L : List (Option α), (ts.foldl (fun L i => L.set i none) L).length = L.length := by
  induction ts with
  | nil => intro L; rfl
  | cons t ts ih => intro L; rw [List.foldl_cons, ih, List.length_set]
theorem foldl_set_get {α : Type} (ts : List Nat) : ∀ (L : List (Option α)) (i : Nat) (d : α), (ts.foldl (fun L i => L.set i none) L)[i]? = some (some d) → L[i]? = some (some d) ∧ i ∉ ts := by
  induction ts with
  | nil => intro L i d h; exact ⟨h, by simp⟩
  | cons t ts ih =>
    intro L i d h
    rw [List.foldl_cons] at h
    obtain ⟨h1, h2⟩ := ih _ _ _ h
    by_cases e : t = i
    · subst e
      by_cases hl : t < L.length
      · rw [List.getElem?_set_self hl] at h1; cases h1
      · rw [List.getElem?_eq_none (by rw [List.length_set]; omega)] at h1; cases h1
    · rw [List.getElem?_set_ne e] at h1
      exact ⟨h1, by simp [h2]; exact fun z => e z.symm⟩
theorem upL_len {α : Type} (ts : List Nat) (n : Nat) (L : List (Option α)) : (upL ts n L).length = L.length + n := by
  unfold upL
  rw [List.length_append, foldl_set_len, List.length_replicate]
theorem upL_get {α : Type} {ts : List Nat} {n : Nat} {L : List (Option α)} {i : Nat} {d : α} (h : (upL ts n L)[i]? = some (some d)) : L[i]? = some (some d) ∧ i ∉ ts ∧ i < L.length := by
  unfold upL at h
  by_cases hi : i < L.length
  · rw [List.getElem?_append_left (by rw [foldl_set_len]; exact hi)] at h
    obtain ⟨h1, h2⟩ := foldl_set_get ts L i d h
    exact ⟨h1, h2, hi⟩
  · rw [List.getElem?_append_right (by rw [foldl_set_len]; omega), List.getElem?_replicate] at h
    split at h <;> cases h
theorem RL.up {K : PySem.W.Frag} {F : Addr → Prop} {H : Hp} {m : List Addr} {σ : L2.St} {L : Lc} (l : RL K F H m σ L) (ts : List Nat) (n : Nat) : RL K F H m (upL ts n σ) (upL ts n L) := by
  refine ⟨by rw [upL_len, upL_len, l.len], fun i d h => ?_⟩
  obtain ⟨h1, h2, h3⟩ := upL_get h
  obtain ⟨v, e, r⟩ := l.at' i d h1
  refine ⟨v, ?_, r⟩
  unfold upL
  rw [List.getElem?_append_left (by rw [foldl_set_len, l.len]; exact h3)]
  have keep : ∀ (ts : List Nat) (σ : L2.St), i ∉ ts → σ[i]? = some (some v) → (ts.foldl (fun L i => L.set i none) σ)[i]? = some (some v) := by
    intro ts
    induction ts with
    | nil => intro σ _ e; exact e
    | cons t ts ih =>
      intro σ hn e
      rw [List.foldl_cons]
      refine ih _ (fun z => hn (List.mem_cons_of_mem _ z)) ?_
      rw [List.getElem?_set_ne (fun z => hn (by rw [z]; exact List.mem_cons_self))]
      exact e
  exact keep ts σ h2 e
noncomputable def clOf (scope : Scope) (env : Env) : List (Str × Addr) := ((scope.names.filter fun x => x.2 == .free).map fun x => (x.1, (env.cells.lookup x.1).getD 0)).reverse
noncomputable def inn (X : Cx) (scope : Scope) (N' : List Str) (s : Shared) (H : Hp) (C : Addr) (fp : List Addr) : Cx :=
  { X with N := N', s₀ := s, H₀ := H, env := compEnvC scope (clOf scope X.env) C X.env, outer := X.stack, ex := fp, fn := fun _ => false, pn := [], xe := fun _ _ => False }
structure BlockOk (X : Cx) (scope : Scope) (N' : List Str) (ts : List Nat) (n : Nat) : Prop where
  kind : scope.kind = .function
  cell : ∀ x ∈ scope.names, x.2 ≠ .cell
  loc : ∀ x ∈ scope.names, x.2 = .local → scope.names.lookup x.1 = some .local
  fr : ∀ x ∈ scope.names, x.2 = .free → scope.names.lookup x.1 = some .free ∧ (X.env.kindOf x.1 = some .cell ∨ X.env.kindOf x.1 = some .free)
  names : X.N = N'.take X.N.length
  more : N'.length = X.N.length + n
  ts : ∀ x ∈ scope.names, x.2 = .local → ∀ i : Nat, X.N[i]? = some x.1 → i ∈ ts
theorem mem_of_lookup' {α : Type} : ∀ {l : List (Str × α)} {x : Str} {v : α}, l.lookup x = some v → (x, v) ∈ l
  | [], _, _, h => by simp at h
  | (y, w) :: r, x, v, h => by
    rw [List.lookup_cons] at h
    cases e : x == y with
    | true => rw [e] at h; cases h; rw [show x = y from by simpa using e]; exact List.mem_cons_self
    | false => rw [e] at h; exact List.mem_cons_of_mem _ (mem_of_lookup' h)
theorem lookup_of_mem {α : Type} : ∀ {l : List (Str × α)} {x : Str} {v : α}, (x, v) ∈ l → ∃ w, l.lookup x = some w
  | [], _, _, h => by simp at h
  | (y, w) :: r, x, v, h => by
    rw [List.lookup_cons]
    cases e : x == y with
    | true => exact ⟨w, rfl⟩
    | false =>
      rcases List.mem_cons.mp h with h | h
      · injection h with h1 _
        subst h1
        simp at e
      · exact lookup_of_mem h
theorem relabel_kind {scope : Scope} {env : Env} {x : Str} {k : NameKind} (h : (relabel scope env).names.lookup x = some k) : ∃ k0, (x, k0) ∈ scope.names ∧ (k = k0 ∨ (k = .cell ∧ k0 = .free)) := by
  have h1 := mem_of_lookup' h
  unfold relabel at h1
  obtain ⟨⟨n, k0⟩, hm, e⟩ := List.mem_map.mp h1
  by_cases c : (k0 == NameKind.free && env.scope.kind == .function && env.kindOf n == some .cell) = true
  · have e' : (n, NameKind.cell) = (x, k) := by simpa [c] using e
    injection e' with e1 e2
    subst e1
    rw [Bool.and_eq_true, Bool.and_eq_true] at c
    exact ⟨k0, hm, .inr ⟨e2.symm, by simpa using c.1.1⟩⟩
  · have e' : (n, k0) = (x, k) := by simpa [c] using e
    injection e' with e1 e2
    subst e1
    exact ⟨k0, hm, .inl e2.symm⟩
section
variable {X : Cx} {scope : Scope} {N' : List Str} {ts : List Nat} {n : Nat}
theorem BlockOk.cl {pins : List (Addr × Obj)} {σ : L2.St} {H : Hp} {s : Shared} (B : BlockOk X scope N' ts n) (I : Inv X pins σ H s) {x : Str} {c : Addr} (h : (clOf scope X.env).lookup x = some c) : X.env.cells.lookup x = some c ∧ (x, NameKind.free) ∈ scope.names := by
  have h1 := mem_of_lookup' h
  unfold clOf at h1
  obtain ⟨⟨y, k⟩, hm, e⟩ := List.mem_map.mp (List.mem_reverse.mp h1)
  obtain ⟨hm, hk⟩ := List.mem_filter.mp hm
  have hk' : k = .free := by simpa using hk
  subst hk'
  injection e with e1 e2
  subst e1
  obtain ⟨_, hc⟩ := B.fr _ hm rfl
  obtain ⟨c', hc'⟩ := I.ok.has y hc
  dsimp only at e2
  rw [hc'] at e2
  have e2' : c' = c := e2
  subst e2'
  exact ⟨hc', hm⟩
theorem BlockOk.has (B : BlockOk X scope N' ts n) {x : Str} (h : (x, NameKind.free) ∈ scope.names) : ∃ c, (clOf scope X.env).lookup x = some c := by
  unfold clOf
  exact lookup_of_mem (v := (X.env.cells.lookup x).getD 0) (List.mem_reverse.mpr (List.mem_map.mpr ⟨(x, .free), List.mem_filter.mpr ⟨h, by simp⟩, rfl⟩))
theorem inn_ok {pins : List (Addr × Obj)} {σ : L2.St} {H : Hp} {s : Shared} {C : Addr} {fp : List Addr} (B : BlockOk X scope N' ts n) (I : Inv X pins σ H s) (hC : s.heap.objs.size ≤ C) (hf : ∀ b ∈ fp, FpOk X pins H b) (hb : ∀ b ∈ fp, b < s.heap.objs.size) :
    (inn X scope N' s H C fp).Ok where
  mod := I.ok.mod
  kind := B.kind
  glob := I.ok.glob
  blt := I.ok.blt
  above := hC
  inj := fun x y c h1 h2 => I.ok.inj x y c (B.cl I h1).1 (B.cl I h2).1
  has := fun x h => by
    have h' : (relabel scope X.env).names.lookup x = some .cell ∨ (relabel scope X.env).names.lookup x = some .free := h
    rcases h' with h | h
    · obtain ⟨k0, hm, e | ⟨_, e⟩⟩ := relabel_kind h
      · subst e; exact absurd rfl (B.cell _ hm)
      · subst e; exact B.has hm
    · obtain ⟨k0, hm, e | ⟨e, _⟩⟩ := relabel_kind h
      · subst e; exact B.has hm
      · cases e
  cab := fun x c h => nomatch h
  hd := I.ok.hd
  frames := I.ok.frames
  stk := .inl rfl
  exf := fun b hb' => ⟨Nat.ne_of_lt (Nat.lt_of_lt_of_le (hb b hb') hC), fun x c h => (hf b hb').2.2.2.2.1 x c (B.cl I h).1⟩
  bs := I.bs
  bsz := Nat.le_trans I.ok.bsz I.sz
  noex := fun b o e hb' => by
    rcases (hf b hb').2.2.2.1 with z | z
    · exact I.ok.noex b o e z
    · exact absurd (Nat.lt_of_lt_of_le (Heap.lt_size (I.ok.bs b o e).1) z) (Nat.lt_irrefl _)
  exfs := fun b hb' z => by
    rcases List.mem_cons.mp (I.stkSub b z) with z | z
    · exact (hf b hb').2.1 z
    · exact (hf b hb').2.2.1 z
  funs := I.stack
  frf := I.stkFree
theorem _root_.L2.Un.sameBut {fs ex : List Addr} {H H' : Hp} {h h1 h2 : Heap} {C : Addr} (u : Un fs ex H H' h h1) (sb : Heap.SameBut C h1 h2) (hC : ∀ b o, h.get? b = some o → b ≠ C) : Un fs ex H H' h h2 where
  keep := fun b o e n hb hx => sb.extBut b o (hC b o e) (u.keep b o e n hb hx)
  slot := fun b o e n hb hx => by
    obtain ⟨sl, q⟩ := u.slot b o e n hb hx
    exact ⟨sl, sb.extBut b _ (hC b o e) q⟩
  free := u.free
  there := fun b o e hx => by
    obtain ⟨o', q⟩ := u.there b o e hx
    exact ⟨o', sb.extBut b _ (hC b o e) q⟩
  tups := u.tups
  frzs := u.frzs
  tbls := u.tbls
theorem _root_.L2.HOk.sameBut {P : Program} {w : World} {H : Hp} {h1 h2 : Heap} {C : Addr} (ok : HOk P w H h1) (sb : Heap.SameBut C h1 h2) (hC : H C = none) : HOk P w H h2 := fun b u e =>
  (ok b u e).stay (fun c v hc q => sb.extBut c v (by
    rintro rfl
    rcases hc with z | z
    · subst z; rw [hC] at e; cases e
    · rw [hC] at z; cases z) q) (fun _ q => q) fun _ _ q => q
inductive PIfs (X : Cx) : List Expr → EB → Prop where
  | none : PIfs X [] bYes
  | one {c : Expr} {q : EB} : PT X c (tQ X.K q) → PIfs X [c] q
theorem Kp.bump {F : Addr → Prop} {m : List Addr} {H : Hp} {p : Addr} {o : HO} (hF : ¬ F p) (ht : ∀ xs, H p ≠ some (.tup xs)) : Kp F m H F m (upd H p o) :=
  ⟨⟨[], by simp⟩, fun _ h => h, fun b u f h => by rw [upd_ne (by rintro rfl; exact hF f)]; exact h, fun b xs h => by rw [upd_ne (by rintro rfl; exact ht xs h)]; exact h⟩
theorem Stp.bump {F F' : Addr → Prop} {m m' : List Addr} {H H' : Hp} {p : Addr} {o : HO} (s : Stp F m H F' m' H') (hp : H p = none) : Stp F m H F' m' (upd H' p o) where
  pre := s.pre
  oth := fun b u h hb => by rw [upd_ne (by rintro rfl; rw [hp] at h; cases h)]; exact s.oth b u h hb
  frz := s.frz
  frk := fun b u f h => by rw [upd_ne (by rintro rfl; rw [hp] at h; cases h)]; exact s.frk b u f h
  tup := fun b xs h => by rw [upd_ne (by rintro rfl; rw [hp] at h; cases h)]; exact s.tup b xs h
  trk := fun b h => by
    by_cases e : b = p
    · subst e; rw [upd_same]; exact fun z => nomatch z
    · rw [upd_ne e]; exact s.trk b h
  nf := s.nf
  nm := s.nm
theorem Rel.bump {K : PySem.W.Frag} {F : Addr → Prop} {m : List Addr} {H : Hp} {S : Sto} {p : Addr} {o : HO} (r : Rel K F H m S) (hF : ¬ F p) (hm : p ∉ m) (ht : ∀ xs, H p ≠ some (.tup xs)) : Rel K F (upd H p o) m S :=
  r.stayK (Kp.bump hF ht) (fun a u ha h => by rw [upd_ne (by rintro rfl; exact hm ha)]; exact h) (fun _ f => .inl f) fun a f => by rw [upd_ne (by rintro rfl; exact hF f)]; exact r.ft a f
theorem kpF {F : Addr → Prop} {m : List Addr} {H : Hp} {p : Addr} : Kp F m H (fun b => F b ∨ b = p) m H := ⟨⟨[], by simp⟩, fun _ h => .inl h, fun _ _ _ h => h, fun _ _ h => h⟩
theorem Stp.addF {F F' : Addr → Prop} {m m' : List Addr} {H H' : Hp} {p : Addr} (s : Stp F m H F' m' H') (hp : H p = none) : Stp F m H (fun b => F' b ∨ b = p) m' H' :=
  ⟨s.pre, s.oth, fun b h => .inl (s.frz b h), s.frk, s.tup, s.trk, fun b h => by
    rcases h with h | h
    · exact s.nf b h
    · subst h; exact .inr (.inl hp), s.nm⟩
theorem Rel.addF {K : PySem.W.Frag} {F : Addr → Prop} {m : List Addr} {H : Hp} {S : Sto} {p : Addr} (r : Rel K F H m S) (hm : p ∉ m) (hp : H p ≠ none) : Rel K (fun b => F b ∨ b = p) H m S where
  len := r.len
  nd := r.nd
  obj := fun i a o e1 e2 => (r.obj i a o e1 e2).kp kpF fun u h => h
  sep := fun i a o e1 e2 w f => by
    rcases f with f | f
    · exact r.sep i a o e1 e2 w f
    · subst f; exact hm (List.mem_of_getElem? e1)
  trk := r.trk
  ft := fun a f => by
    rcases f with f | f
    · exact r.ft a f
    · subst f; exact hp
theorem _root_.L2.Inv.letGo {pins : List (Addr × Obj)} {σ : L2.St} {H : Hp} {s : Shared} {C : Addr} {h' : Heap} (I : Inv X pins σ H s) (sb : Heap.SameBut C s.heap h') (hC : H C = none) (h0 : X.s₀.heap.objs.size ≤ C) (h1 : C ≠ X.env.locals)
    (h2 : ∀ x c, X.env.cells.lookup x = some c → c ≠ C) (h3 : ∀ p ∈ X.pn ++ pins, p.1 ≠ C) : Inv X pins σ H { s with heap := h' } := by
  have ne : ∀ b : Addr, b ∉ [C] → b ≠ C := fun b hb z => hb (by simp [z])
  refine I.call' (s' := { s with heap := h' }) (ch := [C]) rfl ⟨fun b o e _ _ hx => sb.extBut b o (ne b hx) e, fun b o e _ _ hx => ⟨o.slots, sb.extBut b o (ne b hx) e⟩, fun _ _ _ n _ => n, fun b o e hx => ⟨o, sb.extBut b o (ne b hx) e⟩, fun _ _ q => q, fun _ _ _ q => q, fun b ps q => ⟨#[], by rw [q]; simp⟩⟩ (I.hok.sameBut sb hC) I.bare fun b hb => ?_
  have e : b = C := by simpa using hb
  subst e
  exact ⟨.inr h0, h1, h2, h3⟩
theorem compLoopT {Pg : Program} {w : World} {A : Around} {R : Result → Shared → Prop} {s : Shared} {elt tg iter : Expr} {ifs : List Expr} {scope : Scope} {pos : Pos} {it acc : Value} {env : Env} (I : Nat → Shared → Prop)
    (turn : ∀ n s, I n s → wpAny (model Pg w) A (pyNext it) (fun r s1 => match r with
      | none => R (.ok .next) s1
      | some v => wpAny (model Pg w) A (letOwnedTupleGo tg it v) (fun _ s2 => wpAny (model Pg w) A (assign tg env v) (fun _ s3 =>
          wpAny (model Pg w) A (forIn ifs true fun c r => if r = true then do let ok ← isTrue c env (eval c env); pure (ForInStep.yield ok) else pure (ForInStep.yield r)) (fun ok s4 =>
            if ok = true then wpAny (model Pg w) A (eval elt env) (fun x s5 =>
              wpAny (model Pg w) A (call (.builtin "list.append") [acc, x]) (fun _ s6 => ∃ m, m < n ∧ I m s6) (notedBy (model Pg w) A env fun e s' => R (.error e) s') s5) (notedBy (model Pg w) A env fun e s' => R (.error e) s') s4
            else ∃ m, m < n ∧ I m s4) (notedBy (model Pg w) A env fun e s' => R (.error e) s') s3) (notedBy (model Pg w) A env fun e s' => R (.error e) s') s2) (notedBy (model Pg w) A env fun e s' => R (.error e) s') s1) (notedBy (model Pg w) A env fun e s' => R (.error e) s') s)
    (n : Nat) (h : I n s) : codeAny (model Pg w) A (.compLoop (.ListComp elt [⟨tg, iter, ifs, 0⟩] scope pos) 0 it acc env) R s := by
  refine codeAny_loop rfl I (fun n s hI => ?_) n h
  show wpAny _ A ((compTurn (.ListComp elt [⟨tg, iter, ifs, 0⟩] scope pos) 0 it acc env).onRaise (fun x => do noteFrame x env; theTreesLotGoes x)) _ _ s
  refine wpAny_noted ?_
  rw [compTurn_list]
  refine wpAny_bind (wpAny_standAt (wpAny_bind (wpAny_mono (turn n s hI) (fun r s1 h1 => ?_) fun _ _ z => z)))
  cases r with
  | none => exact wpAny_pure h1
  | some v =>
    refine wpAny_bind (wpAny_mono h1 (fun _ s2 h2 => wpAny_bind (wpAny_mono h2 (fun _ s3 h3 => wpAny_bind (wpAny_mono h3 (fun ok s4 h4 => ?_) fun _ _ z => z)) fun _ _ z => z)) fun _ _ z => z)
    cases ok with
    | false => exact wpAny_pure ⟨rfl, h4⟩
    | true => exact wpAny_bind (wpAny_bind (wpAny_mono h4 (fun x s5 h5 => wpAny_bind (wpAny_mono h5 (fun _ s6 h6 => wpAny_pure (wpAny_pure ⟨rfl, h6⟩)) fun _ _ z => z)) fun _ _ z => z))
theorem comp_core {elt iter tg : Expr} {ifs : List Expr} {pos p2 : Pos} {fi : EVs} {g : TGv} {fc : EB} {fe : EV} {pins : List (Addr × Obj)} {s : Shared} {σ : L2.St} {H : Hp} {use : Option (Value → Sem Unit)} {Q : Value → Shared → Prop}
    {F : Addr → Prop} {m : List Addr} {L : Lc} {S S2 : Sto} {d : P}
    (B : BlockOk X scope N' ts n) (hcalm : X.calm = true)
    (hi : PI X tg iter (tI X.K fi)) (hg : ∀ s H C fp, PG (inn X scope N' s H C fp) tg (gT X.K g)) (hc : ∀ s H C fp, PIfs (inn X scope N' s H C fp) ifs fc) (he : ∀ s H C fp, PE (inn X scope N' s H C fp) elt (tV X.K fe))
    (hclos : closureFor scope X.env = pure (clOf scope X.env)) (hs : ∀ x, foldedSetIterable iter X.env x = pure x)
    (I : Inv X pins σ H s) (r : Rel X.K F H m S) (l : RL X.K F H m σ L) (q : vComp fi ts n g fc fe L S = some (d, S2))
    (fin : ∀ p F' m' H' sx C, Inv X pins σ H' sx → Stp F m H F' m' H' → Rel X.K F' H' m' S2 → RP X.K F' H' d (.ref p) → H' C = none → X.s₀.heap.objs.size ≤ C → C ≠ X.env.locals → (∀ x c, X.env.cells.lookup x = some c → c ≠ C) → (∀ p ∈ X.pn ++ pins, p.1 ≠ C) →
      (∃ mC, sx.heap.Ns C mC) → compPost (model X.prog X.w) X.A X.xe use Q (.ref p) C (.ok .next) sx) :
    wpAny (model X.prog X.w) X.A (comprehension (.ListComp elt [⟨tg, iter, ifs, 0⟩] scope pos) scope X.env p2 (newList []) false (eval iter X.env) use) Q X.xe s := by
  obtain ⟨vs, S1, e1, q⟩ := bnd_eq q
  split at q
  case isFalse => cases q
  rename_i hfew
  obtain ⟨ys, S2', e2, q⟩ := bnd_eq q
  cases q
  refine wpAny_comprehension_free (use := use) rfl hs hclos B.kind B.loc (thn (hi pins s σ H _ I ⟨F, m, L, S, vs, S1, r, l, e1, fun J F1 m1 H1 s1 r1 it => (show (fun J H1 => ∃ F1 m1, Stp F m H F1 m1 H1 ∧ Rel X.K F1 H1 m1 S1 ∧ ItP X.K J vs F1 m1 H1) J H1 from ⟨F1, m1, s1, r1, it⟩)⟩) fun xv sA hA => thn hA fun itv s2 h2 => ?_)
  obtain ⟨it, fp, tn, J, H2, rfl, I2, T, st2, f2, F1, m1, s1, r1, itp⟩ := h2
  have hfp : ∀ b ∈ fp, b < s2.heap.objs.size := fun b hb => by
    obtain ⟨o, e, _⟩ := T.obj _ _ st2 b hb
    exact Heap.lt_size e
  refine wpAny_newObj_type ?_ (by show 0 ≤ sizeLine; exact Nat.zero_le _)
  refine wpAny_newFunctionEnv B.cell (by intro y hy; simp at hy) (fun h1 hns1 hsb1 => ?_) B.kind
  dsimp only at hns1 hsb1 ⊢
  have hD : H2 s2.heap.objs.size = none := I2.hok.fresh (Nat.le_refl _)
  generalize hH2 : s2.heap.push { cls := .type "list", dict := none, data := .seq ([] : List Value).toArray } = hp2 at hns1 hsb1 ⊢
  have hC : hp2.objs.size = s2.heap.objs.size + 1 := by rw [← hH2, Heap.size_push]
  have hCle : s2.heap.objs.size ≤ hp2.objs.size := by rw [hC]; exact Nat.le_succ _
  have old : ∀ b o, s2.heap.get? b = some o → h1.get? b = some o := fun b o e => hsb1.extBut b o (Nat.ne_of_lt (Nat.lt_of_lt_of_le (Heap.lt_size e) hCle)) (Heap.get?_push_of_some _ (hH2 ▸ Heap.get?_push_of_some _ e))
  have hDC : s2.heap.objs.size ≠ hp2.objs.size := by rw [hC]; exact Nat.ne_of_lt (Nat.lt_succ_self _)
  have accO : h1.get? s2.heap.objs.size = some { cls := .type "list", dict := none, data := .seq ([] : List Value).toArray } := hsb1.extBut _ _ hDC (Heap.get?_push_of_some _ (hH2 ▸ Heap.get?_push_size _ rfl))
  have hCn : H2 hp2.objs.size = none := I2.hok.fresh hCle
  have hCcell : ∀ x c, X.env.cells.lookup x = some c → c ≠ hp2.objs.size := fun x c e z => by
    obtain ⟨v, o, ho, _⟩ := I2.cell x c e
    exact absurd (Heap.lt_size ho) (Nat.not_lt.mpr (by rw [z]; exact hCle))
  have hCloc : hp2.objs.size ≠ X.env.locals := Nat.ne_of_gt (Nat.lt_of_lt_of_le I2.lt hCle)
  have hCpin : ∀ p ∈ X.pn ++ pins, p.1 ≠ hp2.objs.size := fun p hp z => absurd (Heap.lt_size (I2.pin p hp).1) (Nat.not_lt.mpr (by rw [z]; exact hCle))
  have I3 : Inv (inn X scope N' s2 H2 hp2.objs.size fp) [] (upL ts n σ) (upd H2 s2.heap.objs.size (.lst [])) { s2 with heap := h1, toks := s2.toks + ([] : List (Str × Value)).length } := by
    refine ⟨inn_ok B I2 hCle f2 hfp, rfl, I2.bare, Un.laid old (Nat.le_refl _) hD, ?_, fun x c e => ?_, ?_, fun x c e => ?_, fun p hp => absurd (show p ∈ ([] : List (Addr × Obj)) from hp) (by simp), ?_, ?_⟩
    · obtain ⟨m0, hn0, hl0⟩ := I2.loc
      refine ⟨_, hns1, fun i x v e1 e2 hv => ?_⟩
      obtain ⟨h1', h2', h3'⟩ := upL_get e2
      have hlen : σ.length = X.N.length := I2.len
      have hx : X.N[i]? = some x := by
        rw [B.names, List.getElem?_take_of_lt (by rw [← hlen]; exact h3')]
        exact e1
      have hv' : (relabel scope X.env).names.lookup x = some .local ∨ (relabel scope X.env).names.lookup x = some .cell ∨ (relabel scope X.env).names.lookup x = some .free := hv
      have nl : ¬ (relabel scope X.env).names.lookup x = some .local := fun z => by
        obtain ⟨k0, hm, e | ⟨e, _⟩⟩ := relabel_kind z
        · subst e; exact absurd (B.ts _ hm rfl i hx) h2'
        · cases e
      have fr : (x, NameKind.free) ∈ scope.names := by
        rcases hv' with z | z | z
        · exact absurd z nl
        · obtain ⟨k0, hm, e | ⟨_, e⟩⟩ := relabel_kind z
          · subst e; exact absurd rfl (B.cell _ hm)
          · subst e; exact hm
        · obtain ⟨k0, hm, e | ⟨e, _⟩⟩ := relabel_kind z
          · subst e; exact hm
          · cases e
      obtain ⟨_, hkc⟩ := B.fr _ fr rfl
      have vis : Vis X.env.scope x := by
        rcases hkc with z | z
        · exact .inr (.inl z)
        · exact .inr (.inr z)
      obtain ⟨u, ru, lk⟩ := hl0 i x v hx h1' vis
      refine ⟨u, ru, .inr ⟨?_, ?_⟩⟩
      · rcases hv' with z | z | z
        · exact absurd z nl
        · exact .inl z
        · exact .inr z
      · rcases lk with ⟨z, _⟩ | ⟨_, c, ec, ic⟩
        · rcases hkc with y | y
          · rw [z] at y; cases y
          · rw [z] at y; cases y
        · obtain ⟨c', hc'⟩ := B.has fr
          have := (B.cl I2 hc').1
          rw [ec] at this
          cases this
          obtain ⟨o, ho, hd⟩ := ic
          exact ⟨c, hc', o, old c o ho, hd⟩
    · obtain ⟨v, o, ho, hd⟩ := I2.cell x c (B.cl I2 e).1
      exact ⟨v, o, old c o ho, hd⟩
    · show upd H2 s2.heap.objs.size (.lst []) hp2.objs.size = none
      rw [upd_ne (Ne.symm hDC)]; exact hCn
    · obtain ⟨v, o, ho, hd⟩ := I2.cell x c (B.cl I2 e).1
      rw [upd_ne (Nat.ne_of_lt (Heap.lt_size ho))]
      exact I2.freeC x c (B.cl I2 e).1
    · exact I2.hok.laid old (Nat.le_refl _) ⟨Nat.zero_le _, [], 0, .nil, accO⟩
    · show (upL ts n σ).length = N'.length
      rw [upL_len, I2.len, B.more]
  have okX := inn_ok (C := hp2.objs.size) B I2 hCle f2 hfp
  have fpH : ∀ {H' : Hp}, (∀ b ∈ fp, H' b = none) → ∀ b ∈ fp, FpOk (inn X scope N' s2 H2 hp2.objs.size fp) [] H' b := fun hn b hb =>
    ⟨hn b hb, Nat.ne_of_lt (Nat.lt_of_lt_of_le (hfp b hb) hCle), okX.exfs b hb, .inl hb, (okX.exf b hb).2, fun p hp => absurd (show p ∈ ([] : List (Addr × Obj)) from hp) (by simp)⟩
  have tn1 : tn 0 h1 := T.keep _ _ _ st2 fun b hb o e => old b o e
  have loop : ∀ s3 : Shared, s3 = { s2 with heap := h1, toks := s2.toks + ([] : List (Str × Value)).length } →
      codeAny (model X.prog X.w) X.A (.compLoop (.ListComp elt [⟨tg, iter, ifs, 0⟩] scope pos) 0 (.ref it) (.ref s2.heap.objs.size) (compEnvC scope (clOf scope X.env) hp2.objs.size X.env))
        (compPost (model X.prog X.w) X.A X.xe use Q (.ref s2.heap.objs.size) hp2.objs.size) s3 := by
    rintro s3 rfl
    refine compLoopT (fun nn sx => ∃ (i : Nat) (σ' : L2.St) (F' : Addr → Prop) (m' : List Addr) (H' : Hp) (L' : Lc) (S' : Sto) (acc rest : List P) (xs : List V),
      Inv (inn X scope N' s2 H2 hp2.objs.size fp) [] σ' H' sx ∧ tn i sx.heap ∧ (∀ b ∈ fp, H' b = none) ∧ nn = vs.length - i ∧ i ≤ vs.length ∧ Stp F1 m1 H2 F' m' H' ∧ Rel X.K F' H' m' S' ∧ RL X.K F' H' m' σ' L' ∧
      H' s2.heap.objs.size = some (.lst xs) ∧ RPs X.K F' H' acc xs ∧ acc.length ≤ i ∧ ¬ F' s2.heap.objs.size ∧ s2.heap.objs.size ∉ m' ∧ compGo g fc fe (vs.drop i) L' S' = some (rest, S2) ∧ acc ++ rest = ys) ?_ vs.length ?_
    · rintro nn sx ⟨i, σ', F', m', H', L', S', acc, rest, xs, I', tn', fr', rfl, hi', st', r', l', hacc, ra, hal, nF, nm, go, rfl⟩
      obtain ⟨hgo, hstop⟩ := itp F' m' H' st'
      by_cases hlt : i < vs.length
      · have hv : vs[i]? = some vs[i] := by simp [hlt]
        rw [List.drop_eq_getElem_cons hlt] at go
        obtain ⟨hgo1, hy⟩ := hgo i _ hv
        refine wpAny_mono (T.item (inn X scope N' s2 H2 hp2.objs.size fp) rfl rfl rfl hcalm i [] sx σ' H' (fun _ _ => False) I' (fpH fr') tn' hgo1) (fun rr sy hr => ?_) (fun _ _ f => f.elim)
        obtain ⟨u, rfl, hr⟩ := hr
        refine wpAny_mono hr (fun _ sz hz => ?_) (fun _ _ f => f.elim)
        obtain ⟨x, H3, I4, rx, yl, tn4, fr4⟩ := hz
        obtain ⟨F3, gr, p3⟩ := hy x H3 yl
        have st4 : Stp F1 m1 H2 F3 m' H3 := st'.trans gr.stp
        have r4 := r'.grow gr
        have l4 := l'.mono (gr.stp (m := m'))
        have acc4 := gr.keep _ _ hacc
        have nF4 : ¬ F3 s2.heap.objs.size := fun z => by
          rcases gr.nf _ z with z | ⟨z, _⟩
          · exact nF z
          · rw [hacc] at z; cases z
        have I4' := I4.pinned (fpH fr4) (T.obj _ _ tn4)
        have back : ∀ {σ7 : L2.St} {H7 : Hp} {s7 : Shared}, Inv (inn X scope N' s2 H2 hp2.objs.size fp) ([] ++ pinsAt fp sz.heap) σ7 H7 s7 → tn (i + 1) s7.heap ∧ ∀ b ∈ fp, H7 b = none := fun {σ7 H7 s7} I7 =>
          ⟨T.keep _ _ _ tn4 fun b hb o e => (I7.pin (b, o) (List.mem_append_right _ (List.mem_append_right _ (mem_pinsAt hb e)))).1, fun b hb => by
            obtain ⟨o, e, dd⟩ := T.obj _ _ tn4 b hb
            exact (I7.pin (b, o) (List.mem_append_right _ (List.mem_append_right _ (mem_pinsAt hb e)))).2.1⟩
        unfold compGo at go
        cases eg : g vs[i] L' with
        | none => rw [eg] at go; cases go
        | some L1 =>
          rw [eg] at go
          dsimp only at go
          obtain ⟨kk, S5, e5, go⟩ := bnd_eq go
          refine wpAny_mono (hg s2 H2 hp2.objs.size fp _ sz σ' H3 x u (fun σ5 H5 => H5 = H3 ∧ RL X.K F3 H3 m' σ5 L1) I4' rx ⟨F3, m', L', vs[i], L1, l4, p3, eg, fun σ5 l5 => ⟨rfl, l5⟩⟩) (fun _ s5 h5 => ?_) (fun _ _ f => f.elim)
          obtain ⟨σ5, H5, I5, rfl, l5⟩ := h5
          -- the test
          have test : wpAny (model X.prog X.w) X.A (forIn ifs true fun c r => if r = true then do let ok ← isTrue c (compEnvC scope (clOf scope X.env) hp2.objs.size X.env) (eval c (compEnvC scope (clOf scope X.env) hp2.objs.size X.env)); pure (ForInStep.yield ok) else pure (ForInStep.yield r))
              (fun ok s6 => ok = kk ∧ ∃ F6 m6 H6, Inv (inn X scope N' s2 H2 hp2.objs.size fp) ([] ++ pinsAt fp sz.heap) σ5 H6 s6 ∧ Stp F3 m' H5 F6 m6 H6 ∧ Rel X.K F6 H6 m6 S5) (fun _ _ => False) s5 := by
            have hcc := hc s2 H2 hp2.objs.size fp
            cases hcc with
            | none =>
              cases e5
              exact wpAny_tests_nil ⟨rfl, F3, m', H5, I5, .refl, r4⟩
            | one hq =>
              refine wpAny_tests_one (wpAny_mono (hq _ s5 σ5 H5 (fun b H6 => b = kk ∧ ∃ F6 m6, Stp F3 m' H5 F6 m6 H6 ∧ Rel X.K F6 H6 m6 S5) I5 ⟨F3, m', L1, S', kk, S5, r4, l5, e5, fun F6 m6 H6 s6 r6 => ⟨rfl, F6, m6, s6, r6⟩⟩) (fun b s6 h6 => ?_) fun _ _ f => f)
              obtain ⟨H6, I6, rfl, F6, m6, st6, r6⟩ := h6
              exact ⟨rfl, F6, m6, H6, I6, st6, r6⟩
          refine wpAny_mono test (fun ok s6 h6 => ?_) (fun _ _ f => f.elim)
          obtain ⟨rfl, F6, m6, H6, I6, st6, r6⟩ := h6
          have acc6 := st6.oth _ _ acc4 nm
          have nm6 : s2.heap.objs.size ∉ m6 := fun z => by
            rcases st6.nm _ z with z | z
            · exact nm z
            · rw [acc4] at z; cases z
          have nF6 : ¬ F6 s2.heap.objs.size := fun z => by
            rcases st6.nf _ z with z | z | z
            · exact nF4 z
            · rw [acc4] at z; cases z
            · exact nm z
          have ra6 := RPs.mono st6 (ra.grow gr)
          have l6 := l5.mono st6
          cases ok with
          | false =>
            rw [if_neg Bool.false_ne_true] at go ⊢
            obtain ⟨t7, f7⟩ := back I6
            exact ⟨vs.length - (i + 1), by omega, i + 1, σ5, F6, m6, H6, L1, S5, acc, rest, xs, I6.pins_of fun p hp => absurd hp (by simp), t7, f7, rfl, hlt, st4.trans st6, r6, l6, acc6, ra6, Nat.le_succ_of_le hal, nF6, nm6, go, rfl⟩
          | true =>
            rw [if_pos rfl] at go ⊢
            obtain ⟨y, S8, e8, go⟩ := bnd_eq go
            obtain ⟨zs, S9, e9, go⟩ := bnd_eq go
            cases go
            refine wpAny_mono (he s2 H2 hp2.objs.size fp _ s6 σ5 H6 (fun v8 H8 => ∃ F8 m8, Stp F6 m6 H6 F8 m8 H8 ∧ Rel X.K F8 H8 m8 S8 ∧ RP X.K F8 H8 y v8) I6 ⟨F6, m6, L1, S5, y, S8, r6, l6, e8, fun v8 F8 m8 H8 s8 r8 p8 => ⟨F8, m8, s8, r8, p8⟩⟩) (fun u8 s8 h8 => ?_) (fun _ _ f => f.elim)
            obtain ⟨v8, H8, I8, rv8, F8, m8, st8, r8, p8⟩ := h8
            have acc8 := st8.oth _ _ acc6 nm6
            have nm8 : s2.heap.objs.size ∉ m8 := fun z => by
              rcases st8.nm _ z with z | z
              · exact nm6 z
              · rw [acc6] at z; cases z
            have nF8 : ¬ F8 s2.heap.objs.size := fun z => by
              rcases st8.nf _ z with z | z | z
              · exact nF6 z
              · rw [acc6] at z; cases z
              · exact nm6 z
            have ra8 := RPs.mono st8 ra6
            have nt8 : ∀ zs, H8 s2.heap.objs.size ≠ some (.tup zs) := fun zs z => by rw [acc8] at z; cases z
            have hl8 : xs.length < sizeLine := by
              have h9 : vs.length ≤ 1000000 := of_decide_eq_true hfew
              rw [← ra8.length]
              exact Nat.lt_of_lt_of_le (Nat.lt_of_le_of_lt hal hlt) (Nat.le_trans h9 (by decide))
            refine wpAny_mono (mt_append (X := inn X scope N' s2 H2 hp2.objs.size fp) _ s8 σ5 H8 (.ref s2.heap.objs.size) [v8] (.ref s2.heap.objs.size) [u8] (fun _ H9 => H9 = upd H8 s2.heap.objs.size (.lst (xs ++ [v8]))) I8 rfl (.cons rv8 .nil) ⟨_, xs, v8, rfl, rfl, acc8, hl8, rfl⟩) (fun _ s9 h9 => ?_) (fun _ _ f => f.elim)
            obtain ⟨_, H9, I9, _, rfl⟩ := h9
            obtain ⟨t9, f9⟩ := back I9
            have kb : Kp F8 m8 H8 F8 m8 (upd H8 s2.heap.objs.size (.lst (xs ++ [v8]))) := Kp.bump nF8 nt8
            have st9 : Stp F1 m1 H2 F8 m8 (upd H8 s2.heap.objs.size (.lst (xs ++ [v8]))) := (st4.trans (st6.trans st8)).bump hD
            have l9 : RL X.K F8 (upd H8 s2.heap.objs.size (.lst (xs ++ [v8]))) m8 σ5 L1 := ⟨l6.len, fun j dd e => by
              obtain ⟨v, e1, rr⟩ := (l6.mono st8).at' j dd e
              exact ⟨v, e1, RD.kp kb rr⟩⟩
            exact ⟨vs.length - (i + 1), by omega, i + 1, σ5, F8, m8, _, L1, S8, acc ++ [y], zs, xs ++ [v8], I9.pins_of fun p hp => absurd hp (by simp), t9, f9, rfl, hlt, st9, r8.bump nF8 nm8 nt8, l9, upd_same,
              RPs.kp kb (ra8.append ⟨v8, [], rfl, p8, rfl⟩), by rw [List.length_append]; exact Nat.succ_le_succ hal, nF8, nm8, e9, by simp⟩
      · have e : i = vs.length := by omega
        subst e
        rw [List.drop_length] at go
        cases go
        refine wpAny_mono (T.done (inn X scope N' s2 H2 hp2.objs.size fp) rfl rfl rfl hcalm vs.length [] sx σ' H' (fun _ _ => False) I' (fpH fr') tn' hstop) (fun rr sy hr => ?_) (fun _ _ f => f.elim)
        obtain ⟨rfl, I5⟩ := hr
        rw [List.append_nil] at *
        have Iout : Inv X pins σ H' sy := I2.call' (ch := fp) I5.os I5.base I5.hok I5.bare fun b hb => ⟨(f2 b hb).2.2.2.1, (f2 b hb).2.1, (f2 b hb).2.2.2.2.1, (f2 b hb).2.2.2.2.2⟩
        have hD0 : H s2.heap.objs.size = none := by
          cases q : H s2.heap.objs.size with
          | none => rfl
          | some o => exact absurd hD (s1.trk _ (by rw [q]; exact fun z => nomatch z))
        have hCH : H' hp2.objs.size = none := I5.free
        obtain ⟨mC, hmC, _⟩ := I5.loc
        exact fin s2.heap.objs.size (fun b => F' b ∨ b = s2.heap.objs.size) m' H' sy hp2.objs.size Iout ((s1.trans st').addF hD0) (r'.addF nm (by rw [hacc]; exact fun z => nomatch z))
          ⟨_, xs, rfl, ⟨.inr rfl, hacc⟩, RPs.kp (m := m') kpF ra⟩ hCH (Nat.le_trans I2.sz hCle) hCloc hCcell hCpin ⟨mC, hmC⟩
    · exact ⟨0, _, F1, m1, _, upL ts n L, S1, [], ys, [], I3, tn1, fun b hb => by rw [upd_ne (Nat.ne_of_lt (hfp b hb))]; exact (f2 b hb).1, rfl, Nat.zero_le _, (grow_new hD).stp, r1.grow (grow_new hD), ((l.mono s1).mono (grow_new hD).stp).up ts n, upd_same, rfl, Nat.zero_le _, r1.fresh_F hD, r1.fresh_m hD, by rw [List.drop_zero]; exact e2, rfl⟩
  exact codeAny_compStart_list (loop _ rfl) (T.self X.A 0 _ _ _ tn1 (loop _ rfl))
theorem xComp {elt iter tg : Expr} {ifs : List Expr} {pos : Pos} {fi : EVs} {g : TGv} {fc : EB} {fe : EV} (B : BlockOk X scope N' ts n) (hcalm : X.calm = true)
    (hi : PI X tg iter (tI X.K fi)) (hg : ∀ s H C fp, PG (inn X scope N' s H C fp) tg (gT X.K g)) (hc : ∀ s H C fp, PIfs (inn X scope N' s H C fp) ifs fc) (he : ∀ s H C fp, PE (inn X scope N' s H C fp) elt (tV X.K fe))
    (hclos : closureFor scope X.env = pure (clOf scope X.env)) (hs : ∀ x, foldedSetIterable iter X.env x = pure x := by intro _; rfl) :
    PE X (.ListComp elt [⟨tg, iter, ifs, 0⟩] scope pos) (tV X.K (vComp fi ts n g fc fe)) := by
  intro pins s σ H Q I ⟨F, m, L, S, d, S', r, l, q, k⟩
  rw [eval_ListComp]
  refine comp_core B hcalm hi hg hc he hclos hs I r l q fun p F' m' H' sx C I' st r' rp hC h0 h1 h2 h3 ⟨mC, hmC⟩ => ?_
  exact ⟨mC, hmC, fun h' sb => ⟨.ref p, H', I'.letGo sb hC h0 h1 h2 h3, rfl, k _ F' m' H' st r' rp⟩⟩
theorem zComp (i : Nat) {x : Str} {px spos : Pos} {elt iter tg : Expr} {ifs : List Expr} {pos : Pos} {fi : EVs} {g : TGv} {fc : EB} {fe : EV} (hN : X.N.Nodup) (B : BlockOk X scope N' ts n) (hcalm : X.calm = true)
    (hi : PI X tg iter (tI X.K fi)) (hg : ∀ s H C fp, PG (inn X scope N' s H C fp) tg (gT X.K g)) (hc : ∀ s H C fp, PIfs (inn X scope N' s H C fp) ifs fc) (he : ∀ s H C fp, PE (inn X scope N' s H C fp) elt (tV X.K fe))
    (hclos : closureFor scope X.env = pure (clOf scope X.env)) (hsw : swapsWith (.ListComp elt [⟨tg, iter, ifs, 0⟩] scope pos) (some (.Name x px)) spos.line X.env = pure true := by rfl)
    (hs : ∀ x, foldedSetIterable iter X.env x = pure x := by intro _; rfl) (hix : X.N[i]? = some x := by rfl) (hx : Loc X.env.scope x := by first | exact Or.inl rfl | exact Or.inr rfl)
    (hf : X.fn x = true ∨ X.env.scope.names.lookup x = some .local := by first | exact .inl rfl | exact .inr rfl | assumption) :
    PS X (.Assign [.Name x px] (.ListComp elt [⟨tg, iter, ifs, 0⟩] scope pos) spos) (tSt X.K (sSet i (eV (vComp fi ts n g fc fe)))) := by
  intro pins s σ H D I ⟨F, m, L, S, fl, L', S', r, l, q, k⟩
  obtain ⟨d, S1, e1, q⟩ := bnd_eq q
  cases q
  obtain ⟨v, S2, e2, e3⟩ := bnd_eq e1
  cases e3
  rw [exec_Assign_Name_used _ _ _ _ hsw]
  refine wpAny_bind (wpAny_standAt (wpAny_bind ?_))
  show wpAny _ _ (do let _ ← comprehension (.ListComp elt [⟨tg, iter, ifs, 0⟩] scope pos) scope X.env _ (newList []) false (eval iter X.env) (some (assign (.Name x px) X.env))) _ _ s
  refine wpAny_bind (wpAny_mono (comp_core (use := some (assign (.Name x px) X.env)) (Q := fun _ s' => SP X pins D .next s') B hcalm hi hg hc he hclos hs I r l e2 fun p F' m' H' sx C I' st r' rp hC h0 h1 h2 h3 ⟨mC, hmC⟩ => ?_) (fun _ s' hq => wpAny_pure (wpAny_pure hq)) fun _ _ e => e)
  refine wpAny_assign_Name (store_ok2 I' hN hix hx (v := .ref p) rfl (fun s' I'' keep => ?_) hf)
  refine ⟨mC, ?_, fun h' sb => ⟨_, H', I''.letGo sb hC h0 h1 h2 h3, k _ F' m' H' st r' ((l.mono st).set (d := .p v) rp i)⟩⟩
  obtain ⟨a, sbA, ha⟩ := keep
  refine hmC.sameBut sbA ?_
  rcases ha with ha | ha
  · rw [ha]; exact h1
  · exact Ne.symm (h2 x a ha)
end
end Ev
namespace Ev
open PySem PySem.Spec PyProof.Rows L2
section
variable {X : Cx} {a b e : Expr} {es : List Expr} {fa fb : EV} {fs : EVs} {pos p : Pos}
noncomputable def dNeg : P → Option P
  | .int i => some (.int (-i))
  | _ => none
theorem xNeg (ha : PE X a (tV X.K fa)) : PE X (.UnaryOp .USub a pos) (tV X.K (vUn dNeg fa)) := (pe_un un_neg ha).imp' fun σ H Q ⟨F, m, L, S, d, S', r, l, q, k⟩ => by
  obtain ⟨x, S1, e1, q⟩ := bnd_eq q
  cases x with
  | int i => cases q; exact ⟨F, m, L, S, _, _, r, l, e1, fun v F' m' H' s r' p => ⟨i, p, k _ F' m' H' s r' rfl⟩⟩
  | _ => cases q
noncomputable def tyN : P → String
  | .non => "NoneType"
  | .bl _ => "bool"
  | .int _ => "int"
  | .str _ => "str"
  | .tup _ => "tuple"
  | .lst _ => "list"
  | .ro _ => "list"
  | .dct _ _ => "dict"
noncomputable def isiP (T : String) (v : P) : Bool := tyN v == T || (T == "int" && tyN v == "bool")
theorem call_isi {T : String} (hT : ∀ K : PySem.W.Frag, ∀ v : P, PySem.W.kitOne K (.type (tyN v)) (.type T) = some (isiP T v)) :
    CallR X (.builtin "isinstance") (fun xs H Q => ∃ F d x, xs = [x, .ty T] ∧ RP X.K F H d x ∧ Q (.bl (isiP T d)) H) := by
  intro pins s σ H xs us Q I r h
  obtain ⟨F, d, x, rfl, pd, q⟩ := h
  obtain ⟨u, w', rfl, ru, rw'⟩ := vals2 r
  cases (show w' = Value.type T from rw')
  have e := hT X.K d
  have fin : ∀ tk, EP X pins σ Q (.bool (isiP T d)) { s with toks := tk } := fun tk => ⟨.bl (isiP T d), H, I.tok _, rfl, q⟩
  cases d with
  | non => cases (show x = .non from pd); exact isinst_ok I ru (.non) e fin
  | bl y => cases (show x = .bl y from pd); exact isinst_ok I ru (.bl y) e fin
  | int y => cases (show x = .int y from pd); exact isinst_ok I ru (.int y) e fin
  | str y => cases (show x = .str y from pd); exact isinst_ok I ru (.str y) e fin
  | tup ds =>
    obtain ⟨a, xs, rfl, ta, ra⟩ := pd
    cases ru
    obtain ⟨its, _, ⟨o, h1, h2, _⟩, _⟩ := I.tuple ta.sq
    exact PySem.W.kia_one PySem.W.kitx_tuple I.kIn ⟨o, h1, h2⟩ e (fun z => nomatch z) fin
  | lst ds =>
    obtain ⟨a, xs, rfl, ta, ra⟩ := pd
    cases ru
    obtain ⟨its, _, pl, _⟩ := I.list ta.sq
    obtain ⟨o, n, h1, h2, _⟩ := pl
    exact PySem.W.kia_one PySem.W.kitx_list I.kIn ⟨o, h1, h2⟩ e (fun z => nomatch z) fin
  | ro ds =>
    obtain ⟨a, xs, rfl, ta, ra⟩ := pd
    cases ru
    obtain ⟨its, _, pl, _⟩ := I.list ta.sq
    obtain ⟨o, n, h1, h2, _⟩ := pl
    exact PySem.W.kia_one PySem.W.kitx_list I.kIn ⟨o, h1, h2⟩ e (fun z => nomatch z) fin
  | dct ks vs =>
    obtain ⟨a, kvs, rfl, _, hk, _⟩ := pd
    exact isinst_ok I ru (.dK hk) e fin
theorem kit_tuple (K : PySem.W.Frag) (v : P) : PySem.W.kitOne K (.type (tyN v)) (.type "tuple") = some (isiP "tuple" v) := by cases v <;> rfl
theorem kit_list (K : PySem.W.Frag) (v : P) : PySem.W.kitOne K (.type (tyN v)) (.type "list") = some (isiP "list" v) := by cases v <;> rfl
noncomputable def c_int : List P → Option P
  | [.int i] => some (.int i)
  | [.bl b] => some (.int (if b then 1 else 0))
  | _ => none
theorem rps1 {K : PySem.W.Frag} {F : Addr → Prop} {H : Hp} {d : P} {xs : List V} (r : RPs K F H [d] xs) : ∃ x, xs = [x] ∧ RP K F H d x := by
  obtain ⟨x, r1, rfl, p1, r2⟩ := r
  cases (show r1 = [] from r2)
  exact ⟨x, rfl, p1⟩
theorem callInt : CallR X (.type "int") (rC X.K c_int) := by
  intro pins s σ H xs us Q I r h
  obtain ⟨F, ds, d, ft, rs, q, k⟩ := h
  unfold c_int at q
  split at q
  · cases q
    obtain ⟨x, rfl, p1⟩ := rps1 rs
    exact call_int1 pins s σ H _ us Q I r (.inl ⟨_, by rw [show x = _ from p1], k _ F H .refl rfl⟩)
  · cases q
    obtain ⟨x, rfl, p1⟩ := rps1 rs
    exact call_int1 pins s σ H _ us Q I r (.inr ⟨_, by rw [show x = _ from p1], k _ F H .refl rfl⟩)
  · cases q
theorem x_int (hg : Gl X "int") (hm : X.mg "int" = none) (ha : PA X (e :: es) (tVs X.K fs))
    (he : starEach (e :: es) X.env = (false, eval e X.env) :: starEach es X.env := by rfl) (hpl : (backTo pos (starEach es X.env)).any (·.1) = false := by rfl) : PE X (.Call (.Name "int" p) (e :: es) [] pos) (tV X.K (vCall c_int fs)) := xCallT callInt hg hm PyProof.Rows.boot_int ha (by decide) (by decide) he hpl
end
end Ev
namespace Ev
open PySem PySem.Spec PyProof.Rows L2
section
variable {X : Cx} {a b c e : Expr} {es : List Expr} {fa fb fc : EV} {fs : EVs} {pos p : Pos}
noncomputable def intsOf : List P → Option (List Int)
  | [] => some []
  | .int i :: r => (intsOf r).map (i :: ·)
  | _ :: _ => none
noncomputable def dEqD : P → P → Option P
  | .dct ks vs, .dct ks' vs' => if ks = ks' ∧ ks.Nodup ∧ (intsOf vs).isSome = true ∧ intsOf vs = intsOf vs' then some (.bl true) else none
  | x, y => dEq x y
theorem valueAt_cons_ne {k k' : Key} {v : Value} {r : List (Key × Value)} (h : ¬ k' = k) : valueAt ((k', v) :: r) k = valueAt r k := by simp [valueAt, List.find?_cons, h]
theorem valueAt_cons_eq {k : Key} {v : Value} {r : List (Key × Value)} : valueAt ((k, v) :: r) k = some v := by simp [valueAt, List.find?_cons]
theorem keq_hits {K : PySem.W.Frag} {F : Addr → Prop} {H : Hp} {A : Around} {s : Shared} : ∀ {kvs kvs' : List (Key × V)} {ws ws' : List (Key × Value)} {ds ds' : List P} {is : List Int}, (kvs.map (·.1)).Nodup → kvs.map (·.1) = kvs'.map (·.1) → KV kvs ws → KV kvs' ws' →
    RPs K F H ds (kvs.map (·.2)) → RPs K F H ds' (kvs'.map (·.2)) → intsOf ds = some is → intsOf ds' = some is → ∀ {kb : List (Key × Value)}, (∀ k v, valueAt ws' k = some v → k ∈ kvs'.map (·.1) → valueAt kb k = some v) → PySem.W.KeqHits A s kb ws true
  | [], [], ws, ws', ds, ds', is, nd, e, k1, k2, r1, r2, i1, i2, kb, hk => by cases k1; exact .nil
  | [], _ :: _, _, _, _, _, _, _, e, _, _, _, _, _, _, _, _ => by simp at e
  | _ :: _, [], _, _, _, _, _, _, e, _, _, _, _, _, _, _, _ => by simp at e
  | (k, v) :: kvs, (k', v') :: kvs', ws, ws', ds, ds', is, nd, e, k1, k2, r1, r2, i1, i2, kb, hk => by
    cases k1 with
    | @cons _ q _ qs h1 t1 =>
      cases k2 with
      | @cons _ q' _ qs' h2 t2 =>
        obtain ⟨kq, u⟩ := q
        obtain ⟨kq', u'⟩ := q'
        obtain ⟨e1, rv⟩ := h1
        obtain ⟨e2, rv'⟩ := h2
        dsimp only at e1 e2 rv rv'
        subst e1; subst e2
        rw [List.map_cons, List.map_cons] at e
        injection e with ek er
        dsimp only at ek
        subst ek
        rw [List.map_cons] at nd
        obtain ⟨nd1, nd2⟩ := List.nodup_cons.mp nd
        cases ds with
        | nil => have := RPs.length r1; simp at this
        | cons d dr =>
          cases ds' with
          | nil => have := RPs.length r2; simp at this
          | cons d' dr' =>
            obtain ⟨x, xr, ex, p1, q1⟩ := r1
            obtain ⟨x', xr', ex', p1', q1'⟩ := r2
            rw [List.map_cons] at ex ex'
            injection ex with exa exb
            injection ex' with exa' exb'
            subst exa exb exa' exb'
            cases d with
            | int i =>
              cases d' with
              | int i' =>
                simp only [intsOf] at i1 i2
                cases ei : intsOf dr with
                | none => rw [ei] at i1; cases i1
                | some js =>
                  cases ei' : intsOf dr' with
                  | none => rw [ei'] at i2; cases i2
                  | some js' =>
                    rw [ei] at i1; rw [ei'] at i2
                    cases i1
                    have i2' : i' :: js' = i :: js := Option.some.inj i2
                    injection i2' with z1 z2
                    subst z1; subst z2
                    cases (show v = .int i' from p1)
                    cases (show v' = .int i' from p1')
                    obtain ⟨t, rfl⟩ := rv
                    obtain ⟨t', rfl⟩ := rv'
                    have hy : valueAt kb k = some (.int i' t') := hk k _ valueAt_cons_eq (by simp)
                    have eqa : SeqAt.EqAt A s (.int i' t) (.int i' t') true := by
                      have := SeqAt.EqAt.int_int (A := A) (s := s) i' t i' t'
                      simpa using this
                    have rest := keq_hits (A := A) (s := s) nd2 er t1 t2 q1 q1' ei ei' (kb := kb) fun k2 v2 hv hm => by
                      refine hk k2 v2 ?_ (List.mem_cons_of_mem _ hm)
                      have : ¬ k = k2 := fun z => by subst z; rw [← er] at hm; exact nd1 hm
                      rw [valueAt_cons_ne this]; exact hv
                    have := PySem.W.KeqHits.hit (e := true) (b := true) hy eqa rest
                    exact this
              | _ => simp [intsOf] at i2
            | _ => simp [intsOf] at i1
theorem opEqD (hu : X.A.units + 1 < cLine) : OpP X (compareOp .Eq) dEqD := by
  intro pins s σ H x y v u Q I rx ry h
  obtain ⟨F, dx, dy, d, ft, px, py, q, k⟩ := h
  have other : dEq dx dy = some d → wpAny (model X.prog X.w) X.A (compareOp .Eq v u) (EP X pins σ Q) X.xe s := fun q => opEq pins s σ H x y v u Q I rx ry ⟨F, dx, dy, d, ft, px, py, q, k⟩
  cases dx with
  | dct ks vs =>
    cases dy with
    | dct ks' vs' =>
      simp only [dEqD] at q
      split at q
      · rename_i hc
        cases q
        obtain ⟨ek, nd, hs, hi⟩ := hc
        obtain ⟨a, kvs, rfl, fa, hka, e1, ra⟩ := px
        obtain ⟨b, kvs', rfl, fb, hkb, e2, rb⟩ := py
        cases rx; cases ry
        obtain ⟨za, ha, ws, relA, da⟩ := dk_of I.hok hka
        obtain ⟨zb, hb, ws', relB, db⟩ := dk_of I.hok hkb
        obtain ⟨is, his⟩ := Option.isSome_iff_exists.mp hs
        subst e1
        have hits := keq_hits (A := X.A.in1) (s := s) nd (by rw [e2]; exact ek) relA relB ra rb his (by rw [← hi]; exact his) (kb := ws') fun _ _ h _ => h
        refine PySem.W.keq_eq ha hb da db (by omega) (fun _ => hits) ?_
        have hl : ws.length = ws'.length := by
          have l1 := relA.length
          have l2 := relB.length
          have l3 := congrArg List.length ek
          rw [← e2, List.length_map, List.length_map] at l3
          omega
        rw [hl]
        simp only [beq_self_eq_true, Bool.and_self]
        exact ⟨.bl true, H, I, rfl, k _ F H .refl rfl⟩
      · cases q
    | _ => exact other q
  | _ => exact other q
noncomputable def itS (a : EV) : EVs := fun L S => bnd (a L S) fun v S1 => match v with
  | .lst xs => some (xs, S1)
  | .ro xs => some (xs, S1)
  | .tup xs => some (xs, S1)
  | _ => none
theorem iS {tg iter : Expr} (h : PE X iter (tV X.K fa)) : PI X tg iter (tI X.K (itS fa)) := by
  intro pins s σ H R I ⟨F, m, L, S, vs, S', r, l, q, k⟩
  obtain ⟨v, S1, e1, q⟩ := bnd_eq q
  refine thn (h pins s σ H (fun x H1 => ∃ F1 m1, Stp F m H F1 m1 H1 ∧ Rel X.K F1 H1 m1 S1 ∧ RP X.K F1 H1 v x) I ⟨F, m, L, S, v, S1, r, l, e1, fun x F1 m1 H1 s1 r1 p1 => ⟨F1, m1, s1, r1, p1⟩⟩) fun u s1 ⟨x, H1, I1, rx, F1, m1, st, r1, p1⟩ => ?_
  have mk : ∀ {J : It}, ItP X.K J vs F1 m1 H1 → S1 = S' → R J H1 := fun it e => by subst e; exact k _ F1 m1 H1 st r1 it
  have listCase : ∀ {a : Addr} {xs : List V}, x = .ref a → SqL X.K H1 a xs → R (Itl X.K a) H1 → wpAny (model X.prog X.w) X.A (pyIter u) (PIE X pins σ tg R) X.xe s1 := fun {a xs} e hq q => by
    subst e
    cases rx
    obtain ⟨its, rv, p, hz⟩ := I1.list hq
    refine wpAny_pyIter_list p.isList ?_
    refine ⟨s1.heap.objs.size, [s1.heap.objs.size], _, _, H1, rfl, I1.kept (t' := s1.toks) fun b o e => Heap.get?_push_of_some _ e, turn_list a _, ⟨_, Heap.get?_push_size _ rfl, rfl, rfl⟩, fun b hb => ?_, q⟩
    have e : b = s1.heap.objs.size := by simpa using hb
    subst e
    exact I1.fpOk (Nat.le_refl _) (I1.hok.fresh (Nat.le_refl _))
  cases v with
  | lst ds =>
    cases q
    obtain ⟨a, xs, rfl, ta, ra⟩ := p1
    exact listCase rfl ta.sq (mk (itl_ok (fun F2 m2 H2 s => (ta.kp s.kp).sq) ra) rfl)
  | ro ds =>
    cases q
    obtain ⟨a, xs, rfl, ta, ra⟩ := p1
    exact listCase rfl ta.sq (mk (itl_ok (fun F2 m2 H2 s => (ta.kp s.kp).sq) ra) rfl)
  | tup ds =>
    cases q
    obtain ⟨a, xs, rfl, ta, ra⟩ := p1
    cases rx
    obtain ⟨its, rv, pp, hz⟩ := I1.tuple ta.sq
    refine wpAny_pyIter_tuple (show s1.heap.IsTuple a its.toArray from pp) ?_
    refine ⟨s1.heap.objs.size, [s1.heap.objs.size], _, _, H1, rfl, I1.kept (t' := s1.toks) fun b o e => Heap.get?_push_of_some _ e, turn_tuple a _, ⟨_, Heap.get?_push_size _ rfl, rfl, rfl⟩, fun b hb => ?_, mk (itt_ok ta ra) rfl⟩
    have e : b = s1.heap.objs.size := by simpa using hb
    subst e
    exact I1.fpOk (Nat.le_refl _) (I1.hok.fresh (Nat.le_refl _))
  | _ => cases q
end
end Ev
namespace Ev
open PySem PySem.Spec PyProof.Rows L2
section
variable {X : Cx} {pos p : Pos}
noncomputable abbrev DE := List (Str × EV)
end
end Ev
namespace Ev
open PySem PySem.Spec PyProof.Rows L2
mutual
noncomputable def pd : P → PyData
  | .non => .none
  | .bl b => .bool b
  | .int i => .int i
  | .str x => .str x
  | .tup xs => .tuple (pds xs)
  | .lst xs => .list (pds xs)
  | .ro xs => .list (pds xs)
  | .dct _ _ => .none
noncomputable def pds : List P → List PyData
  | [] => []
  | x :: r => pd x :: pds r
end
noncomputable def okP : Nat → P → Bool
  | _, .non => true
  | _, .bl _ => true
  | _, .int _ => true
  | _, .str x => PyData.strOk x
  | n + 1, .tup xs => xs.all (okP n)
  | n + 1, .lst xs => xs.all (okP n)
  | n + 1, .ro xs => xs.all (okP n)
  | _, _ => false
theorem okP_lay : ∀ (n : Nat) (p : P), okP n p = true → (pd p).canLay0 = true ∧ (pd p).depth ≤ n := by
  have all : ∀ (n : Nat), (∀ p, okP n p = true → (pd p).canLay0 = true ∧ (pd p).depth ≤ n) → ∀ ds : List P, (∀ d ∈ ds, okP n d = true) → PyData.canLayAll0 (pds ds) = true ∧ PyData.depthAll (pds ds) ≤ n := by
    intro n ih ds
    induction ds with
    | nil => intro _; simp [pds, PyData.canLayAll0, PyData.depthAll]
    | cons d ds hi =>
      intro h
      have h1 := ih d (h d (.head _))
      have h2 := hi fun e he => h e (.tail _ he)
      simp only [pds, PyData.canLayAll0, PyData.depthAll, h1.1, h2.1, Bool.and_self, true_and]
      have a1 := h1.2
      have a2 := h2.2
      omega
  intro n
  induction n with
  | zero =>
    intro p h
    cases p <;> simp_all [okP, pd, PyData.canLay0, PyData.depth]
  | succ n ih =>
    intro p h
    cases p with
    | non => simp [pd, PyData.canLay0, PyData.depth]
    | bl b => simp [pd, PyData.canLay0, PyData.depth]
    | int i => simp [pd, PyData.canLay0, PyData.depth]
    | str x => simp [okP] at h; simp [pd, PyData.canLay0, PyData.depth, h]
    | dct ks vs => simp [okP] at h
    | tup ds =>
      have q := all n ih ds (by simpa [okP] using h)
      have q2 := q.2
      simp only [pd, PyData.canLay0, PyData.depth, q.1, true_and]
      omega
    | lst ds =>
      have q := all n ih ds (by simpa [okP] using h)
      have q2 := q.2
      simp only [pd, PyData.canLay0, PyData.depth, q.1, true_and]
      omega
    | ro ds =>
      have q := all n ih ds (by simpa [okP] using h)
      have q2 := q.2
      simp only [pd, PyData.canLay0, PyData.depth, q.1, true_and]
      omega
theorem okP_shaped {p : P} (h : okP 20 p = true) : SeqAt.shaped (pd p) = true := by
  obtain ⟨h1, h2⟩ := okP_lay 20 p h
  unfold SeqAt.shaped
  rw [h1, Bool.true_and]
  exact decide_eq_true (by omega)
section
variable {X : Cx} {pins : List (Addr × Obj)} {σ : L2.St} {H : Hp} {s : Shared} {F : Addr → Prop}
theorem readsAll_of {n : Nat} (one : ∀ {p : P} {v : V} {u : Value}, RP X.K F H p v → RelV v u → okP n p = true → ∃ as, Reads s.heap u (pd p) as) :
    ∀ {ds : List P} {xs : List V} {us : List Value}, RPs X.K F H ds xs → Vals xs us → (∀ d ∈ ds, okP n d = true) → ∃ as, ReadsAll s.heap us (pds ds) as
  | [], xs, us, r, v, _ => by
    cases (show xs = [] from r)
    cases v
    exact ⟨_, .nil⟩
  | d :: ds, xs, us, r, v, h => by
    obtain ⟨x, xr, rfl, p, r⟩ := r
    cases v with
    | cons ru rr =>
      obtain ⟨as, q⟩ := one p ru (h d (.head _))
      obtain ⟨bs, q2⟩ := readsAll_of one r rr fun e he => h e (.tail _ he)
      exact ⟨_, .cons q q2⟩
theorem reads_of (I : Inv X pins σ H s) : ∀ (n : Nat) {p : P} {v : V} {u : Value}, RP X.K F H p v → RelV v u → okP n p = true → ∃ as, Reads s.heap u (pd p) as := by
  intro n
  induction n with
  | zero =>
    intro p v u r rv h
    cases p with
    | non => cases (show v = .non from r); cases rv; exact ⟨_, .none⟩
    | bl b => cases (show v = .bl b from r); cases rv; exact ⟨_, .bool b⟩
    | int i => cases (show v = .int i from r); obtain ⟨t, rfl⟩ := rv; exact ⟨_, .int i t⟩
    | str x => cases (show v = .str x from r); obtain ⟨t, rfl⟩ := rv; exact ⟨_, .str x t⟩
    | _ => simp [okP] at h
  | succ n ih =>
    intro p v u r rv h
    cases p with
    | non => cases (show v = .non from r); cases rv; exact ⟨_, .none⟩
    | bl b => cases (show v = .bl b from r); cases rv; exact ⟨_, .bool b⟩
    | int i => cases (show v = .int i from r); obtain ⟨t, rfl⟩ := rv; exact ⟨_, .int i t⟩
    | str x => cases (show v = .str x from r); obtain ⟨t, rfl⟩ := rv; exact ⟨_, .str x t⟩
    | dct ks vs => simp [okP] at h
    | tup ds =>
      obtain ⟨a, xs, rfl, ta, ra⟩ := r
      cases rv
      obtain ⟨its, rvs, ⟨o, e, c, m, d⟩, hz⟩ := I.tuple ta.sq
      obtain ⟨as, q⟩ := readsAll_of ih ra rvs (by simpa [okP] using h)
      rw [pd]
      exact ⟨as, reads_tuple_at e c d (by simpa using q)⟩
    | lst ds =>
      obtain ⟨a, xs, rfl, ta, ra⟩ := r
      cases rv
      obtain ⟨its, rvs, ⟨o, m, e, c, _, d⟩, hz⟩ := I.list ta.sq
      obtain ⟨as, q⟩ := readsAll_of ih ra rvs (by simpa [okP] using h)
      rw [pd]
      exact ⟨_, reads_list_at e c d (by simpa using q)⟩
    | ro ds =>
      obtain ⟨a, xs, rfl, ta, ra⟩ := r
      cases rv
      obtain ⟨its, rvs, ⟨o, m, e, c, _, d⟩, hz⟩ := I.list ta.sq
      obtain ⟨as, q⟩ := readsAll_of ih ra rvs (by simpa [okP] using h)
      rw [pd]
      exact ⟨_, reads_list_at e c d (by simpa using q)⟩
end
noncomputable def mapO (f : D → Option P) : List D → Option (List P)
  | [] => some []
  | d :: r => (f d).bind fun v => (mapO f r).map fun vs => v :: vs
noncomputable def snap (S : Sto) : Nat → D → Option P
  | _, .p v => some v
  | 0, .ref _ => none
  | n + 1, .ref i => match S[i]? with
    | some (.lst ds) => (mapO (snap S n) ds).map .lst
    | some (.fz v) => some v
    | _ => none
@[simp] theorem snap_p (S : Sto) (n : Nat) (v : P) : snap S n (.p v) = some v := by cases n <;> rfl
theorem mapO_ps (S : Sto) (n : Nat) : ∀ vs : List P, mapO (snap S n) (vs.map .p) = some vs
  | [] => rfl
  | v :: r => by simp [mapO, mapO_ps S n r]
section
variable {X : Cx} {pins : List (Addr × Obj)} {σ : L2.St} {H : Hp} {s : Shared} {F : Addr → Prop} {m : List Addr} {S : Sto}
theorem mapO_reads {k n : Nat} (one : ∀ {d : D} {v : V} {u : Value} {p : P}, RD X.K F H m d v → RelV v u → snap S n d = some p → okP k p = true → ∃ as, Reads s.heap u (pd p) as) :
    ∀ {ds : List D} {xs : List V} {us : List Value} {ps : List P}, RDs X.K F H m ds xs → Vals xs us → mapO (snap S n) ds = some ps → (∀ d ∈ ps, okP k d = true) → ∃ as, ReadsAll s.heap us (pds ps) as
  | [], xs, us, ps, r, v, q, _ => by
    cases (show xs = [] from r)
    cases v
    cases q
    exact ⟨_, .nil⟩
  | d :: ds, xs, us, ps, r, v, q, h => by
    obtain ⟨x, xr, rfl, p, r⟩ := r
    obtain ⟨y, q1, q⟩ : ∃ a, snap S n d = some a ∧ (mapO (snap S n) ds).map (fun vs => a :: vs) = some ps := by
      cases e : snap S n d with
      | none => simp [mapO, e] at q
      | some a => exact ⟨a, rfl, by simpa [mapO, e] using q⟩
    obtain ⟨ys, q2, rfl⟩ : ∃ a, mapO (snap S n) ds = some a ∧ ps = y :: a := by
      cases e : mapO (snap S n) ds with
      | none => rw [e] at q; cases q
      | some a => rw [e] at q; cases q; exact ⟨a, rfl, rfl⟩
    cases v with
    | cons ru rr =>
      obtain ⟨as, g1⟩ := one p ru q1 (h y (.head _))
      obtain ⟨bs, g2⟩ := mapO_reads one r rr q2 fun e he => h e (.tail _ he)
      exact ⟨_, .cons g1 g2⟩
theorem snap_reads (I : Inv X pins σ H s) (rl : Rel X.K F H m S) : ∀ (n k : Nat) {d : D} {v : V} {u : Value} {p : P}, RD X.K F H m d v → RelV v u → snap S n d = some p → okP k p = true → ∃ as, Reads s.heap u (pd p) as := by
  intro n
  induction n with
  | zero =>
    intro k d v u p r rv q h
    cases d with
    | p w => rw [snap_p] at q; cases q; exact reads_of I k r rv h
    | ref i => cases q
  | succ n ih =>
    intro k d v u p r rv q h
    cases d with
    | p w => rw [snap_p] at q; cases q; exact reads_of I k r rv h
    | ref i =>
      obtain ⟨a, rfl, hm⟩ := r
      have hi : i < S.length := by rw [← rl.len]; exact (List.getElem?_eq_some_iff.mp hm).1
      obtain ⟨o, ho⟩ : ∃ o, S[i]? = some o := ⟨S[i], by simp [hi]⟩
      have ob := rl.obj i a o hm ho
      simp only [snap, ho] at q
      cases o with
      | fz w => cases q; exact reads_of I k ob rv h
      | dct ks ds => cases q
      | lst ds =>
        dsimp only at q
        cases e : mapO (snap S n) ds with
        | none => rw [e] at q; cases q
        | some ps =>
          rw [e] at q
          cases q
          cases k with
          | zero => simp [okP] at h
          | succ k =>
            obtain ⟨xs, hH, rs⟩ := ob
            cases rv
            obtain ⟨its, rvs, ⟨o, m', e', c, _, d⟩, hz⟩ := I.list (SqL.of hH)
            obtain ⟨as, q⟩ := mapO_reads (k := k) (fun r rv q h => ih k r rv q h) rs rvs e (by simpa [okP] using h)
            rw [pd]
            exact ⟨_, reads_list_at e' c d (by simpa using q)⟩
theorem snap_rp (rl : Rel X.K F H m S) {n : Nat} {d : D} {v : V} {p : P} (r : RD X.K F H m d v) (q : snap S n d = some p) (hp : ∀ xs, p ≠ .lst xs) : RP X.K F H p v := by
  cases d with
  | p w => rw [snap_p] at q; cases q; exact r
  | ref i =>
    cases n with
    | zero => cases q
    | succ n =>
      obtain ⟨a, rfl, hm⟩ := r
      have hi : i < S.length := by rw [← rl.len]; exact (List.getElem?_eq_some_iff.mp hm).1
      obtain ⟨o, ho⟩ : ∃ o, S[i]? = some o := ⟨S[i], by simp [hi]⟩
      have ob := rl.obj i a o hm ho
      simp only [snap, ho] at q
      cases o with
      | fz w => cases q; exact ob
      | dct ks ds => cases q
      | lst ds =>
        dsimp only at q
        cases e : mapO (snap S n) ds with
        | none => rw [e] at q; cases q
        | some ps => rw [e] at q; cases q; exact absurd rfl (hp ps)
end
noncomputable def rE (K : PySem.W.Frag) (g : D → D → Sto → Option P) : R2 := fun x y H Q => ∃ F m S d e v, Rel K F H m S ∧ RD K F H m d x ∧ RD K F H m e y ∧ g d e S = some v ∧ ∀ u F' H', Grow F H F' H' → RP K F' H' v u → Q u H'
noncomputable def vOpE (g : D → D → Sto → Option P) (a b : EE) : EV := fun L S => bnd (a L S) fun x S1 => bnd (b L S1) fun y S2 => (g x y S2).map fun v => (v, S2)
section
variable {X : Cx} {a b : Expr} {fa fb : EE} {pos : Pos}
theorem tOpE_of {g : D → D → Sto → Option P} {σ : L2.St} {H : Hp} {Q : VK} (h : tV X.K (vOpE g fa fb) σ H Q) : tOp (rE X.K g) (tE X.K fa) (tE X.K fb) σ H Q := by
  obtain ⟨F, m, L, S, d, S', r, l, q, k⟩ := h
  obtain ⟨x, S1, e1, q⟩ := bnd_eq q
  obtain ⟨y, S2, e2, q⟩ := bnd_eq q
  refine ⟨F, m, L, S, x, S1, r, l, e1, fun v F1 m1 H1 s1 r1 p1 => ?_⟩
  refine ⟨F1, m1, L, S1, y, S2, r1, l.mono s1, e2, fun u F2 m2 H2 s2 r2 p2 => ?_⟩
  cases eg : g x y S2 with
  | none => rw [eg] at q; cases q
  | some z =>
    rw [eg] at q
    cases q
    exact ⟨F2, m2, S', x, y, _, r2, RD.mono s2 p1, p2, eg, fun w F3 H3 gr p3 => k w F3 m2 H3 (s1.trans (s2.trans gr.stp)) (r2.grow gr) p3⟩
theorem xCmpE {op : CmpOp} {g : D → D → Sto → Option P} (ho : OpR X (compareOp op) (rE X.K g)) (ha : PE X a (tE X.K fa)) (hb : PE X b (tE X.K fb)) (hm : behindInMarks op b = false) : PE X (.Compare a [op] [b] pos) (tV X.K (vOpE g fa fb)) :=
  (pe_cmpR ho ha hb hm).imp' fun _ _ _ h => tOpE_of h
theorem yCmpE {op : CmpOp} {g : D → D → Sto → Option P} (ho : OpR X (compareOp op) (rE X.K g)) (ha : PE X a (tE X.K fa)) (hb : PE X b (tE X.K fb)) (hm : behindInMarks op b = false) : PT X (.Compare a [op] [b] pos) (tQ X.K (bV (vOpE g fa fb))) :=
  (pt_cmpR ho ha hb hm).imp' fun σ H Q h => by
    refine tOpE_of ?_
    obtain ⟨F, m, L, S, d, S', r, l, q, k⟩ := h
    obtain ⟨x, S1, e1, q⟩ := bnd_eq q
    cases x with
    | bl b => cases q; exact ⟨F, m, L, S, _, _, r, l, e1, fun v F' m' H' s r' p => ⟨_, p, k F' m' H' s r'⟩⟩
    | _ => cases q
end
noncomputable def eqD (x y : P) : Option Bool := match dEqD x y with
  | some (.bl b) => some b
  | _ => if (okP 20 x && okP 20 y) = true then some (PyData.eqv (pd x) (pd y)) else none
noncomputable def gEq (d e : D) (S : Sto) : Option P := (snap S 9 d).bind fun x => (snap S 9 e).bind fun y => (eqD x y).map .bl
noncomputable def neD (x y : P) : Option Bool := match dNe x y with
  | some (.bl b) => some b
  | _ => if (okP 20 x && okP 20 y) = true then some (!PyData.eqv (pd x) (pd y)) else none
noncomputable def gNe (d e : D) (S : Sto) : Option P := (snap S 9 d).bind fun x => (snap S 9 e).bind fun y => (neD x y).map .bl
noncomputable def dKeys (c : D) (S : Sto) : Option (List Key) := match c with
  | .p (.dct ks _) => some ks
  | .ref i => match S[i]? with
    | some (.dct ks _) => some ks
    | some (.fz (.dct ks _)) => some ks
    | _ => none
  | _ => none
noncomputable def inP (x c : P) : Option Bool := match x, c with
  | .str i, .str j => some (!(Builtin.Str.occurrences j i 0 j.length 1).isEmpty)
  | x, .lst xs => if (xs.all (okP 19) && okP 19 x) = true then some (xs.any fun y => PyData.eqv (pd y) (pd x)) else none
  | x, .ro xs => if (xs.all (okP 19) && okP 19 x) = true then some (xs.any fun y => PyData.eqv (pd y) (pd x)) else none
  | x, .tup xs => if (xs.all (okP 19) && okP 19 x) = true then some (xs.any fun y => PyData.eqv (pd y) (pd x)) else none
  | _, _ => none
noncomputable def hasK (k : Key) (ks : List Key) : Bool := ks.any fun k' => decide (k' = k)
noncomputable def inG (d c : D) (S : Sto) : Option Bool := match dKeys c S with
  | some ks => (snap S 9 d).bind fun x => (keyOf x).map fun k => hasK k ks
  | none => (snap S 9 d).bind fun x => (snap S 9 c).bind fun y => inP x y
noncomputable def gIn (d c : D) (S : Sto) : Option P := (inG d c S).map .bl
noncomputable def gNotIn (d c : D) (S : Sto) : Option P := (inG d c S).map fun b => .bl (!b)
noncomputable def isNon : D → Bool
  | .p .non => true
  | _ => false
noncomputable def gIs (d e : D) (_ : Sto) : Option P := match e with
  | .p .non => some (.bl (isNon d))
  | _ => none
noncomputable def gIsNot (d e : D) (_ : Sto) : Option P := match e with
  | .p .non => some (.bl (!isNon d))
  | _ => none
theorem dEqD_nolst {x y : P} {b : P} (h : dEqD x y = some b) : (∀ xs, x ≠ .lst xs) ∧ ∀ xs, y ≠ .lst xs := by
  refine ⟨fun xs e => ?_, fun xs e => ?_⟩
  · subst e; cases y <;> cases h
  · subst e; cases x <;> cases h
section
variable {X : Cx}
theorem opEqE (hu : X.A.units + 64 < cLine) : OpR X (compareOp .Eq) (rE X.K gEq) := by
  intro pins s σ H x y v u Q I rx ry h
  obtain ⟨F, m, S, d, e, r, rl, px, py, q, k⟩ := h
  unfold gEq at q
  cases e1 : snap S 9 d with
  | none => rw [e1] at q; cases q
  | some a =>
    rw [e1] at q
    cases e2 : snap S 9 e with
    | none => rw [e2] at q; cases q
    | some b =>
      rw [e2] at q
      simp only [Option.bind_some] at q
      cases e3 : eqD a b with
      | none => rw [e3] at q; cases q
      | some c =>
        rw [e3] at q
        cases q
        unfold eqD at e3
        split at e3
        · rename_i c' ec
          cases e3
          obtain ⟨n1, n2⟩ := dEqD_nolst ec
          exact opEqD (by omega) pins s σ H x y v u Q I rx ry ⟨F, a, b, .bl c, rl.ft, snap_rp rl px e1 n1, snap_rp rl py e2 n2, ec, k⟩
        · split at e3
          · rename_i hc
            rw [Bool.and_eq_true] at hc
            cases e3
            obtain ⟨as, ra⟩ := snap_reads I rl 9 20 px rx e1 hc.1
            obtain ⟨bs, rb⟩ := snap_reads I rl 9 20 py ry e2 hc.2
            exact eq_dataH ra rb (okP_shaped hc.1) (okP_shaped hc.2) hu ⟨.bl _, H, I, rfl, k _ F H .refl rfl⟩
          · cases e3
theorem dNe_nolst {x y : P} {b : P} (h : dNe x y = some b) : (∀ xs, x ≠ .lst xs) ∧ ∀ xs, y ≠ .lst xs := by
  refine ⟨fun xs e => ?_, fun xs e => ?_⟩
  · subst e; cases y <;> cases h
  · subst e; cases x <;> cases h
theorem opNeE (hu : X.A.units + 64 < cLine) : OpR X (compareOp .NotEq) (rE X.K gNe) := by
  intro pins s σ H x y v u Q I rx ry h
  obtain ⟨F, m, S, d, e, r, rl, px, py, q, k⟩ := h
  unfold gNe at q
  cases e1 : snap S 9 d with
  | none => rw [e1] at q; cases q
  | some a =>
    rw [e1] at q
    cases e2 : snap S 9 e with
    | none => rw [e2] at q; cases q
    | some b =>
      rw [e2] at q
      simp only [Option.bind_some] at q
      cases e3 : neD a b with
      | none => rw [e3] at q; cases q
      | some c =>
        rw [e3] at q
        cases q
        unfold neD at e3
        split at e3
        · rename_i c' ec
          cases e3
          obtain ⟨n1, n2⟩ := dNe_nolst ec
          exact opNe pins s σ H x y v u Q I rx ry ⟨F, a, b, .bl c, rl.ft, snap_rp rl px e1 n1, snap_rp rl py e2 n2, ec, k⟩
        · split at e3
          · rename_i hc
            rw [Bool.and_eq_true] at hc
            cases e3
            obtain ⟨as, ra⟩ := snap_reads I rl 9 20 px rx e1 hc.1
            obtain ⟨bs, rb⟩ := snap_reads I rl 9 20 py ry e2 hc.2
            exact ne_dataH ra rb (okP_shaped hc.1) (okP_shaped hc.2) hu ⟨.bl _, H, I, rfl, k _ F H .refl rfl⟩
          · cases e3
theorem pds_any (x : P) : ∀ xs : List P, (pds xs).any (fun y => PyData.eqv y (pd x)) = xs.any fun y => PyData.eqv (pd y) (pd x)
  | [] => rfl
  | y :: r => by rw [pds, List.any_cons, List.any_cons, pds_any x r]
theorem okAll {xs : List P} (h : xs.all (okP 19) = true) : PyData.canLayAll0 (pds xs) = true ∧ PyData.depthAll (pds xs) ≤ 20 := by
  have l := okP_lay 20 (.lst xs) h
  simp only [pd, PyData.canLay0, PyData.depth] at l
  have l2 := l.2
  exact ⟨l.1, by omega⟩
theorem valV_some {kvs : List (Key × V)} {k : Key} : (valV kvs k).isSome = hasK k (kvs.map (·.1)) := by
  induction kvs with
  | nil => rfl
  | cons p r ih =>
    unfold hasK at ih ⊢
    by_cases h : p.1 = k
    · rw [valV_pos h, List.map_cons, List.any_cons, decide_eq_true h]; rfl
    · rw [valV_neg h, ih, List.map_cons, List.any_cons, decide_eq_false h]; rfl
theorem dKeys_ok {K : PySem.W.Frag} {F : Addr → Prop} {H : Hp} {m : List Addr} {S : Sto} {c : D} {y : V} {ks : List Key} (rl : Rel K F H m S) (py : RD K F H m c y) (q : dKeys c S = some ks) : ∃ a kvs, y = .ref a ∧ H a = some (.dK kvs) ∧ kvs.map (·.1) = ks := by
  unfold dKeys at q
  split at q
  · cases q
    obtain ⟨a, kvs, e, _, hk, e2, _⟩ := py
    exact ⟨a, kvs, e, hk, e2⟩
  · rename_i i
    obtain ⟨a, rfl, hm⟩ := py
    split at q
    · rename_i o
      cases q
      obtain ⟨kvs, hk, e2, _⟩ := rl.obj i a _ hm o
      exact ⟨a, kvs, rfl, hk, e2⟩
    · rename_i o
      cases q
      obtain ⟨b, kvs, e, _, hk, e2, _⟩ := rl.obj i a _ hm o
      cases e
      exact ⟨a, kvs, rfl, hk, e2⟩
    · cases q
  · cases q
theorem opInE (hu : X.A.units + 64 < cLine) : OpR X (compareOp .In) (rE X.K gIn) := by
  intro pins s σ H x y v u Q I rx ry h
  obtain ⟨F, m, S, d, e, r, rl, px, py, q, k⟩ := h
  unfold gIn inG at q
  cases ek : dKeys e S with
  | some ks =>
    rw [ek] at q
    dsimp only at q
    cases e1 : snap S 9 d with
    | none => rw [e1] at q; cases q
    | some a =>
      rw [e1] at q
      simp only [Option.bind_some] at q
      cases e2 : keyOf a with
      | none => rw [e2] at q; cases q
      | some key =>
        rw [e2] at q
        cases q
        obtain ⟨b, kvs, rfl, hk, e3⟩ := dKeys_ok rl py ek
        have pa : RP X.K F H a x := snap_rp rl px e1 fun xs z => by subst z; cases e2
        cases ry
        cases keyOf_kV e2 pa
        exact d_in (by omega) I (DGet.k hk) rx fun s3 I3 => ⟨.bl _, H, I3, rfl, by rw [valV_some, e3]; exact k _ F H .refl rfl⟩
  | none =>
    rw [ek] at q
    dsimp only at q
    cases e1 : snap S 9 d with
    | none => rw [e1] at q; cases q
    | some a =>
      rw [e1] at q
      cases e2 : snap S 9 e with
      | none => rw [e2] at q; cases q
      | some b =>
        rw [e2] at q
        simp only [Option.bind_some] at q
        cases e3 : inP a b with
        | none => rw [e3] at q; cases q
        | some c =>
          rw [e3] at q
          cases q
          unfold inP at e3
          split at e3
          · cases e3
            cases (show x = .str _ from snap_rp rl px e1 fun xs z => by cases z)
            cases (show y = .str _ from snap_rp rl py e2 fun xs z => by cases z)
            exact op_in_str pins s σ H _ _ v u Q I rx ry ⟨_, _, rfl, rfl, k _ F H .refl rfl⟩
          all_goals first
            | (cases e3; done)
            | (split at e3
               · rename_i hc
                 rw [Bool.and_eq_true] at hc
                 cases e3
                 obtain ⟨as, ra⟩ := snap_reads I rl 9 20 py ry e2 (by simpa [okP] using hc.1)
                 obtain ⟨bs, rb⟩ := snap_reads I rl 9 19 px rx e1 hc.2
                 have la := okAll hc.1
                 have lb := okP_lay 19 _ hc.2
                 rw [pd] at ra
                 first
                   | exact SeqAt.in_list_reads ra rb la.1 lb.1 (by omega) ⟨.bl _, H, I, rfl, by rw [pds_any]; exact k _ F H .refl rfl⟩
                   | exact SeqAt.in_tuple_reads ra rb la.1 lb.1 (by omega) ⟨.bl _, H, I, rfl, by rw [pds_any]; exact k _ F H .refl rfl⟩
               · cases e3)
theorem opNotInE (hu : X.A.units + 64 < cLine) : OpR X (compareOp .NotIn) (rE X.K gNotIn) := by
  intro pins s σ H x y v u Q I rx ry h
  obtain ⟨F, m, S, d, e, r, rl, px, py, q, k⟩ := h
  unfold gNotIn inG at q
  cases ek : dKeys e S with
  | some ks =>
    rw [ek] at q
    dsimp only at q
    cases e1 : snap S 9 d with
    | none => rw [e1] at q; cases q
    | some a =>
      rw [e1] at q
      simp only [Option.bind_some] at q
      cases e2 : keyOf a with
      | none => rw [e2] at q; cases q
      | some key =>
        rw [e2] at q
        cases q
        obtain ⟨b, kvs, rfl, hk, e3⟩ := dKeys_ok rl py ek
        have pa : RP X.K F H a x := snap_rp rl px e1 fun xs z => by subst z; cases e2
        cases ry
        cases keyOf_kV e2 pa
        exact d_notIn (by omega) I (DGet.k hk) rx fun s3 I3 => ⟨.bl _, H, I3, rfl, by rw [valV_some, e3]; exact k _ F H .refl rfl⟩
  | none =>
    rw [ek] at q
    dsimp only at q
    cases e1 : snap S 9 d with
    | none => rw [e1] at q; cases q
    | some a =>
      rw [e1] at q
      cases e2 : snap S 9 e with
      | none => rw [e2] at q; cases q
      | some b =>
        rw [e2] at q
        simp only [Option.bind_some] at q
        cases e3 : inP a b with
        | none => rw [e3] at q; cases q
        | some c =>
          rw [e3] at q
          cases q
          unfold inP at e3
          split at e3
          · cases e3
            cases (show x = .str _ from snap_rp rl px e1 fun xs z => by cases z)
            cases (show y = .str _ from snap_rp rl py e2 fun xs z => by cases z)
            exact op_notin_str pins s σ H _ _ v u Q I rx ry ⟨_, _, rfl, rfl, k _ F H .refl rfl⟩
          all_goals first
            | (cases e3; done)
            | (split at e3
               · rename_i hc
                 rw [Bool.and_eq_true] at hc
                 cases e3
                 obtain ⟨as, ra⟩ := snap_reads I rl 9 20 py ry e2 (by simpa [okP] using hc.1)
                 obtain ⟨bs, rb⟩ := snap_reads I rl 9 19 px rx e1 hc.2
                 have la := okAll hc.1
                 have lb := okP_lay 19 _ hc.2
                 rw [pd] at ra
                 first
                   | exact SeqAt.notIn_list_reads ra rb la.1 lb.1 (by omega) ⟨.bl _, H, I, rfl, by rw [pds_any]; exact k _ F H .refl rfl⟩
                   | exact SeqAt.notIn_tuple_reads ra rb la.1 lb.1 (by omega) ⟨.bl _, H, I, rfl, by rw [pds_any]; exact k _ F H .refl rfl⟩
               · cases e3)
theorem opIsE : OpR X (compareOp .Is) (rE X.K gIs) := by
  intro pins s σ H x y v u Q I rx ry h
  obtain ⟨F, m, S, d, e, r, rl, px, py, q, k⟩ := h
  unfold gIs at q
  split at q
  · cases q
    cases (show y = .non from py)
    refine op_isN pins s σ H x _ v u Q I rx ry ⟨rfl, ?_⟩
    have : decide (x = .non) = isNon d := by
      cases d with
      | ref i => obtain ⟨a, rfl, _⟩ := px; rfl
      | p w =>
        cases w with
        | non => cases (show x = .non from px); rfl
        | bl b => cases (show x = .bl b from px); rfl
        | int b => cases (show x = .int b from px); rfl
        | str b => cases (show x = .str b from px); rfl
        | _ => (obtain ⟨a, xs, rfl, _⟩ := px; rfl)
    rw [this]
    exact k _ F H .refl rfl
  · cases q
theorem opIsNotE : OpR X (compareOp .IsNot) (rE X.K gIsNot) := by
  intro pins s σ H x y v u Q I rx ry h
  obtain ⟨F, m, S, d, e, r, rl, px, py, q, k⟩ := h
  unfold gIsNot at q
  split at q
  · cases q
    cases (show y = .non from py)
    refine op_notN pins s σ H x _ v u Q I rx ry ⟨rfl, ?_⟩
    have : decide (x = .non) = isNon d := by
      cases d with
      | ref i => obtain ⟨a, rfl, _⟩ := px; rfl
      | p w =>
        cases w with
        | non => cases (show x = .non from px); rfl
        | bl b => cases (show x = .bl b from px); rfl
        | int b => cases (show x = .int b from px); rfl
        | str b => cases (show x = .str b from px); rfl
        | _ => (obtain ⟨a, xs, rfl, _⟩ := px; rfl)
    rw [this]
    exact k _ F H .refl rfl
  · cases q
end
end Ev
namespace Ev
open PySem PySem.Spec PyProof.Rows L2
noncomputable def gsGo : List TGv → List P → Lc → Option Lc
  | [], [], L => some L
  | g :: gs, v :: vs, L => match g v L with
    | some L1 => gsGo gs vs L1
    | none => none
  | _, _, _ => none
noncomputable def gTupP (gs : List TGv) : TGv := fun v L => match v with
  | .tup vs => gsGo gs vs L
  | _ => none
theorem gsGo_len : ∀ {gs : List TGv} {vs : List P} {L L' : Lc}, gsGo gs vs L = some L' → vs.length = gs.length
  | [], [], _, _, _ => rfl
  | [], _ :: _, _, _, h => by cases h
  | _ :: _, [], _, _, h => by cases h
  | g :: gs, v :: vs, L, L', h => by
    unfold gsGo at h
    split at h
    · rw [List.length_cons, List.length_cons, gsGo_len h]
    · cases h
noncomputable def gTs (K : PySem.W.Frag) (gs : List TGv) : TGs := fun xs σ H Q => ∃ F m L vs L', RL K F H m σ L ∧ RPs K F H vs xs ∧ gsGo gs vs L = some L' ∧ ∀ σ', RL K F H m σ' L' → Q σ' H
noncomputable def isNm : Expr → Bool
  | .Name _ _ => true
  | _ => false
inductive GsOk (X : Cx) : List Expr → List TGv → Prop where
  | nil : GsOk X [] []
  | cons {e : Expr} {es : List Expr} {g : TGv} {gs : List TGv} : isNm e = true → PG X e (gT X.K g) → GsOk X es gs → GsOk X (e :: es) (g :: gs)
section
variable {X : Cx} {pos : Pos}
theorem assignEach_nm {e : Expr} {es : List Expr} {env : Env} (h : isNm e = true) : assignEach (e :: es) env = (false, assign e env) :: assignEach es env := by
  cases e <;> first | rfl | cases h
theorem GsOk.len {es : List Expr} {gs : List TGv} (h : GsOk X es gs) (env : Env) : (assignEach es env).length = gs.length ∧ (assignEach es env).findIdx? (·.1) = none := by
  induction h with
  | nil => exact ⟨rfl, rfl⟩
  | cons hn _ _ ih =>
    rw [assignEach_nm hn]
    refine ⟨by rw [List.length_cons, List.length_cons, ih.1], ?_⟩
    simp only [List.findIdx?_cons, ih.2]
    rfl
theorem GsOk.pgs {es : List Expr} {gs : List TGv} (h : GsOk X es gs) : PGs X es (gTs X.K gs) := by
  induction h with
  | nil =>
    intro pins s σ H xs us Q I rv ⟨F, m, L, vs, L', l, r, q, k⟩
    cases vs with
    | nil =>
      cases q
      cases (show xs = [] from r)
      exact pgs_nil pins s σ H [] us Q I rv ⟨rfl, k σ l⟩
    | cons _ _ => cases q
  | cons hn hg _ ih =>
    intro pins s σ H xs us Q I rv ⟨F, m, L, vs, L', l, r, q, k⟩
    cases vs with
    | nil => cases q
    | cons v vs =>
      unfold gsGo at q
      split at q
      · rename_i L1 e1
        obtain ⟨x, xr, rfl, p, r⟩ := r
        refine pgs_cons hg ih (by rw [assignEach_nm hn]; rfl) pins s σ H _ us Q I rv ⟨x, xr, rfl, F, m, L, v, L1, l, p, e1, fun σ1 l1 => ?_⟩
        exact ⟨F, m, L1, vs, L', l1, r, q, k⟩
      · cases q
theorem gTupOk {es : List Expr} {n : Nat} {gs : List TGv} (hc : X.calm = true) (h : GsOk X es gs) : PG X (.Tuple es n pos) (gT X.K (gTupP gs)) :=
  PG.imp' (pg_tup hc h.pgs (h.len _).1 (h.len _).2) fun v σ H Q ⟨F, m, L, d, L', l, p, q, k⟩ => by
    cases d with
    | tup vs =>
      obtain ⟨a, xs, rfl, ta, ra⟩ := p
      have hl := gsGo_len (show gsGo gs vs L = some L' from q)
      exact ⟨a, xs, rfl, ta.sq, by rw [← ra.length]; exact hl, F, m, L, vs, L', l, ra, q, k⟩
    | _ => cases q
noncomputable def IteL (K : PySem.W.Frag) (a : Addr) : It :=
  ⟨fun i H => ∃ xs x, SqL K H a xs ∧ xs[i]? = some x, fun i H x H' => ∃ p y, x = .ref p ∧ H p = none ∧ H' = upd H p (.tup [.int i, y]) ∧ ∀ xs, SqL K H a xs → xs[i]? = some y, fun i H => ∃ xs, SqL K H a xs ∧ xs.length ≤ i⟩
theorem turn_enum {P : Program} {w : World} {K : PySem.W.Frag} {es : List Expr} {n : Nat} (a e it : Addr) (hei : e ≠ it) : Turn P w K (.Tuple es n pos) (IteL K a) [e, it] e (fun i h => (∃ old, IsEnum h e it i old) ∧ h.IsListIter it a i) where
  mem := by simp
  obj := fun i h st b hb => by
    obtain ⟨⟨old, he⟩, ⟨o, ho, c, d⟩⟩ := st
    have : b = e ∨ b = it := by simpa using hb
    rcases this with rfl | rfl
    · exact ⟨_, he, fun v z => by have z' : Data.fields _ = Data.cell v := z; cases z'⟩
    · exact ⟨o, ho, fun v z => by rw [d] at z; cases z⟩
  keep := fun i h h' st k => by
    obtain ⟨⟨old, he⟩, hit⟩ := st
    exact ⟨⟨old, k e (by simp) _ he⟩, hit.at fun o q => k it (by simp) o q⟩
  item := by
    intro X hP hw hK hc i pins s σ H E I hf st hg
    subst hP hw hK
    obtain ⟨xs, x, hq, hx⟩ := hg
    obtain ⟨its, rv, pl, hz⟩ := I.list hq
    obtain ⟨u, hu, ru⟩ := rv.get hx
    obtain ⟨⟨old, he⟩, hit⟩ := st
    obtain ⟨f0, f1, f2, f3, f4, f5⟩ := hf e (by simp)
    obtain ⟨g0, g1, g2, g3, g4, g5⟩ := hf it (by simp)
    refine wpAny_pyNext_enum_item he hit pl.isList (x := u) (by simpa using hu) hei fun h1 ho1 hit1 ht1 hz1 hk1 => ?_
    refine ⟨_, rfl, wpAny_letOwnedTupleGo_enum (s := { s with heap := h1, toks := s.toks + 1 }) ho1 fun h2 he2 hs2 => ?_⟩
    replace hs2 : Heap.SameBut e h1 h2 := hs2
    have hel : e < s.heap.objs.size := Heap.lt_size he
    have hkk : ∀ b o, b ≠ e → b ≠ it → s.heap.get? b = some o → h2.get? b = some o := fun b o b1 b2 q => (hs2.2 b b1).trans (hk1 b o b1 b2 q)
    have hnew : h2.get? s.heap.objs.size = some { cls := .type "tuple", data := .seq #[.int i s.toks, u] } := (hs2.2 _ (Nat.ne_of_gt hel)).trans ht1
    have hfr : H s.heap.objs.size = none := I.hok.fresh (Nat.le_refl _)
    have ne : ∀ {b : Addr} {o : HO}, H b = some o → b ≠ e ∧ b ≠ it := fun {b o} q => ⟨fun z => (by rw [z, f0] at q; cases q), fun z => (by rw [z, g0] at q; cases q)⟩
    have hch : ∀ b, b ∉ [e, it] → b ≠ e ∧ b ≠ it := fun b hb => ⟨fun z => hb (by simp [z]), fun z => hb (by simp [z])⟩
    have I' : Inv X pins σ (upd H s.heap.objs.size (.tup [.int i, x])) { s with heap := h2, gens := s.gens, drawn := s.drawn, toks := s.toks + 1 } := by
      refine I.step (ch := [e, it]) (fun b hb => ?_) (fun b o _ _ hc q _ => hkk b o (hch b hc).1 (hch b hc).2 q) (fun b o _ _ hc q _ => ⟨o.slots, hkk b o (hch b hc).1 (hch b hc).2 q⟩) (fun b o _ q n => ?_) (fun b o hc q => ⟨o, hkk b o (hch b hc).1 (hch b hc).2 q⟩)
        (fun b ys q => ?_) (fun b o ys q => ?_) (fun b ps q => ⟨#[], ?_⟩) (fun m hm => ?_) (fun b u' q => ?_) I.bare
      · have : b = e ∨ b = it := by simpa using hb
        rcases this with rfl | rfl
        · exact ⟨f3, f1, f4, f5⟩
        · exact ⟨g3, g1, g4, g5⟩
      · rw [upd_ne (Nat.ne_of_lt (Heap.lt_size q))]; exact n
      · rw [upd_ne (ne_of_none q hfr)]; exact q
      · rw [upd_ne (ne_of_none q hfr)]; exact q
      · rw [upd_ne (ne_of_none q hfr), q]; simp
      · obtain ⟨o, es, ep, ho, r⟩ := hm
        exact ⟨o, es, ep, hkk _ o (Ne.symm f1) (Ne.symm g1) ho, r⟩
      · by_cases hb : b = s.heap.objs.size
        · subst hb
          rw [upd_same] at q
          cases q
          exact ⟨by show 2 ≤ sizeLine; decide, [.int i s.toks, u], .cons ⟨_, rfl⟩ (.cons ru .nil), ⟨_, hnew, rfl, _, rfl⟩⟩
        · rw [upd_ne hb] at q
          refine (I.hok b u' q).stay (fun c v hc z => hkk c v ?_ ?_ z) (fun c z => by rw [upd_ne (ne_of_none z hfr)]; exact z) fun c ys z => by rw [upd_ne (ne_of_none z hfr)]; exact z
          · rcases hc with rfl | hc
            · exact (ne q).1
            · exact (ne hc).1
          · rcases hc with rfl | hc
            · exact (ne q).2
            · exact (ne hc).2
    refine ⟨.ref s.heap.objs.size, _, I', rfl, ⟨s.heap.objs.size, x, rfl, hfr, rfl, fun ys hy => by rw [I.list_inj hy hq]; exact hx⟩, ⟨⟨u, by simpa using he2⟩, hit1.at fun o q => (hs2.2 it (Ne.symm hei)).trans q⟩, fun b hb => ?_⟩
    have hb' : b = e ∨ b = it := by simpa using hb
    obtain ⟨oi, hoi, _⟩ := id hit
    rcases hb' with rfl | rfl
    · rw [upd_ne (Nat.ne_of_lt hel)]; exact f0
    · rw [upd_ne (Nat.ne_of_lt (Heap.lt_size hoi))]; exact g0
  done := by
    intro X hP hw hK hc i pins s σ H E I hf st hg
    subst hP hw hK
    obtain ⟨xs, hq, hx⟩ := hg
    obtain ⟨its, rv, pl, hz⟩ := I.list hq
    obtain ⟨⟨old, he⟩, hit⟩ := st
    obtain ⟨g0, g1, g2, g3, g4, g5⟩ := hf it (by simp)
    have hl := rv.length
    exact wpAny_pyNext_enum_end (I.ok.hd hc) he hit pl.isList (by simp; omega) fun h' eb => ⟨rfl, I.turned (t' := s.toks) (fun b o hb e => eb b o hb e) g0 g1 g3 g4 g5⟩
  self := fun _ _ _ _ _ st h => by
    obtain ⟨⟨old, he⟩, _⟩ := st
    exact wpAny_pyIter_enum he h
noncomputable def enumP (k : Int) : List P → List P
  | [] => []
  | x :: r => .tup [.int k, x] :: enumP (k + 1) r
theorem enumP_get : ∀ {vs : List P} {k : Int} {i : Nat} {v : P}, (enumP k vs)[i]? = some v → ∃ x, vs[i]? = some x ∧ v = .tup [.int (k + i), x]
  | [], _, _, _, h => by simp [enumP] at h
  | x :: r, k, 0, v, h => ⟨x, rfl, by simpa [enumP] using h.symm⟩
  | x :: r, k, i + 1, v, h => by
    obtain ⟨y, h1, h2⟩ := enumP_get (vs := r) (k := k + 1) (i := i) (by simpa [enumP] using h)
    refine ⟨y, by simpa using h1, ?_⟩
    rw [h2]
    congr 3
    omega
theorem enumP_len : ∀ (vs : List P) (k : Int), (enumP k vs).length = vs.length
  | [], _ => rfl
  | _ :: r, k => by rw [enumP, List.length_cons, List.length_cons, enumP_len r]
noncomputable def itE (a : EV) : EVs := fun L S => bnd (a L S) fun v S1 => match v with
  | .lst xs => some (enumP 0 xs, S1)
  | .ro xs => some (enumP 0 xs, S1)
  | _ => none
theorem ite_ok {K : PySem.W.Frag} {F : Addr → Prop} {m : List Addr} {H : Hp} {a : Addr} {vs : List P} {xs : List V} (hs : ∀ F2 m2 H2, Stp F m H F2 m2 H2 → SqL K H2 a xs) (r : RPs K F H vs xs) : ItP K (IteL K a) (enumP 0 vs) F m H := by
  intro F2 m2 H2 st
  have hq := hs F2 m2 H2 st
  have hl := r.length
  refine ⟨fun i v e => ?_, ⟨xs, hq, by rw [enumP_len, hl]; exact Nat.le_refl _⟩⟩
  obtain ⟨d, e1, rfl⟩ := enumP_get e
  obtain ⟨x, e2, p⟩ := r.get e1
  refine ⟨⟨xs, x, hq, e2⟩, fun z H3 y => ?_⟩
  obtain ⟨pp, y, rfl, hn, rfl, hy⟩ := y
  have : y = x := by have := hy xs hq; rw [e2] at this; cases this; rfl
  subst this
  refine ⟨F2, grow_new hn, RP.newTup hn ⟨_, _, rfl, ?_, _, _, rfl, RP.mono st p, rfl⟩⟩
  show V.int (i : Int) = V.int (0 + (i : Int))
  rw [Int.zero_add]
theorem iE {es : List Expr} {n : Nat} {a : Expr} {fa : EV} {p cpos : Pos} (hg : Gl X "enumerate") (hm : X.mg "enumerate" = none) (ha : PE X a (tV X.K fa)) (hs : starEach [a] X.env = [(false, eval a X.env)]) : PI X (.Tuple es n pos) (.Call (.Name "enumerate" p) [a] [] cpos) (tI X.K (itE fa)) := by
  intro pins s σ H R I ⟨F, m, L, S, vs, S', r, l, q, k⟩
  obtain ⟨v, S1, e1, q⟩ := bnd_eq q
  have hA : PA X [a] (tVs X.K (vsCons fa vsNil)) := aCons ha aNil (by rw [hs]; rfl)
  refine Call_ (ld_blt I hg hm boot_enumerate (PyProof.Rows.callWith_type1 (thn (hA cpos pins s σ H (fun xs H1 => ∃ F1 m1, Stp F m H F1 m1 H1 ∧ Rel X.K F1 H1 m1 S1 ∧ RPs X.K F1 H1 [v] xs) I ⟨F, m, L, S, [v], S1, r, l, ?_, fun xs F1 m1 H1 s1 r1 p1 => ⟨F1, m1, s1, r1, p1⟩⟩) fun us s1 ⟨xs, H1, I1, rv, F1, m1, st, r1, p1⟩ => ?_) (by rw [hs]; rfl) rfl))
  · simp only [vsCons, vsNil, e1, bnd_some]
  obtain ⟨x1, rfl, px⟩ := rps1 p1
  obtain ⟨u, rfl, ru⟩ := vals1 rv
  have go : ∀ {a : Addr} {xs : List V}, x1 = .ref a → SqL X.K H1 a xs → R (IteL X.K a) H1 → wpAny (model X.prog X.w) X.A (call (.type "enumerate") [u]) (fun v s1 => wpAny (model X.prog X.w) X.A (pyIter v) (PIE X pins σ (.Tuple es n pos) R) X.xe s1) X.xe s1 := fun {a xs} e hq q => by
    subst e
    cases ru
    obtain ⟨its, rv, pl, hz⟩ := I1.list hq
    refine call_enumerate_list pl.isList fun h' he hit hsz hk => ?_
    refine wpAny_pyIter_enum he ?_
    have hlt : ∀ b, s1.heap.objs.size ≤ b → H1 b = none := fun b hb => I1.hok.fresh hb
    refine ⟨s1.heap.objs.size + 1, [s1.heap.objs.size + 1, s1.heap.objs.size], _, _, H1, rfl, I1.kept (t' := s1.toks) hk, turn_enum a _ _ (Nat.ne_of_gt (Nat.lt_succ_self _)), ⟨⟨_, he⟩, hit⟩, fun b hb => ?_, q⟩
    have hb' : b = s1.heap.objs.size + 1 ∨ b = s1.heap.objs.size := by simpa using hb
    rcases hb' with rfl | rfl
    · exact I1.fpOk (Nat.le_succ _) (hlt _ (Nat.le_succ _))
    · exact I1.fpOk (Nat.le_refl _) (hlt _ (Nat.le_refl _))
  cases v with
  | lst ds =>
    cases q
    obtain ⟨a, xs, rfl, ta, ra⟩ := px
    exact go rfl ta.sq (k _ F1 m1 H1 st r1 (ite_ok (fun F2 m2 H2 s => (ta.kp s.kp).sq) ra))
  | ro ds =>
    cases q
    obtain ⟨a, xs, rfl, ta, ra⟩ := px
    exact go rfl ta.sq (k _ F1 m1 H1 st r1 (ite_ok (fun F2 m2 H2 s => (ta.kp s.kp).sq) ra))
  | _ => cases q
end
end Ev
namespace Ev
open PySem PySem.Spec PyProof.Rows L2
open PySem.AutoSeq1 (wpAny_loadPart')
theorem capN_ev' (n : Nat) : (capN n = true) = (n ≤ 1000000) := by unfold capN; simp
theorem ifN {α : Type} {c : Bool} {M : Model} {A : Around} {a b : Sem α} {Q : α → Shared → Prop} {E : Value → Shared → Prop} {s : Shared} (h : c = false) (k : wpAny M A b Q E s) : wpAny M A (if c = true then a else b) Q E s := by rw [h, if_neg Bool.false_ne_true]; exact k
theorem ifY {α : Type} {c : Bool} {M : Model} {A : Around} {a b : Sem α} {Q : α → Shared → Prop} {E : Value → Shared → Prop} {s : Shared} (h : c = true) (k : wpAny M A a Q E s) : wpAny M A (if c = true then a else b) Q E s := by rw [h, if_pos rfl]; exact k
theorem foldl_sizeV (a : Array Value) (n : Nat) : ∀ b : Array Value, ((List.replicate n a).foldl (· ++ ·) b).size = b.size + n * a.size := by
  induction n with
  | zero => intro b; simp
  | succ n ih => intro b; rw [List.replicate_succ, List.foldl_cons, ih, Array.size_append, Nat.succ_mul]; omega
theorem tupMul1 (l : Addr) (items : Array Value) (n : Nat) (dd : Option Addr) (sl : Array (Option Value)) (x : Int) (u : Tok) (h0 : -1000000 < x ∧ x < 1000000) (h1 : (items.isEmpty || x == 1) = true) :
    Meets (Builtin.«tuple.__mul__» ⟨[.ref l, .int x u], []⟩) (fun _ R s => s.heap.get? l = some { cls := .type "tuple", dict := dd, data := .seq items n, slots := sl } ∧ R (.ok (.ret (Value.ref l))) s) :=
  .of_wp fun prog w A R s h => by
    obtain ⟨hp, g, d, tk, os⟩ := s; obtain ⟨hl, h⟩ := h
    have f1 := AutoSeq1.idx_int; have f2 := AutoSeq1.sub_tuple_tuple
    wp_walk using wpAny_loadPart' hl
    refine ifN (by rw [decide_eq_false (by omega), decide_eq_false (by omega)]; rfl) ?_
    wp_walk using wpAny_loadPart' hl
    exact ⟨_, rfl, h⟩
theorem tupMul2 (l : Addr) (items : Array Value) (n : Nat) (dd : Option Addr) (sl : Array (Option Value)) (x : Int) (u : Tok) (h0 : -1000000 < x ∧ x < 1000000) (h1 : ¬ (items.isEmpty || x == 1) = true) (hz : items.size * x.toNat ≤ 1000000) :
    Meets (Builtin.«tuple.__mul__» ⟨[.ref l, .int x u], []⟩) (fun _ R s => s.heap.get? l = some { cls := .type "tuple", dict := dd, data := .seq items n, slots := sl } ∧
      R (.ok (.ret (Value.ref s.heap.objs.size))) { s with heap := s.heap.push { cls := Value.type "tuple", data := Data.seq ((List.replicate x.toNat items).foldl (· ++ ·) #[]) } }) :=
  .of_wp fun prog w A R s h => by
    obtain ⟨hp, g, d, tk, os⟩ := s; obtain ⟨hl, h⟩ := h
    have f1 := AutoSeq1.idx_int; have f2 := AutoSeq1.sub_tuple_tuple
    wp_walk using wpAny_loadPart' hl
    refine ifN (by rw [decide_eq_false (by omega), decide_eq_false (by omega)]; rfl) ?_
    wp_walk using wpAny_loadPart' hl
    have hne : items.isEmpty = false := by
      cases e : items.isEmpty with
      | false => rfl
      | true => rw [e] at h1; simp at h1
    by_cases hx : x ≤ 0
    · refine ifY (by rw [decide_eq_true hx]; rfl) ?_
      have e0 : x.toNat = 0 := by omega
      rw [e0] at h
      wp_walk using wpAny_loadPart' hl
      exact ⟨_, rfl, h⟩
    · refine ifN (by rw [decide_eq_false hx, hne]; rfl) ?_
      have hzi : (items.size : Int) * x ≤ 1000000 := by
        have : ((items.size * x.toNat : Nat) : Int) ≤ 1000000 := by omega
        rw [Int.natCast_mul, Int.toNat_of_nonneg (by omega)] at this
        exact this
      have hb : ¬ (items.size : Int) * x > (2 ^ 63 - 1) / 8 := by omega
      dsimp only
      rw [if_neg hb]
      have hs : (1000000 : Int) ≤ (sizeLine : Int) := by decide
      refine ifN (show Builtin.Tuple.tupleTooMany _ = false from decide_eq_false (by omega)) ?_
      have hfs : ¬ (List.foldl (fun x1 x2 => x1 ++ x2) #[] (List.replicate x.toNat items)).size > sizeLine := by
        have e := foldl_sizeV items x.toNat #[]
        rw [e]
        have : x.toNat * items.size ≤ 1000000 := by rw [Nat.mul_comm]; exact hz
        have : (1000000 : Nat) ≤ sizeLine := by decide
        simp only [List.size_toArray, List.length_nil]
        omega
      wp_walk using wpAny_loadPart' hl
      exact ⟨_, rfl, h⟩
theorem rmulTup (a : Int) (t : Tok) (l : Addr) (items : Array Value) (n : Nat) (dd : Option Addr) (sl : Array (Option Value)) :
    Meets (Builtin.«int.__rmul__» ⟨[.int a t, .ref l], []⟩) (fun _ R s => s.heap.get? l = some { cls := .type "tuple", dict := dd, data := .seq items n, slots := sl } ∧ R (.ok (.ret Value.notImplemented)) s) :=
  .of_wp fun prog w A R s h => by
    obtain ⟨hp, g, d, tk, os⟩ := s; obtain ⟨hl, h⟩ := h
    wp_walk
    exact ⟨_, rfl, h⟩
theorem noFillTup : fillsNumberSlot (.type "tuple") "mul" = pure false :=
  PySem.fillsNumberSlot_seq (id := "tuple.__mul__") (r := some (.builtin "tuple.__rmul__")) PySem.F.slot_tuple_mul.lookup (by decide +kernel) PySem.F.slot_tuple_rmul.lookup (by decide +kernel)
theorem repTup : seqRepeat? (.type "tuple") = pure (some (.builtin "tuple.__mul__")) := by
  unfold seqRepeat?
  rw [PySem.seqSlot_of (T := "tuple") (name := "__mul__") (id := "tuple.__mul__") PySem.F.slot_tuple_mul.lookup (by decide +kernel)]
  first | rfl | (rw [PySem.seqSlot_of (T := "tuple") (name := "__rmul__") (id := "tuple.__rmul__") PySem.F.slot_tuple_rmul.lookup (by decide +kernel)]; rfl)
section
variable {X : Cx}
theorem foldl_rep' (its : List Value) (k : Nat) : (List.replicate k its.toArray).foldl (· ++ ·) #[] = (List.replicate k its).flatten.toArray := by
  have : ∀ (m : Nat) (b : List Value), (List.replicate m its.toArray).foldl (· ++ ·) b.toArray = (b ++ (List.replicate m its).flatten).toArray := by
    intro m
    induction m with
    | zero => intro b; simp
    | succ m ih => intro b; rw [List.replicate_succ, List.foldl_cons, List.append_toArray, ih, List.replicate_succ, List.flatten_cons, List.append_assoc]
  have h := this k []
  rw [List.nil_append] at h
  exact h
theorem valsRep {xs : List V} {its : List Value} (r : Vals xs its) : ∀ k : Nat, Vals (List.replicate k xs).flatten (List.replicate k its).flatten
  | 0 => .nil
  | k + 1 => by rw [List.replicate_succ, List.replicate_succ, List.flatten_cons, List.flatten_cons]; exact r.append (valsRep r k)
theorem lenRep {α : Type} (xs : List α) (k : Nat) : (List.replicate k xs).flatten.length = xs.length * k := by
  induction k with
  | zero => rfl
  | succ k ih => rw [List.replicate_succ, List.flatten_cons, List.length_append, ih, Nat.mul_succ]; omega
noncomputable def dMul2 : P → P → Option P
  | .tup xs, .int n => if (capN (xs.length * n.toNat) && decide (n.natAbs < 1000000)) = true then some (.tup (List.replicate n.toNat xs).flatten) else none
  | x, y => dMul x y
theorem opMul2 : OpP X (binaryOp .Mult) dMul2 := by
  intro pins s σ H x y v u Q I rx ry h
  obtain ⟨F, dx, dy, d, ft, px, py, q, k⟩ := h
  have other : dMul dx dy = some d → wpAny (model X.prog X.w) X.A (binaryOp .Mult v u) (EP X pins σ Q) X.xe s := fun q => opMul pins s σ H x y v u Q I rx ry ⟨F, dx, dy, d, ft, px, py, q, k⟩
  cases dx with
  | tup ds =>
    cases dy with
    | int n =>
      simp only [dMul2] at q
      split at q
      · rename_i hc
        rw [Bool.and_eq_true, capN_ev'] at hc
        have h1 := of_decide_eq_true hc.2
        cases q
        obtain ⟨a, xs, rfl, ta, ra⟩ := px
        cases (show y = .int n from py)
        cases rx
        obtain ⟨t, rfl⟩ := ry
        have hl := ra.length
        obtain ⟨its, r, ⟨o, e, c, m, dd⟩, hz⟩ := I.tuple ta.sq
        have hl2 := r.length
        obtain ⟨oc, od, ot, os⟩ := o
        dsimp only at c dd
        subst c dd
        refine wpAny_binaryOp_repeat_ref (T := "tuple") (U := "int") (by decide) ⟨_, e, rfl⟩ (fun s' => typeIs_int s' n t) noFillTup PySem.F.fills_int_mul PySem.F.slot_int_rmul repTup PySem.F.slot_int_index.lookup
          (call_meets PySem.F.slot_int_rmul (typeIs_int s n t) PySem.F.entry_int_rmul (PySem.F.args_int_rmul_2 _ _) (rmulTup n t a its.toArray m od os) ⟨e, rfl, ⟨_, e, rfl⟩, ?_⟩)
        by_cases h2 : (its.toArray.isEmpty || n == 1) = true
        · refine call_meets PySem.F.slot_tuple_mul ⟨_, e, rfl⟩ PySem.F.entry_tuple_mul (PySem.F.args_tuple_mul_2 _ _) (tupMul1 a its.toArray m od os n t (by omega) h2) ⟨e, ⟨.ref a, H, I, rfl, k _ F H .refl ?_⟩⟩
          have e2 : (List.replicate n.toNat ds).flatten = ds := by
            rw [Bool.or_eq_true] at h2
            rcases h2 with h2 | h2
            · have : its = [] := by simpa using h2
              have : ds = [] := List.eq_nil_of_length_eq_zero (by rw [hl, hl2, this]; rfl)
              subst this
              simp
            · have : n = 1 := by simpa using h2
              subst this
              simp
          rw [e2]
          exact ⟨a, xs, rfl, ta, ra⟩
        · refine call_meets PySem.F.slot_tuple_mul ⟨_, e, rfl⟩ PySem.F.entry_tuple_mul (PySem.F.args_tuple_mul_2 _ _) (tupMul2 a its.toArray m od os n t (by omega) h2 (by rw [List.size_toArray, ← hl2, ← hl]; exact hc.1)) ⟨e, ?_⟩
          rw [foldl_rep']
          have hfr : H s.heap.objs.size = none := I.hok.fresh (Nat.le_refl _)
          have hsz : (List.replicate n.toNat xs).flatten.length ≤ sizeLine := by
            rw [lenRep, ← hl]
            exact Nat.le_trans hc.1 (by decide)
          refine ⟨.ref s.heap.objs.size, _, I.laid (t' := s.toks) (o := .tup (List.replicate n.toNat xs).flatten) (fun b ob q => Heap.get?_push_of_some _ q) (Nat.le_refl _) ⟨hsz, _, valsRep r n.toNat, IsTup.new _ _⟩, rfl, k _ F _ (grow_new hfr) (.newTup hfr (ra.rep n.toNat))⟩
      · cases q
    | _ => exact other q
  | _ => exact other q
noncomputable def c_list : List P → Option P
  | [.lst xs] => some (.lst xs)
  | [.ro xs] => some (.lst xs)
  | [.tup xs] => some (.lst xs)
  | _ => none
theorem callList : CallR X (.type "list") (rC X.K c_list) := by
  intro pins s σ H xs us Q I r h
  obtain ⟨F, ds, d, ft, rs, q, k⟩ := h
  unfold c_list at q
  split at q
  all_goals first
    | (cases q; done)
    | (cases q
       obtain ⟨x, rfl, p1⟩ := rps1 rs
       obtain ⟨a, ys, rfl, ta, ra⟩ := p1
       first
         | exact call_list_of pins s σ H _ us Q I r ⟨a, ys, rfl, .inl ta.sq, fun l hl => k _ _ _ (grow_frz hl) (.newLst hl ra)⟩
         | exact call_list_of pins s σ H _ us Q I r ⟨a, ys, rfl, .inr ta.sq, fun l hl => k _ _ _ (grow_frz hl) (.newLst hl ra)⟩)
variable {e : Expr} {es : List Expr} {fs : EVs} {p pos : Pos}
theorem x_list (hg : Gl X "list") (hm : X.mg "list" = none) (ha : PA X (e :: es) (tVs X.K fs)) (he : starEach (e :: es) X.env = (false, eval e X.env) :: starEach es X.env) (hpl : (backTo pos (starEach es X.env)).any (·.1) = false) :
    PE X (.Call (.Name "list" p) (e :: es) [] pos) (tV X.K (vCall c_list fs)) := xCallT callList hg hm PyProof.Rows.boot_list ha (by decide) (by decide) he hpl
noncomputable def eExtend (r : EE) (a : EV) : EE := fun L S => bnd (r L S) fun d S1 => match ownL d S1 with
  | none => none
  | some _ => bnd (a L S1) fun x S2 => match ownL d S2, x with
    | some (i, ds), .lst ys => if capN (ds.length + ys.length) = true then some (.p .non, S2.set i (.lst (ds ++ ys.map .p))) else none
    | _, _ => none
noncomputable def eClear (r : EE) : EE := fun L S => bnd (r L S) fun d S1 => match ownL d S1 with
  | some (i, _) => some (.p .non, S1.set i (.lst []))
  | none => none
end
end Ev
namespace Ev
open PySem PySem.Spec PyProof.Rows L2
section
variable {X : Cx} {o e : Expr} {fo fe : EE} {fa : EV} {apos cpos pos : Pos}
theorem xExtend (ho : PE X o (tE X.K fo)) (he : PE X e (tV X.K fa)) (hs : starEach [e] X.env = [(false, eval e X.env)])
    (hbase : attributeBase o "extend" X.env (eval o X.env) = eval o X.env) (hline : (apos.endLine == cpos.line) = true) : PE X (.Call (.Attribute o "extend" apos) [e] [] cpos) (tE X.K (eExtend fo fa)) :=
  (pe_bm PySem.F.plainAttrs_list PySem.F.slot_list_extend PySem.F.type_list_extend mt_extend ho (pa_cons he pa_nil (by rw [hs]; rfl)) hbase (by rw [hs]; rfl) hline (by rw [hs]; rfl) rfl).imp' fun σ H Q ⟨F, m, L, S, d, S', r, l, q, k⟩ => by
    obtain ⟨x, S1, e1, q⟩ := bnd_eq q
    refine ⟨F, m, L, S, x, S1, r, l, e1, fun v F1 m1 H1 s1 r1 p1 => ?_⟩
    cases eo : ownL x S1 with
    | none => rw [eo] at q; cases q
    | some z =>
      obtain ⟨i, ds⟩ := z
      rw [eo] at q
      dsimp only at q
      obtain ⟨rfl, es⟩ := ownL_eq eo
      obtain ⟨a, rfl, hm⟩ := id p1
      obtain ⟨xs, hH, rs⟩ := r1.obj i a _ hm es
      refine ⟨.inl ⟨rfl, xs, SqL.of hH⟩, ?_⟩
      obtain ⟨y, S2, e2, q⟩ := bnd_eq q
      refine ⟨F1, m1, L, S1, y, S2, r1, l.mono s1, e2, fun u F2 m2 H2 s2 r2 p2 => ?_⟩
      cases eo2 : ownL (.ref i) S2 with
      | none => rw [eo2] at q; cases q
      | some z =>
        obtain ⟨i2, ds2⟩ := z
        rw [eo2] at q
        obtain ⟨e3, es2⟩ := ownL_eq eo2
        cases e3
        cases y with
        | lst ys =>
          dsimp only at q
          split at q
          · rename_i hf
            cases q
            obtain ⟨a2, e4, hm2⟩ := RD.mono s2 p1
            cases e4
            obtain ⟨xs2, hH2, rs2⟩ := r2.obj i a _ hm2 es2
            obtain ⟨b, zs, rfl, tb, rb⟩ := p2
            have nt : ∀ zs, H2 a ≠ some (.tup zs) := fun zs z => by rw [hH2] at z; cases z
            have st : Stp F2 m2 H2 F2 m2 (upd H2 a (.lst (xs2 ++ zs))) := stp_set r2 hm2 es2 trivial nt
            refine ⟨a, b, xs2, zs, rfl, rfl, hH2, tb.2, by rw [← rs2.length, ← rb.length]; exact capN_le hf, ?_⟩
            exact k .non F2 m2 _ (s1.trans (s2.trans st)) (r2.set hm2 es2 trivial nt ⟨_, upd_same, RDs.mono st (rs2.append (RDs.ofP rb))⟩) rfl
          · cases q
        | _ => cases q
theorem xClear (ho : PE X o (tE X.K fo)) (hbase : attributeBase o "clear" X.env (eval o X.env) = eval o X.env) (hline : (apos.endLine == cpos.line) = true) : PE X (.Call (.Attribute o "clear" apos) [] [] cpos) (tE X.K (eClear fo)) :=
  (pe_bm0 PySem.F.plainAttrs_list PySem.F.slot_list_clear PySem.F.type_list_clear mt_clear ho hbase hline).imp' fun σ H Q ⟨F, m, L, S, d, S', r, l, q, k⟩ => by
    obtain ⟨x, S1, e1, q⟩ := bnd_eq q
    refine ⟨F, m, L, S, x, S1, r, l, e1, fun v F1 m1 H1 s1 r1 p1 => ?_⟩
    cases eo : ownL x S1 with
    | none => rw [eo] at q; cases q
    | some z =>
      obtain ⟨i, ds⟩ := z
      rw [eo] at q
      cases q
      obtain ⟨rfl, es⟩ := ownL_eq eo
      obtain ⟨a, rfl, hm⟩ := id p1
      obtain ⟨xs, hH, rs⟩ := r1.obj i a _ hm es
      have nt : ∀ zs, H1 a ≠ some (.tup zs) := fun zs z => by rw [hH] at z; cases z
      have st : Stp F1 m1 H1 F1 m1 (upd H1 a (.lst [])) := stp_set r1 hm es trivial nt
      refine ⟨.inl ⟨rfl, xs, SqL.of hH⟩, a, xs, rfl, rfl, hH, ?_⟩
      exact k .non F1 m1 _ (s1.trans st) (r1.set hm es trivial nt ⟨_, upd_same, rfl⟩) rfl
noncomputable abbrev EDs := Lc → Sto → Option (List D × Sto)
noncomputable def tDs (K : PySem.W.Frag) (f : EDs) : TA := fun σ H Q => ∃ F m L S ds S', Rel K F H m S ∧ RL K F H m σ L ∧ f L S = some (ds, S') ∧ ∀ xs F' m' H', Stp F m H F' m' H' → Rel K F' H' m' S' → RDs K F' H' m' ds xs → Q xs H'
noncomputable def dsNil : EDs := fun _ S => some ([], S)
noncomputable def dsCons (a : EE) (r : EDs) : EDs := fun L S => bnd (a L S) fun x S1 => bnd (r L S1) fun xs S2 => some (x :: xs, S2)
variable {es : List Expr} {fs : EDs}
theorem daNil : PA X [] (tDs X.K dsNil) := pa_nil.imp' fun σ H Q ⟨F, m, L, S, d, S', r, l, q, k⟩ => by
  cases q
  exact k [] F m H .refl r rfl
theorem daCons (ha : PE X e (tE X.K fe)) (hr : PA X es (tDs X.K fs)) (hs : starEach (e :: es) X.env = (false, eval e X.env) :: starEach es X.env) : PA X (e :: es) (tDs X.K (dsCons fe fs)) :=
  (pa_cons ha hr hs).imp' fun σ H Q ⟨F, m, L, S, d, S', r, l, q, k⟩ => by
    obtain ⟨x, S1, e1, q⟩ := bnd_eq q
    obtain ⟨xs, S2, e2, q⟩ := bnd_eq q
    cases q
    refine ⟨F, m, L, S, x, S1, r, l, e1, fun v F1 m1 H1 s1 r1 p1 => ?_⟩
    refine ⟨F1, m1, L, S1, xs, S', r1, l.mono s1, e2, fun vs F2 m2 H2 s2 r2 p2 => ?_⟩
    exact k (v :: vs) F2 m2 H2 (s1.trans s2) r2 ⟨v, vs, rfl, RD.mono s2 p1, p2⟩
noncomputable def eLstD (a : EDs) : EE := fun L S => bnd (a L S) fun xs S1 => if few xs = true then some (.ref S1.length, S1 ++ [.lst xs]) else none
theorem xLstD (h : PA X es (tDs X.K fs)) : PE X (.List es pos) (tE X.K (eLstD fs)) := (pe_lst h).imp' fun σ H Q ⟨F, m, L, S, d, S', r, l, q, k⟩ => by
  obtain ⟨xs, S1, e1, q⟩ := bnd_eq q
  split at q
  · rename_i hf
    cases q
    refine ⟨F, m, L, S, xs, S1, r, l, e1, fun vs F1 m1 H1 s1 r1 p1 => ⟨by rw [← p1.length]; exact few_le hf, fun p hp => ?_⟩⟩
    have s2 : Stp F1 m1 H1 F1 (m1 ++ [p]) (upd H1 p (.lst vs)) := stp_own hp
    refine k (.ref p) F1 (m1 ++ [p]) _ (s1.trans s2) (r1.own hp ⟨vs, upd_same, RDs.mono s2 p1⟩) ⟨p, rfl, ?_⟩
    rw [← r1.len, List.getElem?_append_right (Nat.le_refl _)]; simp
  · cases q
noncomputable abbrev GF := List D → Sto → Option (D × Sto)
noncomputable def spR (K : PySem.W.Frag) (g : GF) : Sp := fun vs H Q _ => ∃ F m ds S d S', Rel K F H m S ∧ RDs K F H m ds vs ∧ g ds S = some (d, S') ∧ ∀ v F' m' H', Stp F m H F' m' H' → Rel K F' H' m' S' → RD K F' H' m' d v → Q v H'
noncomputable def eCallR (g : GF) (a : EDs) : EE := fun L S => bnd (a L S) fun ds S1 => g ds S1
theorem xCallR {f : Addr} {fd : FuncData} {ps : List Str} {k : Nat} {x : Str} {p : Pos} {g : GF} (G : FnOk X.prog X.w X.K X.mg X.base CX0 k f fd ps (spR X.K g)) (hr : Room k X.A) (hg : Gl X x) (hm : X.mg x = some (.ref f)) (hk : PySem.W.keepIn X.K (.ref f) = true) (hb : Binds X.K fd ps [])
    (ha : PA X (e :: es) (tDs X.K fs)) (hdb : (x == ("__debug__" : Str)) = false) (he : starEach (e :: es) X.env = (false, eval e X.env) :: starEach es X.env) (hpl : (backTo pos (starEach es X.env)).any (·.1) = false) :
    PE X (.Call (.Name x p) (e :: es) [] pos) (tE X.K (eCallR g fs)) :=
  (pe_call G hr hg hm hk hb .nil pass0 ha hdb he hpl).imp' fun σ H Q ⟨F, m, L, S, d, S', r, l, q, k⟩ => by
    obtain ⟨ds, S1, e1, q⟩ := bnd_eq q
    refine ⟨F, m, L, S, ds, S1, r, l, e1, fun xs F' m' H' s r' p => ?_⟩
    show spR X.K g (xs ++ []) H' Q E0
    rw [List.append_nil]
    exact ⟨F', m', ds, S1, d, S', r', p, q, fun v F2 m2 H2 s2 r2 p2 => k v F2 m2 H2 (s.trans s2) r2 p2⟩
noncomputable def lowD (n : Nat) : D → Bool
  | .p _ => true
  | .ref i => decide (i < n)
noncomputable def lowO (n : Nat) : SO → Bool
  | .lst ds => ds.all (lowD n)
  | .dct _ ds => ds.all (lowD n)
  | .fz _ => true
noncomputable def trunc (n : Nat) (S : Sto) : Sto := if (S.take n).all (lowO n) = true then S.take n else S
noncomputable def vCallR (g : GF) (a : EDs) : EV := fun L S => bnd (a L S) fun ds S1 => bnd (g ds S1) fun d S2 => bnd (toP 9 d S2) fun v S3 => some (v, trunc S1.length S3)
end
section
variable {K : PySem.W.Frag} {F : Addr → Prop} {H : Hp} {m : List Addr} {S : Sto}
theorem RD.low {n : Nat} {d : D} {v : V} (h : RD K F H m d v) (hl : lowD n d = true) : RD K F H (m.take n) d v := by
  cases d with
  | p w => exact h
  | ref i =>
    obtain ⟨a, e, hm⟩ := h
    exact ⟨a, e, by rw [List.getElem?_take_of_lt (of_decide_eq_true hl)]; exact hm⟩
theorem RDs.low {n : Nat} : ∀ {ds : List D} {xs : List V}, RDs K F H m ds xs → ds.all (lowD n) = true → RDs K F H (m.take n) ds xs
  | [], _, h, _ => h
  | d :: ds, _, h, hl => by
    obtain ⟨x, r, e, h1, h2⟩ := h
    rw [List.all_cons, Bool.and_eq_true] at hl
    exact ⟨x, r, e, h1.low hl.1, RDs.low h2 hl.2⟩
theorem Rel.trunc {n : Nat} (r : Rel K F H m S) (hn : n ≤ m.length) (h : (S.take n).all (lowO n) = true) : Rel K F H (m.take n) (S.take n) where
  len := by rw [List.length_take, List.length_take, r.len]
  nd := r.nd.sublist (List.take_sublist _ _)
  obj := fun i a o e1 e2 => by
    have hi : i < n := by
      have := (List.getElem?_eq_some_iff.mp e1).1
      rw [List.length_take] at this; omega
    rw [List.getElem?_take_of_lt hi] at e1
    have lo := List.all_eq_true.mp h o (List.mem_of_getElem? e2)
    rw [List.getElem?_take_of_lt hi] at e2
    have ob := r.obj i a o e1 e2
    cases o with
    | lst ds => obtain ⟨xs, hH, rs⟩ := ob; exact ⟨xs, hH, rs.low lo⟩
    | dct ks ds => obtain ⟨kvs, hH, e, rs⟩ := ob; exact ⟨kvs, hH, e, rs.low lo⟩
    | fz v => exact ob
  sep := fun i a o e1 e2 w f => by
    have hi : i < n := by
      have := (List.getElem?_eq_some_iff.mp e1).1
      rw [List.length_take] at this; omega
    rw [List.getElem?_take_of_lt hi] at e1 e2
    exact r.sep i a o e1 e2 w f
  trk := fun a h => r.trk a (List.mem_of_mem_take h)
  ft := r.ft
theorem Stp.trunc {F' : Addr → Prop} {m' : List Addr} {H' : Hp} (s : Stp F m H F' m' H') : Stp F m H F' (m'.take m.length) H' := by
  obtain ⟨n, e⟩ := s.pre
  have e2 : m'.take m.length = m := by rw [e]; simp
  rw [e2]
  exact ⟨⟨[], by simp⟩, s.oth, s.frz, s.frk, s.tup, s.trk, s.nf, fun _ h => .inl h⟩
end
section
variable {X : Cx} {e : Expr} {es : List Expr} {fs : EDs} {pos : Pos}
theorem xVCallR {f : Addr} {fd : FuncData} {ps : List Str} {k : Nat} {x : Str} {p : Pos} {g : GF} (G : FnOk X.prog X.w X.K X.mg X.base CX0 k f fd ps (spR X.K g)) (hr : Room k X.A) (hg : Gl X x) (hm : X.mg x = some (.ref f)) (hk : PySem.W.keepIn X.K (.ref f) = true) (hb : Binds X.K fd ps [])
    (ha : PA X (e :: es) (tDs X.K fs)) (hdb : (x == ("__debug__" : Str)) = false) (he : starEach (e :: es) X.env = (false, eval e X.env) :: starEach es X.env) (hpl : (backTo pos (starEach es X.env)).any (·.1) = false) :
    PE X (.Call (.Name x p) (e :: es) [] pos) (tV X.K (vCallR g fs)) :=
  (pe_call G hr hg hm hk hb .nil pass0 ha hdb he hpl).imp' fun σ H Q ⟨F, m, L, S, d, S', r, l, q, k⟩ => by
    obtain ⟨ds, S1, e1, q⟩ := bnd_eq q
    obtain ⟨d1, S2, e2, q⟩ := bnd_eq q
    obtain ⟨v1, S3, e3, q⟩ := bnd_eq q
    cases q
    refine ⟨F, m, L, S, ds, S1, r, l, e1, fun xs F1 m1 H1 s1 r1 p1 => ?_⟩
    show spR X.K g (xs ++ []) H1 Q E0
    rw [List.append_nil]
    refine ⟨F1, m1, ds, S1, d1, S2, r1, p1, e2, fun v F2 m2 H2 s2 r2 p2 => ?_⟩
    obtain ⟨F3, s3, r3, l3, p3⟩ := toP_ok 9 e3 r2 p2
    have st := s2.trans s3
    have hl1 := r1.len
    by_cases hc : (S3.take S1.length).all (lowO S1.length) = true
    · have et : Ev.trunc S1.length S3 = S3.take S1.length := if_pos hc
      rw [et] at k
      have hle : m1.length ≤ m2.length := by
        obtain ⟨nn, e⟩ := st.pre
        rw [e, List.length_append]; omega
      have rt := r3.trunc (n := S1.length) (by rw [← hl1]; exact hle) hc
      refine k v F3 (m2.take m1.length) H2 (s1.trans st.trunc) ?_ p3
      rw [hl1]; exact rt
    · have et : Ev.trunc S1.length S3 = S3 := if_neg hc
      rw [et] at k
      exact k v F3 m2 H2 (s1.trans st) r3 p3
end
end Ev
namespace Ev
open PySem PySem.Spec PyProof.Rows L2
section
variable {X : Cx} {a b c e o i value : Expr} {fa fb fc fk fv : EV} {fo fe : EE} {pos pos' : Pos}
noncomputable def truP : P → Option Bool
  | .non => some false
  | .bl b => some b
  | .int i => some (i != 0)
  | .str x => if capN x.length = true then some ((x.length : Int) != 0) else none
  | .tup xs => some (!xs.isEmpty)
  | .lst xs => some (!xs.isEmpty)
  | .ro xs => some (!xs.isEmpty)
  | .dct ks _ => some (!ks.isEmpty)
noncomputable def truD : D → Sto → Option Bool
  | .p v, _ => truP v
  | .ref i, S => match S[i]? with
    | some (.lst ds) => some (!ds.isEmpty)
    | some (.dct ks _) => some (!ks.isEmpty)
    | some (.fz v) => truP v
    | none => none
noncomputable def bT (f : EE) : EB := fun L S => bnd (f L S) fun d S1 => (truD d S1).map fun b => (b, S1)
theorem isEmpty_len {α β : Type} {xs : List α} {ys : List β} (h : xs.length = ys.length) : xs.isEmpty = ys.isEmpty := by
  cases xs <;> cases ys <;> first | rfl | simp at h
theorem truP_ok {F : Addr → Prop} {H : Hp} {w : P} {v : V} {t : Bool} (p : RP X.K F H w v) (h : truP w = some t) : TruV X.K v H t := by
  cases w with
  | non => cases (show v = .non from p); cases h; rfl
  | bl b => cases (show v = .bl b from p); cases h; rfl
  | int b => cases (show v = .int b from p); cases h; rfl
  | str x =>
    cases (show v = .str x from p)
    simp only [truP] at h
    split at h
    · rename_i hc; cases h; exact ⟨capN_le hc, rfl⟩
    · cases h
  | tup ds => obtain ⟨a, xs, rfl, ta, ra⟩ := p; cases h; exact .inr (.inl ⟨xs, ta.sq, by rw [isEmpty_len ra.length]⟩)
  | lst ds => obtain ⟨a, xs, rfl, ta, ra⟩ := p; cases h; exact .inl ⟨xs, ta.sq, by rw [isEmpty_len ra.length]⟩
  | ro ds => obtain ⟨a, xs, rfl, ta, ra⟩ := p; cases h; exact .inl ⟨xs, ta.sq, by rw [isEmpty_len ra.length]⟩
  | dct ks ds =>
    obtain ⟨a, kvs, rfl, _, hk, ek, ra⟩ := p
    cases h
    exact .inr (.inr ⟨kvs, hk, by rw [← ek]; cases kvs <;> rfl⟩)
theorem yT (h : PE X e (tE X.K fe)) (he : ∀ whole, isTrue e X.env whole = (do let v ← whole; standAt e.pos; holding [v] (truthy v))) : PT X e (tQ X.K (bT fe)) :=
  (pt_truth h he).imp' fun σ H Q ⟨F, m, L, S, d, S', r, l, q, k⟩ => by
    obtain ⟨x, S1, e1, q⟩ := bnd_eq q
    cases et : truD x S1 with
    | none => rw [et] at q; cases q
    | some t =>
      rw [et] at q
      cases q
      refine ⟨F, m, L, S, x, _, r, l, e1, fun v F1 m1 H1 s1 r1 p1 => ⟨_, ?_, k F1 m1 H1 s1 r1⟩⟩
      cases x with
      | p w => exact truP_ok p1 et
      | ref j =>
        obtain ⟨a, rfl, hm⟩ := p1
        simp only [truD] at et
        split at et
        · rename_i ds ho
          cases et
          obtain ⟨xs, hH, rs⟩ := r1.obj j a _ hm ho
          exact .inl ⟨xs, SqL.of hH, by rw [isEmpty_len rs.length]⟩
        · rename_i ks ds ho
          cases et
          obtain ⟨kvs, hH, ek, rs⟩ := r1.obj j a _ hm ho
          exact .inr (.inr ⟨kvs, hH, by rw [← ek]; cases kvs <;> rfl⟩)
        · rename_i w ho
          exact truP_ok (r1.obj j a _ hm ho) et
        · cases et
noncomputable def itR2 (a b : EV) : EVs := fun L S => bnd (a L S) fun x S1 => bnd (b L S1) fun y S2 => match x, y with
  | .int lo, .int hi => if (decide (lo.natAbs < 1000000) && decide (hi.natAbs < 1000000)) = true then some (intsFrom lo (hi - lo).toNat, S2) else none
  | _, _ => none
theorem iR2 {tg : Expr} {p : Pos} (hg : Gl X "range") (hm : X.mg "range" = none) (ha : PE X a (tV X.K fa)) (hb : PE X b (tV X.K fb)) (hs : starEach [a, b] X.env = [(false, eval a X.env), (false, eval b X.env)]) (hs2 : starEach [b] X.env = [(false, eval b X.env)]) :
    PI X tg (.Call (.Name "range" p) [a, b] [] pos) (tI X.K (itR2 fa fb)) :=
  (pi_range2 hg hm (pa_cons ha (pa_cons hb pa_nil (by rw [hs2]; rfl)) (by rw [hs, hs2])) hs hs2).imp' fun σ H R ⟨F, m, L, S, vs, S', r, l, q, k⟩ => by
    obtain ⟨x, S1, e1, q⟩ := bnd_eq q
    obtain ⟨y, S2, e2, q⟩ := bnd_eq q
    cases x with
    | int lo =>
      cases y with
      | int hi =>
        dsimp only at q
        split at q
        · rename_i hc
          rw [Bool.and_eq_true] at hc
          have h1 := of_decide_eq_true hc.1
          have h2 := of_decide_eq_true hc.2
          cases q
          refine ⟨F, m, L, S, _, _, r, l, e1, fun x F1 m1 H1 s1 r1 p1 => ⟨F1, m1, L, S1, _, _, r1, l.mono s1, e2, fun y F2 m2 H2 s2 r2 p2 => ?_⟩⟩
          cases (show x = .int lo from p1)
          cases (show y = .int hi from p2)
          exact ⟨lo, hi, rfl, ⟨by omega, by omega, by omega, by omega⟩, k _ F2 m2 H2 (s1.trans s2) r2 itr_ok⟩
        · cases q
      | _ => cases q
    | _ => cases q
noncomputable def dAdd2 : P → P → Option P
  | .tup [], .tup ys => some (.tup ys)
  | x, y => dAdd x y
theorem catNil {M : Program} {w : World} {A : Around} {E : Value → Shared → Prop} {s : Shared} {t b : Addr} {ws : List Value} {Q : Value → Shared → Prop} (ht : IsTup s.heap t #[]) (hb : IsTup s.heap b ws.toArray) (h : Q (.ref b) s) : wpAny (model M w) A (binaryOp .Add (.ref t) (.ref b)) Q E s := by
  obtain ⟨⟨cls, dd, data, sl⟩, ho, hc, n, hd⟩ := id ht
  obtain ⟨⟨cls2, dd2, data2, sl2⟩, ho2, hc2, n2, hd2⟩ := id hb
  simp only at hc hd hc2 hd2
  subst hc hd hc2 hd2
  exact concat_meets ⟨_, ho, rfl⟩ ⟨_, ho2, rfl⟩ noFill_tuple_add seq_tuple_add PySem.F.slot_tuple_add PySem.F.entry_tuple_add (PySem.F.args_tuple_add_2 _ _) (tuple_addW0 t b #[] ws.toArray n n2 dd dd2 sl sl2 rfl) ⟨ho, ho2, h⟩
theorem opAdd2 : OpP X (binaryOp .Add) dAdd2 := by
  intro pins s σ H x y v u Q I rx ry h
  obtain ⟨F, dx, dy, d, ft, px, py, q, k⟩ := h
  have other : dAdd dx dy = some d → wpAny (model X.prog X.w) X.A (binaryOp .Add v u) (EP X pins σ Q) X.xe s := fun q => opAdd pins s σ H x y v u Q I rx ry ⟨F, dx, dy, d, ft, px, py, q, k⟩
  cases dx with
  | tup ds =>
    cases dy with
    | tup es =>
      cases ds with
      | nil =>
        cases q
        obtain ⟨a, xs, rfl, ta, ra⟩ := px
        obtain ⟨b, ys, rfl, tb, rb⟩ := id py
        cases (show xs = [] from ra)
        cases rx; cases ry
        obtain ⟨its, r1, p1, _⟩ := I.tuple ta.sq
        obtain ⟨its2, r2, p2, _⟩ := I.tuple tb.sq
        cases r1
        exact catNil p1 p2 ⟨.ref b, H, I, rfl, k _ F H .refl py⟩
      | cons _ _ => exact other q
    | _ => cases ds <;> exact other q
  | _ => exact other q
noncomputable def GlobOk (K : PySem.W.Frag) (mg : Str → Option Value) (x : Str) (v : P) : Prop := ∃ u w, mg x = some u ∧ RelV w u ∧ ∀ F H, RP K F H v w
theorem xGlob {x : Str} {v : P} (hg : Gl X x) (h : GlobOk X.K X.mg x v) (hd : (x == ("__debug__" : Str)) = false) : PE X (.Name x pos) (tV X.K (vC v)) := by
  obtain ⟨u, w, hm, r, p⟩ := h
  exact xC (pe_glob hg hm r hd) p
end
end Ev
namespace Ev
open PySem PySem.Spec PyProof.Rows L2
section
variable {X : Cx} {a : Expr} {fa : EE} {p pos : Pos}
noncomputable def isiD (T : String) : D → Sto → Option Bool
  | .p v, _ => some (isiP T v)
  | .ref i, S => match S[i]? with
    | some (.lst _) => some (isiP T (.lst []))
    | some (.dct _ _) => some (isiP T (.dct [] []))
    | some (.fz v) => some (isiP T v)
    | none => none
noncomputable def vIsi (T : String) (f : EE) : EV := fun L S => bnd (f L S) fun d S1 => (isiD T d S1).map fun b => (.bl b, S1)
theorem call_isiE {T : String} (hT : ∀ K : PySem.W.Frag, ∀ v : P, PySem.W.kitOne K (.type (tyN v)) (.type T) = some (isiP T v)) :
    CallR X (.builtin "isinstance") (fun xs H Q => ∃ F m S d b x, xs = [x, .ty T] ∧ Rel X.K F H m S ∧ RD X.K F H m d x ∧ isiD T d S = some b ∧ Q (.bl b) H) := by
  intro pins s σ H xs us Q I r h
  obtain ⟨F, m, S, d, b, x, rfl, rl, pd, ei, q⟩ := h
  have plain : ∀ w : P, RP X.K F H w x → isiP T w = b → wpAny (model X.prog X.w) X.A _ _ _ _ := fun w hw e => call_isi hT pins s σ H [x, .ty T] us Q I r ⟨F, w, x, rfl, hw, by rw [e]; exact q⟩
  cases d with
  | p w => cases ei; exact plain w pd rfl
  | ref j =>
    obtain ⟨a, rfl, hm⟩ := pd
    simp only [isiD] at ei
    obtain ⟨u, w', rfl, ru, rw'⟩ := vals2 r
    cases (show w' = Value.type T from rw')
    have fin : ∀ tk, EP X pins σ Q (.bool b) { s with toks := tk } := fun tk => ⟨.bl b, H, I.tok _, rfl, q⟩
    split at ei
    · rename_i ds ho
      obtain ⟨xs, hH, rs⟩ := rl.obj j a _ hm ho
      have e := hT X.K (.lst [])
      rw [show isiP T (.lst []) = b by cases ei; rfl] at e
      cases ru
      obtain ⟨its, _, pl, _⟩ := I.list (SqL.of hH)
      obtain ⟨o, n, h1, h2, _⟩ := pl
      exact PySem.W.kia_one PySem.W.kitx_list I.kIn ⟨o, h1, h2⟩ e (fun z => nomatch z) fin
    · rename_i ks ds ho
      obtain ⟨kvs, hH, ek, rs⟩ := rl.obj j a _ hm ho
      have e := hT X.K (.dct [] [])
      rw [show isiP T (.dct [] []) = b by cases ei; rfl] at e
      exact isinst_ok I ru (.dK hH) e fin
    · rename_i w ho
      exact plain w (rl.obj j a _ hm ho) (by cases ei; rfl)
    · cases ei
theorem yIsi {T : String} {tn : Str} {p2 : Pos} (hT : ∀ K : PySem.W.Frag, ∀ v : P, PySem.W.kitOne K (.type (tyN v)) (.type T) = some (isiP T v)) (hg : Gl X "isinstance") (hm : X.mg "isinstance" = none) (hg2 : Gl X tn) (hm2 : X.mg tn = none) (hb : bootBuiltins tn = some (.type T)) (ha : PE X a (tE X.K fa))
    (hn : tn ≠ "__name__") (hd : (tn == ("__debug__" : Str)) = false) (hs : starEach [a, .Name tn p2] X.env = [(false, eval a X.env), (false, eval (.Name tn p2) X.env)]) : PE X (.Call (.Name "isinstance" p) [a, .Name tn p2] [] pos) (tV X.K (vIsi T fa)) :=
  (pe_callB (call_isiE hT) hg hm PyProof.Rows.boot_isinstance (pa_cons ha (pa_cons (pe_bltn (v := .ty T) hg2 hm2 hb rfl hn hd) pa_nil rfl) (by rw [hs]; rfl)) (by decide) (by decide) (by rw [hs]; rfl) rfl).imp' fun σ H Q ⟨F, m, L, S, d, S', r, l, q, k⟩ => by
    obtain ⟨x, S1, e1, q⟩ := bnd_eq q
    cases ei : isiD T x S1 with
    | none => rw [ei] at q; cases q
    | some b =>
      rw [ei] at q
      cases q
      exact ⟨F, m, L, S, _, _, r, l, e1, fun v F' m' H' s r' pp => ⟨F', m', _, x, b, v, rfl, r', pp, ei, k _ F' m' H' s r' rfl⟩⟩
end
end Ev
namespace Ev
open PySem PySem.Spec PyProof.Rows L2
open PySem.W (KasT kas_sort kas_ask kas_item kat_run kat_snds kat_lt kat_kind KatTups KatLex kat_nil kat_cons kat_yes kat_no kat_one)
noncomputable def evo {α : Type} (lt : Nat → Nat → Option Bool) : KasT α → Option α
  | .ret a => some a
  | .ask i j k => match lt i j with
    | some b => evo lt (k b)
    | none => none
theorem evo_wp {α : Type} {lt : Nat → Nat → Option Bool} {cmp : Nat → Nat → (Bool → Shared → Prop) → Shared → Prop} {Q : α → Shared → Prop} {s : Shared} (hc : ∀ i j b C, lt i j = some b → C b s → cmp i j C s) {a : α} (q : Q a s) :
    ∀ (t : KasT α), evo lt t = some a → t.kasWp cmp Q s
  | .ret _, h => by cases h; exact q
  | .ask i j k, h => by
    simp only [evo] at h
    split at h
    · rename_i b hb
      exact hc i j b _ hb (evo_wp hc q (k b) h)
    · cases h
section
variable {prog : Program} {w : World} {A : Around} {E : Value → Shared → Prop} {s : Shared} {D : Addr} {vs : List Value}
theorem few_same (few : vs.length < 2) : ((arrOf (SortSt.mk' general' (vs.toArray.zip vs.toArray) #[] 7 none)).map (·.2)) = vs.toArray := by
  have same : (vs.toArray.zip vs.toArray).map (·.2) = vs.toArray := by
    rcases vs with _ | ⟨v, _ | ⟨u, r⟩⟩
    · simp
    · simp
    · exact absurd few (by simp)
  exact same
theorem few_sort {k : Nat} {G : PySem.Fin → Shared → Prop} (few : vs.length < 2) (at0 : s.heap.get? D = some (seqObj "list" vs.toArray k))
    (go : ∀ h' c, (∀ b o, b ≠ D → s.heap.get? b = some o → h'.get? b = some o) → h'.get? D = some (seqObj "list" vs.toArray c) → G (.done (.ret .none)) { s with heap := h' }) :
    wpAny (model prog w) A (Builtin.«list.sort» ⟨[.ref D], []⟩) G E s := by
  have many : vs.length + 1 ≤ sizeLine := by rw [sizeLine_eq]; omega
  have cond : vs.toArray.size < 2 := by simpa using few
  have at1 := get?_update_seq at0 fun _ => (#[] : Array Value)
  rw [list_sort_plain]
  refine wpAny_bind <| listItems_at at0 rfl <| wpAny_bind <| listUpdate_at at0 rfl (wpAny_bind <| seqEpoch_at at1 rfl <| wpAny_bind <| wpAny_newTuple (wpAny_bind <| wpAny_newList (wpAny_holding ?_) (Nat.zero_le _)) (by simpa using Nat.le_of_succ_le many)) (by simpa using Nat.le_of_succ_le many) (Nat.zero_le _)
  simp only [cond, if_true]
  have keep : ∀ b o, (s.heap.update D (Obj.mapSeq fun _ => (#[] : Array Value))).get? b = some o → ((((s.heap.update D (Obj.mapSeq fun _ => (#[] : Array Value))).push { cls := .type "tuple", data := .seq vs.toArray }).push { cls := .type "list", data := .seq ([] : List Value).toArray })).get? b = some o :=
    fun _ _ q => Heap.get?_push_of_some _ (Heap.get?_push_of_some _ q)
  have at2 := keep D _ at1
  refine wpAny_bind <| wpAny_pure <| wpAny_bind <| wpAny_pure ?_
  refine wpAny_bind <| seqEpoch_at at2 rfl <| wpAny_bind <| listUpdate_at at2 rfl ?_ (Nat.zero_le _) (by rw [few_same few]; simpa using Nat.le_succ_of_le (Nat.le_of_succ_le many))
  rw [few_same few]
  have at3 := get?_update_seq at2 fun _ => vs.toArray
  simp only [bne_self_eq_false, Bool.false_eq_true, if_false, failedOf]
  refine wpAny_pure (go _ _ (fun b o nb e => ?_) at3)
  exact ((Heap.SameBut.update _ D _).2 b nb).trans (keep b o (((Heap.SameBut.update s.heap D _).2 b nb).trans e))
theorem ask_mono {α : Type} {κ : SortKind} {Q Q' : α → Shared → Prop} (hq : ∀ a u, Q a u → Q' a u) : ∀ (t : KasT α) (u : Shared), t.kasWp (kas_ask prog w A κ vs) Q u → t.kasWp (kas_ask prog w A κ vs) Q' u
  | .ret a, u, h => hq a u h
  | .ask _ _ k, _, h => wpAny_mono h (fun b u hb => ask_mono hq (k b) u hb) fun _ _ x => x
theorem sortedF {h₀ : Heap} {L l : Addr} {m : Str → Option Value} {news : List (Addr × Obj)} {T : String} {o : Obj} {n : Nat} {G : Value → Shared → Prop} (F : Fr h₀ L s.heap m) (N : News h₀ L s.heap news) (hT : T = "list" ∨ T = "tuple") (ho : s.heap.get? l = some o) (hc : o.cls = .type T) (hd : o.data = .seq vs.toArray n) (h64 : vs.length < 64)
    (h1 : vs.length < 2 → ∀ D h' c, s.heap.get? D = none → Fr h₀ L h' m → News h₀ L h' ((D, seqObj "list" vs.toArray c) :: news) → G (.ref D) { s with heap := h' })
    (h2 : 2 ≤ vs.length → ∀ D e h', s.heap.get? D = none → (∀ q ∈ news, q.1 ≠ D) → Fr h₀ L h' m → News h₀ L h' ((D, seqObj "list" #[] e) :: news) →
      wpAny (model prog w) A.in1.in1 (keyKind' vs.toArray) (fun κ u => (kas_sort vs.length).kasWp (kas_ask prog w A.in1.in1 κ vs) (fun p u => PySem.W.KasFin h₀ L m D e (p.toList.map fun i => vs.getD i Value.none) (fun u => G (.ref D) u) u) u) (fun _ _ => False) { s with heap := h' }) :
    wpAny (model prog w) A (call (.builtin "sorted") [.ref l]) G E s := by
  have many : vs.length ≤ sizeLine := by rw [sizeLine_eq]; omega
  refine Calls.call_function_entry (b := Builtin.«sorted») kind_sorted plain_sorted entry_sorted (args_sorted1 (.ref l)) (wpAny_bind (m := checkCount "sorted" 1 1 1) <| wpAny_pure <| wpAny_bind <| wpAny_collect_seq l hT ho hc hd (fun h k => wpAny_bind <| wpAny_newList ?_ many) many)
  have none0 : ∀ b, b = h.objs.size → s.heap.get? b = none := fun b hb => by
    cases q : s.heap.get? b with
    | none => rfl
    | some u => exact absurd (Heap.lt_size (k b u q)) (by rw [hb]; exact Nat.lt_irrefl _)
  have k2 : ∀ b u, s.heap.get? b = some u → (h.push { cls := .type "list", data := .seq vs.toArray }).get? b = some u := fun b u e => Heap.get?_push_of_some _ (k b u e)
  have atD : (h.push { cls := .type "list", data := .seq vs.toArray }).get? h.objs.size = some (seqObj "list" vs.toArray 0) := Heap.get?_push_size _ rfl
  have neL : h.objs.size ≠ L := fun z => by
    obtain ⟨u, _, _, e, _⟩ := F.ns
    rw [none0 L z.symm] at e; cases e
  have no0 : h₀.get? h.objs.size = none := by
    rcases q : h₀.get? h.objs.size with _ | u
    · rfl
    · have := F.keep _ _ q
      rw [none0 _ rfl] at this; cases this
  have neN : ∀ q ∈ news, q.1 ≠ h.objs.size := fun q hq z => by
    have := (N q hq).1
    rw [none0 _ z] at this; cases this
  have F1 := F.keeps k2
  have N1 := N.keeps k2
  refine wpAny_bind (wpAny_holding (wpAny_call_entry (b := Builtin.«list.sort») slot_list_sort ⟨_, atD, rfl⟩ entry_list_sort ?_ (args_list_sort _)))
  by_cases few : vs.length < 2
  · refine few_sort (s := { s with heap := h.push { cls := .type "list", data := .seq vs.toArray } }) few atD fun h' c kp e => ⟨_, rfl, wpAny_pure ⟨_, rfl, h1 few _ h' c (none0 _ rfl) ⟨?_, fun b u q => ?_, F.above⟩ fun q mem => ?_⟩⟩
    · obtain ⟨u, es, ep, e1, r⟩ := F1.ns
      exact ⟨u, es, ep, kp L u neL.symm e1, r⟩
    · exact kp b u (fun z => by rw [z, no0] at q; cases q) (F1.keep b u q)
    · rcases List.mem_cons.mp mem with rfl | mem
      · exact ⟨e, neL, no0⟩
      · exact ⟨kp _ _ (neN q mem) (N1 q mem).1, (N1 q mem).2⟩
  · refine PySem.W.kat_list_sort (s := { s with heap := h.push { cls := .type "list", data := .seq vs.toArray } }) F1 N1 atD neL no0 neN (by omega) h64 fun e h' F2 N2 => ?_
    refine wpAny_mono (h2 (by omega) _ e h' (none0 _ rfl) neN F2 N2) (fun κ u hu => ?_) fun _ _ x => x
    exact ask_mono (fun p v hv => hv.mono fun v hv => ⟨_, rfl, wpAny_pure ⟨_, rfl, hv⟩⟩) _ _ hu
end
noncomputable def isInt : P → Bool
  | .int _ => true
  | _ => false
noncomputable def ltI : List P → List P → Option Bool
  | [], ys => some (decide (0 < ys.length))
  | _ :: _, [] => some false
  | .int a :: x, .int b :: y => if a == b then ltI x y else some (decide (a < b))
  | _, _ => none
noncomputable def ltP : P → P → Option Bool
  | .int a, .int b => some (decide (a < b))
  | .tup x, .tup y => ltI x y
  | _, _ => none
noncomputable def isTupI : P → Bool
  | .tup (e :: es) => (e :: es).all isInt
  | _ => false
noncomputable def ltAtP (ds : List P) (i j : Nat) : Option Bool := match ds[i]?, ds[j]? with
  | some x, some y => ltP x y
  | _, _ => none
noncomputable def sortP (ds : List P) : Option (List P) := if ds.length < 2 then some ds else if ds.length < 64 then (evo (ltAtP ds) (kas_sort ds.length)).bind fun p => if p.size < 64 then some (p.toList.map fun i => ds.getD i .non) else none else none
noncomputable def sortable (ds : List P) : Bool := ds.all isInt || ds.all isTupI
noncomputable def c_sorted (ds : List P) : Option P := if sortable ds = true then (sortP ds).map .lst else none
noncomputable def IV (e : P) (u : Value) : Prop := ∃ i t, e = P.int i ∧ u = Value.int i t
noncomputable def KV (h : Heap) (d : P) (v : Value) : Prop := IV d v ∨ ∃ es a o n its, d = .tup es ∧ v = .ref a ∧ h.get? a = some o ∧ o.cls = .type "tuple" ∧ o.data = .seq (List.toArray its) n ∧ Paired IV es its
theorem KV.kp {h h' : Heap} (k : ∀ b o, h.get? b = some o → h'.get? b = some o) {d : P} {v : Value} (q : KV h d v) : KV h' d v := by
  rcases q with q | ⟨es, a, o, n, its, e1, e2, ho, r⟩
  · exact .inl q
  · exact .inr ⟨es, a, o, n, its, e1, e2, k _ _ ho, r⟩
theorem paired_get {α β : Type} {R : α → β → Prop} : ∀ {xs : List α} {ys : List β} {i : Nat} {x : α}, Paired R xs ys → xs[i]? = some x → ∃ y, ys[i]? = some y ∧ R x y
  | _, _, _, _, .nil, h => by simp at h
  | _, _, 0, x, .cons (b := b) r _, h => ⟨b, rfl, by simp at h; subst h; exact r⟩
  | _, _, i + 1, x, .cons _ rs, h => by
    obtain ⟨y, e, r⟩ := paired_get (i := i) rs (by simpa using h)
    exact ⟨y, by simpa using e, r⟩
theorem paired_len {α β : Type} {R : α → β → Prop} : ∀ {xs : List α} {ys : List β}, Paired R xs ys → xs.length = ys.length
  | _, _, .nil => rfl
  | _, _, .cons _ rs => by rw [List.length_cons, List.length_cons, paired_len rs]
theorem ints_are {h : Heap} : ∀ {ds : List P} {vs : List Value}, Paired (KV h) ds vs → ds.all isInt = true → ∃ ns, IntsAre vs ns
  | _, _, .nil, _ => ⟨[], .nil⟩
  | d :: ds, _, .cons k r, q => by
    rw [List.all_cons, Bool.and_eq_true] at q
    obtain ⟨ns, i⟩ := ints_are r q.2
    rcases k with ⟨n, t, rfl, rfl⟩ | ⟨es, a, o, n, its, rfl, _⟩
    · exact ⟨n :: ns, .cons n t i⟩
    · exact nomatch q.1
section
variable {prog : Program} {w : World} {A : Around} {E : Value → Shared → Prop} {s : Shared}
theorem ask_int {ds : List P} {vs : List Value} {i j : Nat} {b : Bool} {C : Bool → Shared → Prop} (r : Paired (KV s.heap) ds vs) (q : ds.all isInt = true) (h : ltAtP ds i j = some b) (c : C b s) : kas_ask prog w A oneType' vs i j C s := by
  unfold ltAtP at h
  split at h
  · rename_i x y hx hy
    obtain ⟨u, hu, ku⟩ := paired_get r hx
    obtain ⟨v, hv, kv⟩ := paired_get r hy
    have qx := List.all_eq_true.mp q x (List.mem_of_getElem? hx)
    have qy := List.all_eq_true.mp q y (List.mem_of_getElem? hy)
    rcases ku with ⟨n, t, rfl, rfl⟩ | ⟨es, a, o, n, its, rfl, _⟩
    · rcases kv with ⟨n2, t2, rfl, rfl⟩ | ⟨es, a, o, n, its, rfl, _⟩
      · cases h
        unfold kas_ask
        rw [List.getD_eq_getElem?_getD, List.getD_eq_getElem?_getD, hu, hv]
        exact PySem.W.kat_lt_int c
      · exact nomatch qy
    · exact nomatch qx
  · cases h
theorem lex_int {fin : Bool} {Q : Bool → Shared → Prop} : ∀ {es fs : List P} {its jts : List Value} {i : Nat} {b : Bool}, Paired IV es its → Paired IV fs jts → ltI es fs = some b → fin = decide (its.length < jts.length) → Q b s → KatLex prog w A true fin Q (its.zip jts) i s
  | _, _, _, _, i, b, .nil, r, h, hf, c => by
    cases h
    rw [List.zip_nil_left]
    refine kat_nil ?_
    rw [hf, ← paired_len r]
    exact c
  | _, _, _, _, i, b, .cons _ _, .nil, h, hf, c => by
    have : b = false := by
      unfold ltI at h
      cases h; rfl
    subst this
    rw [List.zip_nil_right]
    refine kat_nil ?_
    rw [hf]
    simpa using c
  | _, _, _, _, i, b, .cons ka ra, .cons kb rb, h, hf, c => by
    obtain ⟨x, t, rfl, rfl⟩ := ka
    obtain ⟨y, u, rfl, rfl⟩ := kb
    rw [List.zip_cons_cons]
    refine kat_cons (wpAny_eqBool_int ?_)
    unfold ltI at h
    by_cases e : (x == y) = true
    · rw [e]
      rw [if_pos e] at h
      exact kat_yes (lex_int ra rb h (by rw [hf]; simp) c)
    · rw [Bool.not_eq_true] at e
      rw [e]
      rw [e, if_neg Bool.false_ne_true] at h
      cases h
      refine kat_no ?_
      by_cases hi : (i == 0) = true
      · rw [hi]
        exact oneLt_int c
      · rw [Bool.not_eq_true] at hi
        rw [hi]
        exact kat_one _ _ (PyProof.Rows.lt_int (show PySem.W.BoolBack Q (.bool _) s from c))
theorem ask_tup {ds : List P} {vs : List Value} {i j : Nat} {b : Bool} {C : Bool → Shared → Prop} (r : Paired (KV s.heap) ds vs) (q : ds.all isTupI = true) (h : ltAtP ds i j = some b) (c : C b s) : kas_ask prog w A (tuples' true) vs i j C s := by
  unfold ltAtP at h
  split at h
  · rename_i x y hx hy
    obtain ⟨u, hu, ku⟩ := paired_get r hx
    obtain ⟨v, hv, kv⟩ := paired_get r hy
    have qx := List.all_eq_true.mp q x (List.mem_of_getElem? hx)
    have qy := List.all_eq_true.mp q y (List.mem_of_getElem? hy)
    rcases ku with ⟨n, t, rfl, rfl⟩ | ⟨es, a, o, n, its, rfl, rfl, ho, hc, hd, rr⟩
    · exact nomatch qx
    · rcases kv with ⟨n2, t2, rfl, rfl⟩ | ⟨es2, a2, o2, n2, its2, rfl, rfl, ho2, hc2, hd2, rr2⟩
      · exact nomatch qy
      · unfold kas_ask
        rw [List.getD_eq_getElem?_getD, List.getD_eq_getElem?_getD, hu, hv]
        exact kat_lt ho hd ho2 hd2 (lex_int rr rr2 h (by simp) c)
  · cases h
theorem kat_tups {h : Heap} : ∀ {ds : List P} {vs : List Value}, Paired (KV h) ds vs → ds.all isTupI = true → ∃ fs, KatTups h vs fs ∧ fs.length = ds.length ∧ ∀ v ∈ fs, ∃ i t, v = Value.int i t
  | _, _, .nil, _ => ⟨[], .nil, rfl, fun _ z => nomatch z⟩
  | d :: ds, _, .cons k r, q => by
    rw [List.all_cons, Bool.and_eq_true] at q
    obtain ⟨fs, f1, f2, f3⟩ := kat_tups r q.2
    rcases k with ⟨n, t, rfl, rfl⟩ | ⟨es, a, o, n, its, rfl, rfl, ho, hc, hd, rr⟩
    · exact nomatch q.1
    · cases rr with
      | nil => exact nomatch q.1
      | cons kk rr =>
        obtain ⟨i, t, rfl, rfl⟩ := kk
        refine ⟨.int i t :: fs, .cons ho hc hd rfl f1, by rw [List.length_cons, List.length_cons, f2], fun v mem => ?_⟩
        rcases List.mem_cons.mp mem with rfl | mem
        · exact ⟨i, t, rfl⟩
        · exact f3 v mem
theorem kind_ok {ds : List P} {vs : List Value} (r : Paired (KV s.heap) ds vs) (q : sortable ds = true) (h2 : 2 ≤ vs.length) :
    wpAny (model prog w) A (keyKind' vs.toArray) (fun κ s' => s' = s ∧ ∀ i j b C, ltAtP ds i j = some b → C b s' → kas_ask prog w A κ vs i j C s') (fun _ _ => False) s := by
  unfold sortable at q
  rw [Bool.or_eq_true] at q
  rcases q with q | q
  · obtain ⟨ns, hI⟩ := ints_are r q
    have one : keyKind' vs.toArray = pure oneType' := by
      rcases vs with _ | ⟨x, _ | ⟨y, z⟩⟩
      · exact absurd h2 (by simp)
      · exact absurd h2 (by simp)
      · exact keyKind_ints hI
    rw [one]
    exact wpAny_pure ⟨rfl, fun i j b C e c => ask_int r q e c⟩
  · obtain ⟨fs, f1, f2, f3⟩ := kat_tups r q
    refine kat_kind (T := .type "int") f1 (by rw [f2, paired_len r]; omega) (fun v hv => ?_) rfl ⟨rfl, fun i j b C e c => ask_tup r q e c⟩
    obtain ⟨i, t, rfl⟩ := f3 v hv
    exact PySem.W.Looks.of_peek (K := []) (fun _ _ z => nomatch z) rfl
end
section
variable {X : Cx}
theorem iv_of {K : PySem.W.Frag} {F : Addr → Prop} {H : Hp} : ∀ {es : List P} {ys : List V} {jts : List Value}, RPs K F H es ys → Vals ys jts → es.all isInt = true → Paired IV es jts
  | [], _, _, h, r, _ => by
    cases (show _ = ([] : List V) from h)
    cases r
    exact .nil
  | e :: es, _, _, h, r, q => by
    obtain ⟨y, yr, rfl, py, pr⟩ := h
    rw [List.all_cons, Bool.and_eq_true] at q
    cases r with
    | cons v1 v2 =>
      cases e with
      | int i =>
        cases (show y = .int i from py)
        obtain ⟨t, rfl⟩ := v1
        exact .cons ⟨i, t, rfl, rfl⟩ (iv_of pr v2 q.2)
      | _ => exact nomatch q.1
theorem kv_all {h h' : Heap} (k : ∀ b o, h.get? b = some o → h'.get? b = some o) : ∀ {ds : List P} {vs : List Value}, Paired (KV h) ds vs → Paired (KV h') ds vs
  | _, _, .nil => .nil
  | _, _, .cons q r => .cons (q.kp k) (kv_all k r)
theorem kvs_of {pins : List (Addr × Obj)} {σ : L2.St} {H : Hp} {s : Shared} (I : Inv X pins σ H s) {F : Addr → Prop} : ∀ {ds : List P} {xs : List V} {its : List Value}, RPs X.K F H ds xs → Vals xs its → ds.all (fun d => isInt d || isTupI d) = true → Paired (KV s.heap) ds its
  | [], _, _, h, r, _ => by
    cases (show _ = ([] : List V) from h)
    cases r
    exact .nil
  | d :: ds, _, _, h, r, q => by
    obtain ⟨x, xr, rfl, p1, p2⟩ := h
    rw [List.all_cons, Bool.and_eq_true] at q
    cases r with
    | cons r1 r2 =>
      refine .cons ?_ (kvs_of I p2 r2 q.2)
      cases d with
      | int i =>
        cases (show x = .int i from p1)
        obtain ⟨t, rfl⟩ := r1
        exact .inl ⟨i, t, rfl, rfl⟩
      | tup es =>
        obtain ⟨a, ys, rfl, ta, ra⟩ := p1
        cases r1
        obtain ⟨jts, rv, ⟨o, ho, hc, n, hd⟩, _⟩ := I.tuple ta.sq
        refine .inr ⟨es, a, o, n, jts, rfl, rfl, ho, hc, hd, ?_⟩
        have qe : es.all isInt = true := by
          cases es with
          | nil => rfl
          | cons e es => simpa [isInt, isTupI] using q.1
        exact iv_of ra rv qe
      | _ => exact nomatch q.1
theorem sortable_each {ds : List P} (q : sortable ds = true) : ds.all (fun d => isInt d || isTupI d) = true := by
  unfold sortable at q
  rw [Bool.or_eq_true] at q
  refine List.all_eq_true.mpr fun x hx => ?_
  rcases q with q | q
  · rw [List.all_eq_true.mp q x hx]; rfl
  · rw [List.all_eq_true.mp q x hx, Bool.or_true]
theorem valsD {xs : List V} {its : List Value} (r : Vals xs its) (i : Nat) : RelV (xs.getD i .non) (its.getD i Value.none) := by
  rw [List.getD_eq_getElem?_getD, List.getD_eq_getElem?_getD]
  cases e : xs[i]? with
  | none =>
    have hl := paired_len r
    have : its[i]? = none := by rw [List.getElem?_eq_none_iff] at e ⊢; omega
    rw [this]; rfl
  | some x =>
    obtain ⟨y, e2, rr⟩ := paired_get r e
    rw [e2]; exact rr
theorem valsMap {xs : List V} {its : List Value} (r : Vals xs its) : ∀ p : List Nat, Vals (p.map fun i => xs.getD i .non) (p.map fun i => its.getD i Value.none)
  | [] => .nil
  | i :: p => .cons (valsD r i) (valsMap r p)
theorem rpsMap {K : PySem.W.Frag} {F : Addr → Prop} {H : Hp} {ds : List P} {xs : List V} (r : RPs K F H ds xs) : ∀ p : List Nat, RPs K F H (p.map fun i => ds.getD i .non) (p.map fun i => xs.getD i .non)
  | [] => rfl
  | i :: p => by
    refine ⟨_, _, rfl, ?_, rpsMap r p⟩
    show RP K F H (ds.getD i P.non) (xs.getD i V.non)
    rw [List.getD_eq_getElem?_getD, List.getD_eq_getElem?_getD]
    cases e : ds[i]? with
    | none =>
      have hl := r.length
      have : xs[i]? = none := by rw [List.getElem?_eq_none_iff] at e ⊢; omega
      rw [this]; rfl
    | some d =>
      obtain ⟨x, e2, rr⟩ := r.get e
      rw [e2]; exact rr
theorem inv_frame {pins : List (Addr × Obj)} {σ : L2.St} {H : Hp} {s : Shared} {h' : Heap} {t' : Nat} {m : Str → Option Value} (I : Inv X pins σ H s) (hn : s.heap.Ns X.env.locals m) (hn' : h'.Ns X.env.locals m) (k : ∀ b o, b ≠ X.env.locals → s.heap.get? b = some o → h'.get? b = some o) : Inv X pins σ H { s with heap := h', toks := t' } := by
  have nL : ∀ b u, H b = some u → b ≠ X.env.locals := fun b u e z => by rw [z, I.free] at e; cases e
  refine I.step (g' := s.gens) (d' := s.drawn) (ch := []) (fun _ z => nomatch z) (fun b o hL _ _ e _ => k b o hL e) (fun b o hL _ _ e _ => ⟨o.slots, k b o hL e⟩) (fun _ _ _ _ n => n) (fun b o _ e => ?_) (fun _ _ e => e) (fun _ _ _ e => e) (fun b ps e => ⟨#[], by rw [e]; simp⟩) (fun m' hm => ?_) (fun b u e => ?_) I.bare
  · by_cases hL : b = X.env.locals
    · subst hL
      obtain ⟨o', _, _, ho', _⟩ := hn'
      exact ⟨o', ho'⟩
    · exact ⟨o, k b o hL e⟩
  · obtain ⟨o, es, ep, ho, hd, hs, hm1⟩ := hn
    obtain ⟨o2, es2, ep2, ho2, hd2, hs2, hm2⟩ := hm
    rw [ho] at ho2; cases ho2
    rw [hd] at hd2; cases hd2
    have : m = m' := funext fun x => (hm1 x).symm.trans (hm2 x)
    rw [← this]; exact hn'
  · refine (I.hok b u e).stay (fun c v hc q => k c v ?_ q) (fun _ q => q) fun _ _ q => q
    rcases hc with z | z
    · rw [z]; exact nL b u e
    · exact nL c _ z
theorem kept_all {g h h' : Heap} {L : Addr} {m : Str → Option Value} (k : ∀ b o, g.get? b = some o → h.get? b = some o) (F : Fr g L h' m) (N : News g L h' (allNews g h L)) : ∀ b o, b ≠ L → h.get? b = some o → h'.get? b = some o := fun b o h1 e => by
  cases q : g.get? b with
  | some u =>
    have := k b u q
    rw [e] at this; cases this
    exact F.keep b _ q
  | none => exact (N (b, o) (mem_allNews h1 q e)).1
theorem obj_at {Pg : Program} {w : World} {H : Hp} {h : Heap} {a : Addr} {o : HO} (x : ObjOk Pg w H h a o) : ∃ u, h.get? a = some u := by
  cases o with
  | lst xs => obtain ⟨_, _, _, _, e⟩ := x; exact ⟨_, e⟩
  | tup xs => obtain ⟨_, _, _, _, e, _⟩ := x; exact ⟨_, e⟩
  | dK kvs => obtain ⟨_, _, _, _, _, _, _, e, _⟩ := x; exact ⟨_, e⟩
  | dT kvs => obtain ⟨_, _, _, _, _, _, _, e, _⟩ := x; exact ⟨_, e⟩
  | set S n => obtain ⟨_, _, _, _, e, _⟩ := x; exact ⟨_, e⟩
  | ins C dx fs => obtain ⟨_, _, _, e, _⟩ := x; exact ⟨_, e⟩
  | own y => exact x
  | xd fs => obtain ⟨_, ⟨_, _, _, e, _⟩, _⟩ := x; exact ⟨_, e⟩
  | rng lo hi => obtain ⟨_, _, _, e⟩ := x; exact ⟨_, e⟩
  | frz ob u => exact ⟨_, x.1⟩
  | tbl ps => exact ⟨_, (show h.get? a = some _ from x)⟩
  | met f y => exact ⟨_, (show h.get? a = some _ from x)⟩
  | ext φ => exact x.2.1
theorem inv_no {pins : List (Addr × Obj)} {σ : L2.St} {H : Hp} {s : Shared} {D : Addr} (I : Inv X pins σ H s) (hD : s.heap.get? D = none) : H D = none := by
  cases q : H D with
  | none => rfl
  | some v =>
    obtain ⟨u, e⟩ := obj_at (I.hok D v q)
    rw [hD] at e; cases e
theorem inv_laidF {pins : List (Addr × Obj)} {σ : L2.St} {H : Hp} {s : Shared} {h' : Heap} {t' : Nat} {m : Str → Option Value} {D : Addr} {u : HO} (I : Inv X pins σ H s) (hn : s.heap.Ns X.env.locals m) (hn' : h'.Ns X.env.locals m) (k : ∀ b o, b ≠ X.env.locals → s.heap.get? b = some o → h'.get? b = some o) (hD : s.heap.get? D = none) (new : ObjOk X.prog X.w (upd H D u) h' D u) : Inv X pins σ (upd H D u) { s with heap := h', toks := t' } := by
  have free := inv_no I hD
  have nD : ∀ b o, s.heap.get? b = some o → b ≠ D := fun b o e z => by rw [z, hD] at e; cases e
  have nH : ∀ b v, H b = some v → b ≠ D := fun b v e z => by rw [z, free] at e; cases e
  have I1 := inv_frame (t' := t') I hn hn' k
  refine I.step (g' := s.gens) (d' := s.drawn) (ch := []) (fun _ z => nomatch z) (fun b o hL _ _ e _ => k b o hL e) (fun b o hL _ _ e _ => ⟨o.slots, k b o hL e⟩) (fun b o _ e n => (upd_ne (nD b o e)).trans n) (fun b o _ e => ?_) (fun b xs e => (upd_ne (nH b _ e)).trans e) (fun b o v e => (upd_ne (nH b _ e)).trans e) (fun b ps e => ⟨#[], by rw [upd_ne (nH b _ e), e]; simp⟩) (fun m' hm => ?_) (fun b v e => ?_) I.bare
  · by_cases hL : b = X.env.locals
    · subst hL
      obtain ⟨o', _, _, ho', _⟩ := hn'
      exact ⟨o', ho'⟩
    · exact ⟨o, k b o hL e⟩
  · obtain ⟨o, es, ep, ho, hd, hs, hm1⟩ := hn
    obtain ⟨o2, es2, ep2, ho2, hd2, hs2, hm2⟩ := hm
    rw [ho] at ho2; cases ho2
    rw [hd] at hd2; cases hd2
    have : m = m' := funext fun x => (hm1 x).symm.trans (hm2 x)
    rw [← this]; exact hn'
  · by_cases hb : b = D
    · subst hb; rw [upd_same] at e; cases e; exact new
    · rw [upd_ne hb] at e
      exact (I1.hok b v e).stay (fun _ _ _ q => q) (fun c q => (upd_ne (nH c _ q)).trans q) fun c xs q => (upd_ne (nH c _ q)).trans q
theorem call_sortedV : CallR X (.builtin "sorted") (fun xs H Q => ∃ F a ys ds out, xs = [.ref a] ∧ (SqL X.K H a ys ∨ SqT X.K H a ys) ∧ RPs X.K F H ds ys ∧ sortable ds = true ∧ sortP ds = some out ∧ ∀ l zs, H l = none → RPs X.K F H out zs → Q (.ref l) (upd H l (.lst zs))) := by
  intro pins s σ H xs us Q I r h
  obtain ⟨F, a, ys, ds, out, rfl, hq, rp, hs, ho, q⟩ := h
  obtain ⟨u, rfl, rx⟩ := vals1 r
  cases rx
  obtain ⟨m, Fm⟩ := I.fr
  have main : ∀ (T : String) (hT : T = "list" ∨ T = "tuple") (its : List Value) (o : Obj) (n : Nat), Vals ys its → s.heap.get? a = some o → o.cls = .type T → o.data = .seq its.toArray n → wpAny (model X.prog X.w) X.A (call (.builtin "sorted") [.ref a]) (EP X pins σ Q) X.xe s := by
    intro T hT its o n rv hg hc hd
    have hl1 := rp.length
    have hl2 := paired_len rv
    have small : ds.length < 64 := by
      unfold sortP at ho
      split at ho
      · omega
      · split at ho
        · omega
        · cases ho
    have fin : ∀ (zs : List V) (jts : List Value) (D : Addr) (h' : Heap) (c : Nat), Vals zs jts → RPs X.K F H out zs → jts.length ≤ 64 → s.heap.get? D = none → Fr X.base X.env.locals h' m → News X.base X.env.locals h' ((D, seqObj "list" jts.toArray c) :: allNews X.base s.heap X.env.locals) → EP X pins σ Q (.ref D) { s with heap := h' } :=
      fun zs jts D h' c vz rz hz hD F1 N1 => ⟨.ref D, _, inv_laidF (t' := s.toks) I Fm.ns F1.ns (kept_all I.bk F1 fun p hp => N1 p (.tail _ hp)) hD (show ObjOk X.prog X.w _ h' _ (.lst zs) from ⟨by rw [paired_len vz, sizeLine_eq]; omega, jts, c, vz, (N1 _ (.head _)).1⟩), rfl, q _ zs (inv_no I hD) rz⟩
    refine sortedF Fm (news_all (g := X.base)) hT hg hc hd (by omega) (fun few D h' c hD F1 N1 => ?_) fun two D e h' hD ne F1 N1 => ?_
    · unfold sortP at ho
      rw [if_pos (by omega)] at ho
      cases ho
      exact fin ys its D h' c rv rp (by omega) hD F1 N1
    · unfold sortP at ho
      rw [if_neg (by omega), if_pos small] at ho
      obtain ⟨p, ep, ho⟩ := Option.bind_eq_some_iff.mp ho
      split at ho
      case isFalse => cases ho
      rename_i ps
      cases ho
      have I1 : Inv X pins σ H { s with heap := h' } := inv_frame (t' := s.toks) I Fm.ns F1.ns (kept_all I.bk F1 fun p hp => N1 p (.tail _ hp))
      have ep2 : evo (ltAtP ds) (kas_sort its.length) = some p := by rw [← hl2, ← hl1]; exact ep
      refine wpAny_mono (kind_ok (s := { s with heap := h' }) (kvs_of I1 rp rv (sortable_each hs)) hs two) (fun κ v hv => ?_) fun _ _ x => x
      obtain ⟨rfl, cmp⟩ := hv
      exact evo_wp (a := p) (Q := fun p u => PySem.W.KasFin X.base X.env.locals m D e (p.toList.map fun i => its.getD i Value.none) (fun u => EP X pins σ Q (.ref D) u) u) cmp (PySem.W.KasFin.intro F1 N1 (.head ne) fun h2 c F2 N2 => fin _ _ D h2 c (valsMap rv p.toList) (rpsMap rp p.toList) (by rw [List.length_map, Array.length_toList]; omega) hD F2 N2) _ ep2
  rcases hq with hq | hq
  · obtain ⟨its, r', pl, hz⟩ := I.list hq
    obtain ⟨o, hg, hc, n, hd⟩ := pl.isList
    exact main "list" (.inl rfl) its o n r' hg hc hd
  · obtain ⟨its, r', ⟨o, hg, hc, n, hd⟩, hz⟩ := I.tuple hq
    exact main "tuple" (.inr rfl) its o n r' hg hc hd
noncomputable def unP : List D → Option (List P)
  | [] => some []
  | .p v :: r => (unP r).map (v :: ·)
  | .ref _ :: _ => none
theorem unP_eq : ∀ {ds : List D} {vs : List P}, unP ds = some vs → ds = vs.map .p
  | [], vs, h => by cases h; rfl
  | .p v :: r, vs, h => by
    cases e : unP r with
    | none => simp only [unP, e] at h; cases h
    | some ws => simp only [unP, e] at h; cases h; rw [unP_eq e]; rfl
  | .ref _ :: _, vs, h => by cases h
theorem rds_p {K : PySem.W.Frag} {F : Addr → Prop} {H : Hp} {m : List Addr} : ∀ {vs : List P} {xs : List V}, RDs K F H m (vs.map .p) xs → RPs K F H vs xs
  | [], _, h => h
  | _ :: _, _, h => by
    obtain ⟨x, r, e, h1, h2⟩ := h
    exact ⟨x, r, e, h1, rds_p h2⟩
noncomputable def seqP : P → Option (List P)
  | .lst xs => some xs
  | .ro xs => some xs
  | .tup xs => some xs
  | _ => none
noncomputable def seqD : D → Sto → Option (List P)
  | .p v, _ => seqP v
  | .ref i, S => match S[i]? with
    | some (.lst ds) => unP ds
    | some (.fz v) => seqP v
    | _ => none
noncomputable def vSort (r : EE) : EV := fun L S => bnd (r L S) fun d S1 => match seqD d S1 with
  | some xs => (c_sorted xs).map fun v => (v, S1)
  | none => none
theorem seqP_ok {K : PySem.W.Frag} {F : Addr → Prop} {H : Hp} {w : P} {v : V} {xs : List P} (p : RP K F H w v) (h : seqP w = some xs) : ∃ a ys, v = .ref a ∧ (SqL K H a ys ∨ SqT K H a ys) ∧ RPs K F H xs ys := by
  cases w with
  | tup ds =>
    obtain ⟨a, ys, rfl, ta, ra⟩ := p
    cases h
    exact ⟨a, ys, rfl, .inr ta.sq, ra⟩
  | lst ds =>
    obtain ⟨a, ys, rfl, ta, ra⟩ := p
    cases h
    exact ⟨a, ys, rfl, .inl ta.sq, ra⟩
  | ro ds =>
    obtain ⟨a, ys, rfl, ta, ra⟩ := p
    cases h
    exact ⟨a, ys, rfl, .inl ta.sq, ra⟩
  | _ => cases h
theorem seqD_ok {K : PySem.W.Frag} {F : Addr → Prop} {H : Hp} {m : List Addr} {S : Sto} {d : D} {v : V} {xs : List P} (r : Rel K F H m S) (p : RD K F H m d v) (h : seqD d S = some xs) : ∃ a ys, v = .ref a ∧ (SqL K H a ys ∨ SqT K H a ys) ∧ RPs K F H xs ys := by
  cases d with
  | p w => exact seqP_ok p h
  | ref i =>
    obtain ⟨a, rfl, hm⟩ := p
    simp only [seqD] at h
    split at h
    · rename_i ds es
      obtain ⟨ys, hH, rs⟩ := r.obj i a _ hm es
      rw [unP_eq h] at rs
      exact ⟨a, ys, rfl, .inl (SqL.of hH), rds_p rs⟩
    · rename_i w es
      exact seqP_ok (r.obj i a _ hm es) h
    · cases h
theorem x_sorted {e : Expr} {fe : EE} {p pos : Pos} (hg : Gl X "sorted") (hm : X.mg "sorted" = none) (he : PE X e (tE X.K fe)) (hs : starEach [e] X.env = [(false, eval e X.env)] := by rfl) : PE X (.Call (.Name "sorted" p) [e] [] pos) (tV X.K (vSort fe)) :=
  (pe_callB call_sortedV hg hm PyProof.Rows.boot_sorted (pa_cons he pa_nil (by rw [hs]; rfl)) (by decide) (by decide) (by rw [hs]; rfl) rfl).imp' fun σ H Q ⟨F, m, L, S, d, S', r, l, q, k⟩ => by
    obtain ⟨x, S1, e1, q⟩ := bnd_eq q
    refine ⟨F, m, L, S, x, S1, r, l, e1, fun v F1 m1 H1 s1 r1 p1 => ?_⟩
    split at q
    · rename_i xs en
      unfold c_sorted at q
      split at q
      · rename_i hs
        cases eo : sortP xs with
        | none => rw [eo] at q; cases q
        | some out =>
          rw [eo] at q
          cases q
          obtain ⟨a, ys, rfl, hq, rp⟩ := seqD_ok r1 p1 en
          exact ⟨F1, a, ys, xs, out, rfl, hq, rp, hs, eo, fun z zs hz rz => k _ _ m1 _ (s1.trans (grow_frz hz).stp) (r1.grow (grow_frz hz)) (.newLst hz rz)⟩
      · cases q
    · cases q
end
end Ev
namespace Ev
open PySem PySem.Spec PyProof.Rows L2
noncomputable def forLive (en : Bool) (j : Nat) (g : TGv) (b : ES) : Nat → Nat → Lc → Sto → Option (Fl × Lc × Sto)
  | 0, _, _, _ => none
  | f + 1, i, L, S => match S[j]? with
    | some (.lst ds) => match ds[i]? with
      | none => some (.nx, L, S)
      | some (.ref _) => none
      | some (.p v) => match g (if en = true then .tup [.int (i : Int), v] else v) L with
        | none => none
        | some L1 => match b L1 S with
          | none => none
          | some (.nx, L2, S2) => forLive en j g b f (i + 1) L2 S2
          | some (.ct, L2, S2) => forLive en j g b f (i + 1) L2 S2
          | some (.bk, L2, S2) => some (.nx, L2, S2)
          | some (.rt d, L2, S2) => some (.rt d, L2, S2)
    | _ => none
noncomputable def sForO (en : Bool) (e : EE) (g : TGv) (b : ES) : ES := fun L S => bnd (e L S) fun d S1 => match d with
  | .ref j => match S1[j]? with
    | some (.lst _) => forLive en j g b 1000 0 L S1
    | _ => none
  | _ => none
noncomputable def itO (K : PySem.W.Frag) (en : Bool) (a : Addr) : It := if en = true then IteL K a else Itl K a
noncomputable def tIO (K : PySem.W.Frag) (en : Bool) (fe : EE) : TI := fun σ H R => ∃ F m L S j S' ds, Rel K F H m S ∧ RL K F H m σ L ∧ fe L S = some (.ref j, S') ∧ S'[j]? = some (.lst ds) ∧ ∀ a F' m' H', Stp F m H F' m' H' → Rel K F' H' m' S' → m'[j]? = some a → R (itO K en a) H'
theorem itO_ok {K : PySem.W.Frag} {F : Addr → Prop} {H : Hp} {en : Bool} {a : Addr} {xs : List V} {x : V} {i : Nat} {v : P} (hq : SqL K H a xs) (hx : xs[i]? = some x) (p : RP K F H v x) :
    (itO K en a).go i H ∧ ∀ y H3, (itO K en a).yld i H y H3 → ∃ F3, Grow F H F3 H3 ∧ RP K F3 H3 (if en = true then .tup [.int (i : Int), v] else v) y := by
  cases en with
  | true =>
    refine ⟨⟨xs, x, hq, hx⟩, fun z H3 y => ?_⟩
    obtain ⟨pp, y, rfl, hn, rfl, hy⟩ := y
    have : y = x := by have := hy xs hq; rw [hx] at this; cases this; rfl
    subst this
    exact ⟨F, grow_new hn, RP.newTup hn ⟨_, _, rfl, rfl, _, _, rfl, p, rfl⟩⟩
  | false =>
    refine ⟨⟨xs, x, hq, hx⟩, fun y H3 z => ?_⟩
    obtain ⟨rfl, z⟩ := z
    have := z xs hq
    rw [hx] at this
    cases this
    exact ⟨F, .refl, p⟩
theorem itO_stop {K : PySem.W.Frag} {H : Hp} {en : Bool} {a : Addr} {xs : List V} {i : Nat} (hq : SqL K H a xs) (hl : xs.length ≤ i) : (itO K en a).stop i H := by
  cases en with
  | true => exact ⟨xs, hq, hl⟩
  | false => exact ⟨xs, hq, hl⟩
section
variable {X : Cx} {pos : Pos}
theorem zForO {en : Bool} {tg iter : Expr} {fe : EE} {g : TGv} {body : List Stmt} {fb : ES} (hp : PassesOwn (model X.prog X.w) X.A X.env X.xe) (hc : X.calm = true) (hi : PI X tg iter (tIO X.K en fe)) (hg : PG X tg (gT X.K g)) (hb : PSs X body (tSt X.K fb))
    (hs : ∀ x, foldedSetIterable iter X.env x = pure x := by intro _; rfl) : PS X (.For tg iter body [] pos) (tSt X.K (sForO en fe g fb)) :=
  (ps_for hp hc hi hg hb hs).imp' fun D σ H ⟨F, m, L, S, fl, L', S', r, l, q, k⟩ => by
    obtain ⟨d, S1, e1, q⟩ := bnd_eq q
    cases d with
    | p _ => cases q
    | ref j =>
      dsimp only at q
      split at q
      · rename_i ds0 es0
        refine ⟨F, m, L, S, j, S1, ds0, r, l, e1, es0, fun a F1 m1 H1 s1 r1 ha => ?_⟩
        refine ⟨fun i n σ2 H2 => ∃ F2 m2 L2 S2, Stp F1 m1 H1 F2 m2 H2 ∧ Rel X.K F2 H2 m2 S2 ∧ RL X.K F2 H2 m2 σ2 L2 ∧ forLive en j g fb n i L2 S2 = some (fl, L', S'),
          ⟨1000, F1, m1, L, S1, .refl, r1, l.mono s1, q⟩, ?_⟩
        rintro i n σ2 H2 ⟨F2, m2, L2, S2, s2, r2, l2, q2⟩
        cases n with
        | zero => cases q2
        | succ n =>
          have ha2 : m2[j]? = some a := by
            obtain ⟨t, e⟩ := s2.pre
            rw [e, List.getElem?_append_left (List.getElem?_eq_some_iff.mp ha).1]; exact ha
          unfold forLive at q2
          split at q2
          · rename_i ds es
            obtain ⟨xs, hH, rs⟩ := r2.obj j a _ ha2 es
            have hsq : SqL X.K H2 a xs := SqL.of hH
            split at q2
            · rename_i ei
              left
              cases q2
              refine ⟨itO_stop hsq ?_, k σ2 F2 m2 H2 (s1.trans s2) r2 l2⟩
              rw [← rs.length]
              exact List.getElem?_eq_none_iff.mp ei
            · cases q2
            · rename_i v ei
              right
              obtain ⟨x, hx, px⟩ := rs.get ei
              obtain ⟨hgo, hy⟩ := itO_ok (en := en) hsq hx (show RP X.K F2 H2 v x from px)
              refine ⟨hgo, fun σ3 H3 => ∃ n', n' < n + 1 ∧ ∃ F2 m2 L2 S2, Stp F1 m1 H1 F2 m2 H3 ∧ Rel X.K F2 H3 m2 S2 ∧ RL X.K F2 H3 m2 σ3 L2 ∧ forLive en j g fb n' (i + 1) L2 S2 = some (fl, L', S'), fun _ _ z => z, fun x H3 y => ?_⟩
              obtain ⟨F3, gr, p3⟩ := hy x H3 y
              cases eg : g (if en = true then .tup [.int (i : Int), v] else v) L2 with
              | none => rw [eg] at q2; cases q2
              | some L3 =>
                rw [eg] at q2
                dsimp only at q2
                refine ⟨F3, m2, L2, _, L3, l2.mono gr.stp, p3, eg, fun σ3 l3 => ?_⟩
                have s3 : Stp F1 m1 H1 F3 m2 H3 := s2.trans gr.stp
                have r3 := r2.grow gr
                cases eb : fb L3 S2 with
                | none => rw [eb] at q2; cases q2
                | some z =>
                  obtain ⟨flb, L4, S4⟩ := z
                  rw [eb] at q2
                  refine ⟨F3, m2, L3, S2, flb, L4, S4, r3, l3, eb, fun σ4 F4 m4 H4 s4 r4 l4 => ?_⟩
                  cases flb with
                  | nx => exact ⟨n, by omega, F4, m4, L4, S4, s3.trans s4, r4, l4, q2⟩
                  | ct => exact ⟨n, by omega, F4, m4, L4, S4, s3.trans s4, r4, l4, q2⟩
                  | bk => cases q2; exact k σ4 F4 m4 H4 (s1.trans (s3.trans s4)) r4 l4
                  | rt d => cases q2; exact k σ4 F4 m4 H4 (s1.trans (s3.trans s4)) r4 l4
          · cases q2
      · cases q
theorem iO {tg iter : Expr} {fe : EE} (h : PE X iter (tE X.K fe)) : PI X tg iter (tIO X.K false fe) := (pi_list h).imp' fun σ H R ⟨F, m, L, S, j, S', ds, r, l, e1, es, k⟩ => by
  refine ⟨F, m, L, S, _, _, r, l, e1, fun x F1 m1 H1 s1 r1 p1 => ?_⟩
  obtain ⟨a, rfl, hm⟩ := p1
  obtain ⟨xs, hH, rs⟩ := r1.obj j a _ hm es
  exact ⟨a, rfl, ⟨xs, SqL.of hH⟩, k a F1 m1 H1 s1 r1 hm⟩
theorem iEO {es : List Expr} {n : Nat} {a : Expr} {fe : EE} {p cpos : Pos} (hg : Gl X "enumerate") (hm : X.mg "enumerate" = none) (ha : PE X a (tE X.K fe)) (hs : starEach [a] X.env = [(false, eval a X.env)]) : PI X (.Tuple es n pos) (.Call (.Name "enumerate" p) [a] [] cpos) (tIO X.K true fe) := by
  intro pins s σ H R I ⟨F, m, L, S, j, S', ds, r, l, e1, es', k⟩
  have hA : PA X [a] (tDs X.K (dsCons fe dsNil)) := daCons ha daNil (by rw [hs]; rfl)
  refine Call_ (ld_blt I hg hm boot_enumerate (PyProof.Rows.callWith_type1 (thn (hA cpos pins s σ H (fun xs H1 => ∃ F1 m1, Stp F m H F1 m1 H1 ∧ Rel X.K F1 H1 m1 S' ∧ RDs X.K F1 H1 m1 [.ref j] xs) I ⟨F, m, L, S, [.ref j], S', r, l, ?_, fun xs F1 m1 H1 s1 r1 p1 => ⟨F1, m1, s1, r1, p1⟩⟩) fun us s1 ⟨xs, H1, I1, rv, F1, m1, st, r1, p1⟩ => ?_) (by rw [hs]; rfl) rfl))
  · simp only [dsCons, dsNil, e1, bnd_some]
  obtain ⟨x1, xr, rfl, px, hr⟩ := p1
  cases (show xr = [] from hr)
  obtain ⟨u, rfl, ru⟩ := vals1 rv
  obtain ⟨b, rfl, hmb⟩ := px
  obtain ⟨ys, hH, rs⟩ := r1.obj j b _ hmb es'
  cases ru
  have q := k b F1 m1 H1 st r1 hmb
  obtain ⟨its, rv, pl, hz⟩ := I1.list (SqL.of hH)
  refine call_enumerate_list pl.isList fun h' he hit hsz hk => ?_
  refine wpAny_pyIter_enum he ?_
  have hlt : ∀ b, s1.heap.objs.size ≤ b → H1 b = none := fun b hb => I1.hok.fresh hb
  refine ⟨s1.heap.objs.size + 1, [s1.heap.objs.size + 1, s1.heap.objs.size], _, _, H1, rfl, I1.kept (t' := s1.toks) hk, turn_enum b _ _ (Nat.ne_of_gt (Nat.lt_succ_self _)), ⟨⟨_, he⟩, hit⟩, fun b hb => ?_, q⟩
  have hb' : b = s1.heap.objs.size + 1 ∨ b = s1.heap.objs.size := by simpa using hb
  rcases hb' with rfl | rfl
  · exact I1.fpOk (Nat.le_succ _) (hlt _ (Nat.le_succ _))
  · exact I1.fpOk (Nat.le_refl _) (hlt _ (Nat.le_refl _))
theorem callRange1 : CallR X (.type "range") (fun xs H Q => ∃ j : Int, xs = [.int j] ∧ ∀ r, H r = none → Q (.ref r) (upd H r (.rng 0 j))) := by
  intro pins s σ H xs us Q I r h
  obtain ⟨j, rfl, q⟩ := h
  obtain ⟨u, rfl, rx⟩ := vals1 r
  obtain ⟨t, rfl⟩ := rx
  refine call_range_1 ?_
  exact ⟨.ref s.heap.objs.size, _, I.laid (o := .rng 0 j) (fun b o e => Heap.get?_push_of_some _ e) (Nat.le_refl _) ⟨_, _, _, Heap.get?_push_size _ rfl⟩, rfl, q _ (I.hok.fresh (Nat.le_refl _))⟩
theorem paired_of {α β : Type} {R : α → β → Prop} : ∀ {xs : List α} {ys : List β}, xs.length = ys.length → (∀ (i : Nat) x y, xs[i]? = some x → ys[i]? = some y → R x y) → Paired R xs ys
  | [], [], _, _ => .nil
  | [], _ :: _, h, _ => by simp at h
  | _ :: _, [], h, _ => by simp at h
  | x :: xs, y :: ys, h, k => .cons (k 0 x y rfl rfl) (paired_of (by simpa using h) fun i a b ha hb => k (i + 1) a b (by simpa using ha) (by simpa using hb))
theorem items_vals {n : Nat} {acc : Array Value} (h : ItemsOf (fun i v => ∃ t, v = Value.int (0 + i * 1) t) acc n) : Vals ((List.range n).map fun (i : Nat) => V.int (i : Int)) acc.toList := by
  obtain ⟨hz, hi⟩ := h
  refine paired_of (by simp [hz]) fun i x y hx hy => ?_
  rw [List.getElem?_map] at hx
  cases er : (List.range n)[i]? with
  | none => rw [er] at hx; cases hx
  | some k =>
    rw [er] at hx
    cases hx
    have hk : k = i := by
      have := List.getElem?_eq_some_iff.mp er
      obtain ⟨h1, h2⟩ := this
      simpa using h2.symm
    subst hk
    obtain ⟨t, rfl⟩ := hi k y (by simpa using hy)
    exact ⟨t, by simp⟩
theorem callListRng (hcalm : X.calm = true) : CallR X (.type "list") (fun xs H Q => ∃ r j, xs = [.ref r] ∧ H r = some (.rng 0 j) ∧ j.natAbs < 1000000 ∧ ∀ l, H l = none → Q (.ref l) (upd H l (.lst ((List.range j.toNat).map fun (i : Nat) => V.int (i : Int))))) := by
  intro pins s σ H xs us Q I r h
  obtain ⟨r0, j, rfl, hr, hj, q⟩ := h
  obtain ⟨u, rfl, rx⟩ := vals1 r
  cases rx
  obtain ⟨t, u, v, ho⟩ := I.hok r0 _ hr
  refine call_list_range (n := j.toNat) (I.ok.hd hcalm) ho (small_one (by omega) (by omega) (by omega) (by omega)) (by rw [rangeSize_one]; split <;> omega) (by omega) fun h' tk acc c hk e hI => ?_
  exact ⟨.ref s.heap.objs.size, _, I.laid (t' := tk) hk (Nat.le_refl _) (show ObjOk X.prog X.w _ h' _ (.lst _) from ⟨by rw [List.length_map, List.length_range]; exact Nat.le_trans (by omega : j.toNat ≤ 1000000) (by decide), acc.toList, c, items_vals hI, by simpa using e⟩), rfl, q _ (I.hok.fresh (Nat.le_refl _))⟩
noncomputable def vLR (a : EV) : EV := fun L S => bnd (a L S) fun v S1 => match v with
  | .int j => if decide (j.natAbs < 1000000) = true then some (.lst (intsFrom 0 j.toNat), S1) else none
  | _ => none
theorem rps_ints {K : PySem.W.Frag} {F : Addr → Prop} {H : Hp} : ∀ is : List Nat, RPs K F H (is.map fun (i : Nat) => P.int (0 + (i : Int))) (is.map fun (i : Nat) => V.int (i : Int))
  | [] => rfl
  | i :: is => ⟨_, _, rfl, by show V.int _ = V.int _; rw [Int.zero_add], rps_ints is⟩
theorem x_listR {a : Expr} {fa : EV} {p1 p2 c1 c2 : Pos} (hcalm : X.calm = true) (hg : Gl X "list") (hm : X.mg "list" = none) (hg2 : Gl X "range") (hm2 : X.mg "range" = none) (ha : PE X a (tV X.K fa)) (hs : starEach [a] X.env = [(false, eval a X.env)])
    : PE X (.Call (.Name "list" p1) [.Call (.Name "range" p2) [a] [] c2] [] c1) (tV X.K (vLR fa)) :=
  (pe_callTy (callListRng hcalm) hg hm PyProof.Rows.boot_list (pa_cons (pe_callTy callRange1 hg2 hm2 boot_range (pa_cons ha pa_nil (by rw [hs]; rfl)) (by decide) (by decide) (by rw [hs]; rfl) rfl) pa_nil rfl) (by decide) (by decide) rfl rfl).imp' fun σ H Q ⟨F, m, L, S, d, S', r, l, q, k⟩ => by
    obtain ⟨x, S1, e1, q⟩ := bnd_eq q
    refine ⟨F, m, L, S, x, S1, r, l, e1, fun v F1 m1 H1 s1 r1 p1 => ?_⟩
    cases x with
    | int j =>
      dsimp only at q
      split at q
      · rename_i hc
        have hj : j.natAbs < 1000000 := of_decide_eq_true hc
        cases q
        cases (show v = .int j from p1)
        refine ⟨j, rfl, fun r0 hr0 => ⟨r0, j, rfl, upd_same, hj, fun z hz => ?_⟩⟩
        have g1 : Grow F1 H1 F1 (upd H1 r0 (.rng 0 j)) := grow_new hr0
        exact k _ _ m1 _ (s1.trans (g1.stp.trans (grow_frz hz).stp)) ((r1.grow g1).grow (grow_frz hz)) (.newLst hz (rps_ints _))
      · cases q
    | _ => cases q
end
end Ev
namespace Ev
open PySem PySem.Spec PyProof.Rows L2
noncomputable def pureOf (g : GF) (ps : List P) : Option P := match g (ps.map .p) [] with
  | some (d, S) => (toP 9 d S).map (·.1)
  | none => none
noncomputable def fnR (np nn : Nat) (b : ES) : GF := fun ds S => if ds.length = np then match b (ds.map some ++ List.replicate (nn - ds.length) none) S with
  | some (.rt d, _, S') => some (d, S')
  | some (.nx, _, S') => some (.p .non, S')
  | _ => none else none
theorem Rel.nil {K : PySem.W.Frag} {F : Addr → Prop} {H : Hp} (ft : ∀ a, F a → H a ≠ none) : Rel K F H [] [] := ⟨rfl, by simp, by simp, by simp, by simp, ft⟩
theorem spR_of_spV {K : PySem.W.Frag} {g : GF} {vs : List V} {H : Hp} {Q : VK} {E : XK} (h : spV K (pureOf g) vs H Q E) : spR K g vs H Q E := by
  obtain ⟨F, ds, d, ft, r, q, k⟩ := h
  unfold pureOf at q
  cases e : g (ds.map .p) [] with
  | none => rw [e] at q; cases q
  | some z =>
    obtain ⟨d1, S1⟩ := z
    rw [e] at q
    dsimp only at q
    cases e2 : toP 9 d1 S1 with
    | none => rw [e2] at q; cases q
    | some z2 =>
      obtain ⟨p, S2⟩ := z2
      rw [e2] at q
      cases q
      refine ⟨F, [], ds.map .p, [], d1, S1, .nil ft, RDs.ofP r, e, fun v F' m' H' s' r' rd => ?_⟩
      obtain ⟨F2, s2, r2, _, p2⟩ := toP_ok 9 e2 r' rd
      exact k v F2 H' ((s'.trans s2).toGrow r2.ft) p2
theorem FnOk.pure {Pg : Program} {w : World} {K : PySem.W.Frag} {mg : Str → Option Value} {base : Heap} {f : Addr} {fd : FuncData} {ps : List Str} {k : Nat} {g : GF} (G : FnOk Pg w K mg base CX0 k f fd ps (spR K g)) : FnOk Pg w K mg base CX0 k f fd ps (spV K (pureOf g)) :=
  FnOk.imp G fun _ _ _ _ h => spR_of_spV h
theorem RDs.toSt {K : PySem.W.Frag} {F : Addr → Prop} {H : Hp} {m : List Addr} {ds : List D} {vs : List V} {N : List Str} (r : RDs K F H m ds vs) : RL K F H m (L2.start N vs) (ds.map some ++ List.replicate (N.length - ds.length) none) := by
  have hl := r.length
  refine ⟨by unfold L2.start; simp [hl], fun i d e => ?_⟩
  by_cases hi : i < ds.length
  · rw [List.getElem?_append_left (by simpa using hi), List.getElem?_map] at e
    cases q : ds[i]? with
    | none => rw [q] at e; cases e
    | some v =>
      rw [q] at e
      cases e
      obtain ⟨x, e1, p⟩ := r.get q
      refine ⟨x, ?_, p⟩
      unfold L2.start
      rw [List.getElem?_append_left (by simpa [← hl] using hi), List.getElem?_map, e1]; rfl
  · rw [List.getElem?_append_right (by simpa using hi), List.getElem?_replicate] at e
    split at e <;> cases e
theorem fn_okR {Pg : Program} {w : World} {K : PySem.W.Frag} {mg : Str → Option Value} {base : Heap} {x qual : Str} {st : Stmt} {f : Addr} {fd : FuncData} {N ps : List Str} {k : Nat} {b : ES} (F : Fun K x qual st f fd) (S : FnScope N ps (defScope st))
    (hb : ∀ (cdv : Value) (A : Around) (outer : List Env) (s : Shared) (H : Hp) (E : XK), Room k (A.deeper (envOfC qual (defScope st) s.heap.objs.size f cdv)) →
      PSs (cxOf CX0 Pg w K mg base N qual (defScope st) f cdv A outer s H E).nox (defBody st) (tSt K b)) : FnOk Pg w K mg base CX0 (k + 1) f fd ps (spR K (fnR ps.length N.length b)) := by
  refine F.ok S (fun vs H Q E h => ?_) (fun cdv A outer s H vs Q E hr h => ⟨_, hb cdv A outer s H E hr, ?_⟩)
  · obtain ⟨F, m, ds, S, d, S', rl, r, q, k⟩ := h
    rw [← r.length]
    unfold fnR at q
    split at q
    · assumption
    · cases q
  · obtain ⟨F, m, ds, S, d, S', rl, r, q, k⟩ := h
    unfold fnR at q
    split at q
    · refine ⟨F, m, ds.map some ++ List.replicate (N.length - ds.length) none, S, ?_⟩
      cases eb : b (ds.map some ++ List.replicate (N.length - ds.length) none) S with
      | none => rw [eb] at q; cases q
      | some z =>
        obtain ⟨fl, L', S1⟩ := z
        rw [eb] at q
        refine ⟨fl, L', S1, rl, r.toSt, rfl, fun σ' F' m' H' s' r' l' => ?_⟩
        cases fl with
        | nx => cases q; exact k .non F' m' H' s' r' rfl
        | bk => cases q
        | ct => cases q
        | rt dd =>
          intro v rd
          cases q
          exact k v F' m' H' s' r' rd
    · cases q
theorem fn_noneR {Pg : Program} {w : World} {K : PySem.W.Frag} {mg : Str → Option Value} {base : Heap} {f : Addr} {fd : FuncData} {ps : List Str} {k : Nat} : FnOk Pg w K mg base CX0 k f fd ps (spR K fun _ _ => none) := by
  have no : ∀ vs H Q E, ¬ spR K (fun _ _ => none) vs H Q E := fun vs H Q E h => by
    obtain ⟨F, m, ds, S, d, S', _, _, q, _⟩ := h
    cases q
  exact ⟨fun vs H Q E h => absurd h (no vs H Q E), fun A outer s H args us vs Q E _ _ _ _ h => absurd h (no vs H Q E)⟩
structure Tr where
  v : Option EV := none
  e : Option EE := none
  b : Option EB := none
  w : Option EB := none
noncomputable def Tr.ofV (f : Option EV) : Tr := ⟨f, f.map eV, f.map fun g => bT (eV g), f.map bV⟩
noncomputable def Tr.ofC (f : Option EV) : Tr := ⟨f, f.map eV, f.map bV, f.map bV⟩
noncomputable def Tr.ofE (f : Option EE) : Tr := ⟨f.map vE, f, f.map bT, f.map fun g => bV (vE g)⟩
noncomputable def Tr.ofB (b w : Option EB) : Tr := ⟨w.map vB, w.map fun g => eV (vB g), b, w⟩
structure Cn where
  N : List Str
  own : List Str
  deep : List Str
  refs : List Str
  ks : List (Str × NameKind)
  F : Str → Option GF
  G : Str → Option P
noncomputable def ixOf : List Str → Str → Option Nat
  | [], _ => none
  | y :: r, x => if y = x then some 0 else (ixOf r x).map (· + 1)
theorem ixOf_get : ∀ {N : List Str} {x : Str} {i : Nat}, ixOf N x = some i → N[i]? = some x
  | [], _, _, h => by cases h
  | y :: r, x, i, h => by
    unfold ixOf at h
    split at h
    · rename_i e; cases h; simp [e]
    · cases q : ixOf r x with
      | none => rw [q] at h; cases h
      | some j => rw [q] at h; cases h; simpa using ixOf_get q
theorem ixOf_of_get : ∀ {N : List Str} {x : Str} {i : Nat}, N.Nodup → N[i]? = some x → ixOf N x = some i
  | [], _, _, _, h => by simp at h
  | y :: r, x, 0, _, h => by
    have : y = x := by simpa using h
    unfold ixOf; rw [if_pos this]
  | y :: r, x, i + 1, nd, h => by
    have h' : r[i]? = some x := by simpa using h
    have hne : ¬ y = x := fun e => by
      subst e
      exact (List.nodup_cons.mp nd).1 (List.mem_of_getElem? h')
    unfold ixOf; rw [if_neg hne, ixOf_of_get (List.nodup_cons.mp nd).2 h']; rfl
noncomputable def kindB (ks : List (Str × NameKind)) (x : Str) (l : List NameKind) : Bool := match ks.lookup x with
  | some k => l.contains k
  | none => false
noncomputable def okName (x : Str) : Bool := !(x == ("__debug__" : Str)) && !(x == ("__classdict__" : Str))
noncomputable def bop : Operator → Option (P → P → Option P)
  | .Add => some dAdd2
  | .Sub => some dSub
  | .Mult => some dMul2
  | .FloorDiv => some dFloor
  | .Mod => some dMod
  | .Pow => some dPow
  | _ => none
noncomputable def cop : CmpOp → Option (P → P → Option P)
  | .Lt => some dLt
  | .LtE => some dLe
  | .Gt => some dGt
  | .GtE => some dGe
  | _ => none
noncomputable def cop2 : CmpOp → Option (D → D → Sto → Option P)
  | .Eq => some gEq
  | .NotEq => some gNe
  | .NotIn => some gNotIn
  | _ => none
noncomputable def trAs : List (Option EV) → Option EVs
  | [] => some vsNil
  | a :: r => a.bind fun f => (trAs r).map fun g => vsCons f g
noncomputable def trDs : List (Option EE) → Option EDs
  | [] => some dsNil
  | a :: r => a.bind fun f => (trDs r).map fun g => dsCons f g
noncomputable def wFold (op : BoolOp) : List (Option EB) → Option EB
  | [] => none
  | [a] => a
  | a :: r => a.bind fun f => (wFold op r).map fun g => match op with | .And => bAnd f g | .Or => bOr f g
noncomputable def trO (o : Option (Option EV)) : Option EO := match o with
  | none => some oNone
  | some a => a.map oSome
noncomputable def isiOf (t : Str) : Option String :=
  if t = ("tuple" : Str) then some "tuple" else if t = ("list" : Str) then some "list" else none
noncomputable def bltOf (f : Str) : Option (List P → Option P) :=
  if f = ("int" : Str) then some c_int 
  else if f = ("list" : Str) then some c_list else none
noncomputable def bltN : List Str := ["len", "isinstance", "int", "bool", "tuple", "list", "str", "max", "min", "dict", "range", "abs", "enumerate", "sorted"]
noncomputable def relab (names ks : List (Str × NameKind)) : List (Str × NameKind) := names.map fun (n, k) => if (k == .free && ks.lookup n == some .cell) then (n, .cell) else (n, k)
noncomputable def blockB (Γ : Cn) (scope : Scope) (N' : List Str) (ts : List Nat) (n : Nat) : Bool :=
  decide (scope.kind = .function) && scope.names.all (fun x => x.2 != .cell) && scope.names.all (fun x => x.2 != .local || scope.names.lookup x.1 == some .local)
    && scope.names.all (fun x => x.2 != .free || (scope.names.lookup x.1 == some .free && (Γ.ks.lookup x.1 == some .cell || Γ.ks.lookup x.1 == some .free)))
    && decide (Γ.N = N'.take Γ.N.length) && decide (N'.length = Γ.N.length + n)
    && scope.names.all (fun x => x.2 != .local || match ixOf Γ.N x.1 with | some i => ts.contains i | none => true)
noncomputable def isGl (Γ : Cn) (f g : Str) : Bool := decide (f = g) && kindB Γ.ks f [.globalImplicit]
noncomputable def isTup : Expr → Bool
  | .Tuple .. => true
  | _ => false
noncomputable def lrArg (Γ : Cn) (f : Str) (a : Expr) : Option Expr := match a with
  | .Call (.Name r _) [b] [] _ => if (decide (f = ("list" : Str)) && isGl Γ r "range") = true then some b else none
  | _ => none
noncomputable def trItO (Γ : Cn) (T : Expr → Tr) (tg e : Expr) : Option (Bool × EE) := match e with
  | .Name x p => if Γ.own.contains x = true then (T (.Name x p)).e.map fun y => (false, y) else none
  | .Call (.Name f _) [.Name x p] [] _ => if (isGl Γ f "enumerate" && isTup tg && Γ.own.contains x) = true then (T (.Name x p)).e.map fun y => (true, y) else none
  | _ => none
noncomputable def trIt (Γ : Cn) (T : Expr → Tr) (tg e : Expr) : Option EVs := match e with
  | .Call (.Name f _) args [] _ => if isGl Γ f "range" = true then match args with
      | [a] => (T a).v.map itR1
      | [a, b] => (T a).v.bind fun x => (T b).v.map fun y => itR2 x y
      | _ => none
    else if isGl Γ f "enumerate" = true then match args with
      | [a] => if isTup tg = true then (T a).v.map itE else none
      | _ => none
    else (T e).v.map itS
  | .Set .. => none
  | _ => (T e).v.map itS
noncomputable def trNm (N : List Str) (ks : List (Str × NameKind)) (kinds : List NameKind) : Expr → Option TGv
  | .Name x _ => if kindB ks x kinds = true then (ixOf N x).map gSet else none
  | _ => none
noncomputable def trNms (N : List Str) (ks : List (Str × NameKind)) (kinds : List NameKind) : List Expr → Option (List TGv)
  | [] => some []
  | e :: r => (trNm N ks kinds e).bind fun g => (trNms N ks kinds r).map fun gs => g :: gs
noncomputable def trTg (N : List Str) (ks : List (Str × NameKind)) (kinds : List NameKind) : Expr → Option TGv
  | .Tuple es _ _ => (trNms N ks kinds es).map gTupP
  | e => trNm N ks kinds e
noncomputable def nmOf : Expr → List Str
  | .Name x _ => [x]
  | _ => []
noncomputable def nmsOf : Expr → List Str
  | .Tuple es _ _ => es.flatMap nmOf
  | e => nmOf e
noncomputable def cNew (N : List Str) : List Str → List Str
  | [] => []
  | t :: r => if (N.contains t || (cNew N r).contains t) = true then cNew N r else t :: cNew N r
noncomputable def cTs (N : List Str) (ts : List Str) : List Nat := ts.filterMap fun t => ixOf N t
noncomputable def trComp (Γ : Cn) (T : Cn → Expr → Tr) (elt tg iter : Expr) (ifs : List Expr) (scope : Scope) : Option EV :=
  if (blockB Γ scope (Γ.N ++ cNew Γ.N (nmsOf tg)) (cTs Γ.N (nmsOf tg)) (cNew Γ.N (nmsOf tg)).length && decide (Γ.N ++ cNew Γ.N (nmsOf tg)).Nodup) = true then
    (trIt Γ (T Γ) tg iter).bind fun it => (trTg (Γ.N ++ cNew Γ.N (nmsOf tg)) (relab scope.names Γ.ks) [.local] tg).bind fun g =>
      (match ifs with | [] => some bYes | [c] => (T ⟨Γ.N ++ cNew Γ.N (nmsOf tg), [], [], Γ.refs, relab scope.names Γ.ks, Γ.F, Γ.G⟩ c).b | _ => none).bind fun c =>
      (T ⟨Γ.N ++ cNew Γ.N (nmsOf tg), [], [], Γ.refs, relab scope.names Γ.ks, Γ.F, Γ.G⟩ elt).v.map fun e => vComp it (cTs Γ.N (nmsOf tg)) (cNew Γ.N (nmsOf tg)).length g c e
  else none
noncomputable def isOwn (Γ : Cn) : Nat → Expr → Bool
  | 0, _ => false
  | _, .Name x _ => Γ.own.contains x
  | n + 1, .Subscript a _ _ => isOwn Γ n a
  | _, _ => false
noncomputable def mth (Γ : Cn) (o : Expr) (m : Str) (name : Str) (ap cp : Pos) : Bool := decide (m = name) && isOwn Γ 4 o && (ap.endLine == cp.line)
noncomputable def tr (Γ : Cn) : Nat → Expr → Tr
  | 0, _ => {}
  | n + 1, e => match e with
    | .Constant (.int i) _ _ => .ofV (some (vC (.int i)))
    | .Constant (.bool i) _ _ => .ofV (some (vC (.bl i)))
    | .Constant .none _ _ => .ofV (some (vC .non))
    | .Constant (.str i) _ _ => .ofV (some (vC (.str i)))
    | .Name x _ => if (kindB Γ.ks x [.local, .cell, .free] && okName x) = true then .ofE ((ixOf Γ.N x).map eVar) else
        if (kindB Γ.ks x [.globalImplicit] && okName x) = true then .ofV ((Γ.G x).map vC) else {}
    | .BinOp a op b _ => .ofV ((bop op).bind fun g => (tr Γ n a).v.bind fun x => (tr Γ n b).v.map fun y => vOp g x y)
    | .UnaryOp .USub a _ => .ofV ((tr Γ n a).v.map (vUn dNeg))
    | .UnaryOp .Not a _ => .ofB ((tr Γ n a).b.map bNot) ((tr Γ n a).w.map bNot)
    | .BoolOp op es _ => .ofB (wFold op (es.map fun x => (tr Γ n x).b)) (wFold op (es.map fun x => (tr Γ n x).w))
    | .Compare a [op] [b] _ => .ofC (match cop op with
        | some g => (tr Γ n a).v.bind fun x => (tr Γ n b).v.map fun y => vOp g x y
        | none => (cop2 op).bind fun g => (tr Γ n a).e.bind fun x => (tr Γ n b).e.map fun y => vOpE g x y)
    | .Tuple es _ _ => .ofV ((trAs (es.map fun x => (tr Γ n x).v)).map vTup')
    | .List es _ => .ofV ((trAs (es.map fun x => (tr Γ n x).v)).map vLst')
    | .Subscript a (.Slice lo hi none _) _ => .ofV ((tr Γ n a).v.bind fun x => (trO (lo.map fun y => (tr Γ n y).v)).bind fun y => (trO (hi.map fun z => (tr Γ n z).v)).map fun z => vSl x y z)
    | .Subscript a i _ => if isOwn Γ 4 a = true then .ofE ((tr Γ n a).e.bind fun x => (tr Γ n i).v.map fun y => eIx x y) else .ofV ((tr Γ n a).v.bind fun x => (tr Γ n i).v.map fun y => vOp dIx x y)
    | .Call (.Name f _) args [] _ => if (kindB Γ.ks f [.globalImplicit] && okName f) = true then
        match Γ.F f with
        | some g => match args with
          | [] => {}
          | _ => .ofV ((trAs (args.map fun x => (tr Γ n x).v)).map fun a => vCall (pureOf g) a)
        | none => match args with
          | [] => {}
          | [a] => if f = ("len" : Str) then .ofV ((tr Γ n a).e.map vLen) else if f = ("sorted" : Str) then .ofV ((tr Γ n a).e.map vSort) else match lrArg Γ f a with
            | some b => .ofV ((tr Γ n b).v.map vLR)
            | none => .ofV ((bltOf f).bind fun g => (trAs [(tr Γ n a).v]).map fun x => vCall g x)
          | [a, .Name t tp] => if f = ("isinstance" : Str) then (if kindB Γ.ks t [.globalImplicit] = true then .ofV ((isiOf t).bind fun T => (tr Γ n a).e.map fun x => vIsi T x) else {}) else .ofV ((bltOf f).bind fun g => (trAs [(tr Γ n a).v, (tr Γ n (.Name t tp)).v]).map fun x => vCall g x)
          | _ => .ofV ((bltOf f).bind fun g => (trAs (args.map fun x => (tr Γ n x).v)).map fun x => vCall g x)
      else {}
    | .Call (.Attribute o m ap) [a] [] cp => if mth Γ o m "append" ap cp = true then .ofE ((tr Γ n o).e.bind fun x => (tr Γ n a).e.map fun y => eAppend x y) else
        if mth Γ o m "extend" ap cp = true then .ofE ((tr Γ n o).e.bind fun x => (tr Γ n a).v.map fun y => eExtend x y) else {}
    | .Call (.Attribute o m ap) [] [] cp => if mth Γ o m "clear" ap cp = true then .ofE ((tr Γ n o).e.map eClear) else {}
    | .ListComp elt [⟨tg, iter, ifs, 0⟩] scope _ => .ofV (trComp Γ (fun Γ' x => tr Γ' n x) elt tg iter ifs scope)
    | _ => {}
noncomputable def trD (Γ : Cn) (n : Nat) : Nat → Expr → Option EE
  | 0, _ => none
  | k + 1, e => match e with
    | .List es _ => (trDs (es.map fun x => trD Γ n k x)).map eLstD
    | .Call (.Name f _) args [] _ => if (kindB Γ.ks f [.globalImplicit] && okName f && !args.isEmpty) = true then
        match Γ.F f with
        | some g => (trDs (args.map fun x => (tr Γ n x).e)).map fun a => eCallR g a
        | none => (tr Γ n e).e
      else (tr Γ n e).e
    | _ => (tr Γ n e).e
end Ev
namespace Ev
open PySem PySem.Spec PyProof.Rows L2
structure XOk (Γ : Cn) (X : Cx) : Prop where
  hN : X.N = Γ.N
  nd : X.N.Nodup
  ks : X.env.scope.names = Γ.ks
  kd : X.env.scope.kind = .function
  calm : X.calm = true
  hu : X.A.units + 64 < cLine
  fns : ∀ x g, Γ.F x = some g → ∃ k f fd ps, FnOk X.prog X.w X.K X.mg X.base CX0 k f fd ps (spR X.K g) ∧ Room k X.A ∧ X.mg x = some (.ref f) ∧ PySem.W.keepIn X.K (.ref f) = true ∧ Binds X.K fd ps []
  blt : ∀ x ∈ bltN, X.mg x = none
  glb : ∀ x v, Γ.G x = some v → GlobOk X.K X.mg x v
structure Good (X : Cx) (ex : Expr) (t : Tr) : Prop where
  v : ∀ f, t.v = some f → PE X ex (tV X.K f)
  e : ∀ f, t.e = some f → PE X ex (tE X.K f)
  b : ∀ f, t.b = some f → PT X ex (tQ X.K f)
  w : ∀ f, t.w = some f → PE X ex (tV X.K (vB f))
section
variable {X : Cx} {e : Expr}
theorem Good.no : Good X e {} := ⟨fun _ h => (by cases h), fun _ h => (by cases h), fun _ h => (by cases h), fun _ h => (by cases h)⟩
noncomputable def PlainT (e : Expr) : Prop := ∀ env whole, isTrue e env whole = (do let v ← whole; standAt e.pos; holding [v] (truthy v))
theorem Good.ofV {t : Option EV} (h : ∀ f, t = some f → PE X e (tV X.K f)) (hp : PlainT e) : Good X e (.ofV t) where
  v := h
  e := fun f q => by
    cases t with
    | none => cases q
    | some g => cases q; exact xEV (h _ rfl)
  b := fun f q => by
    cases t with
    | none => cases q
    | some g => cases q; exact yT (xEV (h _ rfl)) (hp _)
  w := fun f q => by
    cases t with
    | none => cases q
    | some g => cases q; exact xBool (h _ rfl)
theorem Good.ofC {t : Option EV} (h : ∀ f, t = some f → PE X e (tV X.K f)) (hb : ∀ f, t = some f → PT X e (tQ X.K (bV f))) : Good X e (.ofC t) where
  v := h
  e := fun f q => by
    cases t with
    | none => cases q
    | some g => cases q; exact xEV (h _ rfl)
  b := fun f q => by
    cases t with
    | none => cases q
    | some g => cases q; exact hb _ rfl
  w := fun f q => by
    cases t with
    | none => cases q
    | some g => cases q; exact xBool (h _ rfl)
theorem Good.ofE {t : Option EE} (h : ∀ f, t = some f → PE X e (tE X.K f)) (hp : PlainT e) : Good X e (.ofE t) where
  v := fun f q => by
    cases t with
    | none => cases q
    | some g => cases q; exact xVE (h _ rfl)
  e := h
  b := fun f q => by
    cases t with
    | none => cases q
    | some g => cases q; exact yT (h _ rfl) (hp _)
  w := fun f q => by
    cases t with
    | none => cases q
    | some g => cases q; exact xBool (xVE (h _ rfl))
theorem Good.ofB {b w : Option EB} (hb : ∀ f, b = some f → PT X e (tQ X.K f)) (hw : ∀ f, w = some f → PE X e (tV X.K (vB f))) : Good X e (.ofB b w) where
  v := fun f q => by
    cases w with
    | none => cases q
    | some g => cases q; exact hw _ rfl
  e := fun f q => by
    cases w with
    | none => cases q
    | some g => cases q; exact xEV (hw _ rfl)
  b := hb
  w := hw
end
theorem bind_eq {α β : Type} {x : Option α} {f : α → Option β} {r : β} (h : x.bind f = some r) : ∃ a, x = some a ∧ f a = some r := by
  cases x with
  | none => cases h
  | some a => exact ⟨a, rfl, h⟩
theorem map_eq {α β : Type} {x : Option α} {f : α → β} {r : β} (h : x.map f = some r) : ∃ a, x = some a ∧ r = f a := by
  cases x with
  | none => cases h
  | some a => cases h; exact ⟨a, rfl, rfl⟩
noncomputable def NoStar (e : Expr) : Prop := ∀ es env, starEach (e :: es) env = (false, eval e env) :: starEach es env
theorem noStar_of {Γ : Cn} {n : Nat} {e : Expr} (h : (tr Γ n e).v.isSome = true ∨ (tr Γ n e).e.isSome = true) : NoStar e := by
  intro es env
  cases n with
  | zero => rcases h with h | h <;> cases h
  | succ n =>
    cases e <;> first | rfl | (rcases h with h | h <;> cases h)
theorem plainIx_of {Γ : Cn} {n : Nat} {e : Expr} (h : (tr Γ n e).v.isSome = true) : PlainIx e := by
  intro o i
  cases n with
  | zero => cases h
  | succ n =>
    cases e <;> first | rfl | cases h
theorem anyBack {es : List Expr} {env : Env} {pos : Pos} (h : ∀ e ∈ es, NoStar e) : (backTo pos (starEach es env)).any (·.1) = false := by
  induction es with
  | nil => rfl
  | cons e es ih =>
    rw [h e List.mem_cons_self es env]
    have := ih fun x hx => h x (List.mem_cons_of_mem _ hx)
    unfold backTo at this ⊢
    rw [List.map_cons, List.any_cons, this]; rfl
section
variable {Γ : Cn} {X : Cx} (h : XOk Γ X)
include h
theorem XOk.gl {x : Str} (q : kindB Γ.ks x [.globalImplicit] = true) : Gl X x := by
  unfold Gl Env.kindOf
  rw [h.ks]
  unfold kindB at q
  cases e : Γ.ks.lookup x with
  | none => rw [e] at q; cases q
  | some k => rw [e] at q; cases k <;> first | rfl | cases q
theorem XOk.vis {x : Str} (q : kindB Γ.ks x [.local, .cell, .free] = true) : Vis X.env.scope x := by
  unfold Vis
  rw [h.ks]
  unfold kindB at q
  cases e : Γ.ks.lookup x with
  | none => rw [e] at q; cases q
  | some k => rw [e] at q; cases k <;> first | exact .inl rfl | exact .inr (.inl rfl) | exact .inr (.inr rfl) | cases q
theorem XOk.loc {x : Str} (q : kindB Γ.ks x [.local, .cell] = true) : L2.Loc X.env.scope x := by
  unfold L2.Loc
  rw [h.ks]
  unfold kindB at q
  cases e : Γ.ks.lookup x with
  | none => rw [e] at q; cases q
  | some k => rw [e] at q; cases k <;> first | exact .inl rfl | exact .inr rfl | cases q
theorem XOk.local {x : Str} (q : kindB Γ.ks x [.local] = true) : X.env.scope.names.lookup x = some .local := by
  rw [h.ks]
  unfold kindB at q
  cases e : Γ.ks.lookup x with
  | none => rw [e] at q; cases q
  | some k => rw [e] at q; cases k <;> first | rfl | cases q
theorem XOk.bk : X.env.blockKind = .function := by
  unfold Env.blockKind
  rw [h.kd]; rfl
omit h in
theorem okName_of {x : Str} (q : okName x = true) : (x == ("__debug__" : Str)) = false ∧ (x == ("__classdict__" : Str)) = false := by
  unfold okName at q
  rw [Bool.and_eq_true] at q
  exact ⟨by simpa using q.1, by simpa using q.2⟩
theorem XOk.get {x : Str} {i : Nat} (q : ixOf Γ.N x = some i) : X.N[i]? = some x := by rw [h.hN]; exact ixOf_get q
omit h in
theorem trAs_ok {Γ : Cn} {n : Nat} : ∀ {es : List Expr} {fs : EVs}, (∀ e ∈ es, Good X e (tr Γ n e)) → trAs (es.map fun x => (tr Γ n x).v) = some fs → PA X es (tVs X.K fs) ∧ ∀ e ∈ es, NoStar e
  | [], fs, _, q => by cases q; exact ⟨aNil, fun _ z => by cases z⟩
  | e :: es, fs, g, q => by
    obtain ⟨f, q1, q2⟩ := bind_eq q
    obtain ⟨r, q3, rfl⟩ := map_eq q2
    obtain ⟨a1, a2⟩ := trAs_ok (fun x hx => g x (List.mem_cons_of_mem _ hx)) q3
    have q1 : (tr Γ n e).v = some f := q1
    have ns : NoStar e := noStar_of (.inl (by rw [q1]; rfl))
    refine ⟨aCons ((g e List.mem_cons_self).v f q1) a1 (ns _ _), fun x hx => ?_⟩
    rcases List.mem_cons.mp hx with hx | hx
    · subst hx; exact ns
    · exact a2 x hx
omit h in
theorem trDs_ok {Γ : Cn} {n : Nat} : ∀ {es : List Expr} {fs : EDs}, (∀ e ∈ es, Good X e (tr Γ n e)) → trDs (es.map fun x => (tr Γ n x).e) = some fs → PA X es (tDs X.K fs) ∧ ∀ e ∈ es, NoStar e
  | [], fs, _, q => by cases q; exact ⟨daNil, fun _ z => by cases z⟩
  | e :: es, fs, g, q => by
    obtain ⟨f, q1, q2⟩ := bind_eq q
    obtain ⟨r, q3, rfl⟩ := map_eq q2
    obtain ⟨a1, a2⟩ := trDs_ok (fun x hx => g x (List.mem_cons_of_mem _ hx)) q3
    have q1 : (tr Γ n e).e = some f := q1
    have ns : NoStar e := noStar_of (.inr (by rw [q1]; rfl))
    refine ⟨daCons ((g e List.mem_cons_self).e f q1) a1 (ns _ _), fun x hx => ?_⟩
    rcases List.mem_cons.mp hx with hx | hx
    · subst hx; exact ns
    · exact a2 x hx
omit h in
theorem wFold_pw {op : BoolOp} {pos : Pos} {Γ : Cn} {n : Nat} : ∀ {es : List Expr} {f : EB}, (∀ e ∈ es, Good X e (tr Γ n e)) → wFold op (es.map fun x => (tr Γ n x).b) = some f → PW X (.BoolOp op es pos) (tQ X.K f)
  | [], f, _, q => by cases q
  | [a], f, g, q => by
    cases op with
    | And => exact yAnd1 ((g a List.mem_cons_self).b f q)
    | Or => exact yOr1 ((g a List.mem_cons_self).b f q)
  | a :: b :: es, f, g, q => by
    obtain ⟨x, q1, q2⟩ := bind_eq q
    obtain ⟨r, q3, rfl⟩ := map_eq q2
    have i := wFold_pw (es := b :: es) (pos := pos) (fun x hx => g x (List.mem_cons_of_mem _ hx)) q3
    cases op with
    | And => exact yAnd ((g a List.mem_cons_self).b x q1) i
    | Or => exact yOr ((g a List.mem_cons_self).b x q1) i
omit h in
theorem wFold_pe {op : BoolOp} {pos : Pos} {Γ : Cn} {n : Nat} : ∀ {es : List Expr} {f : EB}, (∀ e ∈ es, Good X e (tr Γ n e)) → wFold op (es.map fun x => (tr Γ n x).w) = some f → PE X (.BoolOp op es pos) (tV X.K (vB f))
  | [], f, _, q => by cases q
  | [a], f, g, q => xAnd1 ((g a List.mem_cons_self).w f q)
  | a :: b :: es, f, g, q => by
    obtain ⟨x, q1, q2⟩ := bind_eq q
    obtain ⟨r, q3, rfl⟩ := map_eq q2
    have i := wFold_pe (es := b :: es) (pos := pos) (fun x hx => g x (List.mem_cons_of_mem _ hx)) q3
    cases op with
    | And => exact xAnd ((g a List.mem_cons_self).w x q1) i
    | Or => exact xOr ((g a List.mem_cons_self).w x q1) i
omit h in
theorem trO_ok {Γ : Cn} {n : Nat} {o : Option Expr} {f : EO} (g : ∀ e, Good X e (tr Γ n e)) (q : trO (o.map fun y => (tr Γ n y).v) = some f) : PO X o (tO X.K f) := by
  cases o with
  | none => cases q; exact oNone'
  | some e =>
    obtain ⟨x, q1, rfl⟩ := map_eq (show ((tr Γ n e).v).map oSome = some f from q)
    exact oSome' ((g e).v x q1)
theorem bop_ok {op : Operator} {g : P → P → Option P} (q : bop op = some g) : OpP X (binaryOp op) g := by
  cases op <;> first | (cases q; exact opAdd2) | (cases q; exact opSub) | (cases q; exact opMul2) | (cases q; exact opFloor) | (cases q; exact opMod) | (cases q; exact opPow) | cases q
omit h in
theorem cop_ok {op : CmpOp} {g : P → P → Option P} (q : cop op = some g) : OpP X (compareOp op) g := by
  cases op <;> first | (cases q; exact opLt) | (cases q; exact opLe) | (cases q; exact opGt) | (cases q; exact opGe) | cases q
theorem cop2_ok {op : CmpOp} {g : D → D → Sto → Option P} (q : cop2 op = some g) : OpR X (compareOp op) (rE X.K g) := by
  cases op <;> first | (cases q; exact opEqE h.hu) | (cases q; exact opNeE h.hu) | (cases q; exact opInE h.hu) | (cases q; exact opNotInE h.hu) | (cases q; exact opIsE) | (cases q; exact opIsNotE) | cases q
omit h in
theorem cop_mark {op : CmpOp} {g : P → P → Option P} (b : Expr) (q : cop op = some g) : behindInMarks op b = false := by
  cases op <;> first | exact nomark b | cases q
omit h in
theorem mark_of {Γ : Cn} {n : Nat} {op : CmpOp} {b : Expr} (q : (tr Γ n b).e.isSome = true) : behindInMarks op b = false := by
  cases n with
  | zero => cases q
  | succ n => cases b <;> first | rfl | cases q
theorem call_ok {f : Str} {g : GF} {a : Expr} {as : List Expr} {fs : EVs} {fp pos : Pos} (hg : Γ.F f = some g) (hk : kindB Γ.ks f [.globalImplicit] = true) (hn : okName f = true) (ha : PA X (a :: as) (tVs X.K fs)) (ns : ∀ e ∈ a :: as, NoStar e) :
    PE X (.Call (.Name f fp) (a :: as) [] pos) (tV X.K (vCall (pureOf g) fs)) := by
  obtain ⟨k, fa, fd, ps, G, hr, hm, hkp, hb⟩ := h.fns f g hg
  exact xCall (FnOk.pure G) hr (h.gl hk) hm hkp hb ha (okName_of hn).1 (ns a List.mem_cons_self _ _) (anyBack fun e he => ns e (List.mem_cons_of_mem _ he))
theorem callR_ok {f : Str} {g : GF} {a : Expr} {as : List Expr} {fs : EDs} {fp pos : Pos} (hg : Γ.F f = some g) (hk : kindB Γ.ks f [.globalImplicit] = true) (hn : okName f = true) (ha : PA X (a :: as) (tDs X.K fs)) (ns : ∀ e ∈ a :: as, NoStar e) :
    PE X (.Call (.Name f fp) (a :: as) [] pos) (tV X.K (vCallR g fs)) ∧ PE X (.Call (.Name f fp) (a :: as) [] pos) (tE X.K (eCallR g fs)) := by
  obtain ⟨k, fa, fd, ps, G, hr, hm, hkp, hb⟩ := h.fns f g hg
  exact ⟨xVCallR G hr (h.gl hk) hm hkp hb ha (okName_of hn).1 (ns a List.mem_cons_self _ _) (anyBack fun e he => ns e (List.mem_cons_of_mem _ he)),
    xCallR G hr (h.gl hk) hm hkp hb ha (okName_of hn).1 (ns a List.mem_cons_self _ _) (anyBack fun e he => ns e (List.mem_cons_of_mem _ he))⟩
theorem blt_ok {f : Str} {g : List P → Option P} {a : Expr} {as : List Expr} {fs : EVs} {fp pos : Pos} (hg : bltOf f = some g) (hk : kindB Γ.ks f [.globalImplicit] = true) (ha : PA X (a :: as) (tVs X.K fs)) (ns : ∀ e ∈ a :: as, NoStar e) :
    PE X (.Call (.Name f fp) (a :: as) [] pos) (tV X.K (vCall g fs)) := by
  have he := ns a List.mem_cons_self as X.env
  have hp := anyBack (env := X.env) (pos := pos) fun e he => ns e (List.mem_cons_of_mem _ he)
  unfold bltOf at hg
  split at hg
  · rename_i e; subst e; cases hg; exact x_int (h.gl hk) (h.blt _ (by decide)) ha he hp
  split at hg
  · rename_i e; subst e; cases hg; exact x_list (h.gl hk) (h.blt _ (by decide)) ha he hp
  · cases hg
theorem isi_ok {t : Str} {T : String} {a : Expr} {fa : EE} {fp tp pos : Pos} (ht : isiOf t = some T) (hk : kindB Γ.ks ("isinstance" : Str) [.globalImplicit] = true) (hk2 : kindB Γ.ks t [.globalImplicit] = true) (ha : PE X a (tE X.K fa)) (ns : NoStar a) :
    PE X (.Call (.Name "isinstance" fp) [a, .Name t tp] [] pos) (tV X.K (vIsi T fa)) := by
  have hs : starEach [a, .Name t tp] X.env = [(false, eval a X.env), (false, eval (.Name t tp) X.env)] := by rw [ns]; rfl
  have hm := h.blt ("isinstance" : Str) (by decide)
  unfold isiOf at ht
  split at ht
  · rename_i e; subst e; cases ht; exact yIsi kit_tuple (h.gl hk) hm (h.gl hk2) (h.blt _ (by decide)) PyProof.Rows.boot_tuple ha (by decide) (by decide) hs
  split at ht
  · rename_i e; subst e; cases ht; exact yIsi kit_list (h.gl hk) hm (h.gl hk2) (h.blt _ (by decide)) PyProof.Rows.boot_list ha (by decide) (by decide) hs
  · cases ht
omit h in
theorem isGl_of {f g : Str} (q : isGl Γ f g = true) : f = g ∧ kindB Γ.ks f [.globalImplicit] = true := by
  unfold isGl at q
  rw [Bool.and_eq_true] at q
  exact ⟨of_decide_eq_true q.1, q.2⟩
theorem it_ok {n : Nat} {tg e : Expr} {f : EVs} (g : ∀ x, Good X x (tr Γ n x)) (q : trIt Γ (fun x => tr Γ n x) tg e = some f) : PI X tg e (tI X.K f) := by
  have plain : ((tr Γ n e).v.map itS = some f) → PI X tg e (tI X.K f) := fun q => by
    obtain ⟨x, q1, rfl⟩ := map_eq q
    exact iS ((g e).v x q1)
  unfold trIt at q
  split at q
  · rename_i fn fp args pos
    split at q
    · rename_i hr
      obtain ⟨rfl, hr⟩ := isGl_of hr
      have hg := h.gl hr
      have hm := h.blt ("range" : Str) (by decide)
      split at q
      · rename_i a
        obtain ⟨x, q1, rfl⟩ := map_eq q
        exact iR1 hg hm ((g a).v x q1) (noStar_of (.inl (by rw [q1]; rfl)) _ _)
      · rename_i a b
        obtain ⟨x, q1, q⟩ := bind_eq q
        obtain ⟨y, q2, rfl⟩ := map_eq q
        have n1 : NoStar a := noStar_of (.inl (by rw [q1]; rfl))
        have n2 : NoStar b := noStar_of (.inl (by rw [q2]; rfl))
        have s2 : starEach [b] X.env = [(false, eval b X.env)] := n2 _ _
        exact iR2 hg hm ((g a).v x q1) ((g b).v y q2) (by rw [n1, s2]) s2
      · cases q
    · split at q
      · rename_i hr
        obtain ⟨rfl, hr⟩ := isGl_of hr
        split at q
        · rename_i a
          split at q
          · rename_i ht
            obtain ⟨x, q1, rfl⟩ := map_eq q
            cases tg <;> first | (cases ht; done) | skip
            exact iE (h.gl hr) (h.blt ("enumerate" : Str) (by decide)) ((g a).v x q1) (noStar_of (.inl (by rw [q1]; rfl)) _ _)
          · cases q
        · cases q
      · exact plain q
  · cases q
  · exact plain q
omit h in
theorem lrArg_of {f : Str} {a b : Expr} (q : lrArg Γ f a = some b) : f = "list" ∧ ∃ r p c, a = .Call (.Name r p) [b] [] c ∧ isGl Γ r "range" = true := by
  unfold lrArg at q
  split at q
  · rename_i r p b' c
    split at q
    · rename_i hc
      rw [Bool.and_eq_true] at hc
      cases q
      exact ⟨of_decide_eq_true hc.1, r, p, c, rfl, hc.2⟩
    · cases q
  · cases q
theorem itO_of {n : Nat} {tg e : Expr} {en : Bool} {f : EE} (g : ∀ x, Good X x (tr Γ n x)) (q : trItO Γ (fun x => tr Γ n x) tg e = some (en, f)) : PI X tg e (tIO X.K en f) := by
  unfold trItO at q
  split at q
  · split at q
    · obtain ⟨x, q1, q2⟩ := map_eq q
      cases q2
      exact iO ((g _).e _ q1)
    · cases q
  · rename_i fn fp x p c
    split at q
    · rename_i hc
      rw [Bool.and_eq_true, Bool.and_eq_true] at hc
      obtain ⟨⟨h1, h2⟩, h3⟩ := hc
      obtain ⟨rfl, hr⟩ := isGl_of h1
      obtain ⟨y, q1, q2⟩ := map_eq q
      cases q2
      cases tg <;> first | cases h2 | skip
      exact iEO (h.gl hr) (h.blt _ (by decide)) ((g _).e _ q1) rfl
    · cases q
  · cases q
omit h in
theorem itO_noset {T : Expr → Tr} {tg e : Expr} {f : Bool × EE} (q : trItO Γ T tg e = some f) (env : Env) (x : Value) : foldedSetIterable e env x = pure x := by
  cases e <;> first | rfl | cases q
omit h in
theorem it_noset {T : Expr → Tr} {tg e : Expr} {f : EVs} (q : trIt Γ T tg e = some f) (env : Env) (x : Value) : foldedSetIterable e env x = pure x := by
  cases e <;> first | rfl | cases q
theorem block_ok {scope : Scope} {N' : List Str} {ts : List Nat} {n : Nat} (q : blockB Γ scope N' ts n = true) : BlockOk X scope N' ts n := by
  unfold blockB at q
  simp only [Bool.and_eq_true] at q
  obtain ⟨⟨⟨⟨⟨⟨q1, q2⟩, q3⟩, q4⟩, q5⟩, q6⟩, q7⟩ := q
  have e5 : Γ.N = N'.take Γ.N.length := of_decide_eq_true q5
  refine ⟨of_decide_eq_true q1, fun x hx => ?_, fun x hx hl => ?_, fun x hx hl => ?_, ?_, ?_, fun x hx hl i hi => ?_⟩
  · simpa using List.all_eq_true.mp q2 x hx
  · have := List.all_eq_true.mp q3 x hx
    rw [hl] at this
    simpa using this
  · have := List.all_eq_true.mp q4 x hx
    rw [hl] at this
    have t : scope.names.lookup x.1 = some .free ∧ (Γ.ks.lookup x.1 = some .cell ∨ Γ.ks.lookup x.1 = some .free) := by simpa using this
    refine ⟨t.1, ?_⟩
    unfold Env.kindOf
    rw [h.ks]; exact t.2
  · rw [h.hN]; exact e5
  · rw [h.hN]; exact of_decide_eq_true q6
  · have := List.all_eq_true.mp q7 x hx
    rw [hl] at this
    have hi' : ixOf Γ.N x.1 = some i := ixOf_of_get (by rw [← h.hN]; exact h.nd) (by rw [← h.hN]; exact hi)
    rw [hi'] at this
    simpa using this
end
theorem nm_ok {X : Cx} {N : List Str} {ks : List (Str × NameKind)} {kinds : List NameKind} {e : Expr} {g : TGv} (hN : X.N = N) (nd : X.N.Nodup) (hk : ∀ x, kindB ks x kinds = true → L2.Loc X.env.scope x ∧ (X.fn x = true ∨ X.env.scope.names.lookup x = some .local)) (q : trNm N ks kinds e = some g) : isNm e = true ∧ PG X e (gT X.K g) := by
  unfold trNm at q
  split at q
  · split at q
    · rename_i hc
      obtain ⟨i, q1, rfl⟩ := map_eq q
      obtain ⟨h1, h2⟩ := hk _ hc
      exact ⟨rfl, gName' i nd (by rw [hN]; exact ixOf_get q1) h1 h2⟩
    · cases q
  · cases q
theorem tg_ok {X : Cx} {N : List Str} {ks : List (Str × NameKind)} {kinds : List NameKind} {e : Expr} {g : TGv} (hc : X.calm = true) (hN : X.N = N) (nd : X.N.Nodup) (hk : ∀ x, kindB ks x kinds = true → L2.Loc X.env.scope x ∧ (X.fn x = true ∨ X.env.scope.names.lookup x = some .local)) (q : trTg N ks kinds e = some g) : PG X e (gT X.K g) := by
  have all : ∀ {es : List Expr} {gs : List TGv}, trNms N ks kinds es = some gs → GsOk X es gs := by
    intro es
    induction es with
    | nil => intro gs q; cases q; exact .nil
    | cons e es ih =>
      intro gs q
      obtain ⟨g, q1, q⟩ := bind_eq q
      obtain ⟨r, q2, rfl⟩ := map_eq q
      obtain ⟨h1, h2⟩ := nm_ok hN nd hk q1
      exact .cons h1 h2 (ih q2)
  unfold trTg at q
  split at q
  · obtain ⟨gs, q1, rfl⟩ := map_eq q
    exact gTupOk hc (all q1)
  · exact (nm_ok hN nd hk q).2
theorem relab_eq {scope : Scope} {env : Env} (hk : env.scope.kind = .function) : (relabel scope env).names = relab scope.names env.scope.names := by
  unfold relabel relab Env.kindOf
  rw [hk]
  simp
theorem XOk.inn {Γ : Cn} {X : Cx} (h : XOk Γ X) {scope : Scope} {N' : List Str} {ts : List Nat} {n : Nat} (B : BlockOk X scope N' ts n) (nd : N'.Nodup) (s : Shared) (H : Hp) (C : Addr) (fp : List Addr) :
    XOk ⟨N', [], [], Γ.refs, relab scope.names Γ.ks, Γ.F, Γ.G⟩ (Ev.inn X scope N' s H C fp) where
  hN := rfl
  nd := nd
  ks := by show (relabel scope X.env).names = _; rw [relab_eq h.kd, h.ks]
  kd := B.kind
  calm := h.calm
  hu := h.hu
  fns := h.fns
  blt := h.blt
  glb := h.glb
theorem closure_ok {X : Cx} {scope : Scope} {N' : List Str} {ts : List Nat} {n : Nat} {pins : List (Addr × Obj)} {σ : L2.St} {H : Hp} {s : Shared} (B : BlockOk X scope N' ts n) (I : Inv X pins σ H s) : closureFor scope X.env = pure (clOf scope X.env) := by
  have all : ∀ x ∈ scope.names, x.2 = .free → ∃ c, X.env.cells.lookup x.1 = some c := fun x hx hl => I.ok.has x.1 (B.fr x hx hl).2
  unfold closureFor clOf
  have key : ∀ (l : List (Str × NameKind)) (acc : List (Str × Addr)), (∀ x ∈ l, x.2 = .free → ∃ c, X.env.cells.lookup x.1 = some c) →
      (forIn l acc fun (x : Str × NameKind) (r : List (Str × Addr)) => (do
        if x.2 == .free then do
          let c ← cellOf X.env x.1
          pure (ForInStep.yield ((x.1, c) :: r))
        else pure (ForInStep.yield r) : Sem (ForInStep (List (Str × Addr))))) = pure ((((l.filter fun x => x.2 == .free).map fun x => (x.1, (X.env.cells.lookup x.1).getD 0)).reverse) ++ acc) := by
    intro l
    induction l with
    | nil => intro acc _; rfl
    | cons x l ih =>
      intro acc hl
      rw [List.forIn_cons]
      by_cases hk : (x.2 == NameKind.free) = true
      · obtain ⟨c, hc⟩ := hl x List.mem_cons_self (by simpa using hk)
        rw [if_pos hk, List.filter_cons_of_pos (p := fun (x : Str × NameKind) => x.2 == .free) hk, List.map_cons, List.reverse_cons, List.append_assoc]
        have e1 : cellOf X.env x.1 = pure c := by unfold cellOf; rw [hc]
        rw [e1, hc]
        show (forIn l ((x.1, c) :: acc) _ : Sem _) = _
        rw [ih ((x.1, c) :: acc) fun y hy => hl y (List.mem_cons_of_mem _ hy)]; rfl
      · rw [if_neg hk, List.filter_cons_of_neg (p := fun (x : Str × NameKind) => x.2 == .free) hk]
        show (forIn l acc _ : Sem _) = _
        rw [ih acc fun y hy => hl y (List.mem_cons_of_mem _ hy)]
  have k := key scope.names [] all
  rw [List.append_nil] at k
  show (Bind.bind (forIn scope.names [] fun (x : Str × NameKind) (r : List (Str × Addr)) => (do
        if x.2 == .free then do
          let c ← cellOf X.env x.1
          pure (ForInStep.yield ((x.1, c) :: r))
        else pure (ForInStep.yield r) : Sem (ForInStep (List (Str × Addr))))) fun cs => pure cs : Sem (List (Str × Addr))) = _
  rw [k]; rfl
end Ev
namespace Ev
open PySem PySem.Spec PyProof.Rows L2
theorem xComp' {X : Cx} {scope : Scope} {N' : List Str} {ts : List Nat} {n : Nat} {elt iter tg : Expr} {ifs : List Expr} {pos : Pos} {fi : EVs} {g : TGv} {fc : EB} {fe : EV} (B : BlockOk X scope N' ts n) (hcalm : X.calm = true)
    (hi : PI X tg iter (tI X.K fi)) (hg : ∀ s H C fp, PG (inn X scope N' s H C fp) tg (gT X.K g)) (hc : ∀ s H C fp, PIfs (inn X scope N' s H C fp) ifs fc) (he : ∀ s H C fp, PE (inn X scope N' s H C fp) elt (tV X.K fe))
    (hs : ∀ x, foldedSetIterable iter X.env x = pure x) :
    PE X (.ListComp elt [⟨tg, iter, ifs, 0⟩] scope pos) (tV X.K (vComp fi ts n g fc fe)) := fun pins s σ H Q I q =>
  xComp B hcalm hi hg hc he (closure_ok B I) hs pins s σ H Q I q
theorem zComp' {X : Cx} {scope : Scope} {N' : List Str} {ts : List Nat} {n : Nat} (i : Nat) {x : Str} {px spos : Pos} {elt iter tg : Expr} {ifs : List Expr} {pos : Pos} {fi : EVs} {g : TGv} {fc : EB} {fe : EV} (hN : X.N.Nodup) (B : BlockOk X scope N' ts n) (hcalm : X.calm = true)
    (hi : PI X tg iter (tI X.K fi)) (hg : ∀ s H C fp, PG (inn X scope N' s H C fp) tg (gT X.K g)) (hc : ∀ s H C fp, PIfs (inn X scope N' s H C fp) ifs fc) (he : ∀ s H C fp, PE (inn X scope N' s H C fp) elt (tV X.K fe))
    (hsw : swapsWith (.ListComp elt [⟨tg, iter, ifs, 0⟩] scope pos) (some (.Name x px)) spos.line X.env = pure true)
    (hs : ∀ x, foldedSetIterable iter X.env x = pure x) (hix : X.N[i]? = some x) (hx : L2.Loc X.env.scope x)
    (hf : X.fn x = true ∨ X.env.scope.names.lookup x = some .local) :
    PS X (.Assign [.Name x px] (.ListComp elt [⟨tg, iter, ifs, 0⟩] scope pos) spos) (tSt X.K (sSet i (eV (vComp fi ts n g fc fe)))) := fun pins s σ H D I q =>
  zComp i hN B hcalm hi hg hc he (closure_ok B I) hsw hs hix hx hf pins s σ H D I q
noncomputable def AllGood (n : Nat) : Prop := ∀ (Γ : Cn) (X : Cx), XOk Γ X → ∀ e, Good X e (tr Γ n e)
theorem comp_pieces {Γ : Cn} {X : Cx} (h : XOk Γ X) {n : Nat} (G : AllGood n) {elt tg iter : Expr} {ifs : List Expr} {scope : Scope} {f : EV} (q : trComp Γ (fun Γ' x => tr Γ' n x) elt tg iter ifs scope = some f) :
    ∃ N' ts m fi g fc fe, BlockOk X scope N' ts m ∧ PI X tg iter (tI X.K fi) ∧ (∀ s H C fp, PG (inn X scope N' s H C fp) tg (gT X.K g)) ∧ (∀ s H C fp, PIfs (inn X scope N' s H C fp) ifs fc) ∧ (∀ s H C fp, PE (inn X scope N' s H C fp) elt (tV X.K fe)) ∧
      (∀ x, foldedSetIterable iter X.env x = pure x) ∧ f = vComp fi ts m g fc fe := by
  unfold trComp at q
  generalize hN' : Γ.N ++ cNew Γ.N (nmsOf tg) = N' at q
  generalize hts : cTs Γ.N (nmsOf tg) = ts at q
  generalize hm : (cNew Γ.N (nmsOf tg)).length = m at q
  split at q
  · rename_i hc
    rw [Bool.and_eq_true] at hc
    obtain ⟨it, q1, q⟩ := bind_eq q
    obtain ⟨gg, q2, q⟩ := bind_eq q
    obtain ⟨c, q3, q⟩ := bind_eq q
    obtain ⟨e, q4, rfl⟩ := map_eq q
    have B : BlockOk X scope N' ts m := block_ok h hc.1
    have nd : N'.Nodup := of_decide_eq_true hc.2
    have hin := fun s H C fp => h.inn B nd s H C fp
    refine ⟨N', ts, m, it, gg, c, e, B, it_ok h (G Γ X h) q1, fun s H C fp => ?_, fun s H C fp => ?_, fun s H C fp => ?_, fun x => it_noset q1 _ x, rfl⟩
    · exact tg_ok h.calm rfl nd (fun x hx => ⟨.inl ((hin s H C fp).local hx), .inr ((hin s H C fp).local hx)⟩) q2
    · cases ifs with
      | nil => cases q3; exact PIfs.none
      | cons a r =>
        cases r with
        | nil => exact PIfs.one ((G _ _ (hin s H C fp) a).b c q3)
        | cons _ _ => cases q3
    · exact (G _ _ (hin s H C fp) elt).v e q4
  · cases q
theorem attrBase_own {o : Expr} {x : Str} {env : Env} {Γ : Cn} {n : Nat} (ho : isOwn Γ n o = true) (hx : x ≠ ("__class__" : Str)) : attributeBase o x env (eval o env) = eval o env := by
  cases n with
  | zero => cases ho
  | succ n =>
    cases o <;> first | (cases ho; done) | rfl | skip
theorem mth_of {Γ : Cn} {o : Expr} {m name : Str} {ap cp : Pos} (h : mth Γ o m name ap cp = true) : m = name ∧ isOwn Γ 4 o = true ∧ (ap.endLine == cp.line) = true := by
  unfold mth at h
  simp only [Bool.and_eq_true] at h
  exact ⟨of_decide_eq_true h.1.1, h.1.2, h.2⟩
theorem tr_ok : ∀ n, AllGood n
  | 0 => fun Γ X h e => Good.no
  | n + 1 => by
    have G := tr_ok n
    intro Γ X h e
    have g := G Γ X h
    unfold tr
    split
    · exact .ofV (fun f q => by cases q; exact xInt) fun _ _ => rfl
    · exact .ofV (fun f q => by cases q; exact xBl) fun _ _ => rfl
    · exact .ofV (fun f q => by cases q; exact xNon) fun _ _ => rfl
    · exact .ofV (fun f q => by cases q; exact xStr) fun _ _ => rfl
    · split
      · rename_i x p hc
        rw [Bool.and_eq_true] at hc
        refine .ofE (fun f q => ?_) fun _ _ => rfl
        obtain ⟨i, q1, rfl⟩ := map_eq q
        exact xVar i (h.get q1) (h.vis hc.1) (okName_of hc.2).1 (okName_of hc.2).2
      · split
        · rename_i hc
          rw [Bool.and_eq_true] at hc
          refine .ofV (fun f q => ?_) fun _ _ => rfl
          obtain ⟨v, q1, rfl⟩ := map_eq q
          exact xGlob (h.gl hc.1) (h.glb _ v q1) (okName_of hc.2).1
        · exact .no
    · refine .ofV (fun f q => ?_) fun _ _ => rfl
      obtain ⟨o, q1, q⟩ := bind_eq q
      obtain ⟨x, q2, q⟩ := bind_eq q
      obtain ⟨y, q3, rfl⟩ := map_eq q
      exact xOp (bop_ok h q1) ((g _).v x q2) ((g _).v y q3)
    · refine .ofV (fun f q => ?_) fun _ _ => rfl
      obtain ⟨x, q1, rfl⟩ := map_eq q
      exact xNeg ((g _).v x q1)
    · refine .ofB (fun f q => ?_) fun f q => ?_
      · obtain ⟨x, q1, rfl⟩ := map_eq q
        exact yNot ((g _).b x q1)
      · obtain ⟨x, q1, rfl⟩ := map_eq q
        exact xNot ((g _).w x q1)
    · exact .ofB (fun f q => (wFold_pw (fun e _ => g e) q).pt) fun f q => wFold_pe (fun e _ => g e) q
    · refine .ofC (fun f q => ?_) fun f q => ?_
      · split at q
        · rename_i g' q1
          obtain ⟨x, q2, q⟩ := bind_eq q
          obtain ⟨y, q3, rfl⟩ := map_eq q
          exact xCmp (cop_ok q1) ((g _).v x q2) ((g _).v y q3) (cop_mark _ q1)
        · obtain ⟨o, q1, q⟩ := bind_eq q
          obtain ⟨x, q2, q⟩ := bind_eq q
          obtain ⟨y, q3, rfl⟩ := map_eq q
          exact xCmpE (cop2_ok h q1) ((g _).e x q2) ((g _).e y q3) (mark_of (by rw [q3]; rfl))
      · split at q
        · rename_i g' q1
          obtain ⟨x, q2, q⟩ := bind_eq q
          obtain ⟨y, q3, rfl⟩ := map_eq q
          exact yCmp (cop_ok q1) ((g _).v x q2) ((g _).v y q3) (cop_mark _ q1)
        · obtain ⟨o, q1, q⟩ := bind_eq q
          obtain ⟨x, q2, q⟩ := bind_eq q
          obtain ⟨y, q3, rfl⟩ := map_eq q
          exact yCmpE (cop2_ok h q1) ((g _).e x q2) ((g _).e y q3) (mark_of (by rw [q3]; rfl))
    · refine .ofV (fun f q => ?_) fun _ _ => rfl
      obtain ⟨x, q1, rfl⟩ := map_eq q
      exact xTup (trAs_ok (fun e _ => g e) q1).1
    · refine .ofV (fun f q => ?_) fun _ _ => rfl
      obtain ⟨x, q1, rfl⟩ := map_eq q
      exact xLst (trAs_ok (fun e _ => g e) q1).1
    · refine .ofV (fun f q => ?_) fun _ _ => rfl
      obtain ⟨x, q1, q⟩ := bind_eq q
      obtain ⟨y, q2, q⟩ := bind_eq q
      obtain ⟨z, q3, rfl⟩ := map_eq q
      exact xSl ((g _).v x q1) (trO_ok g q2) (trO_ok g q3)
    · split
      · refine .ofE (fun f q => ?_) fun _ _ => rfl
        obtain ⟨x, q1, q⟩ := bind_eq q
        obtain ⟨y, q2, rfl⟩ := map_eq q
        exact xIxE (by have := h.hu; omega) ((g _).e x q1) ((g _).v y q2) (plainIx_of (by rw [q2]; rfl))
      · refine .ofV (fun f q => ?_) fun _ _ => rfl
        obtain ⟨x, q1, q⟩ := bind_eq q
        obtain ⟨y, q2, rfl⟩ := map_eq q
        exact xIx (by have := h.hu; omega) ((g _).v x q1) ((g _).v y q2) (plainIx_of (by rw [q2]; rfl))
    · rename_i f fp args cp
      split
      · rename_i hc
        rw [Bool.and_eq_true] at hc
        split
        · rename_i gf hg
          split
          · exact .no
          · rename_i args' hne
            · refine .ofV (fun f q => ?_) fun _ _ => rfl
              obtain ⟨x, q1, rfl⟩ := map_eq q
              obtain ⟨a1, a2⟩ := trAs_ok (fun e _ => g e) q1
              cases args with
              | nil => exact absurd rfl hne
              | cons a as => exact call_ok h hg hc.1 hc.2 a1 a2
        · split
          · exact .no
          · rename_i a
            split
            · rename_i hl
              subst hl
              refine .ofV (fun f q => ?_) fun _ _ => rfl
              obtain ⟨x, q1, rfl⟩ := map_eq q
              exact xLen (h.gl hc.1) (h.blt _ (by decide)) ((g _).e x q1) (noStar_of (.inr (by rw [q1]; rfl)) _ _)
            · split
              · rename_i hl
                subst hl
                refine .ofV (fun f q => ?_) fun _ _ => rfl
                obtain ⟨x, q1, rfl⟩ := map_eq q
                exact x_sorted (h.gl hc.1) (h.blt _ (by decide)) ((g _).e x q1) (noStar_of (.inr (by rw [q1]; rfl)) _ _)
              · split
                · rename_i b hb
                  obtain ⟨rfl, r, p2, c2, rfl, hr⟩ := lrArg_of hb
                  refine .ofV (fun f q => ?_) fun _ _ => rfl
                  obtain ⟨x, q1, rfl⟩ := map_eq q
                  obtain ⟨rfl, hr⟩ := isGl_of hr
                  exact x_listR h.calm (h.gl hc.1) (h.blt _ (by decide)) (h.gl hr) (h.blt _ (by decide)) ((g _).v x q1) (noStar_of (.inl (by rw [q1]; rfl)) _ _)
                · refine .ofV (fun f q => ?_) fun _ _ => rfl
                  obtain ⟨o, q1, q⟩ := bind_eq q
                  obtain ⟨x, q2, rfl⟩ := map_eq q
                  obtain ⟨a1, a2⟩ := trAs_ok (es := [a]) (fun e _ => g e) q2
                  exact blt_ok h q1 hc.1 a1 a2
          · rename_i a t tp
            split
            · rename_i hl
              subst hl
              split
              · rename_i ht
                refine .ofV (fun f q => ?_) fun _ _ => rfl
                obtain ⟨o, q1, q⟩ := bind_eq q
                obtain ⟨x, q2, rfl⟩ := map_eq q
                exact isi_ok h q1 hc.1 ht ((g _).e x q2) (noStar_of (.inr (by rw [q2]; rfl)))
              · exact .no
            · refine .ofV (fun f q => ?_) fun _ _ => rfl
              obtain ⟨o, q1, q⟩ := bind_eq q
              obtain ⟨x, q2, rfl⟩ := map_eq q
              obtain ⟨a1, a2⟩ := trAs_ok (es := [a, .Name t tp]) (fun e _ => g e) q2
              exact blt_ok h q1 hc.1 a1 a2
          · rename_i hne _ _
            refine .ofV (fun f q => ?_) fun _ _ => rfl
            obtain ⟨o, q1, q⟩ := bind_eq q
            obtain ⟨x, q2, rfl⟩ := map_eq q
            obtain ⟨a1, a2⟩ := trAs_ok (fun e _ => g e) q2
            cases args with
            | nil => exact absurd rfl hne
            | cons a as => exact blt_ok h q1 hc.1 a1 a2
      · exact .no
    · split
      · rename_i hc
        obtain ⟨rfl, h2, h3⟩ := mth_of hc
        refine .ofE (fun f q => ?_) fun _ _ => rfl
        obtain ⟨x, q1, q⟩ := bind_eq q
        obtain ⟨y, q2, rfl⟩ := map_eq q
        exact xAppend ((g _).e x q1) ((g _).e y q2) (noStar_of (.inr (by rw [q2]; rfl)) _ _) (attrBase_own h2 (by decide)) h3
      · split
        · rename_i hc
          obtain ⟨rfl, h2, h3⟩ := mth_of hc
          refine .ofE (fun f q => ?_) fun _ _ => rfl
          obtain ⟨x, q1, q⟩ := bind_eq q
          obtain ⟨y, q2, rfl⟩ := map_eq q
          exact xExtend ((g _).e x q1) ((g _).v y q2) (noStar_of (.inl (by rw [q2]; rfl)) _ _) (attrBase_own h2 (by decide)) h3
        · exact .no
    · split
      · rename_i hc
        obtain ⟨rfl, h2, h3⟩ := mth_of hc
        refine .ofE (fun f q => ?_) fun _ _ => rfl
        obtain ⟨x, q1, rfl⟩ := map_eq q
        exact xClear ((g _).e x q1) (attrBase_own h2 (by decide)) h3
      · exact .no
    · refine .ofV (fun f q => ?_) fun _ _ => rfl
      obtain ⟨N', ts, m, fi, gg, fc, fe, B, p1, p2, p3, p4, p6, rfl⟩ := comp_pieces h G q
      exact xComp' B h.calm p1 p2 p3 p4 p6
    · exact .no
theorem trD_star {Γ : Cn} {n k : Nat} {e : Expr} {f : EE} (h : trD Γ n k e = some f) : NoStar e := by
  intro es env
  cases k with
  | zero => cases h
  | succ k =>
    cases e <;> first | rfl | exact noStar_of (Γ := Γ) (n := n) (.inr (by rw [show (tr Γ n (Expr.Starred _ _)).e = some f from h]; rfl)) es env
theorem trD_ok {Γ : Cn} {X : Cx} (h : XOk Γ X) (n : Nat) : ∀ (k : Nat) {e : Expr} {f : EE}, trD Γ n k e = some f → PE X e (tE X.K f)
  | 0, _, _, q => by cases q
  | k + 1, e, f, q => by
    have g := tr_ok n Γ X h
    have all : ∀ {es : List Expr} {fs : EDs}, trDs (es.map fun x => trD Γ n k x) = some fs → PA X es (tDs X.K fs) := by
      intro es
      induction es with
      | nil => intro fs q; cases q; exact daNil
      | cons e es ih =>
        intro fs q
        obtain ⟨f, q1, q2⟩ := bind_eq q
        obtain ⟨r, q3, rfl⟩ := map_eq q2
        have q1 : trD Γ n k e = some f := q1
        exact daCons (trD_ok h n k q1) (ih q3) (trD_star q1 _ _)
    unfold trD at q
    split at q
    · obtain ⟨fs, q1, rfl⟩ := map_eq q
      exact xLstD (all q1)
    · rename_i f' fp args cp
      split at q
      · rename_i hc
        simp only [Bool.and_eq_true] at hc
        split at q
        · rename_i gf hg
          obtain ⟨x, q1, rfl⟩ := map_eq q
          obtain ⟨a1, a2⟩ := trDs_ok (fun e _ => g e) q1
          cases args with
          | nil => simp at hc
          | cons a as => exact (callR_ok h hg hc.1.1 hc.1.2 a1 a2).2
        · exact (g _).e f q
      · exact (g _).e f q
    · exact (g _).e f q
end Ev
namespace Ev
open PySem PySem.Spec PyProof.Rows L2
noncomputable def trSs (T : Stmt → Option ES) : List Stmt → Option ES
  | [] => some sNx
  | [s] => T s
  | s :: r => (T s).bind fun f => (trSs T r).map fun g => sSeq f g
noncomputable def isLst : Expr → Option (List Expr)
  | .List es _ => some es
  | _ => none
noncomputable def isComp : Expr → Bool
  | .ListComp .. => true
  | _ => false
theorem notComp {e : Expr} (h : isComp e = false) : ∀ a b c d, e ≠ .ListComp a b c d := fun a b c d z => by subst z; cases h
noncomputable def trS (Γ : Cn) : Nat → Stmt → Option ES
  | 0, _ => none
  | n + 1, st => match st with
    | .Assign [.Name x _] value _ => if kindB Γ.ks x [.local, .cell] = true then (ixOf Γ.N x).bind fun i => if (Γ.deep.contains x && !isComp value) = true then (trD Γ n 5 value).map (sSet i) else match isLst value with
        | some es => if Γ.own.contains x = true then (trAs (es.map fun y => (tr Γ n y).v)).map fun a => sSet i (eLst' a) else (tr Γ n value).e.map (sSet i)
        | none => (tr Γ n value).e.map (sSet i)
      else none
    | .Return (some e) _ => (tr Γ n e).e.map sRet
    | .Expr e _ => if isComp e = true then none else (tr Γ n e).e.map sDrop
    | .If c a b _ => (tr Γ n c).b.bind fun q => (trSs (trS Γ n) a).bind fun x => (trSs (trS Γ n) b).map fun y => sIf q x y
    | .For tg iter body [] _ => (trTg Γ.N Γ.ks [.local, .cell] tg).bind fun g => match trItO Γ (fun y => tr Γ n y) tg iter with
        | some (en, it) => (trSs (trS Γ n) body).map fun b => sForO en it g b
        | none => (trIt Γ (fun y => tr Γ n y) tg iter).bind fun it => (trSs (trS Γ n) body).map fun b => sFor it g b
    | _ => none
theorem noSwap {value : Expr} {t : Option Expr} {line : Nat} {env : Env} (h : ∀ a b c d, value ≠ .ListComp a b c d) (h2 : ∀ a b c d, value ≠ .SetComp a b c d) (h3 : ∀ a b c d e, value ≠ .DictComp a b c d e) : swapsWith value t line env = pure false := by
  cases value <;> first | rfl | exact absurd rfl (h _ _ _ _) | exact absurd rfl (h2 _ _ _ _) | exact absurd rfl (h3 _ _ _ _ _)
theorem noSet_of {Γ : Cn} {n : Nat} {e : Expr} (h : (tr Γ n e).e.isSome = true) : (∀ a b c d, e ≠ .SetComp a b c d) ∧ ∀ a b c d f, e ≠ .DictComp a b c d f := by
  cases n with
  | zero => cases h
  | succ n => exact ⟨fun a b c d z => (by subst z; cases h), fun a b c d f z => (by subst z; cases h)⟩
theorem trD_e {Γ : Cn} {n k : Nat} {e : Expr} {f : EE} (h : trD Γ n k e = some f) : (∀ a b c d, e ≠ .SetComp a b c d) ∧ ∀ a b c d g, e ≠ .DictComp a b c d g := by
  cases k with
  | zero => cases h
  | succ k =>
    cases n with
    | zero => exact ⟨fun a b c d z => (by subst z; cases h), fun a b c d f z => (by subst z; cases h)⟩
    | succ n => exact ⟨fun a b c d z => (by subst z; cases h), fun a b c d f z => (by subst z; cases h)⟩
theorem tr_comp {Γ : Cn} {n : Nat} {elt : Expr} {gs : List Comprehension} {scope : Scope} {pos : Pos} {f : EE} (h : (tr Γ n (.ListComp elt gs scope pos)).e = some f) :
    ∃ k tg iter ifs f', n = k + 1 ∧ gs = [⟨tg, iter, ifs, 0⟩] ∧ trComp Γ (fun Γ' x => tr Γ' k x) elt tg iter ifs scope = some f' ∧ f = eV f' := by
  cases n with
  | zero => cases h
  | succ n =>
    unfold tr at h
    split at h
    all_goals first
      | (rename_i hh; cases hh; done)
      | (rename_i hh; cases hh
         obtain ⟨x, q1, rfl⟩ := map_eq (show Option.map eV _ = some f from h)
         exact ⟨n, _, _, _, x, rfl, rfl, q1, rfl⟩)
      | (cases h; done)
theorem trSs_ok {X : Cx} {T : Stmt → Option ES} (h : ∀ st f, T st = some f → PS X st (tSt X.K f)) : ∀ {sts : List Stmt} {f : ES}, trSs T sts = some f → PSs X sts (tSt X.K f)
  | [], f, q => by cases q; exact zNil
  | [s], f, q => zOne (h s f q)
  | s :: t :: r, f, q => by
    obtain ⟨x, q1, q⟩ := bind_eq q
    obtain ⟨y, q2, rfl⟩ := map_eq q
    exact zCons (h s x q1) (trSs_ok h q2)
theorem trS_ok {Γ : Cn} {X : Cx} (h : XOk Γ X) (hfn : ∀ x, X.fn x = true) (hp : PassesOwn (model X.prog X.w) X.A X.env X.xe) : ∀ n (st : Stmt) (f : ES), trS Γ n st = some f → PS X st (tSt X.K f)
  | 0, st, f, q => by cases q
  | n + 1, st, f, q => by
    have ih := trS_ok h hfn hp n
    have g := tr_ok n Γ X h
    unfold trS at q
    split at q
    · rename_i x px value sp
      split at q
      · rename_i hk
        obtain ⟨i, qi, q⟩ := bind_eq q
        split at q
        · rename_i hd
          rw [Bool.and_eq_true] at hd
          obtain ⟨fe, q1, rfl⟩ := map_eq q
          obtain ⟨n2, n3⟩ := trD_e q1
          exact zSet i h.nd (trD_ok h n 5 q1) (h.get qi) (h.loc hk) (noSwap (notComp (by simpa using hd.2)) n2 n3) (.inl (hfn x))
        have plain : (tr Γ n value).e.map (sSet i) = some f → PS X (.Assign [.Name x px] value sp) (tSt X.K f) := fun q => by
          obtain ⟨fe, q1, rfl⟩ := map_eq q
          by_cases hl : ∃ a b c d, value = .ListComp a b c d
          · obtain ⟨a, b, c, d, rfl⟩ := hl
            obtain ⟨k, tg, iter, ifs, f', rfl, rfl, q2, rfl⟩ := tr_comp q1
            obtain ⟨N', ts, m, fi, gg, fc, fee, B, p1, p2, p3, p4, p6, rfl⟩ := comp_pieces h (tr_ok k) q2
            have sw : swapsWith (.ListComp a [⟨tg, iter, ifs, 0⟩] c d) (some (.Name x px)) sp.line X.env = pure (X.env.blockKind == .function && X.env.kindOf x == some .local && px.line == (Expr.ListComp a [⟨tg, iter, ifs, 0⟩] c d).pos.line
              && !(c.names.any fun (n, k) => n == x && (k == .local || k == .cell))) := rfl
            cases hb : (X.env.blockKind == .function && X.env.kindOf x == some .local && px.line == (Expr.ListComp a [⟨tg, iter, ifs, 0⟩] c d).pos.line && !(c.names.any fun (n, k) => n == x && (k == .local || k == .cell))) with
            | true =>
              rw [hb] at sw
              exact zComp' i h.nd B h.calm p1 p2 p3 p4 sw p6 (h.get qi) (h.loc hk) (.inl (hfn x))
            | false =>
              rw [hb] at sw
              exact zSet i h.nd (xEV (xComp' B h.calm p1 p2 p3 p4 p6)) (h.get qi) (h.loc hk) sw (.inl (hfn x))
          · have n1 : ∀ a b c d, value ≠ .ListComp a b c d := fun a b c d z => hl ⟨a, b, c, d, z⟩
            obtain ⟨n2, n3⟩ := noSet_of (show (tr Γ n value).e.isSome = true by rw [q1]; rfl)
            exact zSet i h.nd ((g value).e fe q1) (h.get qi) (h.loc hk) (noSwap n1 n2 n3) (.inl (hfn x))
        split at q
        · rename_i es hes
          split at q
          · obtain ⟨a, q1, rfl⟩ := map_eq q
            unfold isLst at hes
            split at hes
            · cases hes
              exact zSet i h.nd (xLstE (trAs_ok (fun e _ => g e) q1).1) (h.get qi) (h.loc hk) rfl (.inl (hfn x))
            · cases hes
          · exact plain q
        · exact plain q
      · cases q
    · obtain ⟨x, q1, rfl⟩ := map_eq q
      exact zRet ((g _).e x q1)
    · split at q
      · cases q
      · rename_i hne
        obtain ⟨x, q1, rfl⟩ := map_eq q
        obtain ⟨n2, n3⟩ := noSet_of (by rw [q1]; rfl)
        exact zDrop ((g _).e x q1) (noSwap (notComp (by simpa using hne)) n2 n3)
    · obtain ⟨c, q1, q⟩ := bind_eq q
      obtain ⟨x, q2, q⟩ := bind_eq q
      obtain ⟨y, q3, rfl⟩ := map_eq q
      exact zIf ((g _).b c q1) (trSs_ok ih q2) (trSs_ok ih q3)
    · obtain ⟨gg, q0, q⟩ := bind_eq q
      split at q
      · rename_i en it q1
        obtain ⟨b, q2, rfl⟩ := map_eq q
        exact zForO hp h.calm (itO_of h g q1) (tg_ok h.calm h.hN h.nd (fun x hx => ⟨h.loc hx, .inl (hfn x)⟩) q0) (trSs_ok ih q2) fun x => itO_noset q1 _ x
      obtain ⟨it, q1, q⟩ := bind_eq q
      obtain ⟨b, q2, rfl⟩ := map_eq q
      exact zFor hp h.calm (it_ok h g q1) (tg_ok h.calm h.hN h.nd (fun x hx => ⟨h.loc hx, .inl (hfn x)⟩) q0) (trSs_ok ih q2) fun x => it_noset q1 _ x
    · cases q
structure Df where
  name : Str
  st : Stmt
  N : List Str
  ps : List Str
  own : List Str
  deep : List Str
  refs : List Str
noncomputable def fT (D : List Df) (ψ : Str → GF) (x : Str) : Option GF := if (D.any fun d => decide (d.name = x)) = true then some (ψ x) else none
noncomputable def bodyOf (G : Str → Option P) (D : List Df) (ψ : Str → GF) (d : Df) : ES := (trSs (trS ⟨d.N, d.own, d.deep, d.refs, (defScope d.st).names, fT D ψ, G⟩ 60) (defBody d.st)).getD sNever
noncomputable def Psi (G : Str → Option P) (D : List Df) : Nat → Str → GF
  | 0, _ => fun _ _ => none
  | n + 1, x => match D.find? fun d => decide (d.name = x) with
    | some d => fnR d.ps.length d.N.length (bodyOf G D (Psi G D n) d)
    | none => fun _ _ => none
noncomputable def scB (d : Df) : Bool := decide ((defScope d.st).kind = .function) && !(defScope d.st).isCoroutine && !(defScope d.st).isGenerator && decide d.N.Nodup && decide (d.N.take d.ps.length = d.ps)
  && d.ps.all (fun x => (defScope d.st).names.lookup x == some .local || (defScope d.st).names.lookup x == some .cell) && (defScope d.st).names.all (fun y => y.2 != .free)
theorem scB_ok {d : Df} (h : scB d = true) : FnScope d.N d.ps (defScope d.st) := by
  unfold scB at h
  simp only [Bool.and_eq_true] at h
  obtain ⟨⟨⟨⟨⟨⟨h1, h2⟩, h3⟩, h4⟩, h5⟩, h6⟩, h7⟩ := h
  refine ⟨of_decide_eq_true h1, by simpa using h2, by simpa using h3, of_decide_eq_true h4, of_decide_eq_true h5, fun x hx => ?_, fun y hy => ?_⟩
  · have := List.all_eq_true.mp h6 x hx
    simpa using this
  · have := List.all_eq_true.mp h7 y hy
    simpa using this
noncomputable def DOk (K : PySem.W.Frag) (mg : Str → Option Value) (d : Df) : Prop := ∃ f fd, Fun K d.name d.name d.st f fd ∧ Binds K fd d.ps [] ∧ mg d.name = some (.ref f)
structure TOk (G : Str → Option P) (D : List Df) (K : PySem.W.Frag) (mg : Str → Option Value) : Prop where
  fn : ∀ d ∈ D, DOk K mg d
  sc : D.all scB = true
  un : (D.map (·.name)).Nodup
  z : ∀ x ∈ bltN, mg x = none
  gl : ∀ x v, G x = some v → GlobOk K mg x v
theorem find_nodup : ∀ {D : List Df} {d : Df}, (D.map (·.name)).Nodup → d ∈ D → (D.find? fun d' => decide (d'.name = d.name)) = some d
  | [], _, _, h => by cases h
  | a :: r, d, nd, h => by
    rw [List.map_cons, List.nodup_cons] at nd
    rcases List.mem_cons.mp h with h | h
    · subst h; simp
    · have hne : ¬ a.name = d.name := fun z => nd.1 (by rw [z]; exact List.mem_map.mpr ⟨d, h, rfl⟩)
      rw [List.find?_cons_of_neg (by simpa using hne)]
      exact find_nodup nd.2 h
theorem any_name {D : List Df} {x : Str} {ψ : Str → GF} {g : GF} (h : fT D ψ x = some g) : ∃ d ∈ D, d.name = x ∧ g = ψ x := by
  unfold fT at h
  split at h
  · rename_i hc
    cases h
    obtain ⟨d, hd, e⟩ := List.any_eq_true.mp hc
    exact ⟨d, hd, of_decide_eq_true e, rfl⟩
  · cases h
theorem defs_ok {G : Str → Option P} {D : List Df} {Pg : Program} {w : World} {K : PySem.W.Frag} {mg : Str → Option Value} {base : Heap} (T : TOk G D K mg) : ∀ n, ∀ d ∈ D,
    ∀ f fd, Fun K d.name d.name d.st f fd → FnOk Pg w K mg base CX0 n f fd d.ps (spR K (Psi G D n d.name))
  | 0, d, hd, f, fd, hF => fn_noneR
  | n + 1, d, hd, f, fd, hF => by
    have ih := defs_ok (Pg := Pg) (w := w) (base := base) T n
    have e : Psi G D (n + 1) d.name = fnR d.ps.length d.N.length (bodyOf G D (Psi G D n) d) := by
      show (match D.find? fun d' => decide (d'.name = d.name) with | some d => fnR d.ps.length d.N.length (bodyOf G D (Psi G D n) d) | none => fun _ _ => none) = _
      rw [find_nodup T.un hd]
    rw [e]
    have hsc := scB_ok (List.all_eq_true.mp T.sc d hd)
    refine fn_okR (N := d.N) hF hsc fun cdv A outer s H E hr => ?_
    unfold bodyOf
    have X : XOk ⟨d.N, d.own, d.deep, d.refs, (defScope d.st).names, fT D (Psi G D n), G⟩ (cxOf CX0 Pg w K mg base d.N d.name (defScope d.st) f cdv A outer s H E).nox := {
      hN := rfl
      nd := hsc.nd
      ks := rfl
      kd := hsc.kind
      calm := rfl
      hu := by have := hr.un; show (A.deeper (envOfC d.name (defScope d.st) s.heap.objs.size f cdv)).units + 64 < _; omega
      fns := fun x g hg => by
        obtain ⟨d', hd', hn, rfl⟩ := any_name hg
        obtain ⟨f', fd', h1, h2, h3⟩ := T.fn d' hd'
        subst hn
        exact ⟨n, f', fd', d'.ps, ih d' hd' f' fd' h1, hr, h3, h1.kp, h2⟩
      blt := T.z
      glb := T.gl }
    cases q : trSs (trS ⟨d.N, d.own, d.deep, d.refs, (defScope d.st).names, fT D (Psi G D n), G⟩ 60) (defBody d.st) with
    | none => exact pss_never.imp' fun D σ H ⟨F, m, L, S, fl, L', S', r, l, q, k⟩ => by cases q
    | some b => exact trSs_ok (fun st f q => trS_ok X (fun _ => rfl) PassesOwn.never 60 st f q) q
end Ev
namespace Ev
open PySem PySem.Spec PyProof.Rows L2
theorem ints_rps {K : PySem.W.Frag} {F : Addr → Prop} {H : Hp} : ∀ ns : List Int, RPs K F H (ns.map .int) (ns.map V.int)
  | [] => rfl
  | n :: r => ⟨_, _, rfl, rfl, ints_rps r⟩
theorem law_of {K : PySem.W.Frag} {H : Hp} {a : Addr} {ns : List Int} {g : GF} {E : XK} (hO : Only H) (hS : SqL K H a (ns.map V.int)) (h : pureOf g [.ro (ns.map .int)] = some (.bl true)) : spR K g [.ref a] H (fun v _ => v = .bl true) E := by
  refine spR_of_spV ⟨fun b => b = a ∧ H a ≠ none, [.ro (ns.map .int)], .bl true, fun b hb => (by rw [hb.1]; exact hb.2), ⟨_, _, rfl, ⟨a, _, rfl, ?_, ints_rps ns⟩, rfl⟩, h, fun v F' H' _ r => r⟩
  rcases hS with hS | hS
  · rcases hO a with z | ⟨o, xs, z⟩
    · rcases hS with hS | ⟨o, hS⟩ <;> rw [z] at hS <;> cases hS
    · rcases hS with hS | ⟨o', hS⟩
      · rw [z] at hS; cases hS
      · exact .inl ⟨⟨rfl, by rw [z]; exact fun q => nomatch q⟩, o', hS⟩
  · exact .inr (.inr hS)
end Ev
namespace Ev
open PySem L2
section
variable (L : Lc) (S : Sto)
@[simp] theorem vC_ev (v : P) : vC v L S = some (v, S) := rfl
@[simp] theorem eVar_ev (i : Nat) : eVar i L S = match L[i]? with | some (some d) => some (d, S) | _ => none := rfl
@[simp] theorem vE_ev (f : EE) : vE f L S = bnd (f L S) (toP 9) := rfl
@[simp] theorem eV_ev (f : EV) : eV f L S = bnd (f L S) fun v S1 => some (.p v, S1) := rfl
@[simp] theorem vVar_ev (i : Nat) : vVar i L S = bnd (eVar i L S) (toP 9) := rfl
@[simp] theorem vOp_ev (g : P → P → Option P) (a b : EV) : vOp g a b L S = bnd (a L S) fun x S1 => bnd (b L S1) fun y S2 => (g x y).map fun v => (v, S2) := rfl
@[simp] theorem vUn_ev (g : P → Option P) (a : EV) : vUn g a L S = bnd (a L S) fun x S1 => (g x).map fun v => (v, S1) := rfl
@[simp] theorem bV_ev (a : EV) : bV a L S = bnd (a L S) fun x S1 => match x with | .bl b => some (b, S1) | _ => none := rfl
@[simp] theorem bAnd_ev (a b : EB) : bAnd a b L S = bnd (a L S) fun c S1 => if c = true then b L S1 else some (false, S1) := rfl
@[simp] theorem bOr_ev (a b : EB) : bOr a b L S = bnd (a L S) fun c S1 => if c = true then some (true, S1) else b L S1 := rfl
@[simp] theorem bNot_ev (a : EB) : bNot a L S = bnd (a L S) fun c S1 => some (!c, S1) := rfl
@[simp] theorem bYes_ev : bYes L S = some (true, S) := rfl
@[simp] theorem vB_ev (a : EB) : vB a L S = bnd (a L S) fun c S1 => some (.bl c, S1) := rfl
@[simp] theorem vsNil_ev : vsNil L S = some ([], S) := rfl
@[simp] theorem vsCons_ev (a : EV) (r : EVs) : vsCons a r L S = bnd (a L S) fun x S1 => bnd (r L S1) fun xs S2 => some (x :: xs, S2) := rfl
@[simp] theorem vTup_ev (a : EVs) : vTup' a L S = bnd (a L S) fun xs S1 => if few xs = true then some (.tup xs, S1) else none := rfl
@[simp] theorem vLst_ev (a : EVs) : vLst' a L S = bnd (a L S) fun xs S1 => if few xs = true then some (.lst xs, S1) else none := rfl
@[simp] theorem eLst_ev (a : EVs) : eLst' a L S = bnd (a L S) fun xs S1 => if few xs = true then some (.ref S1.length, S1 ++ [.lst (xs.map .p)]) else none := rfl
@[simp] theorem vCall_ev (g : List P → Option P) (a : EVs) : vCall g a L S = bnd (a L S) fun xs S1 => (g xs).map fun v => (v, S1) := rfl
@[simp] theorem vLen_ev (r : EE) : vLen r L S = bnd (r L S) fun d S1 => match lenD d S1 with | some n => some (.int (n : Int), S1) | none => none := by
  unfold vLen
  cases r L S with
  | none => rfl
  | some z =>
    obtain ⟨d, S1⟩ := z
    rw [bnd_some, bnd_some]
    cases lenD d S1 <;> rfl
@[simp] theorem vSort_ev (r : EE) : vSort r L S = bnd (r L S) fun d S1 => match seqD d S1 with | some xs => (c_sorted xs).map fun v => (v, S1) | none => none := rfl
@[simp] theorem vLR_ev (a : EV) : vLR a L S = bnd (a L S) fun v S1 => match v with | .int j => if decide (j.natAbs < 1000000) = true then some (.lst (intsFrom 0 j.toNat), S1) else none | _ => none := rfl
@[simp] theorem sForO_ev (en : Bool) (e : EE) (g : TGv) (b : ES) : sForO en e g b L S = bnd (e L S) fun d S1 => match d with
  | .ref j => match S1[j]? with
    | some (.lst _) => forLive en j g b 1000 0 L S1
    | _ => none
  | _ => none := rfl
@[simp] theorem sNx_ev : sNx L S = some (.nx, L, S) := rfl
@[simp] theorem sSeq_ev (f g : ES) : sSeq f g L S = match f L S with | some (.nx, L1, S1) => g L1 S1 | r => r := rfl
@[simp] theorem sSet_ev (i : Nat) (f : EE) : sSet i f L S = bnd (f L S) fun d S1 => some (.nx, L.set i (some d), S1) := rfl
@[simp] theorem sRet_ev (f : EE) : sRet f L S = bnd (f L S) fun d S1 => some (.rt d, L, S1) := rfl
@[simp] theorem sDrop_ev (f : EE) : sDrop f L S = bnd (f L S) fun _ S1 => some (.nx, L, S1) := rfl
@[simp] theorem sIf_ev (c : EB) (a b : ES) : sIf c a b L S = bnd (c L S) fun k S1 => if k = true then a L S1 else b L S1 := rfl
@[simp] theorem sFor_ev (it : EVs) (g : TGv) (b : ES) : sFor it g b L S = bnd (it L S) fun xs S1 => forGo g b xs L S1 := rfl
@[simp] theorem gSet_ev (i : Nat) (v : P) : gSet i v L = some (L.set i (some (.p v))) := rfl
@[simp] theorem itS_ev (a : EV) : itS a L S = bnd (a L S) fun v S1 => match v with | .lst xs => some (xs, S1) | .ro xs => some (xs, S1) | .tup xs => some (xs, S1) | _ => none := rfl
@[simp] theorem eIx_ev (r : EE) (k : EV) : eIx r k L S = bnd (r L S) fun d S1 => bnd (k L S1) fun y S2 => match d with
  | .p v => (dIx v y).map fun z => (.p z, S2)
  | .ref i => match S2[i]? with
    | some (.lst ds) => (match y with
      | .int j => (L2.atI ds j).map fun z => (z, S2)
      | _ => none)
    | some (.fz v) => (dIx v y).map fun z => (.p z, S2)
    | _ => none := rfl
@[simp] theorem eAppend_ev (r a : EE) : eAppend r a L S = bnd (r L S) fun d S1 => match ownL d S1 with
  | none => none
  | some _ => bnd (a L S1) fun x S2 => match ownL d S2 with
    | some (i, ds) => if few ds = true then some (.p .non, S2.set i (.lst (ds ++ [x]))) else none
    | none => none := rfl
end
@[simp] theorem few_ev {α : Type} (xs : List α) : (few xs = true) = (xs.length ≤ 1000000) := by unfold few; simp
@[simp] theorem capN_ev (n : Nat) : (capN n = true) = (n ≤ 1000000) := by unfold capN; simp
theorem atI_nat' {α : Type} {xs : List α} {i : Int} {x : α} (h0 : 0 ≤ i) (h : xs[i.toNat]? = some x) : L2.atI xs i = some x := by
  have hl := (List.getElem?_eq_some_iff.mp h).1
  unfold L2.atI L2.ixN
  rw [if_pos h0, if_pos (by omega)]
  exact h
@[simp] theorem atI_zero {α : Type} (x : α) (xs : List α) : L2.atI (x :: xs) 0 = some x := atI_nat' (by omega) rfl
@[simp] theorem atI_one {α : Type} (x y : α) (xs : List α) : L2.atI (x :: y :: xs) 1 = some y := atI_nat' (by omega) rfl
@[simp] theorem atI_two {α : Type} (x y z : α) (xs : List α) : L2.atI (x :: y :: z :: xs) 2 = some z := atI_nat' (by omega) rfl
@[simp] theorem atI_three {α : Type} (x y z w : α) (xs : List α) : L2.atI (x :: y :: z :: w :: xs) 3 = some w := atI_nat' (by omega) rfl
@[simp] theorem dIx_tup (xs : List P) (i : Int) : dIx (.tup xs) (.int i) = L2.atI xs i := rfl
@[simp] theorem dIx_lst (xs : List P) (i : Int) : dIx (.lst xs) (.int i) = L2.atI xs i := rfl
@[simp] theorem dIx_ro (xs : List P) (i : Int) : dIx (.ro xs) (.int i) = L2.atI xs i := rfl
@[simp] theorem dIx_dct (ks : List Key) (vs : List P) (x : Str) : dIx (.dct ks vs) (.str x) = dLook (.inr x) ks vs := rfl
@[simp] theorem dEqD_int (i j : Int) : dEqD (.int i) (.int j) = some (.bl (decide (i = j))) := rfl
@[simp] theorem dEqD_str (i j : Str) : dEqD (.str i) (.str j) = some (.bl (decide (i = j))) := rfl
@[simp] theorem dEqD_bl (i j : Bool) : dEqD (.bl i) (.bl j) = some (.bl (decide (i = j))) := rfl
@[simp] theorem dNe_int (i j : Int) : dNe (.int i) (.int j) = some (.bl (!decide (i = j))) := rfl
@[simp] theorem dNe_str (i j : Str) : dNe (.str i) (.str j) = some (.bl (!decide (i = j))) := rfl
@[simp] theorem dNe_bl (i j : Bool) : dNe (.bl i) (.bl j) = some (.bl (!decide (i = j))) := rfl
@[simp] theorem dAdd_int (i j : Int) : dAdd (.int i) (.int j) = some (.int (i + j)) := rfl
@[simp] theorem dMul_int (i j : Int) : dMul (.int i) (.int j) = if mulOk i j = true then some (.int (i * j)) else none := rfl
@[simp] theorem dNeg_int (i : Int) : dNeg (.int i) = some (.int (-i)) := rfl
theorem pureOf_fn (np nn : Nat) (b : ES) (ps : List P) : pureOf (fnR np nn b) ps = if ps.length = np then match b (ps.map (fun p => some (.p p)) ++ List.replicate (nn - ps.length) none) [] with
  | some (.rt d, _, S) => (toP 9 d S).map (·.1)
  | some (.nx, _, _) => some .non
  | _ => none else none := by
  unfold pureOf fnR
  rw [List.length_map, List.map_map]
  by_cases h : ps.length = np
  · rw [if_pos h, if_pos h]
    show (match (match b (ps.map (fun p => some (D.p p)) ++ List.replicate (nn - ps.length) none) [] with
      | some (.rt d, _, S') => some (d, S')
      | some (.nx, _, S') => some (.p .non, S')
      | _ => none : Option (D × Sto)) with
      | some (d, S) => (toP 9 d S).map (fun (x : P × Sto) => x.1)
      | none => none) = _
    cases b (ps.map (fun p => some (D.p p)) ++ List.replicate (nn - ps.length) none) [] with
    | none => rfl
    | some z =>
      obtain ⟨fl, L, S⟩ := z
      cases fl <;> simp
  · rw [if_neg h, if_neg h]
theorem forGo_nx {g : TGv} {b : ES} {v : P} {r : List P} {L L1 L2 : Lc} {S S2 : Sto} (h1 : g v L = some L1) (h2 : b L1 S = some (.nx, L2, S2)) : forGo g b (v :: r) L S = forGo g b r L2 S2 := by
  simp [forGo, h1, h2]
section
variable (L : Lc) (S : Sto)
@[simp] theorem vOpE_ev (g : D → D → Sto → Option P) (a b : EE) : vOpE g a b L S = bnd (a L S) fun x S1 => bnd (b L S1) fun y S2 => (g x y S2).map fun v => (v, S2) := rfl
@[simp] theorem bT_ev (a : EE) : bT a L S = bnd (a L S) fun d S1 => (truD d S1).map fun b => (b, S1) := rfl
@[simp] theorem itE_ev (a : EV) : itE a L S = bnd (a L S) fun v S1 => match v with | .lst xs => some (enumP 0 xs, S1) | .ro xs => some (enumP 0 xs, S1) | _ => none := rfl
@[simp] theorem itR1_ev (a : EV) : itR1 a L S = bnd (a L S) fun x S1 => match x with | .int n => if (decide (n.natAbs < 1000000)) = true then some (intsFrom 0 n.toNat, S1) else none | _ => none := by
  unfold itR1; cases a L S with
  | none => rfl
  | some z => obtain ⟨x, S1⟩ := z; first | (simp only [bnd_some]; done) | (simp only [bnd_some]; cases x <;> simp)
@[simp] theorem itR2_ev (a b : EV) : itR2 a b L S = bnd (a L S) fun x S1 => bnd (b L S1) fun y S2 => match x, y with
  | .int lo, .int hi => if (decide (lo.natAbs < 1000000) && decide (hi.natAbs < 1000000)) = true then some (intsFrom lo (hi - lo).toNat, S2) else none
  | _, _ => none := rfl
@[simp] theorem eExtend_ev (r : EE) (a : EV) : eExtend r a L S = bnd (r L S) fun d S1 => match ownL d S1 with
  | none => none
  | some _ => bnd (a L S1) fun x S2 => match ownL d S2, x with
    | some (i, ds), .lst ys => if capN (ds.length + ys.length) = true then some (.p .non, S2.set i (.lst (ds ++ ys.map .p))) else none
    | _, _ => none := rfl
@[simp] theorem eClear_ev (r : EE) : eClear r L S = bnd (r L S) fun d S1 => match ownL d S1 with
  | some (i, _) => some (.p .non, S1.set i (.lst []))
  | none => none := rfl
@[simp] theorem dsNil_ev : dsNil L S = some ([], S) := rfl
@[simp] theorem dsCons_ev (a : EE) (r : EDs) : dsCons a r L S = bnd (a L S) fun x S1 => bnd (r L S1) fun xs S2 => some (x :: xs, S2) := rfl
@[simp] theorem eLstD_ev (a : EDs) : eLstD a L S = bnd (a L S) fun xs S1 => if few xs = true then some (.ref S1.length, S1 ++ [.lst xs]) else none := rfl
@[simp] theorem eCallR_ev (g : GF) (a : EDs) : eCallR g a L S = bnd (a L S) fun ds S1 => g ds S1 := rfl
@[simp] theorem vIsi_ev (T : String) (f : EE) : vIsi T f L S = bnd (f L S) fun d S1 => (isiD T d S1).map fun b => (.bl b, S1) := rfl
@[simp] theorem gTupP_ev (gs : List TGv) (vs : List P) : gTupP gs (.tup vs) L = gsGo gs vs L := rfl
@[simp] theorem gsGo_nil : gsGo [] [] L = some L := rfl
@[simp] theorem gsGo_cons (g : TGv) (gs : List TGv) (v : P) (vs : List P) : gsGo (g :: gs) (v :: vs) L = match g v L with | some L1 => gsGo gs vs L1 | none => none := rfl
@[simp] theorem isiD_p (T : String) (v : P) : isiD T (.p v) S = some (isiP T v) := rfl
@[simp] theorem truD_p (v : P) : truD (.p v) S = truP v := rfl
@[simp] theorem truP_bl (b : Bool) : truP (.bl b) = some b := rfl
@[simp] theorem truP_int (i : Int) : truP (.int i) = some (i != 0) := rfl
@[simp] theorem gEq_p (x y : P) : gEq (.p x) (.p y) S = (eqD x y).map .bl := rfl
@[simp] theorem gNe_p (x y : P) : gNe (.p x) (.p y) S = (neD x y).map .bl := rfl
end
@[simp] theorem eqD_int (i j : Int) : eqD (.int i) (.int j) = some (decide (i = j)) := rfl
@[simp] theorem eqD_str (i j : Str) : eqD (.str i) (.str j) = some (decide (i = j)) := rfl
@[simp] theorem eqD_bl (i j : Bool) : eqD (.bl i) (.bl j) = some (decide (i = j)) := rfl
@[simp] theorem neD_int (i j : Int) : neD (.int i) (.int j) = some (!decide (i = j)) := rfl
@[simp] theorem neD_str (i j : Str) : neD (.str i) (.str j) = some (!decide (i = j)) := rfl
@[simp] theorem neD_bl (i j : Bool) : neD (.bl i) (.bl j) = some (!decide (i = j)) := rfl
@[simp] theorem dAdd2_int (i j : Int) : dAdd2 (.int i) (.int j) = some (.int (i + j)) := rfl
@[simp] theorem dAdd2_str (x y : Str) : dAdd2 (.str x) (.str y) = dAdd (.str x) (.str y) := rfl
@[simp] theorem dAdd2_lst (x y : List P) : dAdd2 (.lst x) (.lst y) = if capN (x.length + y.length) = true then some (.lst (x ++ y)) else none := rfl
@[simp] theorem dMul2_int (i j : Int) : dMul2 (.int i) (.int j) = if mulOk i j = true then some (.int (i * j)) else none := rfl
@[simp] theorem dMul2_lst (xs : List P) (n : Int) : dMul2 (.lst xs) (.int n) = if (capN (xs.length * n.toNat) && decide (n.natAbs < 1000000)) = true then some (.lst (List.replicate n.toNat xs).flatten) else none := rfl
@[simp] theorem dMul2_tup (xs : List P) (n : Int) : dMul2 (.tup xs) (.int n) = if (capN (xs.length * n.toNat) && decide (n.natAbs < 1000000)) = true then some (.tup (List.replicate n.toNat xs).flatten) else none := rfl
@[simp] theorem dMul2_str (x : Str) (n : Int) : dMul2 (.str x) (.int n) = dMul (.str x) (.int n) := rfl
theorem neD_self {v : P} (h : okP 20 v = true) : neD v v = some false := by
  unfold neD
  have e : PyData.eqv (pd v) (pd v) = true := PySem.SeqAt.eqv_refl _ (okP_lay 20 v h).1
  cases hq : dNe v v with
  | none => simp [h, e]
  | some z =>
    cases v with
    | int i => cases hq; simp
    | str i => cases hq; simp
    | bl i => cases hq; simp
    | non => cases hq
    | tup _ => cases hq
    | lst _ => cases hq
    | ro _ => cases hq
    | dct _ _ => cases h
theorem eqD_nil {xs : List P} (h : okP 20 (.lst xs) = true) : eqD (.lst xs) (.lst []) = some xs.isEmpty := by
  unfold eqD
  have e : okP 20 (.lst []) = true := rfl
  show (if (okP 20 (.lst xs) && okP 20 (.lst [])) = true then some (PyData.eqv (pd (.lst xs)) (pd (.lst []))) else none) = _
  rw [h, e]
  cases xs with
  | nil => rfl
  | cons x r => simp [pd, pds, PyData.eqv, PyData.eqvAll]
theorem neD_nil {xs : List P} (h : okP 20 (.lst xs) = true) : neD (.lst xs) (.lst []) = some (!xs.isEmpty) := by
  unfold neD
  have e : okP 20 (.lst []) = true := rfl
  show (if (okP 20 (.lst xs) && okP 20 (.lst [])) = true then some (!PyData.eqv (pd (.lst xs)) (pd (.lst []))) else none) = _
  rw [h, e]
  cases xs with
  | nil => rfl
  | cons x r => simp [pd, pds, PyData.eqv, PyData.eqvAll]
end Ev
namespace My
open PySem L2 Ev
noncomputable def top (i : Nat) : Stmt := PySem.Challenge.pw_roadsall_k35_all_renamings.main.body.getD i (.Pass ⟨0, 0, 0, 0⟩)
noncomputable def Gv (x : Str) : Option P := none
noncomputable def d_n_law_cell_at : Df := ⟨"_law_cell_at", top 5, ["_law_script", "_law_k"], ["_law_script", "_law_k"], [], [], []⟩
noncomputable def d_n_law_mix : Df := ⟨"_law_mix", top 6, ["_law_cell", "_law_k", "_law_turn", "_law_number"], ["_law_cell", "_law_k"], [], [], []⟩
noncomputable def d_n_law_roads : Df := ⟨"_law_roads", top 11, ["_law_script", "_law_families_here", "_law_room", "_law_roads_here", "_law_k", "_law_one", "_law_j", "_law_other", "_law_drawn", "_law_kind"], ["_law_script", "_law_families_here", "_law_room"], ["_law_roads_here"], [], []⟩
noncomputable def d_n_law_name : Df := ⟨"_law_name", top 7, ["_law_script", "_law_k", "_law_drawn"], ["_law_script", "_law_k"], [], [], []⟩
noncomputable def d_n_law_cells : Df := ⟨"_law_cells", top 8, ["_law_script", "_law_family_here", "_law_most", "_law_cells_here", "_law_k", "_law_drawn", "_law_low", "_law_high"], ["_law_script", "_law_family_here", "_law_most"], ["_law_cells_here"], [], []⟩
noncomputable def d_n_law_sum : Df := ⟨"_law_sum", top 9, ["_law_drawn", "_law_names", "_law_name_here"], ["_law_drawn", "_law_names"], [], [], []⟩
noncomputable def d_n_law_sends : Df := ⟨"_law_sends", top 12, ["_law_drawn", "_law_family_here", "_law_names", "_law_whos", "_law_roads_here", "_law_most", "_law_goals", "_law_sends_here", "_law_k", "_law_some", "_law_tree", "_law_mark"], ["_law_drawn", "_law_family_here", "_law_names", "_law_whos", "_law_roads_here", "_law_most"], ["_law_sends_here"], [], []⟩
noncomputable def d_n_law_condition : Df := ⟨"_law_condition", top 10, ["_law_drawn", "_law_names", "_law_word", "_law_plain"], ["_law_drawn", "_law_names"], [], [], []⟩
noncomputable def d_n_law_step : Df := ⟨"_law_step", top 13, ["_law_drawn", "_law_family_here", "_law_rooms", "_law_cells_here", "_law_whos", "_law_roads_here", "_law_names", "_law_senders", "_law_take", "_law_free", "_law_more", "_law_into", "_law_who", "_law_changes", "_law_k", "_law_name_here", "_law_sends_here", "_law_when"], ["_law_drawn", "_law_family_here", "_law_rooms", "_law_cells_here", "_law_whos", "_law_roads_here"], ["_law_changes"], [], []⟩
noncomputable def d_n_law_family : Df := ⟨"_law_family", top 14, ["_law_script", "_law_k", "_law_name_here", "_law_crew_here", "_law_wide", "_law_roads_here", "_law_cells_here", "_law_drawn", "_law_rooms", "_law_whos", "_law_steps", "_law_j", "_law_first"], ["_law_script", "_law_k", "_law_name_here", "_law_crew_here", "_law_wide", "_law_roads_here"], ["_law_steps"], [], []⟩
noncomputable def d_n_law_plan : Df := ⟨"_law_plan", top 15, ["_law_script", "_law_most", "_law_total", "_law_wide", "_law_many", "_law_names", "_law_roads_here", "_law_families_here", "_law_k", "_law_name_here", "_law_crew_here", "_law_wishes", "_law_drawn", "_law_family_here"], ["_law_script", "_law_most"], ["_law_families_here", "_law_wishes"], [], []⟩
noncomputable def d_n_families_of : Df := ⟨"families_of", top 1, ["plan", "homes", "place", "family"], ["plan"], ["homes"], [], []⟩
noncomputable def d_n_renamings : Df := ⟨"renamings", top 3, ["plan", "homes", "found", "home", "likes", "longer", "start"], ["plan"], ["longer"], [], []⟩
noncomputable def d_n_law_families : Df := ⟨"_law_families", top 16, ["_law_plan_here", "_law_found", "_law_family_here"], ["_law_plan_here"], [], [], []⟩
noncomputable def d_n_law : Df := ⟨"law", top 19, ["_law_script", "_law_plan_here", "_law_families_here", "_law_many", "_law_family_here", "_law_k", "_law_found", "_law_at", "_law_renaming"], ["_law_script"], ["_law_found"], ["_law_found"], []⟩
noncomputable def Tb : List Df := [d_n_law_cell_at, d_n_law_mix, d_n_law_roads, d_n_law_name, d_n_law_cells, d_n_law_sum, d_n_law_sends, d_n_law_condition, d_n_law_step, d_n_law_family, d_n_law_plan, d_n_families_of, d_n_renamings, d_n_law_families, d_n_law]
noncomputable def b_n_law_cell_at (ψ : Str → GF) : ES := (sSeq (sIf (bV (vOp dLt (vE (eVar 1)) (vLen (eVar 0)))) (sRet (eV (vOp dIx (vE (eVar 0)) (vE (eVar 1))))) sNx)
    (sRet (eV (vC (.int 0)))))
theorem e_n_law_cell_at (n : Nat) : Psi Gv Tb (n + 1) "_law_cell_at" = fnR 2 2 (b_n_law_cell_at (Psi Gv Tb n)) := by kernel_rfl
noncomputable def b_n_law_mix_L1 (ψ : Str → GF) : ES := (sSet 0 (eV (vOp dFloor (vE (eVar 0)) (vC (.int 2147483648)))))
noncomputable def b_n_law_mix (ψ : Str → GF) : ES := (sSeq (sIf (bV (vOp dGe (vE (eVar 0)) (vOp dPow (vC (.int 10)) (vC (.int 12))))) (sSeq (sSet 0 (eV (vOp dSub (vOp dFloor (vE (eVar 0)) (vOp dPow (vC (.int 10)) (vC (.int 12)))) (vC (.int 1)))))
    (sSeq (sFor (itR1 (vOp dMod (vE (eVar 1)) (vC (.int 61)))) (gSet 2) (b_n_law_mix_L1 ψ))
    (sRet (eV (vOp dMod (vE (eVar 0)) (vC (.int 2147483648))))))) sNx)
    (sSeq (sSet 3 (eV (vOp dMod (vOp dMul2 (vOp dAdd2 (vOp dAdd2 (vOp dMod (vE (eVar 0)) (vC (.int 1000003))) (vOp dMul2 (vOp dMul2 (vE (eVar 1)) (vE (eVar 1))) (vC (.int 7919)))) (vE (eVar 1))) (vC (.int 48271))) (vC (.int 2147483629)))))
    (sSeq (sSet 3 (eV (vOp dMod (vOp dMul2 (vE (eVar 3)) (vE (eVar 3))) (vC (.int 2147483587)))))
    (sRet (eV (vOp dFloor (vOp dMod (vOp dMul2 (vE (eVar 3)) (vOp dAdd2 (vE (eVar 3)) (vC (.int 2)))) (vC (.int 2147483579))) (vC (.int 7))))))))
theorem e_n_law_mix (n : Nat) : Psi Gv Tb (n + 1) "_law_mix" = fnR 2 4 (b_n_law_mix (Psi Gv Tb n)) := by kernel_rfl
noncomputable def b_n_law_roads_L1 (ψ : Str → GF) : ES := (sSeq (sSet 8 (eV (vCall (pureOf (ψ "_law_mix")) (vsCons (vCall (pureOf (ψ "_law_cell_at")) (vsCons (vE (eVar 0)) (vsCons (vC (.int 4)) vsNil))) (vsCons (vOp dAdd2 (vOp dAdd2 (vC (.int 30)) (vOp dMul2 (vC (.int 4)) (vE (eVar 4)))) (vE (eVar 6))) vsNil)))))
    (sIf (bAnd (bV (vOp dGt (vOp dMod (vE (eVar 8)) (vC (.int 4))) (vC (.int 0)))) (bV (vOp dLt (vLen (eVar 3)) (vC (.int 8))))) (sSeq (sSet 9 (eV (vOp dIx (vLst' (vsCons (vC (.str "row")) (vsCons (vC (.str "heap")) vsNil))) (vOp dMod (vOp dFloor (vE (eVar 8)) (vC (.int 4))) (vC (.int 2))))))
    (sDrop (eAppend (eVar 3) (eV (vTup' (vsCons (vE (eVar 5)) (vsCons (vE (eVar 7)) (vsCons (vE (eVar 9)) (vsCons (vOp dAdd2 (vC (.int 1)) (vOp dMod (vOp dFloor (vE (eVar 8)) (vC (.int 8))) (vE (eVar 2)))) (vsCons (vOpE gEq (eV (vOp dMod (vOp dFloor (vE (eVar 8)) (vC (.int 24))) (vC (.int 3)))) (eV (vC (.int 1)))) (vsCons (vOpE gEq (eV (vOp dMod (vOp dFloor (vE (eVar 8)) (vC (.int 72))) (vC (.int 3)))) (eV (vC (.int 1)))) vsNil))))))))))) sNx))
noncomputable def b_n_law_roads_L2 (ψ : Str → GF) : ES := (sFor (itE (vE (eVar 1))) (gTupP [gSet 6, gSet 7]) (b_n_law_roads_L1 ψ))
noncomputable def b_n_law_roads (ψ : Str → GF) : ES := (sSeq (sSet 3 (eLst' vsNil))
    (sSeq (sFor (itE (vE (eVar 1))) (gTupP [gSet 4, gSet 5]) (b_n_law_roads_L2 ψ))
    (sRet (eVar 3))))
theorem e_n_law_roads (n : Nat) : Psi Gv Tb (n + 1) "_law_roads" = fnR 3 10 (b_n_law_roads (Psi Gv Tb n)) := by kernel_rfl
noncomputable def b_n_law_name (ψ : Str → GF) : ES := (sSeq (sSet 2 (eV (vCall (pureOf (ψ "_law_mix")) (vsCons (vCall (pureOf (ψ "_law_cell_at")) (vsCons (vE (eVar 0)) (vsCons (vC (.int 1)) vsNil))) (vsCons (vE (eVar 1)) vsNil)))))
    (sRet (eV (vOp dAdd2 (vOp dMul2 (vOp dIx (vC (.str "abcdefghijklmnop")) (vE (eVar 1))) (vOp dAdd2 (vC (.int 1)) (vOp dMod (vE (eVar 2)) (vC (.int 4))))) (vOp dIx (vC (.str "xyz")) (vOp dMod (vOp dFloor (vE (eVar 2)) (vC (.int 4))) (vC (.int 3))))))))
theorem e_n_law_name (n : Nat) : Psi Gv Tb (n + 1) "_law_name" = fnR 2 3 (b_n_law_name (Psi Gv Tb n)) := by kernel_rfl
noncomputable def b_n_law_cells_L1 (ψ : Str → GF) : ES := (sSeq (sSet 5 (eV (vCall (pureOf (ψ "_law_mix")) (vsCons (vCall (pureOf (ψ "_law_cell_at")) (vsCons (vE (eVar 0)) (vsCons (vOp dAdd2 (vC (.int 2)) (vE (eVar 1))) vsNil))) (vsCons (vOp dAdd2 (vC (.int 2)) (vE (eVar 4))) vsNil)))))
    (sSeq (sSet 6 (eV (vOp dIx (vLst' (vsCons (vC (.int 0)) (vsCons (vC (.int 0)) (vsCons (vUn dNeg (vC (.int 1))) (vsCons (vC (.int 5)) vsNil))))) (vOp dMod (vE (eVar 5)) (vC (.int 4))))))
    (sSeq (sSet 7 (eV (vOp dAdd2 (vE (eVar 6)) (vOp dIx (vLst' (vsCons (vC (.int 1)) (vsCons (vC (.int 2)) (vsCons (vC (.int 0)) (vsCons (vC (.int 1)) vsNil))))) (vOp dMod (vOp dFloor (vE (eVar 5)) (vC (.int 4))) (vC (.int 4)))))))
    (sDrop (eAppend (eVar 3) (eV (vTup' (vsCons (vCall (pureOf (ψ "_law_name")) (vsCons (vE (eVar 0)) (vsCons (vOp dAdd2 (vC (.int 2)) (vE (eVar 4))) vsNil))) (vsCons (vE (eVar 6)) (vsCons (vE (eVar 7)) (vsCons (vOp dAdd2 (vE (eVar 6)) (vOp dMod (vOp dFloor (vE (eVar 5)) (vC (.int 16))) (vOp dAdd2 (vOp dSub (vE (eVar 7)) (vE (eVar 6))) (vC (.int 1))))) vsNil)))))))))))
noncomputable def b_n_law_cells (ψ : Str → GF) : ES := (sSeq (sSet 3 (eLst' vsNil))
    (sSeq (sFor (itR1 (vOp dMod (vCall (pureOf (ψ "_law_mix")) (vsCons (vCall (pureOf (ψ "_law_cell_at")) (vsCons (vE (eVar 0)) (vsCons (vOp dAdd2 (vC (.int 2)) (vE (eVar 1))) vsNil))) (vsCons (vC (.int 1)) vsNil))) (vOp dAdd2 (vE (eVar 2)) (vC (.int 1))))) (gSet 4) (b_n_law_cells_L1 ψ))
    (sRet (eVar 3))))
theorem e_n_law_cells (n : Nat) : Psi Gv Tb (n + 1) "_law_cells" = fnR 3 8 (b_n_law_cells (Psi Gv Tb n)) := by kernel_rfl
noncomputable def b_n_law_sum (ψ : Str → GF) : ES := (sSeq (sIf (bOr (bV (vOpE gEq (eVar 1) (eV (vLst' vsNil)))) (bV (vOpE gEq (eV (vOp dMod (vE (eVar 0)) (vC (.int 5)))) (eV (vC (.int 0)))))) (sRet (eV (vTup' (vsCons (vC (.str "number")) (vsCons (vOp dMod (vOp dFloor (vE (eVar 0)) (vC (.int 5))) (vC (.int 3))) vsNil))))) sNx)
    (sSeq (sSet 2 (eV (vTup' (vsCons (vC (.str "name")) (vsCons (vOp dIx (vE (eVar 1)) (vOp dMod (vOp dFloor (vE (eVar 0)) (vC (.int 5))) (vLen (eVar 1)))) vsNil)))))
    (sSeq (sIf (bV (vOpE gEq (eV (vOp dMod (vE (eVar 0)) (vC (.int 5)))) (eV (vC (.int 1))))) (sRet (eVar 2)) sNx)
    (sSeq (sIf (bV (vOpE gEq (eV (vOp dMod (vE (eVar 0)) (vC (.int 5)))) (eV (vC (.int 2))))) (sRet (eV (vTup' (vsCons (vC (.str "plus")) (vsCons (vE (eVar 2)) (vsCons (vTup' (vsCons (vC (.str "number")) (vsCons (vOp dMod (vOp dFloor (vE (eVar 0)) (vC (.int 20))) (vC (.int 3))) vsNil))) vsNil)))))) sNx)
    (sSeq (sIf (bV (vOpE gEq (eV (vOp dMod (vE (eVar 0)) (vC (.int 5)))) (eV (vC (.int 3))))) (sRet (eV (vTup' (vsCons (vC (.str "minus")) (vsCons (vTup' (vsCons (vC (.str "times")) (vsCons (vE (eVar 2)) (vsCons (vTup' (vsCons (vC (.str "number")) (vsCons (vOp dMod (vOp dFloor (vE (eVar 0)) (vC (.int 20))) (vC (.int 3))) vsNil))) vsNil)))) (vsCons (vTup' (vsCons (vC (.str "number")) (vsCons (vOp dMod (vOp dFloor (vE (eVar 0)) (vC (.int 60))) (vC (.int 2))) vsNil))) vsNil)))))) sNx)
    (sRet (eV (vTup' (vsCons (vC (.str "minus")) (vsCons (vTup' (vsCons (vC (.str "number")) (vsCons (vC (.int 1)) vsNil))) (vsCons (vE (eVar 2)) vsNil)))))))))))
theorem e_n_law_sum (n : Nat) : Psi Gv Tb (n + 1) "_law_sum" = fnR 2 3 (b_n_law_sum (Psi Gv Tb n)) := by kernel_rfl
noncomputable def b_n_law_sends_L1 (ψ : Str → GF) : ES := (sSeq (sSet 9 (eV (vOp dFloor (vE (eVar 0)) (vOp dIx (vLst' (vsCons (vC (.int 4)) (vsCons (vC (.int 1000)) (vsCons (vC (.int 100000)) vsNil)))) (vE (eVar 8))))))
    (sSeq (sSet 10 (eV (vCall (pureOf (ψ "_law_sum")) (vsCons (vOp dMod (vOp dFloor (vE (eVar 9)) (vC (.int 12))) (vC (.int 300))) (vsCons (vE (eVar 2)) vsNil)))))
    (sSeq (sSet 11 (eV (vOp dIx (vLst' (vsCons (vC (.str "ma")) (vsCons (vC (.str "mb")) vsNil))) (vOp dMod (vE (eVar 9)) (vC (.int 2))))))
    (sIf (bAnd (bV (vOpE gNe (eVar 3) (eV (vLst' vsNil)))) (bV (vOpE gEq (eV (vOp dMod (vOp dFloor (vE (eVar 9)) (vC (.int 2))) (vC (.int 3)))) (eV (vC (.int 1)))))) (sDrop (eAppend (eVar 7) (eV (vTup' (vsCons (vE (eVar 11)) (vsCons (vE (eVar 10)) (vsCons (vC (.str "who")) (vsCons (vOp dIx (vE (eVar 3)) (vOp dMod (vOp dFloor (vE (eVar 9)) (vC (.int 50))) (vLen (eVar 3)))) vsNil)))))))) (sIf (bV (vOpE gNe (eVar 6) (eV (vLst' vsNil)))) (sDrop (eAppend (eVar 7) (eV (vTup' (vsCons (vE (eVar 11)) (vsCons (vE (eVar 10)) (vsCons (vOp dIx (vLst' (vsCons (vC (.str "all")) (vsCons (vC (.str "any")) vsNil))) (vOp dMul2 (vOp dMod (vOp dFloor (vE (eVar 9)) (vC (.int 6))) (vC (.int 2))) (vCall c_int (vsCons (vOp dLt (vE (eVar 8)) (vC (.int 2))) vsNil)))) (vsCons (vOp dIx (vE (eVar 6)) (vOp dMod (vOp dFloor (vE (eVar 9)) (vC (.int 3))) (vLen (eVar 6)))) vsNil)))))))) sNx)))))
noncomputable def b_n_law_sends (ψ : Str → GF) : ES := (sSeq (sSet 6 (eV (vComp (itS (vE (eVar 4))) [] 1 (gSet 12) (bV (vOpE gEq (eV (vOp dIx (vE (eVar 12)) (vC (.int 0)))) (eVar 1))) (vOp dIx (vE (eVar 12)) (vC (.int 1))))))
    (sSeq (sSet 7 (eLst' vsNil))
    (sSeq (sFor (itR1 (vOp dMod (vE (eVar 0)) (vOp dAdd2 (vE (eVar 5)) (vC (.int 1))))) (gSet 8) (b_n_law_sends_L1 ψ))
    (sRet (eVar 7)))))
theorem e_n_law_sends (n : Nat) : Psi Gv Tb (n + 1) "_law_sends" = fnR 6 12 (b_n_law_sends (Psi Gv Tb n)) := by kernel_rfl
noncomputable def b_n_law_condition (ψ : Str → GF) : ES := (sSeq (sIf (bOr (bV (vOpE gEq (eVar 1) (eV (vLst' vsNil)))) (bV (vOp dLt (vOp dMod (vE (eVar 0)) (vC (.int 5))) (vC (.int 2))))) (sRet (eV (vTup' (vsCons (vC (.str "true")) vsNil)))) sNx)
    (sSeq (sSet 2 (eV (vOp dIx (vLst' (vsCons (vC (.str "=")) (vsCons (vC (.str "!=")) (vsCons (vC (.str "<")) (vsCons (vC (.str "<=")) (vsCons (vC (.str ">")) (vsCons (vC (.str ">=")) vsNil))))))) (vOp dMod (vOp dFloor (vE (eVar 0)) (vC (.int 5))) (vC (.int 6))))))
    (sSeq (sSet 3 (eV (vTup' (vsCons (vC (.str "is")) (vsCons (vE (eVar 2)) (vsCons (vTup' (vsCons (vC (.str "name")) (vsCons (vOp dIx (vE (eVar 1)) (vOp dMod (vOp dFloor (vE (eVar 0)) (vC (.int 30))) (vLen (eVar 1)))) vsNil))) (vsCons (vCall (pureOf (ψ "_law_sum")) (vsCons (vOp dFloor (vE (eVar 0)) (vC (.int 90))) (vsCons (vE (eVar 1)) vsNil))) vsNil)))))))
    (sSeq (sIf (bV (vOpE gEq (eV (vOp dMod (vE (eVar 0)) (vC (.int 5)))) (eV (vC (.int 2))))) (sRet (eV (vTup' (vsCons (vC (.str "not")) (vsCons (vE (eVar 3)) vsNil))))) sNx)
    (sSeq (sIf (bV (vOpE gEq (eV (vOp dMod (vE (eVar 0)) (vC (.int 5)))) (eV (vC (.int 3))))) (sRet (eV (vTup' (vsCons (vC (.str "or")) (vsCons (vE (eVar 3)) (vsCons (vTup' (vsCons (vC (.str "and")) (vsCons (vTup' (vsCons (vC (.str "true")) vsNil)) (vsCons (vTup' (vsCons (vC (.str "is")) (vsCons (vC (.str "=")) (vsCons (vTup' (vsCons (vC (.str "number")) (vsCons (vC (.int 1)) vsNil))) (vsCons (vTup' (vsCons (vC (.str "name")) (vsCons (vOp dIx (vE (eVar 1)) (vC (.int 0))) vsNil))) vsNil))))) vsNil)))) vsNil)))))) sNx)
    (sRet (eVar 3)))))))
theorem e_n_law_condition (n : Nat) : Psi Gv Tb (n + 1) "_law_condition" = fnR 2 4 (b_n_law_condition (Psi Gv Tb n)) := by kernel_rfl
noncomputable def b_n_law_step_L1 (ψ : Str → GF) : ES := (sIf (bAnd (bV (vOpE gNe (eVar 7) (eV (vLst' vsNil)))) (bV (vOpE gEq (eV (vOp dMod (vOp dIx (vE (eVar 0)) (vC (.int 0))) (vC (.int 3)))) (eV (vC (.int 1)))))) (sSeq (sSet 11 (eV (vC (.str ""))))
    (sSeq (sIf (bAnd (bV (vOpE gNe (eVar 6) (eV (vLst' vsNil)))) (bV (vOpE gEq (eV (vOp dMod (vOp dFloor (vOp dIx (vE (eVar 0)) (vC (.int 0))) (vC (.int 3))) (vC (.int 2)))) (eV (vC (.int 1)))))) (sSeq (sSet 11 (eV (vOp dIx (vE (eVar 6)) (vUn dNeg (vC (.int 1))))))
    (sSet 9 (eV (vSl (vE (eVar 6)) oNone (oSome (vUn dNeg (vC (.int 1)))))))) sNx)
    (sSeq (sSet 12 (eV (vC (.str ""))))
    (sSeq (sIf (bAnd (bV (vOpE gNe (eVar 4) (eV (vLst' vsNil)))) (bV (vOpE gEq (eV (vOp dMod (vOp dFloor (vOp dIx (vE (eVar 0)) (vC (.int 0))) (vC (.int 6))) (vC (.int 2)))) (eV (vC (.int 1)))))) (sSet 12 (eV (vOp dIx (vE (eVar 4)) (vOp dMod (vOp dFloor (vOp dIx (vE (eVar 0)) (vC (.int 0))) (vC (.int 200))) (vLen (eVar 4)))))) sNx)
    (sSeq (sSet 8 (eV (vTup' (vsCons (vOp dIx (vLst' (vsCons (vC (.str "ma")) (vsCons (vC (.str "mb")) vsNil))) (vOp dMod (vOp dFloor (vOp dIx (vE (eVar 0)) (vC (.int 0))) (vC (.int 12))) (vC (.int 2)))) (vsCons (vOp dIx (vE (eVar 7)) (vOp dMod (vOp dFloor (vOp dIx (vE (eVar 0)) (vC (.int 0))) (vC (.int 24))) (vLen (eVar 7)))) (vsCons (vE (eVar 11)) (vsCons (vE (eVar 12)) vsNil)))))))
    (sSet 10 (eV (vLst' (vsCons (vC (.str "it")) vsNil))))))))) sNx)
noncomputable def b_n_law_step_L2 (ψ : Str → GF) : ES := (sIf (bV (vOpE gEq (eV (vOp dMod (vOp dFloor (vOp dIx (vE (eVar 0)) (vC (.int 1))) (vOp dIx (vLst' (vsCons (vC (.int 1)) (vsCons (vC (.int 1000)) (vsCons (vC (.int 1000000)) vsNil)))) (vE (eVar 14)))) (vC (.int 2)))) (eV (vC (.int 1))))) (sDrop (eAppend (eVar 13) (eV (vTup' (vsCons (vE (eVar 15)) (vsCons (vCall (pureOf (ψ "_law_sum")) (vsCons (vOp dMod (vOp dFloor (vOp dIx (vE (eVar 0)) (vC (.int 1))) (vOp dIx (vLst' (vsCons (vC (.int 2)) (vsCons (vC (.int 2000)) (vsCons (vC (.int 2000000)) vsNil)))) (vE (eVar 14)))) (vC (.int 300))) (vsCons (vOp dAdd2 (vE (eVar 6)) (vE (eVar 10))) vsNil))) vsNil)))))) sNx)
noncomputable def b_n_law_step (ψ : Str → GF) : ES := (sSeq (sSet 6 (eV (vComp (itS (vE (eVar 3))) [] 1 (gSet 18) bYes (vOp dIx (vE (eVar 18)) (vC (.int 0))))))
    (sSeq (sSet 7 (eV (vComp (itS (vE (eVar 5))) [] 1 (gSet 18) (bV (vOpE gEq (eV (vOp dIx (vE (eVar 18)) (vC (.int 1)))) (eVar 1))) (vOp dIx (vE (eVar 18)) (vC (.int 0))))))
    (sSeq (sSet 8 (eV (vC (.non))))
    (sSeq (sSet 9 (eV (vCall c_list (vsCons (vE (eVar 6)) vsNil))))
    (sSeq (sSet 10 (eV (vLst' vsNil)))
    (sSeq (b_n_law_step_L1 ψ)
    (sSeq (sSet 13 (eLst' vsNil))
    (sSeq (sFor (itE (vE (eVar 9))) (gTupP [gSet 14, gSet 15]) (b_n_law_step_L2 ψ))
    (sSeq (sSet 16 (eV (vCall (pureOf (ψ "_law_sends")) (vsCons (vOp dIx (vE (eVar 0)) (vC (.int 2))) (vsCons (vE (eVar 1)) (vsCons (vOp dAdd2 (vE (eVar 6)) (vE (eVar 10))) (vsCons (vE (eVar 4)) (vsCons (vE (eVar 5)) (vsCons (vOp dAdd2 (vC (.int 2)) (vCall c_int (vsCons (vOp dGt (vLen (eVar 2)) (vC (.int 3))) vsNil))) vsNil)))))))))
    (sSeq (sSet 17 (eV (vCall (pureOf (ψ "_law_condition")) (vsCons (vOp dMod (vOp dIx (vE (eVar 0)) (vC (.int 3))) (vC (.int 27000))) (vsCons (vE (eVar 6)) vsNil)))))
    (sRet (eV (vTup' (vsCons (vOp dIx (vE (eVar 2)) (vOp dMod (vOp dFloor (vOp dIx (vE (eVar 0)) (vC (.int 3))) (vC (.int 27000))) (vLen (eVar 2)))) (vsCons (vE (eVar 17)) (vsCons (vE (eVar 8)) (vsCons (vE (eVar 13)) (vsCons (vE (eVar 16)) (vsCons (vOp dIx (vE (eVar 2)) (vOp dMod (vOp dFloor (vOp dIx (vE (eVar 0)) (vC (.int 3))) (vC (.int 216000))) (vLen (eVar 2)))) vsNil)))))))))))))))))))
theorem e_n_law_step (n : Nat) : Psi Gv Tb (n + 1) "_law_step" = fnR 6 18 (b_n_law_step (Psi Gv Tb n)) := by kernel_rfl
noncomputable def b_n_law_family_L1 (ψ : Str → GF) : ES := (sSeq (sSet 12 (eV (vOp dMul2 (vC (.int 4)) (vOp dAdd2 (vOp dMul2 (vC (.int 8)) (vE (eVar 1))) (vE (eVar 11))))))
    (sSeq (sSet 7 (eV (vComp (itR1 (vC (.int 4))) [] 1 (gSet 13) bYes (vCall (pureOf (ψ "_law_mix")) (vsCons (vCall (pureOf (ψ "_law_cell_at")) (vsCons (vE (eVar 0)) (vsCons (vOp dAdd2 (vC (.int 5)) (vOp dMod (vOp dAdd2 (vE (eVar 12)) (vE (eVar 13))) (vC (.int 24)))) vsNil))) (vsCons (vOp dAdd2 (vOp dAdd2 (vC (.int 11)) (vE (eVar 12))) (vE (eVar 13))) vsNil))))))
    (sDrop (eAppend (eVar 10) (eV (vOp dAdd2 (vTup' (vsCons (vCall (pureOf (ψ "_law_name")) (vsCons (vE (eVar 0)) (vsCons (vOp dAdd2 (vC (.int 8)) (vE (eVar 11))) vsNil))) vsNil)) (vCall (pureOf (ψ "_law_step")) (vsCons (vE (eVar 7)) (vsCons (vE (eVar 2)) (vsCons (vE (eVar 8)) (vsCons (vE (eVar 6)) (vsCons (vE (eVar 9)) (vsCons (vE (eVar 5)) vsNil)))))))))))))
noncomputable def b_n_law_family (ψ : Str → GF) : ES := (sSeq (sSet 6 (eV (vCall (pureOf (ψ "_law_cells")) (vsCons (vE (eVar 0)) (vsCons (vE (eVar 1)) (vsCons (vOp dAdd2 (vC (.int 2)) (vCall c_int (vsCons (vE (eVar 4)) vsNil))) vsNil))))))
    (sSeq (sSet 7 (eV (vCall (pureOf (ψ "_law_mix")) (vsCons (vCall (pureOf (ψ "_law_cell_at")) (vsCons (vE (eVar 0)) (vsCons (vOp dAdd2 (vC (.int 2)) (vE (eVar 1))) vsNil))) (vsCons (vC (.int 9)) vsNil)))))
    (sSeq (sSet 8 (eV (vComp (itR1 (vOp dAdd2 (vC (.int 1)) (vOp dMod (vE (eVar 7)) (vOp dIx (vLst' (vsCons (vC (.int 3)) (vsCons (vC (.int 8)) vsNil))) (vCall c_int (vsCons (vE (eVar 4)) vsNil)))))) [11] 0 (gSet 11) bYes (vCall (pureOf (ψ "_law_name")) (vsCons (vE (eVar 0)) (vsCons (vOp dAdd2 (vC (.int 4)) (vE (eVar 11))) vsNil))))))
    (sSeq (sSet 7 (eV (vCall (pureOf (ψ "_law_mix")) (vsCons (vCall (pureOf (ψ "_law_cell_at")) (vsCons (vE (eVar 0)) (vsCons (vOp dAdd2 (vC (.int 2)) (vE (eVar 1))) vsNil))) (vsCons (vC (.int 8)) vsNil)))))
    (sSeq (sSet 9 (eV (vComp (itR1 (vOp dMod (vE (eVar 7)) (vOp dAdd2 (vC (.int 2)) (vCall c_int (vsCons (vE (eVar 4)) vsNil))))) [11] 0 (gSet 11) bYes (vCall (pureOf (ψ "_law_name")) (vsCons (vE (eVar 0)) (vsCons (vOp dAdd2 (vC (.int 10)) (vE (eVar 11))) vsNil))))))
    (sSeq (sSet 10 (eLst' vsNil))
    (sSeq (sFor (itR1 (vOp dAdd2 (vC (.int 1)) (vOp dMod (vCall (pureOf (ψ "_law_mix")) (vsCons (vCall (pureOf (ψ "_law_cell_at")) (vsCons (vE (eVar 0)) (vsCons (vOp dAdd2 (vC (.int 2)) (vE (eVar 1))) vsNil))) (vsCons (vC (.int 7)) vsNil))) (vOp dIx (vLst' (vsCons (vC (.int 3)) (vsCons (vC (.int 8)) vsNil))) (vCall c_int (vsCons (vE (eVar 4)) vsNil)))))) (gSet 11) (b_n_law_family_L1 ψ))
    (sRet (eV (vTup' (vsCons (vE (eVar 2)) (vsCons (vE (eVar 3)) (vsCons (vE (eVar 8)) (vsCons (vE (eVar 6)) (vsCons (vE (eVar 9)) (vsCons (vE (eVar 10)) vsNil))))))))))))))))
theorem e_n_law_family (n : Nat) : Psi Gv Tb (n + 1) "_law_family" = fnR 6 13 (b_n_law_family (Psi Gv Tb n)) := by kernel_rfl
noncomputable def b_n_law_plan_L1 (ψ : Str → GF) : ES := (sSeq (sSet 10 (eV (vOp dAdd2 (vC (.int 1)) (vOp dMod (vOp dFloor (vE (eVar 2)) (vOp dIx (vLst' (vsCons (vC (.int 4)) (vsCons (vC (.int 12)) (vsCons (vC (.int 16)) (vsCons (vC (.int 16)) vsNil))))) (vE (eVar 8)))) (vOp dIx (vLst' (vsCons (vOp dAdd2 (vE (eVar 1)) (vCall c_int (vsCons (vE (eVar 3)) vsNil))) (vsCons (vC (.int 2)) (vsCons (vC (.int 1)) (vsCons (vC (.int 1)) vsNil))))) (vOp dSub (vE (eVar 4)) (vC (.int 1))))))))
    (sDrop (eAppend (eVar 7) (eV (vCall (pureOf (ψ "_law_family")) (vsCons (vE (eVar 0)) (vsCons (vE (eVar 8)) (vsCons (vE (eVar 9)) (vsCons (vE (eVar 10)) (vsCons (vE (eVar 3)) (vsCons (vE (eVar 6)) vsNil)))))))))))
noncomputable def b_n_law_plan_L2 (ψ : Str → GF) : ES := (sSeq (sSet 12 (eV (vCall (pureOf (ψ "_law_mix")) (vsCons (vCall (pureOf (ψ "_law_cell_at")) (vsCons (vE (eVar 0)) (vsCons (vC (.int 4)) vsNil))) (vsCons (vOp dAdd2 (vC (.int 20)) (vE (eVar 8))) vsNil)))))
    (sSeq (sSet 13 (eIx (eVar 7) (vOp dMod (vE (eVar 12)) (vE (eVar 4)))))
    (sDrop (eAppend (eVar 11) (eV (vTup' (vsCons (vOp dIx (vLst' (vsCons (vC (.str "weak")) (vsCons (vC (.str "strong")) vsNil))) (vOp dMod (vOp dFloor (vE (eVar 12)) (vC (.int 4))) (vC (.int 2)))) (vsCons (vOp dIx (vE (eVar 13)) (vC (.int 0))) (vsCons (vOp dIx (vOp dIx (vOp dIx (vE (eVar 13)) (vC (.int 5))) (vOp dMod (vOp dFloor (vE (eVar 12)) (vC (.int 8))) (vLen (eV (vOp dIx (vE (eVar 13)) (vC (.int 5))))))) (vC (.int 0))) vsNil)))))))))
noncomputable def b_n_law_plan (ψ : Str → GF) : ES := (sSeq (sSet 2 (eV (vCall (pureOf (ψ "_law_cell_at")) (vsCons (vE (eVar 0)) (vsCons (vC (.int 0)) vsNil)))))
    (sSeq (sSet 3 (eV (vOpE gEq (eV (vOp dMod (vOp dFloor (vE (eVar 2)) (vC (.int 64))) (vC (.int 8)))) (eV (vC (.int 1))))))
    (sSeq (sSet 4 (eV (vOp dAdd2 (vC (.int 1)) (vOp dMod (vE (eVar 2)) (vOp dIx (vLst' (vsCons (vC (.int 2)) (vsCons (vC (.int 4)) vsNil))) (vCall c_int (vsCons (vE (eVar 3)) vsNil)))))))
    (sSeq (sSet 5 (eV (vComp (itR1 (vE (eVar 4))) [8] 0 (gSet 8) bYes (vCall (pureOf (ψ "_law_name")) (vsCons (vE (eVar 0)) (vsCons (vE (eVar 8)) vsNil))))))
    (sSeq (sSet 6 (eV (vCall (pureOf (ψ "_law_roads")) (vsCons (vE (eVar 0)) (vsCons (vE (eVar 5)) (vsCons (vOp dAdd2 (vC (.int 2)) (vCall c_int (vsCons (vE (eVar 3)) vsNil))) vsNil))))))
    (sSeq (sSet 7 (eLst' vsNil))
    (sSeq (sFor (itE (vE (eVar 5))) (gTupP [gSet 8, gSet 9]) (b_n_law_plan_L1 ψ))
    (sSeq (sSet 11 (eLst' vsNil))
    (sSeq (sFor (itR1 (vOp dAdd2 (vOp dMod (vOp dFloor (vE (eVar 2)) (vC (.int 48))) (vC (.int 3))) (vOp dMul2 (vC (.int 4)) (vCall c_int (vsCons (vB (bAnd (bV (vE (eVar 3))) (bV (vOpE gEq (eV (vOp dMod (vE (eVar 2)) (vC (.int 3)))) (eV (vC (.int 1))))))) vsNil))))) (gSet 8) (b_n_law_plan_L2 ψ))
    (sRet (eV (vTup' (vsCons (vE (eVar 7)) (vsCons (vE (eVar 6)) (vsCons (vE (eVar 11)) vsNil)))))))))))))))
theorem e_n_law_plan (n : Nat) : Psi Gv Tb (n + 1) "_law_plan" = fnR 2 14 (b_n_law_plan (Psi Gv Tb n)) := by kernel_rfl
noncomputable def b_n_families_of_L1 (ψ : Str → GF) : ES := (sDrop (eExtend (eVar 1) (vOp dMul2 (vLst' (vsCons (vE (eVar 2)) vsNil)) (vOp dIx (vE (eVar 3)) (vC (.int 1))))))
noncomputable def b_n_families_of (ψ : Str → GF) : ES := (sSeq (sSet 1 (eLst' vsNil))
    (sSeq (sFor (itE (vOp dIx (vE (eVar 0)) (vC (.int 0)))) (gTupP [gSet 2, gSet 3]) (b_n_families_of_L1 ψ))
    (sRet (eVar 1))))
theorem e_n_families_of (n : Nat) : Psi Gv Tb (n + 1) "families_of" = fnR 1 4 (b_n_families_of (Psi Gv Tb n)) := by kernel_rfl
noncomputable def b_n_renamings_L1 (ψ : Str → GF) : ES := (sDrop (eExtend (eVar 5) (vComp (itS (vE (eVar 4))) [] 1 (gSet 7) (bV (vOpE gNotIn (eVar 7) (eVar 6))) (vOp dAdd2 (vE (eVar 6)) (vTup' (vsCons (vE (eVar 7)) vsNil))))))
noncomputable def b_n_renamings_L2 (ψ : Str → GF) : ES := (sSeq (sSet 4 (eV (vComp (itR1 (vLen (eVar 1))) [] 1 (gSet 7) (bV (vOpE gEq (eV (vOp dIx (vE (eVar 1)) (vE (eVar 7)))) (eVar 3))) (vE (eVar 7)))))
    (sSeq (sSet 5 (eLst' vsNil))
    (sSeq (sFor (itS (vE (eVar 2))) (gSet 6) (b_n_renamings_L1 ψ))
    (sSet 2 (eVar 5)))))
noncomputable def b_n_renamings (ψ : Str → GF) : ES := (sSeq (sSet 1 (eV (vCall (pureOf (ψ "families_of")) (vsCons (vE (eVar 0)) vsNil))))
    (sSeq (sSet 2 (eV (vLst' (vsCons (vTup' vsNil) vsNil))))
    (sSeq (sFor (itS (vE (eVar 1))) (gSet 3) (b_n_renamings_L2 ψ))
    (sRet (eVar 2)))))
theorem e_n_renamings (n : Nat) : Psi Gv Tb (n + 1) "renamings" = fnR 1 7 (b_n_renamings (Psi Gv Tb n)) := by kernel_rfl
noncomputable def b_n_law_families_L1 (ψ : Str → GF) : ES := (sSet 1 (eV (vOp dAdd2 (vE (eVar 1)) (vOp dMul2 (vLst' (vsCons (vE (eVar 2)) vsNil)) (vOp dIx (vE (eVar 2)) (vC (.int 1)))))))
noncomputable def b_n_law_families (ψ : Str → GF) : ES := (sSeq (sSet 1 (eV (vLst' vsNil)))
    (sSeq (sFor (itS (vOp dIx (vE (eVar 0)) (vC (.int 0)))) (gSet 2) (b_n_law_families_L1 ψ))
    (sRet (eVar 1))))
theorem e_n_law_families (n : Nat) : Psi Gv Tb (n + 1) "_law_families" = fnR 1 3 (b_n_law_families (Psi Gv Tb n)) := by kernel_rfl
noncomputable def b_n_law_L1 (ψ : Str → GF) : ES := (sSet 3 (eV (vOp dMul2 (vE (eVar 3)) (vE (eVar 5)))))
noncomputable def b_n_law_L2 (ψ : Str → GF) : ES := (sFor (itR2 (vC (.int 2)) (vOp dAdd2 (vOp dIx (vE (eVar 4)) (vC (.int 1))) (vC (.int 1)))) (gSet 5) (b_n_law_L1 ψ))
noncomputable def b_n_law_L3 (ψ : Str → GF) : ES := (sSeq (sIf (bOr (bNot (bT (eV (vIsi "tuple" (eVar 8))))) (bV (vOpE gNe (eV (vSort (eVar 8))) (eV (vLR (vLen (eVar 2))))))) (sRet (eV (vC (.bl false)))) sNx)
    (sIf (bOr (bV (vOpE gNe (eV (vComp (itS (vE (eVar 8))) [] 1 (gSet 9) bYes (vOp dIx (vE (eVar 2)) (vE (eVar 9))))) (eVar 2))) (bAnd (bV (vOp dGt (vE (eVar 7)) (vC (.int 0)))) (bV (vOpE gEq (eIx (eVar 6) (vOp dSub (vE (eVar 7)) (vC (.int 1)))) (eVar 8))))) (sRet (eV (vC (.bl false)))) sNx))
noncomputable def b_n_law_L4 (ψ : Str → GF) : ES := (sSeq (sSet 6 (eCallR (ψ "renamings") (dsCons (eVar 1) dsNil)))
    (sSeq (sIf (bOr (bNot (bT (eV (vIsi "list" (eVar 6))))) (bOr (bV (vOpE gNe (eV (vLen (eVar 6))) (eVar 3))) (bV (vOpE gNe (eVar 6) (eV (vSort (eVar 6))))))) (sRet (eV (vC (.bl false)))) sNx)
    (sSeq (sForO true (eVar 6) (gTupP [gSet 7, gSet 8]) (b_n_law_L3 ψ))
    (sDrop (eClear (eVar 6))))))
noncomputable def b_n_law (ψ : Str → GF) : ES := (sSeq (sSet 1 (eV (vCall (pureOf (ψ "_law_plan")) (vsCons (vE (eVar 0)) (vsCons (vC (.int 3)) vsNil)))))
    (sSeq (sSet 2 (eV (vComp (itS (vCall (pureOf (ψ "_law_families")) (vsCons (vE (eVar 1)) vsNil))) [4] 0 (gSet 4) bYes (vOp dIx (vE (eVar 4)) (vC (.int 0))))))
    (sSeq (sSet 3 (eV (vC (.int 1))))
    (sSeq (sFor (itS (vOp dIx (vE (eVar 1)) (vC (.int 0)))) (gSet 4) (b_n_law_L2 ψ))
    (sSeq (sFor (itR1 (vC (.int 2))) (gSet 5) (b_n_law_L4 ψ))
    (sRet (eV (vC (.bl true)))))))))
theorem e_n_law (n : Nat) : Psi Gv Tb (n + 1) "law" = fnR 1 9 (b_n_law (Psi Gv Tb n)) := by kernel_rfl
theorem sc : Tb.all scB = true := by decide +kernel
theorem un : (Tb.map (·.name)).Nodup := by decide +kernel
theorem all_mk {K : PySem.W.Frag} {h : Heap} {mg : Str → Option Value} (X : K.In h) (G : h.Ns mainGlobals mg)
    {f0 : Addr} {od0 an0 : Option Addr} {sl0 : Array (Option Value)} {oc0 kV0 dc0 pm0 cd0 ct0 : Value}
    {f1 : Addr} {od1 an1 : Option Addr} {sl1 : Array (Option Value)} {oc1 kV1 dc1 pm1 cd1 ct1 : Value}
    {f2 : Addr} {od2 an2 : Option Addr} {sl2 : Array (Option Value)} {oc2 kV2 dc2 pm2 cd2 ct2 : Value}
    {f3 : Addr} {od3 an3 : Option Addr} {sl3 : Array (Option Value)} {oc3 kV3 dc3 pm3 cd3 ct3 : Value}
    {f4 : Addr} {od4 an4 : Option Addr} {sl4 : Array (Option Value)} {oc4 kV4 dc4 pm4 cd4 ct4 : Value}
    {f5 : Addr} {od5 an5 : Option Addr} {sl5 : Array (Option Value)} {oc5 kV5 dc5 pm5 cd5 ct5 : Value}
    {f6 : Addr} {od6 an6 : Option Addr} {sl6 : Array (Option Value)} {oc6 kV6 dc6 pm6 cd6 ct6 : Value}
    {f7 : Addr} {od7 an7 : Option Addr} {sl7 : Array (Option Value)} {oc7 kV7 dc7 pm7 cd7 ct7 : Value}
    {f8 : Addr} {od8 an8 : Option Addr} {sl8 : Array (Option Value)} {oc8 kV8 dc8 pm8 cd8 ct8 : Value}
    {f9 : Addr} {od9 an9 : Option Addr} {sl9 : Array (Option Value)} {oc9 kV9 dc9 pm9 cd9 ct9 : Value}
    {f10 : Addr} {od10 an10 : Option Addr} {sl10 : Array (Option Value)} {oc10 kV10 dc10 pm10 cd10 ct10 : Value}
    {f11 : Addr} {od11 an11 : Option Addr} {sl11 : Array (Option Value)} {oc11 kV11 dc11 pm11 cd11 ct11 : Value}
    {f12 : Addr} {od12 an12 : Option Addr} {sl12 : Array (Option Value)} {oc12 kV12 dc12 pm12 cd12 ct12 : Value}
    {f13 : Addr} {od13 an13 : Option Addr} {sl13 : Array (Option Value)} {oc13 kV13 dc13 pm13 cd13 ct13 : Value}
    {f14 : Addr} {od14 an14 : Option Addr} {sl14 : Array (Option Value)} {oc14 kV14 dc14 pm14 cd14 ct14 : Value}
    (a0 : PySem.W.nsIn K mainGlobals "_law_cell_at" = some (some (.ref f0))) (l0 : K.lookup f0 = some ⟨oc0, od0, .func (PySem.W.fnOf "_law_cell_at" "_law_cell_at" (defArgs (top 5)) (defBody (top 5)) (defScope (top 5)) .none kV0 dc0 pm0 an0 cd0 ct0), sl0⟩) (c0 : PySem.W.codeIn K cd0 "_law_cell_at" = true) (k0 : PySem.W.keepIn K (.ref f0) = true)
    (a1 : PySem.W.nsIn K mainGlobals "_law_mix" = some (some (.ref f1))) (l1 : K.lookup f1 = some ⟨oc1, od1, .func (PySem.W.fnOf "_law_mix" "_law_mix" (defArgs (top 6)) (defBody (top 6)) (defScope (top 6)) .none kV1 dc1 pm1 an1 cd1 ct1), sl1⟩) (c1 : PySem.W.codeIn K cd1 "_law_mix" = true) (k1 : PySem.W.keepIn K (.ref f1) = true)
    (a2 : PySem.W.nsIn K mainGlobals "_law_roads" = some (some (.ref f2))) (l2 : K.lookup f2 = some ⟨oc2, od2, .func (PySem.W.fnOf "_law_roads" "_law_roads" (defArgs (top 11)) (defBody (top 11)) (defScope (top 11)) .none kV2 dc2 pm2 an2 cd2 ct2), sl2⟩) (c2 : PySem.W.codeIn K cd2 "_law_roads" = true) (k2 : PySem.W.keepIn K (.ref f2) = true)
    (a3 : PySem.W.nsIn K mainGlobals "_law_name" = some (some (.ref f3))) (l3 : K.lookup f3 = some ⟨oc3, od3, .func (PySem.W.fnOf "_law_name" "_law_name" (defArgs (top 7)) (defBody (top 7)) (defScope (top 7)) .none kV3 dc3 pm3 an3 cd3 ct3), sl3⟩) (c3 : PySem.W.codeIn K cd3 "_law_name" = true) (k3 : PySem.W.keepIn K (.ref f3) = true)
    (a4 : PySem.W.nsIn K mainGlobals "_law_cells" = some (some (.ref f4))) (l4 : K.lookup f4 = some ⟨oc4, od4, .func (PySem.W.fnOf "_law_cells" "_law_cells" (defArgs (top 8)) (defBody (top 8)) (defScope (top 8)) .none kV4 dc4 pm4 an4 cd4 ct4), sl4⟩) (c4 : PySem.W.codeIn K cd4 "_law_cells" = true) (k4 : PySem.W.keepIn K (.ref f4) = true)
    (a5 : PySem.W.nsIn K mainGlobals "_law_sum" = some (some (.ref f5))) (l5 : K.lookup f5 = some ⟨oc5, od5, .func (PySem.W.fnOf "_law_sum" "_law_sum" (defArgs (top 9)) (defBody (top 9)) (defScope (top 9)) .none kV5 dc5 pm5 an5 cd5 ct5), sl5⟩) (c5 : PySem.W.codeIn K cd5 "_law_sum" = true) (k5 : PySem.W.keepIn K (.ref f5) = true)
    (a6 : PySem.W.nsIn K mainGlobals "_law_sends" = some (some (.ref f6))) (l6 : K.lookup f6 = some ⟨oc6, od6, .func (PySem.W.fnOf "_law_sends" "_law_sends" (defArgs (top 12)) (defBody (top 12)) (defScope (top 12)) .none kV6 dc6 pm6 an6 cd6 ct6), sl6⟩) (c6 : PySem.W.codeIn K cd6 "_law_sends" = true) (k6 : PySem.W.keepIn K (.ref f6) = true)
    (a7 : PySem.W.nsIn K mainGlobals "_law_condition" = some (some (.ref f7))) (l7 : K.lookup f7 = some ⟨oc7, od7, .func (PySem.W.fnOf "_law_condition" "_law_condition" (defArgs (top 10)) (defBody (top 10)) (defScope (top 10)) .none kV7 dc7 pm7 an7 cd7 ct7), sl7⟩) (c7 : PySem.W.codeIn K cd7 "_law_condition" = true) (k7 : PySem.W.keepIn K (.ref f7) = true)
    (a8 : PySem.W.nsIn K mainGlobals "_law_step" = some (some (.ref f8))) (l8 : K.lookup f8 = some ⟨oc8, od8, .func (PySem.W.fnOf "_law_step" "_law_step" (defArgs (top 13)) (defBody (top 13)) (defScope (top 13)) .none kV8 dc8 pm8 an8 cd8 ct8), sl8⟩) (c8 : PySem.W.codeIn K cd8 "_law_step" = true) (k8 : PySem.W.keepIn K (.ref f8) = true)
    (a9 : PySem.W.nsIn K mainGlobals "_law_family" = some (some (.ref f9))) (l9 : K.lookup f9 = some ⟨oc9, od9, .func (PySem.W.fnOf "_law_family" "_law_family" (defArgs (top 14)) (defBody (top 14)) (defScope (top 14)) .none kV9 dc9 pm9 an9 cd9 ct9), sl9⟩) (c9 : PySem.W.codeIn K cd9 "_law_family" = true) (k9 : PySem.W.keepIn K (.ref f9) = true)
    (a10 : PySem.W.nsIn K mainGlobals "_law_plan" = some (some (.ref f10))) (l10 : K.lookup f10 = some ⟨oc10, od10, .func (PySem.W.fnOf "_law_plan" "_law_plan" (defArgs (top 15)) (defBody (top 15)) (defScope (top 15)) .none kV10 dc10 pm10 an10 cd10 ct10), sl10⟩) (c10 : PySem.W.codeIn K cd10 "_law_plan" = true) (k10 : PySem.W.keepIn K (.ref f10) = true)
    (a11 : PySem.W.nsIn K mainGlobals "families_of" = some (some (.ref f11))) (l11 : K.lookup f11 = some ⟨oc11, od11, .func (PySem.W.fnOf "families_of" "families_of" (defArgs (top 1)) (defBody (top 1)) (defScope (top 1)) .none kV11 dc11 pm11 an11 cd11 ct11), sl11⟩) (c11 : PySem.W.codeIn K cd11 "families_of" = true) (k11 : PySem.W.keepIn K (.ref f11) = true)
    (a12 : PySem.W.nsIn K mainGlobals "renamings" = some (some (.ref f12))) (l12 : K.lookup f12 = some ⟨oc12, od12, .func (PySem.W.fnOf "renamings" "renamings" (defArgs (top 3)) (defBody (top 3)) (defScope (top 3)) .none kV12 dc12 pm12 an12 cd12 ct12), sl12⟩) (c12 : PySem.W.codeIn K cd12 "renamings" = true) (k12 : PySem.W.keepIn K (.ref f12) = true)
    (a13 : PySem.W.nsIn K mainGlobals "_law_families" = some (some (.ref f13))) (l13 : K.lookup f13 = some ⟨oc13, od13, .func (PySem.W.fnOf "_law_families" "_law_families" (defArgs (top 16)) (defBody (top 16)) (defScope (top 16)) .none kV13 dc13 pm13 an13 cd13 ct13), sl13⟩) (c13 : PySem.W.codeIn K cd13 "_law_families" = true) (k13 : PySem.W.keepIn K (.ref f13) = true)
    (a14 : PySem.W.nsIn K mainGlobals "law" = some (some (.ref f14))) (l14 : K.lookup f14 = some ⟨oc14, od14, .func (PySem.W.fnOf "law" "law" (defArgs (top 19)) (defBody (top 19)) (defScope (top 19)) .none kV14 dc14 pm14 an14 cd14 ct14), sl14⟩) (c14 : PySem.W.codeIn K cd14 "law" = true) (k14 : PySem.W.keepIn K (.ref f14) = true)
    (z : ∀ x ∈ bltN, PySem.W.nsIn K mainGlobals x = some none)
    : TOk Gv Tb K mg := by
  refine ⟨fun d hd => ?_, sc, un, fun x hx => PySem.W.mg_none_of X G (z x hx), fun x v hv => ?_⟩
  · rcases List.mem_cons.mp hd with hd | hd
    · subst hd; exact ⟨_, _, fun_mk (st := top 5) l0 c0 k0, (fun_mk (st := top 5) l0 c0 k0).binds (ps := ["_law_script", "_law_k"]) fun _ _ _ _ _ _ us hl => match us, hl with | [_, _], _ => rfl, PySem.W.mg_of X G a0⟩
    rcases List.mem_cons.mp hd with hd | hd
    · subst hd; exact ⟨_, _, fun_mk (st := top 6) l1 c1 k1, (fun_mk (st := top 6) l1 c1 k1).binds (ps := ["_law_cell", "_law_k"]) fun _ _ _ _ _ _ us hl => match us, hl with | [_, _], _ => rfl, PySem.W.mg_of X G a1⟩
    rcases List.mem_cons.mp hd with hd | hd
    · subst hd; exact ⟨_, _, fun_mk (st := top 11) l2 c2 k2, (fun_mk (st := top 11) l2 c2 k2).binds (ps := ["_law_script", "_law_families_here", "_law_room"]) fun _ _ _ _ _ _ us hl => match us, hl with | [_, _, _], _ => rfl, PySem.W.mg_of X G a2⟩
    rcases List.mem_cons.mp hd with hd | hd
    · subst hd; exact ⟨_, _, fun_mk (st := top 7) l3 c3 k3, (fun_mk (st := top 7) l3 c3 k3).binds (ps := ["_law_script", "_law_k"]) fun _ _ _ _ _ _ us hl => match us, hl with | [_, _], _ => rfl, PySem.W.mg_of X G a3⟩
    rcases List.mem_cons.mp hd with hd | hd
    · subst hd; exact ⟨_, _, fun_mk (st := top 8) l4 c4 k4, (fun_mk (st := top 8) l4 c4 k4).binds (ps := ["_law_script", "_law_family_here", "_law_most"]) fun _ _ _ _ _ _ us hl => match us, hl with | [_, _, _], _ => rfl, PySem.W.mg_of X G a4⟩
    rcases List.mem_cons.mp hd with hd | hd
    · subst hd; exact ⟨_, _, fun_mk (st := top 9) l5 c5 k5, (fun_mk (st := top 9) l5 c5 k5).binds (ps := ["_law_drawn", "_law_names"]) fun _ _ _ _ _ _ us hl => match us, hl with | [_, _], _ => rfl, PySem.W.mg_of X G a5⟩
    rcases List.mem_cons.mp hd with hd | hd
    · subst hd; exact ⟨_, _, fun_mk (st := top 12) l6 c6 k6, (fun_mk (st := top 12) l6 c6 k6).binds (ps := ["_law_drawn", "_law_family_here", "_law_names", "_law_whos", "_law_roads_here", "_law_most"]) fun _ _ _ _ _ _ us hl => match us, hl with | [_, _, _, _, _, _], _ => rfl, PySem.W.mg_of X G a6⟩
    rcases List.mem_cons.mp hd with hd | hd
    · subst hd; exact ⟨_, _, fun_mk (st := top 10) l7 c7 k7, (fun_mk (st := top 10) l7 c7 k7).binds (ps := ["_law_drawn", "_law_names"]) fun _ _ _ _ _ _ us hl => match us, hl with | [_, _], _ => rfl, PySem.W.mg_of X G a7⟩
    rcases List.mem_cons.mp hd with hd | hd
    · subst hd; exact ⟨_, _, fun_mk (st := top 13) l8 c8 k8, (fun_mk (st := top 13) l8 c8 k8).binds (ps := ["_law_drawn", "_law_family_here", "_law_rooms", "_law_cells_here", "_law_whos", "_law_roads_here"]) fun _ _ _ _ _ _ us hl => match us, hl with | [_, _, _, _, _, _], _ => rfl, PySem.W.mg_of X G a8⟩
    rcases List.mem_cons.mp hd with hd | hd
    · subst hd; exact ⟨_, _, fun_mk (st := top 14) l9 c9 k9, (fun_mk (st := top 14) l9 c9 k9).binds (ps := ["_law_script", "_law_k", "_law_name_here", "_law_crew_here", "_law_wide", "_law_roads_here"]) fun _ _ _ _ _ _ us hl => match us, hl with | [_, _, _, _, _, _], _ => rfl, PySem.W.mg_of X G a9⟩
    rcases List.mem_cons.mp hd with hd | hd
    · subst hd; exact ⟨_, _, fun_mk (st := top 15) l10 c10 k10, (fun_mk (st := top 15) l10 c10 k10).binds (ps := ["_law_script", "_law_most"]) fun _ _ _ _ _ _ us hl => match us, hl with | [_, _], _ => rfl, PySem.W.mg_of X G a10⟩
    rcases List.mem_cons.mp hd with hd | hd
    · subst hd; exact ⟨_, _, fun_mk (st := top 1) l11 c11 k11, (fun_mk (st := top 1) l11 c11 k11).binds (ps := ["plan"]) fun _ _ _ _ _ _ us hl => match us, hl with | [_], _ => rfl, PySem.W.mg_of X G a11⟩
    rcases List.mem_cons.mp hd with hd | hd
    · subst hd; exact ⟨_, _, fun_mk (st := top 3) l12 c12 k12, (fun_mk (st := top 3) l12 c12 k12).binds (ps := ["plan"]) fun _ _ _ _ _ _ us hl => match us, hl with | [_], _ => rfl, PySem.W.mg_of X G a12⟩
    rcases List.mem_cons.mp hd with hd | hd
    · subst hd; exact ⟨_, _, fun_mk (st := top 16) l13 c13 k13, (fun_mk (st := top 16) l13 c13 k13).binds (ps := ["_law_plan_here"]) fun _ _ _ _ _ _ us hl => match us, hl with | [_], _ => rfl, PySem.W.mg_of X G a13⟩
    rcases List.mem_cons.mp hd with hd | hd
    · subst hd; exact ⟨_, _, fun_mk (st := top 19) l14 c14 k14, (fun_mk (st := top 19) l14 c14 k14).binds (ps := ["_law_script"]) fun _ _ _ _ _ _ us hl => match us, hl with | [_], _ => rfl, PySem.W.mg_of X G a14⟩
    cases hd
  · unfold Gv at hv
    cases hv
end My
namespace My
open PySem L2 Ev
theorem log2_small {i : Int} (h : i.natAbs < 2 ^ 60) : i.natAbs.log2 < 60 := by
  by_cases e : i.natAbs = 0
  · rw [e]; decide
  · exact (Nat.log2_lt e).mpr h
theorem mulOk_small {i j : Int} (h1 : i.natAbs < 2 ^ 60) (h2 : j.natAbs < 2 ^ 60) : mulOk i j = true := by
  unfold mulOk
  have a := log2_small h1
  have b := log2_small h2
  exact decide_eq_true (by omega)
theorem okP_up : ∀ (n : Nat) (v : P), okP n v = true → okP (n + 1) v = true := by
  intro n
  induction n with
  | zero => intro v h; cases v <;> first | rfl | exact h | cases h
  | succ n ih =>
    intro v h
    cases v with
    | tup xs => exact List.all_eq_true.mpr fun x hx => ih x (List.all_eq_true.mp h x hx)
    | lst xs => exact List.all_eq_true.mpr fun x hx => ih x (List.all_eq_true.mp h x hx)
    | ro xs => exact List.all_eq_true.mpr fun x hx => ih x (List.all_eq_true.mp h x hx)
    | non => rfl
    | bl _ => rfl
    | int _ => rfl
    | str _ => exact h
    | dct _ _ => cases h
theorem okP_mono {n m : Nat} {v : P} (h : okP n v = true) (hm : n ≤ m) : okP m v = true := by
  obtain ⟨k, rfl⟩ := Nat.exists_eq_add_of_le hm
  clear hm
  induction k with
  | zero => exact h
  | succ k ih => exact okP_up _ _ ih
noncomputable def strOk (x : Str) : Prop := PyData.strOk x = true
@[simp] theorem okP_int (n : Nat) (i : Int) : okP n (.int i) = true := by cases n <;> rfl
@[simp] theorem okP_bl (n : Nat) (i : Bool) : okP n (.bl i) = true := by cases n <;> rfl
@[simp] theorem okP_non (n : Nat) : okP n .non = true := by cases n <;> rfl
@[simp] theorem okP_str (n : Nat) (x : Str) : okP n (.str x) = PyData.strOk x := by cases n <;> rfl
@[simp] theorem okP_tup (n : Nat) (xs : List P) : okP (n + 1) (.tup xs) = xs.all (okP n) := rfl
@[simp] theorem okP_lst (n : Nat) (xs : List P) : okP (n + 1) (.lst xs) = xs.all (okP n) := rfl
theorem okL {n : Nat} {xs : List P} (h : ∀ x ∈ xs, okP n x = true) : okP (n + 1) (.lst xs) = true := List.all_eq_true.mpr h
@[simp] theorem len_one (c : Nat) : Str.length ⟨#[c]⟩ = 1 := rfl
theorem strOk_app {x y : Str} (hx : strOk x) (hy : strOk y) : strOk (x ++ y) := by
  show (x.cps ++ y.cps).all (fun c => decide (c < 0x110000)) = true
  rw [Array.all_append, Bool.and_eq_true]
  exact ⟨hx, hy⟩
theorem strOk_rep {x : Str} (hx : strOk x) (n : Nat) : strOk (strRep x n) := by
  have key : ∀ (n : Nat) (acc : Array Nat), acc.all (fun c => decide (c < 0x110000)) = true → ((List.replicate n x.cps).foldl (· ++ ·) acc).all (fun c => decide (c < 0x110000)) = true := by
    intro n
    induction n with
    | zero => intro acc h; exact h
    | succ n ih =>
      intro acc h
      rw [List.replicate_succ, List.foldl_cons]
      exact ih _ (by rw [Array.all_append, Bool.and_eq_true]; exact ⟨h, hx⟩)
  exact key n #[] (by simp)
theorem dIx_str' {x : Str} {k : Int} (hx : strOk x) (h0 : 0 ≤ k) (h1 : k < x.length) (h2 : x.length ≤ 1000000) : ∃ c, strOk ⟨#[c]⟩ ∧ dIx (.str x) (.int k) = some (.str ⟨#[c]⟩) := by
  have hl : k.toNat < x.cps.toList.length := by simp only [Array.length_toList]; unfold Str.length at h1; omega
  have hs : k.toNat < x.cps.size := by simpa using hl
  refine ⟨x.cps.toList[k.toNat], ?_, ?_⟩
  · have := Array.all_eq_true.mp hx k.toNat hs
    show (#[x.cps.toList[k.toNat]].all fun c => decide (c < 0x110000)) = true
    simpa using this
  · have e : L2.atI x.cps.toList k = some (x.cps.toList[k.toNat]) := atI_nat' h0 (by simp [hs])
    show (if capN x.length = true then (L2.atI x.cps.toList k).map fun c => P.str ⟨#[c]⟩ else none) = _
    rw [if_pos (by simp only [capN_ev]; exact h2), e]; rfl
theorem dMul_str' {x : Str} {m : Int} (hx : strOk x) (h0 : 0 ≤ m) (h1 : m ≤ 100) (h2 : x.length = 1) : ∃ y : Str, strOk y ∧ y.length ≤ 100 ∧ dMul (.str x) (.int m) = some (.str y) := by
  refine ⟨strRep x m.toNat, strOk_rep hx _, by rw [strRep_length, h2]; omega, ?_⟩
  show (if (capN (m.toNat * x.length) && decide (m.natAbs < 1000000)) = true then some (P.str (strRep x m.toNat)) else none) = _
  rw [if_pos (by rw [Bool.and_eq_true, capN_ev, h2]; exact ⟨by omega, decide_eq_true (by omega)⟩)]
theorem dAdd_str' {x y : Str} (h : x.length + y.length ≤ 1000000) : dAdd (.str x) (.str y) = some (.str (x ++ y)) := by
  show (if capN (x.length + y.length) = true then some (P.str (x ++ y)) else none) = _
  rw [if_pos (by rw [capN_ev]; exact h)]
theorem atI_pick {α : Type} {xs : List α} (h : xs ≠ []) (a : Int) : ∃ x ∈ xs, L2.atI xs (a % (xs.length : Int)) = some x := by
  have hl : (0 : Int) < (xs.length : Int) := by cases xs with | nil => exact absurd rfl h | cons _ _ => simp
  have h0 := Int.emod_nonneg a (Int.ne_of_gt hl)
  have h1 := Int.emod_lt_of_pos a hl
  have hk : (a % (xs.length : Int)).toNat < xs.length := by omega
  exact ⟨xs[(a % (xs.length : Int)).toNat], List.getElem_mem _, atI_nat' h0 (by simp [hk])⟩
theorem atI_in {α : Type} {xs : List α} {k : Int} (h0 : 0 ≤ k) (h1 : k < (xs.length : Int)) : ∃ x ∈ xs, L2.atI xs k = some x := by
  have hk : k.toNat < xs.length := by omega
  exact ⟨xs[k.toNat], List.getElem_mem _, atI_nat' h0 (by simp [hk])⟩
theorem atI_last {α : Type} {xs : List α} (h : xs ≠ []) : ∃ x ∈ xs, L2.atI xs (-1) = some x := by
  have hl : 0 < xs.length := List.length_pos_iff.mpr h
  refine ⟨xs[xs.length - 1], List.getElem_mem _, ?_⟩
  unfold L2.atI L2.ixN
  rw [if_neg (by omega), if_pos (by omega)]
  have e : (-1 + (xs.length : Int)).toNat = xs.length - 1 := by omega
  simp [e, hl]
theorem forGo_inv {g : TGv} {b : ES} {Inv : Nat → Lc → Sto → Prop} : ∀ {xs : List P} {k : Nat} {L : Lc} {S : Sto}, (∀ i v L S, xs[i]? = some v → Inv (k + i) L S → ∃ L1 L2 S2, g v L = some L1 ∧ b L1 S = some (.nx, L2, S2) ∧ Inv (k + i + 1) L2 S2) → Inv k L S →
    ∃ L' S', forGo g b xs L S = some (.nx, L', S') ∧ Inv (k + xs.length) L' S'
  | [], k, L, S, _, h => ⟨L, S, rfl, h⟩
  | v :: r, k, L, S, hs, h => by
    obtain ⟨L1, L2, S2, e1, e2, h2⟩ := hs 0 v L S rfl h
    obtain ⟨L', S', e3, h3⟩ := forGo_inv (g := g) (b := b) (Inv := Inv) (xs := r) (k := k + 1) (L := L2) (S := S2) (fun i w L S e q => by
      have := hs (i + 1) w L S (by simpa using e) (by rw [show k + (i + 1) = k + 1 + i by omega]; exact q)
      rwa [show k + (i + 1) + 1 = k + 1 + i + 1 by omega] at this) h2
    exact ⟨L', S', by rw [forGo_nx e1 e2]; exact e3, by rw [List.length_cons, show k + (r.length + 1) = k + 1 + r.length by omega]; exact h3⟩
theorem compGo_ex {g : TGv} {c : EB} {e : EV} {Inv : Lc → Prop} {Q : P → Prop} {S : Sto} : ∀ {xs : List P} {L : Lc}, (∀ v ∈ xs, ∀ L, Inv L → ∃ L1 k, g v L = some L1 ∧ Inv L1 ∧ c L1 S = some (k, S) ∧ (k = true → ∃ y, e L1 S = some (y, S) ∧ Q y)) → Inv L →
    ∃ ys, compGo g c e xs L S = some (ys, S) ∧ (∀ y ∈ ys, Q y) ∧ ys.length ≤ xs.length
  | [], L, _, h => ⟨[], rfl, fun _ z => (by cases z), Nat.le_refl _⟩
  | v :: r, L, hs, h => by
    obtain ⟨L1, k, e1, i1, e2, h2⟩ := hs v List.mem_cons_self L h
    obtain ⟨ys, e3, h3, h4⟩ := compGo_ex (xs := r) (L := L1) (fun w hw => hs w (List.mem_cons_of_mem _ hw)) i1
    cases k with
    | false => exact ⟨ys, by simp [compGo, e1, e2, e3], h3, by simp; omega⟩
    | true =>
      obtain ⟨y, e4, q⟩ := h2 rfl
      exact ⟨y :: ys, by simp [compGo, e1, e2, e3, e4], fun z hz => (List.mem_cons.mp hz).elim (fun e => e ▸ q) (h3 z), by simp; omega⟩
theorem compGo_all {g : TGv} {e : EV} {Inv : Lc → Prop} {Q : P → Prop} {S : Sto} : ∀ {xs : List P} {L : Lc}, (∀ v ∈ xs, ∀ L, Inv L → ∃ L1 y, g v L = some L1 ∧ Inv L1 ∧ e L1 S = some (y, S) ∧ Q y) → Inv L →
    ∃ ys, compGo g bYes e xs L S = some (ys, S) ∧ (∀ y ∈ ys, Q y) ∧ ys.length = xs.length
  | [], L, _, h => ⟨[], rfl, fun _ z => (by cases z), rfl⟩
  | v :: r, L, hs, h => by
    obtain ⟨L1, y, e1, i1, e2, q⟩ := hs v List.mem_cons_self L h
    obtain ⟨ys, e3, h3, h4⟩ := compGo_all (xs := r) (L := L1) (fun w hw => hs w (List.mem_cons_of_mem _ hw)) i1
    exact ⟨y :: ys, by simp [compGo, e1, e2, e3], fun z hz => (List.mem_cons.mp hz).elim (fun e => e ▸ q) (h3 z), by simp [h4]⟩
theorem compGo_eq {g : TGv} {c : EB} {e : EV} {Inv : Lc → Prop} {S : Sto} {p : P → Bool} {f : P → P} : ∀ {xs : List P} {L : Lc}, (∀ v ∈ xs, ∀ L, Inv L → ∃ L1, g v L = some L1 ∧ Inv L1 ∧ c L1 S = some (p v, S) ∧ (p v = true → e L1 S = some (f v, S))) → Inv L →
    compGo g c e xs L S = some ((xs.filter p).map f, S)
  | [], L, _, h => rfl
  | v :: r, L, hs, h => by
    obtain ⟨L1, e1, i1, e2, h2⟩ := hs v List.mem_cons_self L h
    have e3 := compGo_eq (xs := r) (L := L1) (fun w hw => hs w (List.mem_cons_of_mem _ hw)) i1
    cases k : p v with
    | false => rw [k] at e2; simp [compGo, e1, e2, e3, k]
    | true => rw [k] at e2; simp [compGo, e1, e2, e3, k, h2 k]
theorem ints_get {lo : Int} {n i : Nat} {v : P} (h : (intsFrom lo n)[i]? = some v) : v = .int (lo + i) ∧ i < n := by
  unfold Ev.intsFrom at h
  rw [List.getElem?_map] at h
  cases e : (List.range n)[i]? with
  | none => rw [e] at h; cases h
  | some j =>
    rw [e] at h
    cases h
    have := List.getElem?_eq_some_iff.mp e
    obtain ⟨h1, h2⟩ := this
    simp at h1 h2
    subst h2
    exact ⟨rfl, h1⟩
theorem ints_mem {lo : Int} {n : Nat} {v : P} (h : v ∈ intsFrom lo n) : ∃ i : Nat, v = .int (lo + i) ∧ i < n := by
  obtain ⟨i, hi, e⟩ := List.mem_iff_getElem.mp h
  exact ⟨i, ints_get (by rw [List.getElem?_eq_getElem hi, e])⟩
theorem ints_len (lo : Int) (n : Nat) : (intsFrom lo n).length = n := by simp [Ev.intsFrom]
theorem mix_loop (ψ : Str → GF) (xs : List P) : ∀ (a : Int) (p t q : Option D), ∃ (r : Int) (t' : Option D), forGo (gSet 2) (b_n_law_mix_L1 ψ) xs [some (.p (.int a)), p, t, q] [] = some (.nx, [some (.p (.int r)), p, t', q], []) := by
  induction xs with
  | nil => intro a p t q; exact ⟨a, t, rfl⟩
  | cons x xs ih =>
    intro a p t q
    obtain ⟨r, t', h⟩ := ih (a / 2147483648) p (some (.p x)) q
    exact ⟨r, t', by simpa [forGo, b_n_law_mix_L1] using h⟩
theorem mix_ok {n : Nat} (hn : 1 ≤ n) (a : Int) {p : Int} (h0 : 0 ≤ p) (h1 : p < 1000) : ∃ r : Int, 0 ≤ r ∧ pureOf (Psi Gv Tb n "_law_mix") [.int a, .int p] = some (.int r) := by
  obtain ⟨n, rfl⟩ : ∃ m, n = m + 1 := ⟨n - 1, by omega⟩
  by_cases h : (1000000000000 : Int) ≤ a
  · obtain ⟨r, t', e⟩ := mix_loop (Psi Gv Tb n) (intsFrom 0 (p % 61).toNat) (a / 1000000000000 - 1) (some (.p (.int p))) none none
    refine ⟨r % 2147483648, Int.emod_nonneg _ (by decide), ?_⟩
    have hp : (p % 61).natAbs < 1000000 := by omega
    rw [e_n_law_mix, pureOf_fn]
    simp [b_n_law_mix, h, hp, e]
  · have hp2 : 0 ≤ p * p ∧ p * p ≤ 1000000 := ⟨Int.mul_nonneg h0 h0, Int.le_trans (Int.mul_le_mul (Int.le_of_lt h1) (Int.le_of_lt h1) h0 (by decide)) (by decide)⟩
    have m1 : mulOk p p = true := mulOk_small (by omega) (by omega)
    have m2 : mulOk (p * p) 7919 = true := mulOk_small (by omega) (by decide)
    have m3 : mulOk (a % 1000003 + p * p * 7919 + p) 48271 = true := mulOk_small (by omega) (by decide)
    generalize hx : (a % 1000003 + p * p * 7919 + p) * 48271 % 2147483629 = x
    have hx1 : 0 ≤ x ∧ x < 2147483629 := by subst hx; exact ⟨Int.emod_nonneg _ (by decide), Int.emod_lt_of_pos _ (by decide)⟩
    have m4 : mulOk x x = true := mulOk_small (by omega) (by omega)
    generalize hy : x * x % 2147483587 = y
    have hy1 : 0 ≤ y ∧ y < 2147483587 := by subst hy; exact ⟨Int.emod_nonneg _ (by decide), Int.emod_lt_of_pos _ (by decide)⟩
    have m5 : mulOk y (y + 2) = true := mulOk_small (by omega) (by omega)
    refine ⟨y * (y + 2) % 2147483579 / 7, Int.ediv_nonneg (Int.emod_nonneg _ (by decide)) (by decide), ?_⟩
    rw [e_n_law_mix, pureOf_fn]
    simp [b_n_law_mix, h, m1, m2, m3, hx, m4, hy, m5]
noncomputable def scr (ns : List Int) : P := .ro (ns.map .int)
theorem cell_ok {n : Nat} (hn : 1 ≤ n) (ns : List Int) {k : Int} (h0 : 0 ≤ k) : ∃ r : Int, pureOf (Psi Gv Tb n "_law_cell_at") [scr ns, .int k] = some (.int r) := by
  obtain ⟨n, rfl⟩ : ∃ m, n = m + 1 := ⟨n - 1, by omega⟩
  by_cases h : k < (ns.length : Int)
  · have hk : k.toNat < ns.length := by omega
    refine ⟨ns[k.toNat], ?_⟩
    have e : L2.atI (ns.map P.int) k = some (.int ns[k.toNat]) := atI_nat' h0 (by simp [hk])
    rw [e_n_law_cell_at, pureOf_fn]
    simp [b_n_law_cell_at, scr, lenD, lenP, h, e]
  · refine ⟨0, ?_⟩
    rw [e_n_law_cell_at, pureOf_fn]
    simp [b_n_law_cell_at, scr, lenD, lenP, h]
theorem draw_ok {n : Nat} (hn : 1 ≤ n) (ns : List Int) {k p : Int} (h0 : 0 ≤ k) (h1 : 0 ≤ p) (h2 : p < 1000) : ∃ c r : Int, 0 ≤ r ∧ pureOf (Psi Gv Tb n "_law_cell_at") [scr ns, .int k] = some (.int c) ∧ pureOf (Psi Gv Tb n "_law_mix") [.int c, .int p] = some (.int r) := by
  obtain ⟨c, e1⟩ := cell_ok hn ns h0
  obtain ⟨r, hr, e2⟩ := mix_ok hn c h1 h2
  exact ⟨c, r, hr, e1, e2⟩
theorem ok_ap : strOk "abcdefghijklmnop" := by unfold strOk; decide +kernel
theorem ok_xyz : strOk "xyz" := by unfold strOk; decide +kernel
theorem len_ap : ("abcdefghijklmnop" : Str).length = 16 := by decide +kernel
theorem len_xyz : ("xyz" : Str).length = 3 := by decide +kernel
theorem name_ok {n : Nat} (hn : 2 ≤ n) (ns : List Int) {k : Int} (h0 : 0 ≤ k) (h1 : k < 16) : ∃ x : Str, strOk x ∧ pureOf (Psi Gv Tb n "_law_name") [scr ns, .int k] = some (.str x) := by
  obtain ⟨n, rfl⟩ : ∃ m, n = m + 1 := ⟨n - 1, by omega⟩
  obtain ⟨c, a, ha, ea, eb⟩ := draw_ok (n := n) (by omega) ns (k := 1) (p := k) (by omega) h0 (by omega)
  obtain ⟨u, hu, eu⟩ := dIx_str' (k := k) ok_ap h0 (by rw [len_ap]; omega) (by rw [len_ap]; omega)
  obtain ⟨d, hd, ed⟩ := dIx_str' (k := a / 4 % 3) ok_xyz (by omega) (by rw [len_xyz]; omega) (by rw [len_xyz]; omega)
  obtain ⟨y, hy, hy2, ey⟩ := dMul_str' (m := 1 + a % 4) hu (by omega) (by omega) rfl
  have ez := dAdd_str' (x := y) (y := ⟨#[d]⟩) (by rw [len_one]; omega)
  refine ⟨y ++ ⟨#[d]⟩, strOk_app hy hd, ?_⟩
  rw [e_n_law_name, pureOf_fn]
  simp [b_n_law_name, ea, eb, eu, ed, ey, ez]
end My
namespace My
open PySem L2 Ev
structure Cel where
  x : Str
  lo : Int
  hi : Int
  at' : Int
theorem low4 (a : Int) : ∃ r : Int, L2.atI [P.int 0, .int 0, .int (-1), .int 5] (a % 4) = some (.int r) := by
  have h : a % 4 = 0 ∨ a % 4 = 1 ∨ a % 4 = 2 ∨ a % 4 = 3 := by omega
  rcases h with h | h | h | h <;> rw [h] <;> simp
theorem high4 (a : Int) : ∃ r : Int, 0 ≤ r ∧ L2.atI [P.int 1, .int 2, .int 0, .int 1] (a % 4) = some (.int r) := by
  have h : a % 4 = 0 ∨ a % 4 = 1 ∨ a % 4 = 2 ∨ a % 4 = 3 := by omega
  rcases h with h | h | h | h <;> rw [h] <;> simp
noncomputable def isCel (v : P) : Prop := ∃ x lo hi at', strOk x ∧ v = .tup [.str x, .int lo, .int hi, .int at']
@[simp] theorem toP_ref0 (vs : List P) : toP 9 (.ref 0) [.lst (vs.map .p)] = some (.lst vs, [.fz (.lst vs)]) := toP_lst rfl
theorem map_snoc (vs : List P) (v : P) : vs.map D.p ++ [.p v] = (vs ++ [v]).map .p := by simp
theorem all_snoc {Q : P → Prop} {vs : List P} {v : P} (h : ∀ x ∈ vs, Q x) (hv : Q v) : ∀ x ∈ vs ++ [v], Q x := fun x hx => (List.mem_append.mp hx).elim (h x) fun hx => by rw [List.mem_singleton.mp hx]; exact hv
theorem cells_ok {n : Nat} (hn : 3 ≤ n) (ns : List Int) {f m : Int} (h0 : 0 ≤ f) (h1 : 0 ≤ m) (h2 : m ≤ 3) : ∃ vs : List P, vs.length ≤ m.toNat ∧ (∀ c ∈ vs, isCel c) ∧ pureOf (Psi Gv Tb n "_law_cells") [scr ns, .int f, .int m] = some (.lst vs) := by
  obtain ⟨n, rfl⟩ : ∃ m, n = m + 1 := ⟨n - 1, by omega⟩
  obtain ⟨c, a, ha, ea, eb⟩ := draw_ok (n := n) (by omega) ns (k := 2 + f) (p := 1) (by omega) (by omega) (by omega)
  have hm : a % (m + 1) < m + 1 := Int.emod_lt_of_pos _ (by omega)
  have hm0 : 0 ≤ a % (m + 1) := Int.emod_nonneg _ (by omega)
  let Inv : Nat → Lc → Sto → Prop := fun i L S => ∃ (vs : List P) (q5 q6 q7 q8 : Option D), vs.length = i ∧ (∀ c ∈ vs, isCel c) ∧ L = [some (.p (scr ns)), some (.p (.int f)), some (.p (.int m)), some (.ref 0), q5, q6, q7, q8] ∧ S = [.lst (vs.map .p)]
  obtain ⟨L', S', e, vs, q5, q6, q7, q8, hc, ho, rfl, rfl⟩ := forGo_inv (g := gSet 4) (b := b_n_law_cells_L1 (Psi Gv Tb n)) (Inv := Inv) (xs := Ev.intsFrom 0 (a % (m + 1)).toNat) (k := 0)
    (L := [some (.p (scr ns)), some (.p (.int f)), some (.p (.int m)), some (.ref 0), none, none, none, none]) (S := [.lst []]) (fun i v L S hv hI => by
      obtain ⟨rfl, hi⟩ := ints_get hv
      obtain ⟨vs, q5, q6, q7, q8, hc, ho, rfl, rfl⟩ := hI
      obtain ⟨c2, d, hd, e1, e2⟩ := draw_ok (n := n) (by omega) ns (k := 2 + f) (p := 2 + (0 + (i : Int))) (by omega) (by omega) (by omega)
      obtain ⟨x, hx, ex⟩ := name_ok (n := n) (by omega) ns (k := 2 + (0 + (i : Int))) (by omega) (by omega)
      obtain ⟨lo, el⟩ := low4 d
      obtain ⟨up, hup, eu⟩ := high4 (d / 4)
      have hz : 0 < lo + up - lo + 1 := by omega
      have hl : vs.length ≤ 1000000 := by omega
      generalize hw : d / 16 % (lo + up - lo + 1) = w
      refine ⟨_, [some (.p (scr ns)), some (.p (.int f)), some (.p (.int m)), some (.ref 0), some (.p (.int (0 + (i : Int)))), some (.p (.int d)), some (.p (.int lo)), some (.p (.int (lo + up)))], [.lst ((vs ++ [P.tup [.str x, .int lo, .int (lo + up), .int (lo + w)]]).map D.p)], rfl, ?_, _, _, _, _, _, by simp; omega, all_snoc ho ⟨x, lo, lo + up, lo + w, hx, rfl⟩, rfl, rfl⟩
      rw [← map_snoc]
      simp only [Int.zero_add] at e1 e2 ex
      simp [b_n_law_cells_L1, e1, e2, ex, el, eu, hz, ownL, hl, hw]) ⟨[], none, none, none, none, rfl, fun _ h => (by cases h), rfl, rfl⟩
  refine ⟨vs, by rw [hc, ints_len]; omega, ho, ?_⟩
  have hq : (a % (m + 1)).natAbs < 1000000 := by omega
  have hz : 0 < m + 1 := by omega
  rw [e_n_law_cells, pureOf_fn]
  simp [b_n_law_cells, ea, eb, hq, hz, e]
end My
namespace My
open PySem L2 Ev
@[simp] theorem so_lits : PyData.strOk "number" = true ∧ PyData.strOk "name" = true ∧ PyData.strOk "plus" = true ∧ PyData.strOk "minus" = true ∧ PyData.strOk "times" = true ∧ PyData.strOk "true" = true ∧ PyData.strOk "not" = true ∧ PyData.strOk "or" = true ∧ PyData.strOk "and" = true ∧ PyData.strOk "is" = true ∧ PyData.strOk "=" = true ∧ PyData.strOk "!=" = true ∧ PyData.strOk "<" = true ∧ PyData.strOk "<=" = true ∧ PyData.strOk ">" = true ∧ PyData.strOk ">=" = true ∧ PyData.strOk "row" = true ∧ PyData.strOk "heap" = true ∧ PyData.strOk "ma" = true ∧ PyData.strOk "mb" = true ∧ PyData.strOk "who" = true ∧ PyData.strOk "all" = true ∧ PyData.strOk "any" = true ∧ PyData.strOk "it" = true ∧ PyData.strOk "" = true ∧ PyData.strOk "weak" = true ∧ PyData.strOk "strong" = true := by decide +kernel
noncomputable def isS (v : P) : Prop := ∃ s : Str, PyData.strOk s = true ∧ v = .str s
theorem isS.ok {v : P} (h : isS v) (n : Nat) : okP n v = true := by obtain ⟨s, h, rfl⟩ := h; simpa using h
theorem names_ok {xs : List P} (h : ∀ x ∈ xs, isS x) (n : Nat) : okP (n + 1) (.lst xs) = true := okL fun x hx => (h x hx).ok n
theorem isEmpty_false {α : Type} {xs : List α} (h : xs ≠ []) : xs.isEmpty = false := by cases xs with | nil => exact absurd rfl h | cons _ _ => rfl
theorem len_pos {α : Type} {xs : List α} (h : xs ≠ []) : 0 < xs.length := List.length_pos_iff.mpr h
theorem sum_ok {n : Nat} (hn : 1 ≤ n) (d : Int) {xs : List P} (hx : ∀ x ∈ xs, isS x) : ∃ v, okP 4 v = true ∧ pureOf (Psi Gv Tb n "_law_sum") [.int d, .lst xs] = some v := by
  obtain ⟨n, rfl⟩ : ∃ m, n = m + 1 := ⟨n - 1, by omega⟩
  have eE := eqD_nil (names_ok hx 19)
  by_cases he : xs = []
  · subst he
    refine ⟨.tup [.str "number", .int (d / 5 % 3)], by simp, ?_⟩
    rw [e_n_law_sum, pureOf_fn]
    simp [b_n_law_sum, eE]
  rw [isEmpty_false he] at eE
  have hl := len_pos he
  obtain ⟨y, hy, ey⟩ := atI_pick he (d / 5)
  have oy : ∀ k, okP k y = true := fun k => (hx y hy).ok k
  have h5 : d % 5 = 0 ∨ d % 5 = 1 ∨ d % 5 = 2 ∨ d % 5 = 3 ∨ d % 5 = 4 := by omega
  rcases h5 with h | h | h | h | h
  · refine ⟨.tup [.str "number", .int (d / 5 % 3)], by simp, ?_⟩
    rw [e_n_law_sum, pureOf_fn]
    simp [b_n_law_sum, eE, h]
  · refine ⟨.tup [.str "name", y], by simp [oy], ?_⟩
    rw [e_n_law_sum, pureOf_fn]
    simp [b_n_law_sum, eE, h, lenD, lenP, hl, ey]
  · refine ⟨.tup [.str "plus", .tup [.str "name", y], .tup [.str "number", .int (d / 20 % 3)]], by simp [oy], ?_⟩
    rw [e_n_law_sum, pureOf_fn]
    simp [b_n_law_sum, eE, h, lenD, lenP, hl, ey]
  · refine ⟨.tup [.str "minus", .tup [.str "times", .tup [.str "name", y], .tup [.str "number", .int (d / 20 % 3)]], .tup [.str "number", .int (d / 60 % 2)]], by simp [oy], ?_⟩
    rw [e_n_law_sum, pureOf_fn]
    simp [b_n_law_sum, eE, h, lenD, lenP, hl, ey]
  · refine ⟨.tup [.str "minus", .tup [.str "number", .int 1], .tup [.str "name", y]], by simp [oy], ?_⟩
    rw [e_n_law_sum, pureOf_fn]
    simp [b_n_law_sum, eE, h, lenD, lenP, hl, ey]
theorem w6 (a : Int) : ∃ w : P, isS w ∧ L2.atI [P.str "=", .str "!=", .str "<", .str "<=", .str ">", .str ">="] (a % 6) = some w := by
  obtain ⟨w, hw, e⟩ := atI_in (xs := [P.str "=", .str "!=", .str "<", .str "<=", .str ">", .str ">="]) (k := a % 6) (by omega) (by simp; omega)
  refine ⟨w, ?_, e⟩
  simp only [List.mem_cons, List.not_mem_nil, or_false] at hw
  rcases hw with h | h | h | h | h | h <;> exact ⟨_, by simp, h⟩
theorem cond_ok {n : Nat} (hn : 2 ≤ n) (d : Int) {xs : List P} (hx : ∀ x ∈ xs, isS x) : ∃ v, okP 7 v = true ∧ pureOf (Psi Gv Tb n "_law_condition") [.int d, .lst xs] = some v := by
  obtain ⟨n, rfl⟩ : ∃ m, n = m + 1 := ⟨n - 1, by omega⟩
  have eE := eqD_nil (names_ok hx 19)
  by_cases he : xs = []
  · subst he
    refine ⟨.tup [.str "true"], by simp, ?_⟩
    rw [e_n_law_condition, pureOf_fn]
    simp [b_n_law_condition, eE]
  rw [isEmpty_false he] at eE
  have hl := len_pos he
  obtain ⟨y, hy, ey⟩ := atI_pick he (d / 30)
  obtain ⟨z, hz, ez⟩ := atI_in (xs := xs) (k := 0) (by omega) (by omega)
  have oy : ∀ k, okP k y = true := fun k => (hx y hy).ok k
  have oz : ∀ k, okP k z = true := fun k => (hx z hz).ok k
  obtain ⟨w, hw, ew⟩ := w6 (d / 5)
  have ow : ∀ k, okP k w = true := fun k => hw.ok k
  obtain ⟨v, hv, ev⟩ := sum_ok (n := n) (by omega) (d / 90) hx
  have ov5 : okP 5 v = true := okP_mono hv (by omega)
  have ov6 : okP 6 v = true := okP_mono hv (by omega)
  by_cases h2 : d % 5 < 2
  · refine ⟨.tup [.str "true"], by simp, ?_⟩
    rw [e_n_law_condition, pureOf_fn]
    simp [b_n_law_condition, eE, h2]
  have h5 : d % 5 = 2 ∨ d % 5 = 3 ∨ d % 5 = 4 := by omega
  rcases h5 with h | h | h
  · refine ⟨.tup [.str "not", .tup [.str "is", w, .tup [.str "name", y], v]], by simp [oy, ow, ov5], ?_⟩
    rw [e_n_law_condition, pureOf_fn]
    simp [b_n_law_condition, eE, h, lenD, lenP, hl, ey, ew, ev]
  · refine ⟨.tup [.str "or", .tup [.str "is", w, .tup [.str "name", y], v], .tup [.str "and", .tup [.str "true"], .tup [.str "is", .str "=", .tup [.str "number", .int 1], .tup [.str "name", z]]]], by simp [oy, oz, ow, ov5], ?_⟩
    rw [e_n_law_condition, pureOf_fn]
    simp [b_n_law_condition, eE, h, lenD, lenP, hl, ey, ez, ew, ev]
  · refine ⟨.tup [.str "is", w, .tup [.str "name", y], v], by simp [oy, ow, ov6], ?_⟩
    rw [e_n_law_condition, pureOf_fn]
    simp [b_n_law_condition, eE, h, lenD, lenP, hl, ey, ew, ev]
noncomputable def isRoad (v : P) : Prop := ∃ a b k c d e, PyData.strOk a = true ∧ PyData.strOk b = true ∧ isS k ∧ v = .tup [.str a, .str b, k, .int c, .bl d, .bl e]
theorem pick2 {a b : P} (d : Int) : ∃ w ∈ [a, b], L2.atI [a, b] (d % 2) = some w := atI_in (by omega) (by simp; omega)
theorem enum_get {xs : List P} {i : Nat} {v : P} (h : (enumP 0 xs)[i]? = some v) : ∃ x, xs[i]? = some x ∧ v = .tup [.int (i : Int), x] := by
  obtain ⟨x, h1, h2⟩ := enumP_get h
  exact ⟨x, h1, by rw [h2]; simp⟩
theorem get_lt {α : Type} {xs : List α} {i : Nat} {x : α} (h : xs[i]? = some x) : i < xs.length := (List.getElem?_eq_some_iff.mp h).1
theorem roads_ok {n : Nat} (hn : 2 ≤ n) (ns : List Int) {xs : List P} (hx : ∀ x ∈ xs, isS x) (hl : xs.length ≤ 4) {m : Int} (h1 : 0 < m) : ∃ vs : List P, vs.length ≤ 8 ∧ (∀ c ∈ vs, isRoad c) ∧ pureOf (Psi Gv Tb n "_law_roads") [scr ns, .lst xs, .int m] = some (.lst vs) := by
  obtain ⟨n, rfl⟩ : ∃ m, n = m + 1 := ⟨n - 1, by omega⟩
  let Inv2 : Option D → Option D → Nat → Lc → Sto → Prop := fun k one _ L S => ∃ (vs : List P) (q6 q7 q8 q9 : Option D), vs.length ≤ 8 ∧ (∀ c ∈ vs, isRoad c) ∧ L = [some (.p (scr ns)), some (.p (.lst xs)), some (.p (.int m)), some (.ref 0), k, one, q6, q7, q8, q9] ∧ S = [.lst (vs.map .p)]
  let Inv : Nat → Lc → Sto → Prop := fun i L S => ∃ k one, Inv2 k one i L S
  obtain ⟨L', S', e, k0, one0, vs, q6, q7, q8, q9, hc, ho, rfl, rfl⟩ := forGo_inv (g := gTupP [gSet 4, gSet 5]) (b := b_n_law_roads_L2 (Psi Gv Tb n)) (Inv := Inv) (xs := enumP 0 xs) (k := 0)
    (L := [some (.p (scr ns)), some (.p (.lst xs)), some (.p (.int m)), some (.ref 0), none, none, none, none, none, none]) (S := [.lst []]) (fun i v L S hv hI => by
      obtain ⟨x, hx1, rfl⟩ := enum_get hv
      have hi := get_lt hx1
      obtain ⟨a, ha, rfl⟩ := hx x (List.mem_of_getElem? hx1)
      obtain ⟨_, _, vs, q6, q7, q8, q9, hc, ho, rfl, rfl⟩ := hI
      obtain ⟨L', S', e, hI2⟩ := forGo_inv (g := gTupP [gSet 6, gSet 7]) (b := b_n_law_roads_L1 (Psi Gv Tb n)) (Inv := Inv2 (some (.p (.int (i : Int)))) (some (.p (.str a)))) (xs := enumP 0 xs) (k := 0)
        (L := [some (.p (scr ns)), some (.p (.lst xs)), some (.p (.int m)), some (.ref 0), some (.p (.int (i : Int))), some (.p (.str a)), q6, q7, q8, q9]) (S := [.lst (vs.map .p)]) (fun j v L S hv hI => by
          obtain ⟨y, hy1, rfl⟩ := enum_get hv
          have hj := get_lt hy1
          obtain ⟨b, hb, rfl⟩ := hx y (List.mem_of_getElem? hy1)
          obtain ⟨vs, q6, q7, q8, q9, hc, ho, rfl, rfl⟩ := hI
          obtain ⟨c, d, hd, e1, e2⟩ := draw_ok (n := n) (by omega) ns (k := 4) (p := 30 + 4 * (i : Int) + (j : Int)) (by omega) (by omega) (by omega)
          have m4 : mulOk 4 (i : Int) = true := mulOk_small (by decide) (by omega)
          by_cases hg : 0 < d % 4 ∧ vs.length < 8
          · obtain ⟨w, hw, ew⟩ := pick2 (a := .str "row") (b := .str "heap") (d / 4)
            have sw : isS w := by
              simp only [List.mem_cons, List.not_mem_nil, or_false] at hw
              rcases hw with h | h <;> exact ⟨_, by simp, h⟩
            have hlen : vs.length ≤ 1000000 := by omega
            refine ⟨_, [some (.p (scr ns)), some (.p (.lst xs)), some (.p (.int m)), some (.ref 0), some (.p (.int (i : Int))), some (.p (.str a)), some (.p (.int (j : Int))), some (.p (.str b)), some (.p (.int d)), some (.p w)], [.lst ((vs ++ [P.tup [.str a, .str b, w, .int (1 + d / 8 % m), .bl (decide (d / 24 % 3 = 1)), .bl (decide (d / 72 % 3 = 1))]]).map D.p)], rfl, ?_, _, _, _, _, _, by simp; omega, all_snoc ho ⟨a, b, w, _, _, _, ha, hb, sw, rfl⟩, rfl, rfl⟩
            rw [← map_snoc]
            have hlt : (vs.length : Int) < 8 := by omega
            simp [b_n_law_roads_L1, e1, e2, m4, hg.1, lenD, hlt, ew, h1, ownL, hlen]
          · refine ⟨_, [some (.p (scr ns)), some (.p (.lst xs)), some (.p (.int m)), some (.ref 0), some (.p (.int (i : Int))), some (.p (.str a)), some (.p (.int (j : Int))), some (.p (.str b)), some (.p (.int d)), q9], [.lst (vs.map D.p)], rfl, ?_, vs, _, _, _, _, hc, ho, rfl, rfl⟩
            by_cases hd4 : 0 < d % 4
            · have hlt : ¬ (vs.length : Int) < 8 := by omega
              simp [b_n_law_roads_L1, e1, e2, m4, hd4, lenD, hlt]
            · simp [b_n_law_roads_L1, e1, e2, m4, hd4, lenD]) ⟨vs, q6, q7, q8, q9, hc, ho, rfl, rfl⟩
      exact ⟨_, L', S', rfl, by simpa [b_n_law_roads_L2] using e, _, _, hI2⟩) ⟨none, none, [], none, none, none, none, by simp, fun _ h => (by cases h), rfl, rfl⟩
  refine ⟨vs, hc, ho, ?_⟩
  rw [e_n_law_roads, pureOf_fn]
  simp [b_n_law_roads, e]
end My
namespace My
open PySem L2 Ev
theorem road_goals {fm : P} {gi gv : Int} (hfm : isS fm) (hi : (gi = 0 ∧ gv = 1) ∨ (gi = 1 ∧ gv = 0)) {rs : List P} (hr : ∀ c ∈ rs, isRoad c) (L : Lc) (j k : Nat) (hj : j < L.length) (hkj : k ≠ j) (hk : L[k]? = some (some (.p fm))) (S : Sto) :
    ∃ ys, compGo (gSet j) (bV (vOpE gEq (eV (vOp dIx (vE (eVar j)) (vC (.int gi)))) (eVar k))) (vOp dIx (vE (eVar j)) (vC (.int gv))) rs L S = some (ys, S) ∧ (∀ y ∈ ys, isS y) ∧ ys.length ≤ rs.length := by
  refine compGo_ex (Inv := fun L' => ∃ d, L' = L.set j d) (fun v hv L' hL => ?_) ⟨L[j], (List.set_getElem_self hj).symm⟩
  obtain ⟨d, rfl⟩ := hL
  obtain ⟨a, b, kd, c, d1, d2, ha, hb, hkd, rfl⟩ := hr v hv
  obtain ⟨s, hs, rfl⟩ := hfm
  have g1 : ((L.set j d).set j (some (.p (.tup [.str a, .str b, kd, .int c, .bl d1, .bl d2]))))[j]? = some (some (.p (.tup [.str a, .str b, kd, .int c, .bl d1, .bl d2]))) := by
    rw [List.getElem?_set_self (by simpa using hj)]
  have g2 : ((L.set j d).set j (some (.p (.tup [.str a, .str b, kd, .int c, .bl d1, .bl d2]))))[k]? = some (some (.p (.str s))) := by
    rw [List.getElem?_set_ne (Ne.symm hkj), List.getElem?_set_ne (Ne.symm hkj)]; exact hk
  rcases hi with ⟨rfl, rfl⟩ | ⟨rfl, rfl⟩
  · exact ⟨_, decide (a = s), rfl, ⟨_, List.set_set ..⟩, by simp [-List.set_set, g1, g2], fun _ => ⟨.str b, by simp [-List.set_set, g1], b, hb, rfl⟩⟩
  · exact ⟨_, decide (b = s), rfl, ⟨_, List.set_set ..⟩, by simp [-List.set_set, g1, g2], fun _ => ⟨.str a, by simp [-List.set_set, g1], a, ha, rfl⟩⟩
theorem road_few {rs : List P} (h : rs.length ≤ 8) : rs.length ≤ 1000000 := by omega
theorem pickS2 {a b : Str} (ha : PyData.strOk a = true) (hb : PyData.strOk b = true) (d : Int) : ∃ w, isS w ∧ L2.atI [P.str a, .str b] (d % 2) = some w := by
  obtain ⟨w, hw, e⟩ := pick2 (a := .str a) (b := .str b) d
  refine ⟨w, ?_, e⟩
  simp only [List.mem_cons, List.not_mem_nil, or_false] at hw
  rcases hw with h | h
  · exact ⟨_, ha, h⟩
  · exact ⟨_, hb, h⟩
theorem sends_ok {n : Nat} (hn : 2 ≤ n) (d : Int) {fm : P} (hfm : isS fm) {nm whos rs : List P} (hnm : ∀ x ∈ nm, isS x) (hw : ∀ x ∈ whos, isS x) (hr : ∀ c ∈ rs, isRoad c) (hrl : rs.length ≤ 8) {m : Int} (h1 : 0 ≤ m) (h2 : m ≤ 3) :
    ∃ vs : List P, (∀ c ∈ vs, okP 5 c = true) ∧ pureOf (Psi Gv Tb n "_law_sends") [.int d, fm, .lst nm, .lst whos, .lst rs, .int m] = some (.lst vs) := by
  obtain ⟨n, rfl⟩ : ∃ m, n = m + 1 := ⟨n - 1, by omega⟩
  have hm : d % (m + 1) < m + 1 := Int.emod_lt_of_pos _ (by omega)
  have hm0 : 0 ≤ d % (m + 1) := Int.emod_nonneg _ (by omega)
  obtain ⟨gs, eg, hgs, hgl⟩ := road_goals (gi := 0) (gv := 1) hfm (.inl ⟨rfl, rfl⟩) hr [some (.p (.int d)), some (.p fm), some (.p (.lst nm)), some (.p (.lst whos)), some (.p (.lst rs)), some (.p (.int m)), none, none, none, none, none, none, none] 12 1 (by simp) (by omega) rfl []
  have eW := neD_nil (names_ok hw 19)
  have eG := neD_nil (names_ok hgs 19)
  let F : Option D → Option D → Option D → Option D → Lc := fun q8 q9 q10 q11 => [some (.p (.int d)), some (.p fm), some (.p (.lst nm)), some (.p (.lst whos)), some (.p (.lst rs)), some (.p (.int m)), some (.p (.lst gs)), some (.ref 0), q8, q9, q10, q11]
  let Inv : Nat → Lc → Sto → Prop := fun i L S => ∃ (vs : List P) (q8 q9 q10 q11 : Option D), vs.length ≤ i ∧ (∀ c ∈ vs, okP 5 c = true) ∧ L = F q8 q9 q10 q11 ∧ S = [.lst (vs.map .p)]
  obtain ⟨L', S', e, vs, q8, q9, q10, q11, hc, ho, rfl, rfl⟩ := forGo_inv (g := gSet 8) (b := b_n_law_sends_L1 (Psi Gv Tb n)) (Inv := Inv) (xs := Ev.intsFrom 0 (d % (m + 1)).toNat) (k := 0)
    (L := F none none none none) (S := [.lst []]) (fun i v L S hv hI => by
      obtain ⟨rfl, hi⟩ := ints_get hv
      obtain ⟨vs, q8, q9, q10, q11, hc, ho, rfl, rfl⟩ := hI
      simp only [Int.zero_add]
      obtain ⟨dv, hdv, edv⟩ : ∃ z : Int, (0 < z ∧ z < 1152921504606846976) ∧ L2.atI [P.int 4, .int 1000, .int 100000] (i : Int) = some (.int z) := by
        have : i = 0 ∨ i = 1 ∨ i = 2 := by omega
        rcases this with rfl | rfl | rfl
        · exact ⟨4, by decide, by simp⟩
        · exact ⟨1000, by decide, by simp⟩
        · exact ⟨100000, by decide, by simp⟩
      generalize hso : d / dv = so
      obtain ⟨tr, htr, etr⟩ := sum_ok (n := n) (by omega) (so / 12 % 300) hnm
      obtain ⟨mk, hmk, emk⟩ := pickS2 (a := "ma") (b := "mb") (by simp) (by simp) so
      have omk : okP 4 mk = true := hmk.ok 4
      have hlen : vs.length ≤ 1000000 := by omega
      by_cases c1 : whos ≠ [] ∧ so / 2 % 3 = 1
      · obtain ⟨w, hw1, ew⟩ := atI_pick c1.1 (so / 50)
        have ow : okP 4 w = true := (hw w hw1).ok 4
        have hl := len_pos c1.1
        refine ⟨_, F (some (.p (.int (i : Int)))) (some (.p (.int so))) (some (.p tr)) (some (.p mk)), [.lst ((vs ++ [P.tup [mk, tr, .str "who", w]]).map D.p)], rfl, ?_, _, _, _, _, _, by simp; omega, all_snoc ho (by simp [omk, htr, ow]), rfl, rfl⟩
        rw [← map_snoc]
        rw [isEmpty_false c1.1] at eW
        simp [b_n_law_sends_L1, F, edv, hdv, hso, etr, emk, eW, c1.2, lenD, lenP, hl, ew, ownL, hlen]
      · by_cases c2 : gs = []
        · refine ⟨_, F (some (.p (.int (i : Int)))) (some (.p (.int so))) (some (.p tr)) (some (.p mk)), [.lst (vs.map D.p)], rfl, ?_, vs, _, _, _, _, by omega, ho, rfl, rfl⟩
          rw [c2] at eG
          by_cases hwe : whos = []
          · rw [hwe] at eW
            simp [b_n_law_sends_L1, F, edv, hdv, hso, etr, emk, eW, eG, c2, hwe]
          · rw [isEmpty_false hwe] at eW
            have h3 : ¬ so / 2 % 3 = 1 := fun z => c1 ⟨hwe, z⟩
            simp [b_n_law_sends_L1, F, edv, hdv, hso, etr, emk, eW, eG, c2, h3]
        · obtain ⟨w, hw1, ew⟩ := atI_pick c2 (so / 3)
          have ow : okP 4 w = true := (hgs w hw1).ok 4
          have hl := len_pos c2
          rw [isEmpty_false c2] at eG
          have fin : ∀ aa, isS aa → (∀ L S, (vOp dIx (vLst' (vsCons (vC (.str "all")) (vsCons (vC (.str "any")) vsNil))) (vOp dMul2 (vOp dMod (vOp dFloor (vE (eVar 9)) (vC (.int 6))) (vC (.int 2))) (vCall c_int (vsCons (vOp dLt (vE (eVar 8)) (vC (.int 2))) vsNil)))) (F (some (.p (.int (i : Int)))) (some (.p (.int so))) L S) [.lst (vs.map .p)] = some (aa, [.lst (vs.map .p)])) → ∃ L1 L2 S2, gSet 8 (.int (i : Int)) (F q8 q9 q10 q11) = some L1 ∧ b_n_law_sends_L1 (Psi Gv Tb n) L1 [.lst (vs.map .p)] = some (.nx, L2, S2) ∧ Inv (0 + i + 1) L2 S2 := fun aa haa eaa => by
            have oaa : okP 4 aa = true := haa.ok 4
            have eaa := eaa (some (.p tr)) (some (.p mk))
            refine ⟨_, F (some (.p (.int (i : Int)))) (some (.p (.int so))) (some (.p tr)) (some (.p mk)), [.lst ((vs ++ [P.tup [mk, tr, aa, w]]).map D.p)], rfl, ?_, _, _, _, _, _, by simp; omega, all_snoc ho (by simp [omk, htr, ow, oaa]), rfl, rfl⟩
            rw [← map_snoc]
            unfold b_n_law_sends_L1
            generalize (vOp dIx (vLst' (vsCons (vC (.str "all")) (vsCons (vC (.str "any")) vsNil))) (vOp dMul2 (vOp dMod (vOp dFloor (vE (eVar 9)) (vC (.int 6))) (vC (.int 2))) (vCall c_int (vsCons (vOp dLt (vE (eVar 8)) (vC (.int 2))) vsNil)))) = fa at eaa ⊢
            simp only [F] at eaa ⊢
            by_cases hwe : whos = []
            · rw [hwe] at eW eaa ⊢
              simp [edv, hdv, hso, etr, emk, eW, eG, lenD, lenP, hl, ew, ownL, hlen, eaa]
            · rw [isEmpty_false hwe] at eW
              have h3 : ¬ so / 2 % 3 = 1 := fun z => c1 ⟨hwe, z⟩
              simp [edv, hdv, hso, etr, emk, eW, eG, h3, lenD, lenP, hl, ew, ownL, hlen, eaa]
          by_cases hi2 : i < 2
          · have hi3 : (i : Int) < 2 := by omega
            obtain ⟨aa, haa, eaa⟩ := pickS2 (a := "all") (b := "any") (by simp) (by simp) (so / 6)
            have mo : mulOk (so / 6 % 2) 1 = true := mulOk_small (by omega) (by decide)
            exact fin aa haa fun L S => by simp [F, hi2, hi3, c_int, mo, eaa]
          · have hi3 : ¬ (i : Int) < 2 := by omega
            have mo : mulOk (so / 6 % 2) 0 = true := mulOk_small (by omega) (by decide)
            exact fin (.str "all") ⟨_, by simp, rfl⟩ fun L S => by simp [F, hi2, hi3, c_int, mo]) ⟨[], none, none, none, none, by simp, fun _ h => (by cases h), rfl, rfl⟩
  refine ⟨vs, ho, ?_⟩
  have hq : (d % (m + 1)).natAbs < 1000000 := by omega
  have hz : 0 < m + 1 := by omega
  rw [e_n_law_sends, pureOf_fn]
  simp [b_n_law_sends, vComp, road_few hrl, upL, eg, hq, hz]
  simp [F] at e
  simp [e]
end My
namespace My
open PySem L2 Ev
@[simp] theorem vSl_ev (a : EV) (lo hi : EO) (L : Lc) (S : Sto) : vSl a lo hi L S = bnd (a L S) fun x S1 => bnd (lo L S1) fun i S2 => bnd (hi L S2) fun j S3 => (dSl x i j).map fun v => (v, S3) := rfl
@[simp] theorem oNone_ev (L : Lc) (S : Sto) : oNone L S = some (none, S) := rfl
@[simp] theorem oSome_ev (a : EV) (L : Lc) (S : Sto) : oSome a L S = bnd (a L S) fun v S1 => match v with | .int i => some (some i, S1) | _ => none := rfl
@[simp] theorem dSl_lst (xs : List P) (lo hi : Option Int) : dSl (.lst xs) lo hi = some (.lst (cut xs lo hi)) := rfl
theorem cut_sub {xs : List P} {lo hi : Option Int} : (∀ x ∈ cut xs lo hi, x ∈ xs) ∧ (cut xs lo hi).length ≤ xs.length := by
  unfold cut
  refine ⟨fun x hx => ?_, ?_⟩
  · first
      | exact List.mem_of_mem_take (List.mem_of_mem_drop hx)
      | exact List.mem_of_mem_drop (List.mem_of_mem_take hx)
  · simp only [List.length_take, List.length_drop]; omega
theorem step_if (ψ : Str → GF) {d0 : Int} {ds : List P} {fm rooms cells roads : P} {names whos snd : List P} (hn : ∀ x ∈ names, isS x) (hw : ∀ x ∈ whos, isS x) (hs : ∀ x ∈ snd, isS x) :
    ∃ tk fr mo q11 q12, okP 2 tk = true ∧ (∀ x ∈ fr, isS x) ∧ fr.length ≤ names.length ∧ (∀ x ∈ mo, isS x) ∧ mo.length ≤ 1 ∧
      b_n_law_step_L1 ψ [some (.p (.lst (.int d0 :: ds))), some (.p fm), some (.p rooms), some (.p cells), some (.p (.lst whos)), some (.p roads), some (.p (.lst names)), some (.p (.lst snd)), some (.p .non), some (.p (.lst names)), some (.p (.lst [])), none, none, none, none, none, none, none] []
        = some (.nx, [some (.p (.lst (.int d0 :: ds))), some (.p fm), some (.p rooms), some (.p cells), some (.p (.lst whos)), some (.p roads), some (.p (.lst names)), some (.p (.lst snd)), some (.p tk), some (.p (.lst fr)), some (.p (.lst mo)), q11, q12, none, none, none, none, none], []) := by
  have eS := neD_nil (names_ok hs 19)
  have eN := neD_nil (names_ok hn 19)
  have eW := neD_nil (names_ok hw 19)
  by_cases c0 : snd ≠ [] ∧ d0 % 3 = 1
  · rw [isEmpty_false c0.1] at eS
    obtain ⟨s, hs1, es⟩ := atI_pick c0.1 (d0 / 24)
    have hls := len_pos c0.1
    obtain ⟨mk, hmk, emk⟩ := pickS2 (a := "ma") (b := "mb") (by simp) (by simp) (d0 / 12)
    have os : okP 1 s = true := (hs s hs1).ok 1
    have omk : okP 1 mk = true := hmk.ok 1
    have part1 : ∃ into fr, isS into ∧ (∀ x ∈ fr, isS x) ∧ fr.length ≤ names.length ∧ ((names ≠ [] ∧ d0 / 3 % 2 = 1 ∧ L2.atI names (-1) = some into ∧ fr = cut names none (some (-1))) ∨ ((names = [] ∨ ¬ d0 / 3 % 2 = 1) ∧ into = .str "" ∧ fr = names)) := by
      by_cases c1 : names ≠ [] ∧ d0 / 3 % 2 = 1
      · obtain ⟨x, hx, ex⟩ := atI_last c1.1
        exact ⟨x, _, hn x hx, fun y hy => hn y (cut_sub.1 y hy), cut_sub.2, .inl ⟨c1.1, c1.2, ex, rfl⟩⟩
      · refine ⟨_, _, ⟨_, by simp, rfl⟩, hn, Nat.le_refl _, .inr ⟨?_, rfl, rfl⟩⟩
        by_cases z : names = []
        · exact .inl z
        · exact .inr fun q => c1 ⟨z, q⟩
    have part2 : ∃ who, isS who ∧ ((whos ≠ [] ∧ d0 / 6 % 2 = 1 ∧ L2.atI whos (d0 / 200 % (whos.length : Int)) = some who) ∨ ((whos = [] ∨ ¬ d0 / 6 % 2 = 1) ∧ who = .str "")) := by
      by_cases c1 : whos ≠ [] ∧ d0 / 6 % 2 = 1
      · obtain ⟨x, hx, ex⟩ := atI_pick c1.1 (d0 / 200)
        exact ⟨x, hw x hx, .inl ⟨c1.1, c1.2, ex⟩⟩
      · refine ⟨_, ⟨_, by simp, rfl⟩, .inr ⟨?_, rfl⟩⟩
        by_cases z : whos = []
        · exact .inl z
        · exact .inr fun q => c1 ⟨z, q⟩
    obtain ⟨into, fr, hi, hf, hfl, p1⟩ := part1
    obtain ⟨who, hwho, p2⟩ := part2
    have oi : okP 1 into = true := hi.ok 1
    have ow : okP 1 who = true := hwho.ok 1
    refine ⟨.tup [mk, s, into, who], fr, [.str "it"], some (.p into), some (.p who), by simp [omk, os, oi, ow], hf, hfl, fun x hx => ⟨"it", by simp, by simpa using hx⟩, by simp, ?_⟩
    rcases p1 with ⟨n1, n2, n3, rfl⟩ | ⟨n1, rfl, rfl⟩
    · rw [isEmpty_false n1] at eN
      rcases p2 with ⟨m1, m2, m3⟩ | ⟨m1, rfl⟩
      · rw [isEmpty_false m1] at eW
        have hlw := len_pos m1
        simp [b_n_law_step_L1, eS, c0.2, eN, n2, n3, eW, m2, m3, lenD, lenP, hls, hlw, es, emk]
      · rcases m1 with m1 | m1
        · subst m1
          simp [b_n_law_step_L1, eS, c0.2, eN, n2, n3, eW, lenD, lenP, hls, es, emk]
        · cases hwe : whos.isEmpty <;> (rw [hwe] at eW; simp [b_n_law_step_L1, eS, c0.2, eN, n2, n3, eW, m1, lenD, lenP, hls, es, emk])
    · rcases n1 with n1 | n1
      · subst n1
        rcases p2 with ⟨m1, m2, m3⟩ | ⟨m1, rfl⟩
        · rw [isEmpty_false m1] at eW
          have hlw := len_pos m1
          simp [b_n_law_step_L1, eS, c0.2, eN, eW, m2, m3, lenD, lenP, hls, hlw, es, emk]
        · rcases m1 with m1 | m1
          · subst m1
            simp [b_n_law_step_L1, eS, c0.2, eN, eW, lenD, lenP, hls, es, emk]
          · cases hwe : whos.isEmpty <;> (rw [hwe] at eW; simp [b_n_law_step_L1, eS, c0.2, eN, eW, m1, lenD, lenP, hls, es, emk])
      · cases hne : fr.isEmpty <;> rw [hne] at eN <;> (
        rcases p2 with ⟨m1, m2, m3⟩ | ⟨m1, rfl⟩
        · rw [isEmpty_false m1] at eW
          have hlw := len_pos m1
          simp [b_n_law_step_L1, eS, c0.2, eN, n1, eW, m2, m3, lenD, lenP, hls, hlw, es, emk]
        · rcases m1 with m1 | m1
          · subst m1
            simp [b_n_law_step_L1, eS, c0.2, eN, n1, eW, lenD, lenP, hls, es, emk]
          · cases hwe : whos.isEmpty <;> (rw [hwe] at eW; simp [b_n_law_step_L1, eS, c0.2, eN, n1, eW, m1, lenD, lenP, hls, es, emk]))
  · refine ⟨.non, names, [], none, none, rfl, hn, Nat.le_refl _, fun _ h => (by cases h), by simp, ?_⟩
    by_cases z : snd = []
    · subst z
      simp [b_n_law_step_L1, eS]
    · have z2 : ¬ d0 % 3 = 1 := fun q => c0 ⟨z, q⟩
      rw [isEmpty_false z] at eS
      simp [b_n_law_step_L1, eS, z2]
end My
namespace My
open PySem L2 Ev
theorem cel_names {cs : List P} (hc : ∀ c ∈ cs, isCel c) (L : Lc) (j : Nat) (hj : j < L.length) (S : Sto) :
    ∃ ys, compGo (gSet j) bYes (vOp dIx (vE (eVar j)) (vC (.int 0))) cs L S = some (ys, S) ∧ (∀ y ∈ ys, isS y) ∧ ys.length = cs.length := by
  refine compGo_all (Inv := fun L' => ∃ d, L' = L.set j d) (fun v hv L' hL => ?_) ⟨L[j], (List.set_getElem_self hj).symm⟩
  obtain ⟨d, rfl⟩ := hL
  obtain ⟨x, lo, hi, at', hx, rfl⟩ := hc v hv
  have g1 : ((L.set j d).set j (some (.p (.tup [.str x, .int lo, .int hi, .int at']))))[j]? = some (some (.p (.tup [.str x, .int lo, .int hi, .int at']))) := by
    rw [List.getElem?_set_self (by simpa using hj)]
  exact ⟨_, .str x, rfl, ⟨_, List.set_set ..⟩, by simp [-List.set_set, g1], x, hx, rfl⟩
theorem step_ok {n : Nat} (hn : 3 ≤ n) (d0 d1 d2 d3 : Int) {fm : P} (hfm : isS fm) {rooms cells whos rs : List P} (hrm : ∀ x ∈ rooms, isS x) (hr0 : rooms ≠ []) (hc : ∀ c ∈ cells, isCel c) (hcl : cells.length ≤ 3) (hw : ∀ x ∈ whos, isS x) (hr : ∀ c ∈ rs, isRoad c) (hrl : rs.length ≤ 8) :
    ∃ ys : List P, (∀ y ∈ ys, okP 8 y = true) ∧ ys.length = 6 ∧ pureOf (Psi Gv Tb n "_law_step") [.lst [.int d0, .int d1, .int d2, .int d3], fm, .lst rooms, .lst cells, .lst whos, .lst rs] = some (.tup ys) := by
  obtain ⟨n, rfl⟩ : ∃ m, n = m + 1 := ⟨n - 1, by omega⟩
  obtain ⟨names, e1, hnm, hnl⟩ := cel_names hc [some (.p (.lst [.int d0, .int d1, .int d2, .int d3])), some (.p fm), some (.p (.lst rooms)), some (.p (.lst cells)), some (.p (.lst whos)), some (.p (.lst rs)), none, none, none, none, none, none, none, none, none, none, none, none, none] 18 (by simp) []
  obtain ⟨snd, e2, hsn, _⟩ := road_goals (gi := 1) (gv := 0) hfm (.inr ⟨rfl, rfl⟩) hr [some (.p (.lst [.int d0, .int d1, .int d2, .int d3])), some (.p fm), some (.p (.lst rooms)), some (.p (.lst cells)), some (.p (.lst whos)), some (.p (.lst rs)), some (.p (.lst names)), none, none, none, none, none, none, none, none, none, none, none, none] 18 1 (by simp) (by omega) rfl []
  obtain ⟨tk, fr, mo, q11, q12, htk, hfr, hfl, hmo, hml, e3⟩ := step_if (Psi Gv Tb n) (d0 := d0) (ds := [.int d1, .int d2, .int d3]) (fm := fm) (rooms := .lst rooms) (cells := .lst cells) (roads := .lst rs) hnm hw hsn
  have hnm2 : ∀ x ∈ names ++ mo, isS x := fun x hx => (List.mem_append.mp hx).elim (hnm x) (hmo x)
  have hcap : names.length + mo.length ≤ 1000000 := by omega
  have hcf : cells.length ≤ 1000000 := by omega
  let F : Option D → Option D → Lc := fun q14 q15 => [some (.p (.lst [.int d0, .int d1, .int d2, .int d3])), some (.p fm), some (.p (.lst rooms)), some (.p (.lst cells)), some (.p (.lst whos)), some (.p (.lst rs)), some (.p (.lst names)), some (.p (.lst snd)), some (.p tk), some (.p (.lst fr)), some (.p (.lst mo)), q11, q12, some (.ref 0), q14, q15, none, none]
  let Inv : Nat → Lc → Sto → Prop := fun i L S => ∃ (vs : List P) (q14 q15 : Option D), vs.length ≤ i ∧ (∀ c ∈ vs, okP 5 c = true) ∧ L = F q14 q15 ∧ S = [.lst (vs.map .p)]
  obtain ⟨L', S', e4, chg, q14, q15, _, hch, rfl, rfl⟩ := forGo_inv (g := gTupP [gSet 14, gSet 15]) (b := b_n_law_step_L2 (Psi Gv Tb n)) (Inv := Inv) (xs := enumP 0 fr) (k := 0) (L := F none none) (S := [.lst []]) (fun i v L S hv hI => by
      obtain ⟨x, hx1, rfl⟩ := enum_get hv
      have hi := get_lt hx1
      have ox : okP 4 x = true := (hfr x (List.mem_of_getElem? hx1)).ok 4
      obtain ⟨vs, q14, q15, hc, ho, rfl, rfl⟩ := hI
      have hlen : vs.length ≤ 1000000 := by omega
      obtain ⟨a, b, ha, hb, ea, eb⟩ : ∃ a b : Int, (0 < a ∧ a < 1152921504606846976) ∧ (0 < b ∧ b < 1152921504606846976) ∧ L2.atI [P.int 1, .int 1000, .int 1000000] (i : Int) = some (.int a) ∧ L2.atI [P.int 2, .int 2000, .int 2000000] (i : Int) = some (.int b) := by
        have : i = 0 ∨ i = 1 ∨ i = 2 := by omega
        rcases this with rfl | rfl | rfl
        · exact ⟨1, 2, by decide, by decide, by simp, by simp⟩
        · exact ⟨1000, 2000, by decide, by decide, by simp, by simp⟩
        · exact ⟨1000000, 2000000, by decide, by decide, by simp, by simp⟩
      by_cases h : d1 / a % 2 = 1
      · obtain ⟨tr, htr, etr⟩ := sum_ok (n := n) (by omega) (d1 / b % 300) hnm2
        refine ⟨_, F (some (.p (.int (i : Int)))) (some (.p x)), [.lst ((vs ++ [P.tup [x, tr]]).map D.p)], rfl, ?_, _, _, _, by simp; omega, all_snoc ho (by simp [ox, htr]), rfl, rfl⟩
        rw [← map_snoc]
        simp [b_n_law_step_L2, F, ea, eb, ha, hb, h, hcap, etr, ownL, hlen]
      · refine ⟨_, F (some (.p (.int (i : Int)))) (some (.p x)), [.lst (vs.map D.p)], rfl, ?_, vs, _, _, by omega, ho, rfl, rfl⟩
        simp [b_n_law_step_L2, F, ea, ha, h]) ⟨[], none, none, by simp, fun _ h => (by cases h), rfl, rfl⟩
  obtain ⟨z, hz0, hz1, hz2⟩ : ∃ z : Int, 0 ≤ z ∧ z ≤ 1 ∧ c_int [.bl (decide (3 < (rooms.length : Int)))] = some (.int z) := by
    by_cases h : 3 < (rooms.length : Int)
    · exact ⟨1, by decide, by decide, by simp [h, c_int]⟩
    · exact ⟨0, by decide, by decide, by simp [h, c_int]⟩
  obtain ⟨sn, hsd, e5⟩ := sends_ok (n := n) (by omega) d2 hfm hnm2 hw hr hrl (m := 2 + z) (by omega) (by omega)
  obtain ⟨wh, hwh, e6⟩ := cond_ok (n := n) (by omega) (d3 % 27000) hnm
  obtain ⟨r1, hr1, e7⟩ := atI_pick hr0 (d3 / 27000)
  obtain ⟨r2, hr2, e8⟩ := atI_pick hr0 (d3 / 216000)
  have hl := len_pos hr0
  refine ⟨[r1, wh, tk, .lst chg, .lst sn, r2], fun y hy => ?_, rfl, ?_⟩
  · simp only [List.mem_cons, List.not_mem_nil, or_false] at hy
    rcases hy with rfl | rfl | rfl | rfl | rfl | rfl
    · exact (hrm _ hr1).ok 8
    · exact okP_mono hwh (by omega)
    · exact okP_mono htk (by omega)
    · exact okP_mono (okL hch) (by omega)
    · exact okP_mono (okL hsd) (by omega)
    · exact (hrm _ hr2).ok 8
  · rw [e_n_law_step, pureOf_fn]
    simp only [F] at e4
    simp [b_n_law_step, vComp, hcf, road_few hrl, upL, e1, e2, c_list, e3, e4, hcap, lenD, lenP, hz2, e5, e6, hl, e7, e8, toP_lst]
end My
namespace My
open PySem L2 Ev
noncomputable def crewOf : P → Nat
  | .tup (_ :: .int c :: _) => c.toNat
  | _ => 0
noncomputable def isStep (v : P) : Prop := ∃ x ys, PyData.strOk x = true ∧ (∀ y ∈ ys, okP 8 y = true) ∧ v = .tup (.str x :: ys)
theorem isStep.ok {v : P} (h : isStep v) : okP 9 v = true := by
  obtain ⟨x, ys, h1, h2, rfl⟩ := h
  simp [h1]; exact h2
structure Fam (nm : Str) (crew : Nat) (rooms cells whos steps : List P) : Prop where
  hnm : PyData.strOk nm = true
  hcr : crew ≤ 4
  hro : ∀ x ∈ rooms, isS x
  hce : ∀ x ∈ cells, isCel x
  cl : cells.length ≤ 3
  hwh : ∀ x ∈ whos, isS x
  wl : whos.length ≤ 2
  s0 : steps ≠ []
  hst : ∀ x ∈ steps, isStep x
noncomputable def isFam (v : P) : Prop := ∃ nm crew rooms cells whos steps, Fam nm crew rooms cells whos steps ∧ v = .tup [.str nm, .int (crew : Int), .lst rooms, .lst cells, .lst whos, .lst steps]
theorem names_made {n : Nat} (hn : 2 ≤ n) (ns : List Int) (j : Nat) (o : Int) (L : Lc) (hj : j < L.length) (h0 : L[0]? = some (some (.p (scr ns)))) (hj0 : 0 ≠ j) {m : Nat} (ho : 0 ≤ o) (hm : o + m ≤ 16) (S : Sto) :
    ∃ ys, compGo (gSet j) bYes (vCall (pureOf (Psi Gv Tb n "_law_name")) (vsCons (vE (eVar 0)) (vsCons (vOp dAdd2 (vC (.int o)) (vE (eVar j))) vsNil))) (Ev.intsFrom 0 m) L S = some (ys, S) ∧ (∀ y ∈ ys, isS y) ∧ ys.length = (Ev.intsFrom 0 m).length := by
  refine compGo_all (Inv := fun L' => ∃ d, L' = L.set j d) (fun v hv L' hL => ?_) ⟨L[j], (List.set_getElem_self hj).symm⟩
  obtain ⟨d, rfl⟩ := hL
  obtain ⟨i, rfl, hi⟩ := ints_mem hv
  obtain ⟨x, hx, ex⟩ := name_ok hn ns (k := o + (0 + (i : Int))) (by omega) (by omega)
  have g1 : ((L.set j d).set j (some (.p (.int (0 + (i : Int))))))[j]? = some (some (.p (.int (0 + (i : Int))))) := by
    rw [List.getElem?_set_self (by simpa using hj)]
  have g2 : ((L.set j d).set j (some (.p (.int (0 + (i : Int))))))[0]? = some (some (.p (scr ns))) := by
    rw [List.getElem?_set_ne (Ne.symm hj0), List.getElem?_set_ne (Ne.symm hj0)]; exact h0
  simp only [Int.zero_add] at g1 g2 ex ⊢
  exact ⟨_, .str x, rfl, ⟨_, List.set_set ..⟩, by simp [-List.set_set, g1, g2, ex], x, hx, rfl⟩
theorem draws4 {n : Nat} (hn : 1 ≤ n) (ns : List Int) (fi : Int) (h0 : 0 ≤ fi) (h1 : fi < 900) (L : Lc) (hl : L.length = 14) (g0 : L[0]? = some (some (.p (scr ns)))) (g12 : L[12]? = some (some (.p (.int fi)))) (S : Sto) :
    ∃ d0 d1 d2 d3 : Int, compGo (gSet 13) bYes (vCall (pureOf (Psi Gv Tb n "_law_mix")) (vsCons (vCall (pureOf (Psi Gv Tb n "_law_cell_at")) (vsCons (vE (eVar 0)) (vsCons (vOp dAdd2 (vC (.int 5)) (vOp dMod (vOp dAdd2 (vE (eVar 12)) (vE (eVar 13))) (vC (.int 24)))) vsNil))) (vsCons (vOp dAdd2 (vOp dAdd2 (vC (.int 11)) (vE (eVar 12))) (vE (eVar 13))) vsNil))) (Ev.intsFrom 0 4) L S = some ([.int d0, .int d1, .int d2, .int d3], S) := by
  obtain ⟨ys, e, hy, hyl⟩ := compGo_all (Q := fun v => ∃ d : Int, v = .int d) (g := gSet 13) (e := vCall (pureOf (Psi Gv Tb n "_law_mix")) (vsCons (vCall (pureOf (Psi Gv Tb n "_law_cell_at")) (vsCons (vE (eVar 0)) (vsCons (vOp dAdd2 (vC (.int 5)) (vOp dMod (vOp dAdd2 (vE (eVar 12)) (vE (eVar 13))) (vC (.int 24)))) vsNil))) (vsCons (vOp dAdd2 (vOp dAdd2 (vC (.int 11)) (vE (eVar 12))) (vE (eVar 13))) vsNil))) (S := S) (xs := Ev.intsFrom 0 4) (Inv := fun L' => ∃ d, L' = L.set 13 d) (fun v hv L' hL => by
    obtain ⟨d, rfl⟩ := hL
    obtain ⟨i, rfl, hi⟩ := ints_mem hv
    obtain ⟨c, r, hr, e1, e2⟩ := draw_ok hn ns (k := 5 + (fi + (0 + (i : Int))) % 24) (p := 11 + fi + (0 + (i : Int))) (by omega) (by omega) (by omega)
    have k1 : ((L.set 13 d).set 13 (some (.p (.int (0 + (i : Int))))))[13]? = some (some (.p (.int (0 + (i : Int))))) := by
      rw [List.getElem?_set_self (by simp [hl])]
    have k2 : ((L.set 13 d).set 13 (some (.p (.int (0 + (i : Int))))))[0]? = some (some (.p (scr ns))) := by
      rw [List.getElem?_set_ne (by decide), List.getElem?_set_ne (by decide)]; exact g0
    have k3 : ((L.set 13 d).set 13 (some (.p (.int (0 + (i : Int))))))[12]? = some (some (.p (.int fi))) := by
      rw [List.getElem?_set_ne (by decide), List.getElem?_set_ne (by decide)]; exact g12
    simp only [Int.zero_add] at k1 k2 k3 e1 e2 ⊢
    exact ⟨_, .int r, rfl, ⟨_, List.set_set ..⟩, by simp [-List.set_set, k1, k2, k3, e1, e2], r, rfl⟩) ⟨L[13]'(by omega), (List.set_getElem_self (by omega)).symm⟩
  rw [ints_len] at hyl
  match ys, hyl with
  | [a, b, c, d], _ =>
    obtain ⟨a, rfl⟩ := hy a (by simp)
    obtain ⟨b, rfl⟩ := hy b (by simp)
    obtain ⟨c, rfl⟩ := hy c (by simp)
    obtain ⟨d, rfl⟩ := hy d (by simp)
    exact ⟨a, b, c, d, e⟩
theorem family_ok {n : Nat} (hn : 4 ≤ n) (ns : List Int) (k : Nat) (hk : k ≤ 3) {nm : Str} (hnm : PyData.strOk nm = true) (crew : Nat) (hcr : crew ≤ 4) (wide : Bool) {rs : List P} (hr : ∀ c ∈ rs, isRoad c) (hrl : rs.length ≤ 8) :
    ∃ v, isFam v ∧ crewOf v = crew ∧ pureOf (Psi Gv Tb n "_law_family") [scr ns, .int (k : Int), .str nm, .int (crew : Int), .bl wide, .lst rs] = some v := by
  obtain ⟨n, rfl⟩ : ∃ m, n = m + 1 := ⟨n - 1, by omega⟩
  obtain ⟨z, t, hz0, hz1, ht0, ht1, ez, et⟩ : ∃ z t : Int, 0 ≤ z ∧ z ≤ 1 ∧ 0 < t ∧ t ≤ 8 ∧ c_int [.bl wide] = some (.int z) ∧ L2.atI [P.int 3, .int 8] z = some (.int t) := by
    cases wide
    · exact ⟨0, 3, by decide, by decide, by decide, by decide, by simp [c_int], by simp⟩
    · exact ⟨1, 8, by decide, by decide, by decide, by decide, by simp [c_int], by simp⟩
  obtain ⟨cells, hcl, hc, ec⟩ := cells_ok (n := n) (by omega) ns (f := (k : Int)) (m := 2 + z) (by omega) (by omega) (by omega)
  obtain ⟨c9, e91⟩ := cell_ok (n := n) (by omega) ns (k := 2 + (k : Int)) (by omega)
  obtain ⟨a9, ha9, e92⟩ := mix_ok (n := n) (by omega) c9 (p := 9) (by omega) (by omega)
  obtain ⟨a8, ha8, e82⟩ := mix_ok (n := n) (by omega) c9 (p := 8) (by omega) (by omega)
  obtain ⟨a7, ha7, e72⟩ := mix_ok (n := n) (by omega) c9 (p := 7) (by omega) (by omega)
  have h9a : 0 ≤ a9 % t := Int.emod_nonneg _ (by omega)
  have h9b : a9 % t < t := Int.emod_lt_of_pos _ ht0
  have h7a : 0 ≤ a7 % t := Int.emod_nonneg _ (by omega)
  have h7b : a7 % t < t := Int.emod_lt_of_pos _ ht0
  have h8a : 0 ≤ a8 % (2 + z) := Int.emod_nonneg _ (by omega)
  have h8b : a8 % (2 + z) < 2 + z := Int.emod_lt_of_pos _ (by omega)
  let A : List (Option D) := [some (.p (scr ns)), some (.p (.int (k : Int))), some (.p (.str nm)), some (.p (.int (crew : Int))), some (.p (.bl wide)), some (.p (.lst rs))]
  obtain ⟨rooms, er, hro, hrol⟩ := names_made (n := n) (by omega) ns 11 4 (A ++ [some (.p (.lst cells)), some (.p (.int a9)), none, none, none, none, none]) (by simp [A]) rfl (by decide) (m := (1 + a9 % t).toNat) (by decide) (by omega) []
  obtain ⟨whos, ew, hw, hwl⟩ := names_made (n := n) (by omega) ns 11 10 (A ++ [some (.p (.lst cells)), some (.p (.int a8)), some (.p (.lst rooms)), none, none, none, none]) (by simp [A]) rfl (by decide) (m := (a8 % (2 + z)).toNat) (by decide) (by omega) []
  rw [ints_len] at hrol hwl
  have hr0 : rooms ≠ [] := fun q => by rw [q] at hrol; simp at hrol; omega
  let F : Option D → Option D → Option D → Lc := fun q7 q11 q12 => A ++ [some (.p (.lst cells)), q7, some (.p (.lst rooms)), some (.p (.lst whos)), some (.ref 0), q11, q12]
  let Inv : Nat → Lc → Sto → Prop := fun i L S => ∃ (vs : List P) (q7 q11 q12 : Option D), vs.length = i ∧ (∀ c ∈ vs, isStep c) ∧ L = F q7 q11 q12 ∧ S = [.lst (vs.map .p)]
  obtain ⟨L', S', e4, stp, q7, q11, q12, hsl, hst, rfl, rfl⟩ := forGo_inv (g := gSet 11) (b := b_n_law_family_L1 (Psi Gv Tb n)) (Inv := Inv) (xs := Ev.intsFrom 0 (1 + a7 % t).toNat) (k := 0) (L := F (some (.p (.int a8))) none none) (S := [.lst []]) (fun i v L S hv hI => by
      obtain ⟨rfl, hi⟩ := ints_get hv
      obtain ⟨vs, q7, q11, q12, hc1, ho, rfl, rfl⟩ := hI
      simp only [Int.zero_add]
      have m1 : mulOk 8 (k : Int) = true := mulOk_small (by decide) (by omega)
      have m2 : mulOk 4 (8 * (k : Int) + (i : Int)) = true := mulOk_small (by decide) (by omega)
      obtain ⟨d0, d1, d2, d3, ed⟩ := draws4 (n := n) (by omega) ns (4 * (8 * (k : Int) + (i : Int))) (by omega) (by omega) (F q7 (some (.p (.int (i : Int)))) (some (.p (.int (4 * (8 * (k : Int) + (i : Int)))))) ++ [none]) rfl rfl rfl [.lst (vs.map .p)]
      obtain ⟨x, hx, ex⟩ := name_ok (n := n) (by omega) ns (k := 8 + (i : Int)) (by omega) (by omega)
      obtain ⟨ys, hys, hyl, es⟩ := step_ok (n := n) (by omega) d0 d1 d2 d3 ⟨nm, hnm, rfl⟩ hro hr0 hc (by omega) hw hr hrl
      have hlen : vs.length ≤ 1000000 := by omega
      have hcap : 1 + ys.length ≤ 1000000 := by omega
      have eadd : dAdd2 (.tup [.str x]) (.tup ys) = some (.tup (.str x :: ys)) := by
        show (if (!([P.str x] : List P).isEmpty && capN (([P.str x] : List P).length + ys.length)) = true then some (P.tup ([P.str x] ++ ys)) else none) = _
        rw [if_pos (by rw [Bool.and_eq_true, capN_ev]; exact ⟨rfl, by simpa using hcap⟩)]; rfl
      refine ⟨_, F (some (.p (.lst [.int d0, .int d1, .int d2, .int d3]))) (some (.p (.int (i : Int)))) (some (.p (.int (4 * (8 * (k : Int) + (i : Int)))))), [.lst ((vs ++ [P.tup (.str x :: ys)]).map D.p)], rfl, ?_, _, _, _, _, by simp; omega, all_snoc ho ⟨x, ys, hx, hys, rfl⟩, rfl, rfl⟩
      rw [← map_snoc]
      simp only [F, A, List.cons_append, List.nil_append] at ed
      simp [b_n_law_family_L1, F, A, m1, m2, vComp, ints_len, upL, ed, ex, es, eadd, ownL, hlen]) ⟨[], _, none, none, rfl, fun _ h => (by cases h), rfl, rfl⟩
  rw [ints_len] at hsl
  refine ⟨_, ⟨nm, crew, rooms, cells, whos, stp, ⟨hnm, hcr, hro, hc, by omega, hw, by omega, fun q => by rw [q] at hsl; simp at hsl; omega, hst⟩, rfl⟩, by simp [crewOf], ?_⟩
  have hz2 : 0 < 2 + z := by omega
  have q1 : (1 + a9 % t).natAbs < 1000000 := by omega
  have q2 : (1 + a7 % t).natAbs < 1000000 := by omega
  have q3 : (a8 % (2 + z)).natAbs < 1000000 := by omega
  have q4 : (1 + a9 % t).toNat ≤ 1000000 := by omega
  have q5 : (a8 % (2 + z)).toNat ≤ 1000000 := by omega
  rw [e_n_law_family, pureOf_fn]
  simp only [F, A, List.cons_append, List.nil_append] at e4 er ew
  simp [b_n_law_family, ez, et, ec, e91, e92, e82, e72, ht0, hz2, q1, q2, q3, q4, q5, vComp, ints_len, upL, er, ew, e4]
end My
namespace My
open PySem L2 Ev
theorem names_made0 {n : Nat} (hn : 2 ≤ n) (ns : List Int) (j : Nat) (L : Lc) (hj : j < L.length) (h0 : L[0]? = some (some (.p (scr ns)))) (hj0 : 0 ≠ j) {m : Nat} (hm : m ≤ 16) (S : Sto) :
    ∃ ys, compGo (gSet j) bYes (vCall (pureOf (Psi Gv Tb n "_law_name")) (vsCons (vE (eVar 0)) (vsCons (vE (eVar j)) vsNil))) (Ev.intsFrom 0 m) L S = some (ys, S) ∧ (∀ y ∈ ys, isS y) ∧ ys.length = (Ev.intsFrom 0 m).length := by
  refine compGo_all (Inv := fun L' => ∃ d, L' = L.set j d) (fun v hv L' hL => ?_) ⟨L[j], (List.set_getElem_self hj).symm⟩
  obtain ⟨d, rfl⟩ := hL
  obtain ⟨i, rfl, hi⟩ := ints_mem hv
  obtain ⟨x, hx, ex⟩ := name_ok hn ns (k := 0 + (i : Int)) (by omega) (by omega)
  have g1 : ((L.set j d).set j (some (.p (.int (0 + (i : Int))))))[j]? = some (some (.p (.int (0 + (i : Int))))) := by
    rw [List.getElem?_set_self (by simpa using hj)]
  have g2 : ((L.set j d).set j (some (.p (.int (0 + (i : Int))))))[0]? = some (some (.p (scr ns))) := by
    rw [List.getElem?_set_ne (Ne.symm hj0), List.getElem?_set_ne (Ne.symm hj0)]; exact h0
  simp only [Int.zero_add] at g1 g2 ex ⊢
  exact ⟨_, .str x, rfl, ⟨_, List.set_set ..⟩, by simp [-List.set_set, g1, g2, ex], x, hx, rfl⟩
noncomputable def capF : Nat → Nat
  | 1 => 4
  | 2 => 2
  | _ => 1
noncomputable def crOk (m : Nat) (c : P) : Prop := 1 ≤ crewOf c ∧ crewOf c ≤ capF m
structure Pln (fams roads wishes : List P) : Prop where
  hf : ∀ f ∈ fams, isFam f
  fl : fams.length ≤ 4
  f1 : 1 ≤ fams.length
  hc : ∀ f ∈ fams, crOk fams.length f
  hr : ∀ r ∈ roads, isRoad r
  rl : roads.length ≤ 8
  hw : ∀ w ∈ wishes, okP 3 w = true
theorem atI_map {α β : Type} (f : α → β) (xs : List α) (i : Int) : L2.atI (xs.map f) i = (L2.atI xs i).map f := by
  unfold L2.atI
  rw [List.length_map]
  cases L2.ixN xs.length i with
  | none => rfl
  | some j => simp
theorem plan_ok {n : Nat} (hn : 5 ≤ n) (ns : List Int) : ∃ fams roads wishes, Pln fams roads wishes ∧ pureOf (Psi Gv Tb n "_law_plan") [scr ns, .int 3] = some (.tup [.lst fams, .lst roads, .lst wishes]) := by
  obtain ⟨n, rfl⟩ : ∃ m, n = m + 1 := ⟨n - 1, by omega⟩
  obtain ⟨tot, e0⟩ := cell_ok (n := n) (by omega) ns (k := 0) (by omega)
  generalize hwd : decide (tot / 64 % 8 = 1) = wide
  obtain ⟨z, t, hz0, hz1, ht0, ht1, ez, et⟩ : ∃ z t : Int, 0 ≤ z ∧ z ≤ 1 ∧ 0 < t ∧ t ≤ 4 ∧ c_int [.bl wide] = some (.int z) ∧ L2.atI [P.int 2, .int 4] z = some (.int t) := by
    cases wide
    · exact ⟨0, 2, by decide, by decide, by decide, by decide, by simp [c_int], by simp⟩
    · exact ⟨1, 4, by decide, by decide, by decide, by decide, by simp [c_int], by simp⟩
  have hm0 : 0 ≤ tot % t := Int.emod_nonneg _ (by omega)
  have hm1 : tot % t < t := Int.emod_lt_of_pos _ ht0
  obtain ⟨m, hm⟩ : ∃ m : Nat, 1 + tot % t = (m : Int) := ⟨(1 + tot % t).toNat, by omega⟩
  have hm2 : 1 ≤ m ∧ m ≤ 4 := by omega
  obtain ⟨names, en, hnm, hnl⟩ := names_made0 (n := n) (by omega) ns 8 [some (.p (scr ns)), some (.p (.int 3)), some (.p (.int tot)), some (.p (.bl wide)), some (.p (.int (m : Int))), none, none, none, none, none, none, none, none, none] (by simp) rfl (by decide) (m := m) (by omega) []
  rw [ints_len] at hnl
  obtain ⟨roads, hrl, hr, er⟩ := roads_ok (n := n) (by omega) ns hnm (by omega) (m := 2 + z) (by omega)
  let F : Option D → Option D → Option D → Option D → Option D → Option D → Lc := fun q8 q9 q10 q11 q12 q13 => [some (.p (scr ns)), some (.p (.int 3)), some (.p (.int tot)), some (.p (.bl wide)), some (.p (.int (m : Int))), some (.p (.lst names)), some (.p (.lst roads)), some (.ref 0), q8, q9, q10, q11, q12, q13]
  let Inv : Nat → Lc → Sto → Prop := fun i L S => ∃ (vs : List P) (q8 q9 q10 : Option D), vs.length = i ∧ (∀ c ∈ vs, isFam c ∧ crOk m c) ∧ L = F q8 q9 q10 none none none ∧ S = [.lst (vs.map .p)]
  obtain ⟨L', S', e1, fams, q8, q9, q10, hfl, hfb, rfl, rfl⟩ := forGo_inv (g := gTupP [gSet 8, gSet 9]) (b := b_n_law_plan_L1 (Psi Gv Tb n)) (Inv := Inv) (xs := enumP 0 names) (k := 0) (L := F none none none none none none) (S := [.lst []]) (fun i v L S hv hI => by
      obtain ⟨x, hx1, rfl⟩ := enum_get hv
      have hi := get_lt hx1
      obtain ⟨nm, hnm1, rfl⟩ := hnm x (List.mem_of_getElem? hx1)
      obtain ⟨vs, q8, q9, q10, hc, ho, rfl, rfl⟩ := hI
      obtain ⟨a, ha, ea⟩ : ∃ a : Int, (0 < a ∧ a < 1152921504606846976) ∧ L2.atI [P.int 4, .int 12, .int 16, .int 16] (i : Int) = some (.int a) := by
        have : i = 0 ∨ i = 1 ∨ i = 2 ∨ i = 3 := by omega
        rcases this with rfl | rfl | rfl | rfl
        · exact ⟨4, by decide, by simp⟩
        · exact ⟨12, by decide, by simp⟩
        · exact ⟨16, by decide, by simp⟩
        · exact ⟨16, by decide, by simp⟩
      obtain ⟨b, hb0, hb1, hb4, eb⟩ : ∃ b : Int, 0 < b ∧ b ≤ 4 ∧ b ≤ (capF m : Int) ∧ L2.atI [P.int (3 + z), .int 2, .int 1, .int 1] ((m : Int) - 1) = some (.int b) := by
        have : (m : Int) - 1 = 0 ∨ (m : Int) - 1 = 1 ∨ (m : Int) - 1 = 2 ∨ (m : Int) - 1 = 3 := by omega
        rcases this with h | h | h | h <;> rw [h]
        · have : m = 1 := by omega
          exact ⟨3 + z, by omega, by omega, by rw [this]; show 3 + z ≤ 4; omega, by simp⟩
        · have : m = 2 := by omega
          exact ⟨2, by decide, by decide, by rw [this]; decide, by simp⟩
        · have : m = 3 := by omega
          exact ⟨1, by decide, by decide, by rw [this]; decide, by simp⟩
        · have : m = 4 := by omega
          exact ⟨1, by decide, by decide, by rw [this]; decide, by simp⟩
      have hb2 : 0 ≤ tot / a % b := Int.emod_nonneg _ (by omega)
      have hb3 : tot / a % b < b := Int.emod_lt_of_pos _ hb0
      obtain ⟨cr, hcr⟩ : ∃ cr : Nat, 1 + tot / a % b = (cr : Int) := ⟨(1 + tot / a % b).toNat, by omega⟩
      obtain ⟨v, hv2, hv3, ev⟩ := family_ok (n := n) (by omega) ns i (by omega) hnm1 cr (by omega) wide hr hrl
      have hlen : vs.length ≤ 1000000 := by omega
      refine ⟨_, F (some (.p (.int (i : Int)))) (some (.p (.str nm))) (some (.p (.int (cr : Int)))) none none none, [.lst ((vs ++ [v]).map D.p)], rfl, ?_, _, _, _, _, by simp; omega, all_snoc ho ⟨hv2, by unfold crOk; rw [hv3]; omega⟩, rfl, rfl⟩
      rw [← map_snoc]
      simp [b_n_law_plan_L1, F, ea, ha, ez, eb, hb0, hcr, ev, ownL, hlen]) ⟨[], none, none, none, rfl, fun _ h => (by cases h), rfl, rfl⟩
  have hfa : ∀ c ∈ fams, isFam c := fun c h => (hfb c h).1
  have hfm : fams.length = m := by rw [hfl, enumP_len, hnl]; omega
  have hf0 : fams ≠ [] := fun q => by rw [q] at hfm; simp at hfm; omega
  let Inv3 : Nat → Lc → Sto → Prop := fun i L S => ∃ (vs : List P) (q8 q12 q13 : Option D), vs.length = i ∧ (∀ c ∈ vs, okP 3 c = true) ∧ L = F q8 q9 q10 (some (.ref 1)) q12 q13 ∧ S = [.lst (fams.map .p), .lst (vs.map .p)]
  obtain ⟨w, hw0, hw1, ew⟩ : ∃ w : Int, 0 ≤ w ∧ w ≤ 1 ∧ c_int [.bl (wide && decide (tot % 3 = 1))] = some (.int w) := by
    cases (wide && decide (tot % 3 = 1))
    · exact ⟨0, by decide, by decide, rfl⟩
    · exact ⟨1, by decide, by decide, rfl⟩
  obtain ⟨L', S', e2, wishes, q8', q12, q13, hwl, hwi, rfl, rfl⟩ := forGo_inv (g := gSet 8) (b := b_n_law_plan_L2 (Psi Gv Tb n)) (Inv := Inv3) (xs := Ev.intsFrom 0 (tot / 48 % 3 + 4 * w).toNat) (k := 0) (L := F q8 q9 q10 (some (.ref 1)) none none) (S := [.lst (fams.map .p), .lst []]) (fun i v L S hv hI => by
      obtain ⟨rfl, hi⟩ := ints_get hv
      obtain ⟨vs, q8, q12, q13, hc, ho, rfl, rfl⟩ := hI
      simp only [Int.zero_add]
      obtain ⟨c, d, hd, e3, e4⟩ := draw_ok (n := n) (by omega) ns (k := 4) (p := 20 + (i : Int)) (by omega) (by omega) (by omega)
      obtain ⟨f, hf, ef⟩ := atI_pick hf0 d
      rw [hfm] at ef
      obtain ⟨nm, crew, rooms, cells, whos, steps, hfam, rfl⟩ := hfa f hf
      obtain ⟨s, hs, es⟩ := atI_pick hfam.s0 (d / 8)
      have hls := len_pos hfam.s0
      obtain ⟨x, ys, hx, hys, rfl⟩ := hfam.hst s hs
      obtain ⟨mk, hmk, emk⟩ := pickS2 (a := "weak") (b := "strong") (by simp) (by simp) (d / 4)
      have omk : okP 2 mk = true := hmk.ok 2
      have hlen : vs.length ≤ 1000000 := by omega
      have ef2 : L2.atI (fams.map D.p) (d % (m : Int)) = some (.p (.tup [.str nm, .int (crew : Int), .lst rooms, .lst cells, .lst whos, .lst steps])) := by rw [atI_map, ef]; rfl
      have hmp : (0 : Int) < (m : Int) := by omega
      have hmp2 : 0 < m := by omega
      refine ⟨_, F (some (.p (.int (i : Int)))) q9 q10 (some (.ref 1)) (some (.p (.int d))) (some (.p (.tup [.str nm, .int (crew : Int), .lst rooms, .lst cells, .lst whos, .lst steps]))), [.lst (fams.map .p), .lst ((vs ++ [P.tup [mk, .str nm, .str x]]).map D.p)], rfl, ?_, _, _, _, _, by simp; omega, all_snoc ho (by simp [omk, hfam.hnm, hx]), rfl, rfl⟩
      rw [← map_snoc]
      have e5 : L2.atI [P.str nm, .int (crew : Int), .lst rooms, .lst cells, .lst whos, .lst steps] 5 = some (.lst steps) := atI_nat' (by decide) rfl
      simp [b_n_law_plan_L2, F, e3, e4, hmp, hmp2, ef2, e5, emk, lenD, lenP, hls, es, ownL, hlen]) ⟨[], _, none, none, rfl, fun _ h => (by cases h), rfl, rfl⟩
  refine ⟨fams, roads, wishes, ⟨hfa, by omega, by omega, by rw [hfm]; exact fun c h => (hfb c h).2, hr, hrl, hwi⟩, ?_⟩
  have q1 : (tot / 48 % 3 + 4 * w).natAbs < 1000000 := by omega
  have q2 : mulOk 4 w = true := mulOk_small (by decide) (by omega)
  have q3 : m < 1000000 := by omega
  have q4 : m ≤ 1000000 := by omega
  have t0 : toP 9 (.ref 0) [.lst (fams.map .p), .lst (wishes.map .p)] = some (.lst fams, [.fz (.lst fams), .lst (wishes.map .p)]) := toP_lst rfl
  have t1 : toP 9 (.ref 1) [.fz (.lst fams), .lst (wishes.map .p)] = some (.lst wishes, [.fz (.lst fams), .fz (.lst wishes)]) := toP_lst rfl
  rw [e_n_law_plan, pureOf_fn]
  simp only [F] at e1 e2
  have ew2 : c_int [.bl (if wide = true then decide (tot % 3 = 1) else false)] = some (.int w) := by rw [← ew]; cases wide <;> rfl
  cases wide
  · simp only [Bool.false_and] at ew
    have hzw : z = w := by rw [ez] at ew; cases ew; rfl
    subst hzw
    simp [b_n_law_plan, e0, hwd, ez, et, ht0, hm, q1, q2, q3, q4, vComp, ints_len, upL, en, er, e1, ew, e2, t0, t1]
  · simp only [Bool.true_and] at ew
    simp [b_n_law_plan, e0, hwd, ez, et, ht0, hm, q1, q2, q3, q4, vComp, ints_len, upL, en, er, e1, ew, e2, t0, t1]
end My
namespace My
open PySem L2 Ev
noncomputable def hw : Nat → List P → List (Nat × P)
  | _, [] => []
  | k, f :: r => List.replicate (crewOf f) (k, f) ++ hw (k + 1) r
theorem isFam.crew {f : P} (h : isFam f) : crewOf f ≤ 4 := by
  obtain ⟨nm, c, rooms, cells, whos, steps, hf, rfl⟩ := h
  simpa [crewOf] using hf.hcr
theorem hw_len : ∀ {fams : List P} (k : Nat), (∀ f ∈ fams, isFam f) → (hw k fams).length ≤ 4 * fams.length
  | [], k, _ => by simp [hw]
  | f :: r, k, h => by
    have := hw_len (fams := r) (k + 1) fun x hx => h x (List.mem_cons_of_mem _ hx)
    have hc := (h f List.mem_cons_self).crew
    simp [hw]; omega
theorem hw_mem : ∀ {fams : List P} {k : Nat} {x : Nat × P}, x ∈ hw k fams → ∃ j, x.1 = k + j ∧ fams[j]? = some x.2
  | [], k, x, h => by simp [hw] at h
  | f :: r, k, x, h => by
    unfold hw at h
    rcases List.mem_append.mp h with h | h
    · obtain ⟨_, rfl⟩ := List.mem_replicate.mp h
      exact ⟨0, by simp, by simp⟩
    · obtain ⟨j, h1, h2⟩ := hw_mem h
      exact ⟨j + 1, by omega, by simpa using h2⟩
noncomputable def homes (fams : List P) : List P := (hw 0 fams).map fun x => .int (x.1 : Int)
noncomputable def hands (fams : List P) : List P := (hw 0 fams).map (·.2)
theorem cast_succ (k : Nat) : ((k + 1 : Nat) : Int) = (k : Int) + 1 := by omega
theorem fo_loop (ψ : Str → GF) (S : Sto) (pl : P) : ∀ (fams : List P) (k : Nat) (acc : List P) (q2 q3 : Option D), (∀ f ∈ fams, isFam f) → acc.length + 4 * fams.length ≤ 1000 →
    ∃ q2' q3', forGo (gTupP [gSet 2, gSet 3]) (b_n_families_of_L1 ψ) (enumP (k : Int) fams) [some (.p pl), some (.ref S.length), q2, q3] (S ++ [.lst (acc.map .p)]) = some (.nx, [some (.p pl), some (.ref S.length), q2', q3'], S ++ [.lst ((acc ++ (hw k fams).map fun x => P.int (x.1 : Int)).map .p)])
  | [], k, acc, q2, q3, _, _ => ⟨q2, q3, by simp [enumP, forGo, hw]⟩
  | f :: r, k, acc, q2, q3, h, hl => by
    obtain ⟨nm, c, rooms, cells, whos, steps, hf, rfl⟩ := h f List.mem_cons_self
    have hc := hf.hcr
    simp only [List.length_cons] at hl
    obtain ⟨q2', q3', e⟩ := fo_loop ψ S pl r (k + 1) (acc ++ List.replicate c (P.int (k : Int))) (some (.p (.int (k : Int)))) (some (.p (.tup [.str nm, .int (c : Int), .lst rooms, .lst cells, .lst whos, .lst steps]))) (fun x hx => h x (List.mem_cons_of_mem _ hx)) (by simp; omega)
    refine ⟨q2', q3', ?_⟩
    have hw1 : (hw k (.tup [.str nm, .int (c : Int), .lst rooms, .lst cells, .lst whos, .lst steps] :: r)).map (fun x => P.int (x.1 : Int)) = List.replicate c (P.int (k : Int)) ++ (hw (k + 1) r).map (fun x => P.int (x.1 : Int)) := by simp [hw, crewOf]
    rw [hw1, ← List.append_assoc]
    unfold enumP
    rw [cast_succ] at e
    refine (forGo_nx (L1 := [some (.p pl), some (.ref S.length), some (.p (.int (k : Int))), some (.p (.tup [.str nm, .int (c : Int), .lst rooms, .lst cells, .lst whos, .lst steps]))]) (L2 := [some (.p pl), some (.ref S.length), some (.p (.int (k : Int))), some (.p (.tup [.str nm, .int (c : Int), .lst rooms, .lst cells, .lst whos, .lst steps]))]) (S2 := S ++ [.lst ((acc ++ List.replicate c (P.int (k : Int))).map .p)]) rfl ?_).trans e
    have hcap : c ≤ 1000000 := by omega
    have hcap2 : c < 1000000 := by omega
    have hcap3 : acc.length + c ≤ 1000000 := by omega
    simp [b_n_families_of_L1, ownL, hcap, hcap2, hcap3]
theorem fo_ok {n : Nat} (hn : 1 ≤ n) {fams : List P} (h : ∀ f ∈ fams, isFam f) (hl : fams.length ≤ 4) (ro wi : P) (S : Sto) : Psi Gv Tb n "families_of" [.p (.tup [.lst fams, ro, wi])] S = some (.ref S.length, S ++ [.lst ((homes fams).map .p)]) := by
  obtain ⟨n, rfl⟩ : ∃ m, n = m + 1 := ⟨n - 1, by omega⟩
  obtain ⟨q2, q3, e⟩ := fo_loop (Psi Gv Tb n) S (.tup [.lst fams, ro, wi]) fams 0 [] none none h (by simp; omega)
  rw [e_n_families_of]
  simp only [List.nil_append, List.map_nil] at e
  have e' := e
  rw [show ((0 : Nat) : Int) = 0 from rfl] at e'
  simp [fnR, b_n_families_of, e', homes]
theorem fo_pure {n : Nat} (hn : 1 ≤ n) {fams : List P} (h : ∀ f ∈ fams, isFam f) (hl : fams.length ≤ 4) (ro wi : P) : pureOf (Psi Gv Tb n "families_of") [.tup [.lst fams, ro, wi]] = some (.lst (homes fams)) := by
  unfold pureOf
  rw [List.map_cons, List.map_nil, fo_ok hn h hl ro wi []]
  simp
theorem lf_loop (ψ : Str → GF) (pl : P) : ∀ (fams : List P) (k : Nat) (acc : List P) (q2 : Option D), (∀ f ∈ fams, isFam f) → acc.length + 4 * fams.length ≤ 1000 →
    ∃ q2', forGo (gSet 2) (b_n_law_families_L1 ψ) fams [some (.p pl), some (.p (.lst acc)), q2] [] = some (.nx, [some (.p pl), some (.p (.lst (acc ++ (hw k fams).map (·.2)))), q2'], [])
  | [], k, acc, q2, _, _ => ⟨q2, by simp [forGo, hw]⟩
  | f :: r, k, acc, q2, h, hl => by
    obtain ⟨nm, c, rooms, cells, whos, steps, hf, rfl⟩ := h f List.mem_cons_self
    have hc := hf.hcr
    simp only [List.length_cons] at hl
    generalize hF : P.tup [.str nm, .int (c : Int), .lst rooms, .lst cells, .lst whos, .lst steps] = F
    have hix : dIx F (.int 1) = some (.int (c : Int)) := by rw [← hF]; simp
    have hcr : crewOf F = c := by rw [← hF]; simp [crewOf]
    obtain ⟨q2', e⟩ := lf_loop ψ pl r (k + 1) (acc ++ List.replicate c F) (some (.p F)) (fun x hx => h x (List.mem_cons_of_mem _ hx)) (by simp; omega)
    refine ⟨q2', ?_⟩
    have hw1 : (hw k (F :: r)).map (·.2) = List.replicate c F ++ (hw (k + 1) r).map (·.2) := by simp [hw, hcr]
    rw [hw1, ← List.append_assoc]
    refine (forGo_nx (L1 := [some (.p pl), some (.p (.lst acc)), some (.p F)]) (L2 := [some (.p pl), some (.p (.lst (acc ++ List.replicate c F))), some (.p F)]) (S2 := []) rfl ?_).trans e
    have hcap : c ≤ 1000000 := by omega
    have hcap2 : c < 1000000 := by omega
    have hcap3 : acc.length + c ≤ 1000000 := by omega
    simp [b_n_law_families_L1, hix, hcap, hcap2, hcap3]
theorem lf_pure {n : Nat} (hn : 1 ≤ n) {fams : List P} (h : ∀ f ∈ fams, isFam f) (hl : fams.length ≤ 4) (ro wi : P) : pureOf (Psi Gv Tb n "_law_families") [.tup [.lst fams, ro, wi]] = some (.lst (hands fams)) := by
  obtain ⟨n, rfl⟩ : ∃ m, n = m + 1 := ⟨n - 1, by omega⟩
  obtain ⟨q2, e⟩ := lf_loop (Psi Gv Tb n) (.tup [.lst fams, ro, wi]) fams 0 [] none h (by simp; omega)
  rw [e_n_law_families, pureOf_fn]
  simp only [List.nil_append] at e
  simp [b_n_law_families, e, hands]
noncomputable def nmOf' : P → Str
  | .tup (.str s :: _) => s
  | _ => ""
theorem hand_fam {fams : List P} (h : ∀ f ∈ fams, isFam f) {f : P} (hf : f ∈ hands fams) : isFam f := by
  unfold hands at hf
  obtain ⟨x, hx, rfl⟩ := List.mem_map.mp hf
  obtain ⟨j, _, e⟩ := hw_mem hx
  exact h _ (List.mem_of_getElem? e)
theorem hands_len {fams : List P} (h : ∀ f ∈ fams, isFam f) (hl : fams.length ≤ 4) : (hands fams).length ≤ 16 := by
  have := hw_len 0 h
  unfold hands; simp; omega
end My
namespace My
open PySem L2 Ev
noncomputable def inats (ks : List Nat) : List P := ks.map fun (k : Nat) => P.int (k : Int)
noncomputable def tups (rr : List (List Nat)) : List P := rr.map fun ks => P.tup (inats ks)
theorem ints_ok (n : Nat) (ks : List Nat) : (inats ks).all (okP n) = true := List.all_eq_true.mpr fun x hx => by
  obtain ⟨k, _, rfl⟩ := List.mem_map.mp hx
  simp
theorem from_ok (n m : Nat) : (Ev.intsFrom 0 m).all (okP n) = true := List.all_eq_true.mpr fun x hx => by
  obtain ⟨k, rfl, _⟩ := ints_mem hx
  simp
theorem tups_ok (n : Nat) (rr : List (List Nat)) : (tups rr).all (okP (n + 1)) = true := List.all_eq_true.mpr fun x hx => by
  obtain ⟨ks, _, rfl⟩ := List.mem_map.mp hx
  exact ints_ok n ks
theorem comp_ix (N : List P) (ks : List Nat) (hk : ∀ k ∈ ks, k < N.length) (L : Lc) (hl : L.length = 10) (g2 : L[2]? = some (some (.p (.lst N)))) (S : Sto) :
    compGo (gSet 9) bYes (vOp dIx (vE (eVar 2)) (vE (eVar 9))) (inats ks) L S = some (ks.map fun k => (N[k]?).getD .non, S) := by
  rw [compGo_eq (p := fun _ => true) (f := fun v => match v with | .int i => (N[i.toNat]?).getD .non | _ => .non) (Inv := fun L' => ∃ d, L' = L.set 9 d) (fun v hv L' hL => ?_) ⟨L[9], (List.set_getElem_self (by omega)).symm⟩]
  · rw [List.filter_eq_self.mpr fun _ _ => rfl]
    unfold inats
    rw [List.map_map]
    rfl
  · obtain ⟨d, rfl⟩ := hL
    obtain ⟨k, hkm, rfl⟩ := List.mem_map.mp hv
    have hlt := hk k hkm
    have k9 : ((L.set 9 d).set 9 (some (.p (.int (k : Int)))))[9]? = some (some (.p (.int (k : Int)))) := by rw [List.getElem?_set_self (by simp [hl])]
    have k2 : ((L.set 9 d).set 9 (some (.p (.int (k : Int)))))[2]? = some (some (.p (.lst N))) := by rw [List.getElem?_set_ne (by decide), List.getElem?_set_ne (by decide)]; exact g2
    have hg : N[k]? = some N[k] := List.getElem?_eq_getElem hlt
    have e : L2.atI N (k : Int) = some N[k] := atI_nat' (by omega) (by simpa using hg)
    exact ⟨_, rfl, ⟨_, List.set_set ..⟩, rfl, fun _ => by simp [-List.set_set, k9, k2, e, hlt]⟩
theorem tn (ψ : Str → GF) (sc pl mm : D) (N : List P) (q4 q5 : Option D) (j i : Nat) (ks : List Nat) (S : Sto) (rs : List P) (hN : okP 20 (.lst N) = true) (hl : N.length ≤ 16)
    (hs : c_sorted (inats ks) = some (.lst (Ev.intsFrom 0 N.length))) (hk : ∀ k ∈ ks, k < N.length) (hkl : ks.length ≤ 16) (hc : (ks.map fun k => (N[k]?).getD .non) = N) (hS : S[j]? = some (.lst (rs.map .p))) (hi : i ≤ rs.length)
    (hp : i = 0 ∨ ∃ y, rs[i - 1]? = some y ∧ eqD y (.tup (inats ks)) = some false) :
    b_n_law_L3 ψ [some sc, some pl, some (.p (.lst N)), some mm, q4, q5, some (.ref j), some (.p (.int (i : Int))), some (.p (.tup (inats ks)))] S =
      some (.nx, [some sc, some pl, some (.p (.lst N)), some mm, q4, q5, some (.ref j), some (.p (.int (i : Int))), some (.p (.tup (inats ks)))], S) := by
  have e1 := comp_ix N ks hk [some sc, some pl, some (.p (.lst N)), some mm, q4, q5, some (.ref j), some (.p (.int (i : Int))), some (.p (.tup (inats ks))), none] rfl rfl S
  rw [hc] at e1
  have n1 : neD (.lst (Ev.intsFrom 0 N.length)) (.lst (Ev.intsFrom 0 N.length)) = some false := neD_self (from_ok 19 _)
  have n2 : neD (.lst N) (.lst N) = some false := neD_self hN
  have hl1 : N.length < 1000000 := by omega
  have hl2 : (inats ks).length ≤ 1000000 := by unfold inats; rw [List.length_map]; omega
  have it : isiP "tuple" (.tup (inats ks)) = true := by first | rfl | decide
  have g1 : gNe (.p (.lst (Ev.intsFrom 0 N.length))) (.p (.lst (Ev.intsFrom 0 N.length))) S = some (.bl false) := by simp [gNe, n1]
  have g2 : gNe (.p (.lst N)) (.p (.lst N)) S = some (.bl false) := by simp [gNe, n2]
  rcases hp with rfl | ⟨y, hy, ey⟩
  · rw [show ((0 : Nat) : Int) = 0 from rfl] at e1
    simp [b_n_law_L3, it, seqD, seqP, hs, lenD, lenP, hl1, n1, vComp, hl2, upL, e1, n2]
  · have hi0 : 0 < i ∨ i = 0 := by omega
    rcases hi0 with hi0 | hi0
    · have hi1 : (0 : Int) < (i : Int) := by omega
      have ex : L2.atI (rs.map D.p) ((i : Int) - 1) = some (.p y) := atI_nat' (by omega) (by rw [show ((i : Int) - 1).toNat = i - 1 by omega, List.getElem?_map, hy]; rfl)
      have g3 : gEq (.p y) (.p (.tup (inats ks))) S = some (.bl false) := by simp [gEq, ey]
      simp [b_n_law_L3, it, seqD, seqP, hs, lenD, lenP, hl1, n1, vComp, hl2, upL, e1, n2, hi1, hi0, hS, ex, ey]
    · subst hi0
      rw [show ((0 : Nat) : Int) = 0 from rfl] at e1
      simp [b_n_law_L3, it, seqD, seqP, hs, lenD, lenP, hl1, n1, vComp, hl2, upL, e1, n2]
structure Rens (N : List P) (rr : List (List Nat)) : Prop where
  hs : ∀ ks ∈ rr, c_sorted (inats ks) = some (.lst (Ev.intsFrom 0 N.length))
  hk : ∀ ks ∈ rr, ∀ k ∈ ks, k < N.length
  hkl : ∀ ks ∈ rr, ks.length ≤ 16
  hc : ∀ ks ∈ rr, (ks.map fun k => (N[k]?).getD .non) = N
  hp : ∀ i, i + 1 < rr.length → eqD (.tup (inats (rr.getD i []))) (.tup (inats (rr.getD (i + 1) []))) = some false
  hl : rr.length ≤ 24
  ho : c_sorted (tups rr) = some (.lst (tups rr))
theorem lv (ψ : Str → GF) (sc pl mm : D) (N : List P) (q4 q5 : Option D) (j : Nat) (rr : List (List Nat)) (S : Sto) (hN : okP 20 (.lst N) = true) (hl : N.length ≤ 16) (R : Rens N rr) (hS : S[j]? = some (.lst ((tups rr).map .p))) :
    ∀ (f i : Nat) (q7 q8 : Option D), i ≤ rr.length → rr.length < f + i → ∃ q7' q8', forLive true j (gTupP [gSet 7, gSet 8]) (b_n_law_L3 ψ) f i [some sc, some pl, some (.p (.lst N)), some mm, q4, q5, some (.ref j), q7, q8] S =
      some (.nx, [some sc, some pl, some (.p (.lst N)), some mm, q4, q5, some (.ref j), q7', q8'], S)
  | 0, i, q7, q8, h1, h2 => by omega
  | f + 1, i, q7, q8, h1, h2 => by
    unfold forLive
    rw [hS]
    by_cases hi : i < rr.length
    · have e1 : ((tups rr).map D.p)[i]? = some (.p (.tup (inats rr[i]))) := by simp [tups, hi]
      have hm : rr[i] ∈ rr := List.getElem_mem hi
      obtain ⟨q7', q8', e⟩ := lv ψ sc pl mm N q4 q5 j rr S hN hl R hS f (i + 1) (some (.p (.int (i : Int)))) (some (.p (.tup (inats rr[i])))) hi (by omega)
      refine ⟨q7', q8', ?_⟩
      have et := tn ψ sc pl mm N q4 q5 j i rr[i] S (tups rr) hN hl (R.hs _ hm) (R.hk _ hm) (R.hkl _ hm) (R.hc _ hm) hS (by simp [tups]; omega) (by
        by_cases h0 : i = 0
        · exact .inl h0
        · right
          have hp := R.hp (i - 1) (by omega)
          rw [show i - 1 + 1 = i by omega] at hp
          have hi' : i - 1 < rr.length := by omega
          refine ⟨.tup (inats (rr.getD (i - 1) [])), by simp [tups, hi'], ?_⟩
          rw [show rr.getD i [] = rr[i] by simp [hi]] at hp
          exact hp)
      simp only [e1]
      simp [et, e]
    · have e1 : ((tups rr).map D.p)[i]? = none := by simp [tups]; omega
      exact ⟨q7, q8, by simp only [e1]⟩
theorem l4 (ψ : Str → GF) (sc : D) (pl : P) (N : List P) (q4 q5 q6 q7 q8 : Option D) (j : Nat) (rr : List (List Nat)) (S T : Sto) (hN : okP 20 (.lst N) = true) (hl : N.length ≤ 16) (R : Rens N rr)
    (hr : ψ "renamings" [.p pl] S = some (.ref j, T)) (hT : T[j]? = some (.lst ((tups rr).map .p))) :
    ∃ q7' q8', b_n_law_L4 ψ [some sc, some (.p pl), some (.p (.lst N)), some (.p (.int (rr.length : Int))), q4, q5, q6, q7, q8] S =
      some (.nx, [some sc, some (.p pl), some (.p (.lst N)), some (.p (.int (rr.length : Int))), q4, q5, some (.ref j), q7', q8'], T.set j (.lst [])) := by
  obtain ⟨q7', q8', e⟩ := lv ψ sc (.p pl) (.p (.int (rr.length : Int))) N q4 q5 j rr T hN hl R hT 1000 0 q7 q8 (Nat.zero_le _) (by have := R.hl; omega)
  refine ⟨q7', q8', ?_⟩
  have i1 : isiD "list" (.ref j) T = some true := by simp [isiD, hT]; first | rfl | decide
  have sn : snap T 9 (.ref j) = some (.lst (tups rr)) := by simp only [snap, hT, mapO_ps]; rfl
  have n1 : neD (.lst (tups rr)) (.lst (tups rr)) = some false := neD_self (tups_ok 18 rr)
  have g1 : gNe (.ref j) (.p (.lst (tups rr))) T = some (.bl false) := by simp [gNe, sn, n1]
  have g2 : gNe (.p (.int (rr.length : Int))) (.p (.int (rr.length : Int))) T = some (.bl false) := by simp [gNe, neD_self]
  have u1 : unP ((tups rr).map D.p) = some (tups rr) := by
    generalize tups rr = vs
    induction vs with
    | nil => rfl
    | cons v vs ih => simp [unP, ih]
  have hlen : (tups rr).length = rr.length := by simp [tups]
  have ho := R.ho
  simp [b_n_law_L4, hr, i1, lenD, hT, hlen, g2, seqD, u1, ho, g1, e, ownL]
end My
namespace My
open PySem L2 Ev
noncomputable def stepR (hm : List Nat) (h : Nat) (found : List (List Nat)) : List (List Nat) := found.flatMap fun st => ((List.range hm.length).filter fun k => (hm.getD k 0 == h) && !st.contains k).map fun k => st ++ [k]
noncomputable def lvs (hm : List Nat) : List Nat → List (List Nat) → List (List (List Nat))
  | [], _ => []
  | h :: r, found => stepR hm h found :: lvs hm r (stepR hm h found)
noncomputable def rrOf (hm : List Nat) : List (List Nat) := ((lvs hm hm [[]]).getLast?).getD []
noncomputable def fzs (hm : List Nat) : Sto := (lvs hm hm [[]]).dropLast.map fun l => .fz (.lst (tups l))
noncomputable def outR (r : Option (Fl × Lc × Sto)) : Option (Option (Option D) × Sto) := match r with
  | some (.nx, L, S) => some (L[2]?, S)
  | _ => none
noncomputable def runR (ψ : Str → GF) (pl : P) (hm : List Nat) (S : Sto) : Option (Option (Option D) × Sto) :=
  outR (forGo (gSet 3) (b_n_renamings_L2 ψ) (inats hm) [some (.p pl), some (.p (.lst (inats hm))), some (.p (.lst [.tup []])), none, none, none, none] S)
structure Good (hm : List Nat) : Prop where
  r1 : ∀ ψ pl, runR ψ pl hm [] = some (some (some (.ref (hm.length - 1))), fzs hm ++ [.lst ((tups (rrOf hm)).map .p)])
  r2 : ∀ ψ pl, runR ψ pl hm (fzs hm ++ [.lst []]) = some (some (some (.ref (hm.length + (hm.length - 1)))), (fzs hm ++ [.lst []]) ++ (fzs hm ++ [.lst ((tups (rrOf hm)).map .p)]))
  t : (fzs hm).length = hm.length - 1
  l0 : 0 < hm.length
  l1 : hm.length ≤ 4
  a : ((rrOf hm).map fun ks => c_sorted (inats ks)) = (rrOf hm).map fun _ => some (.lst (Ev.intsFrom 0 hm.length))
  b : ((rrOf hm).all fun ks => ks.all (fun k => decide (k < hm.length)) && decide (ks.length ≤ 16) && decide (ks.map (fun k => hm.getD k 0) = hm)) = true
  c : ((List.range ((rrOf hm).length - 1)).map fun i => eqD (.tup (inats ((rrOf hm).getD i []))) (.tup (inats ((rrOf hm).getD (i + 1) [])))) = (List.range ((rrOf hm).length - 1)).map fun _ => some false
  d : (rrOf hm).length ≤ 24
  e : c_sorted (tups (rrOf hm)) = some (.lst (tups (rrOf hm)))
theorem g1 : Good [0] := ⟨fun _ _ => by kernel_rfl, fun _ _ => by kernel_rfl, by decide, by decide, by decide, by kernel_rfl, by decide, by kernel_rfl, by decide, by kernel_rfl⟩
theorem g2 : Good [0, 0] := ⟨fun _ _ => by kernel_rfl, fun _ _ => by kernel_rfl, by decide, by decide, by decide, by kernel_rfl, by decide +kernel, by kernel_rfl, by decide +kernel, by kernel_rfl⟩
theorem g3 : Good [0, 0, 0] := ⟨fun _ _ => by kernel_rfl, fun _ _ => by kernel_rfl, by decide +kernel, by decide, by decide, by kernel_rfl, by decide +kernel, by kernel_rfl, by decide +kernel, by kernel_rfl⟩
theorem g4 : Good [0, 0, 0, 0] := ⟨fun _ _ => by kernel_rfl, fun _ _ => by kernel_rfl, by decide +kernel, by decide, by decide, by kernel_rfl, by decide +kernel, by kernel_rfl, by decide +kernel, by kernel_rfl⟩
theorem g5 : Good [0, 1] := ⟨fun _ _ => by kernel_rfl, fun _ _ => by kernel_rfl, by decide +kernel, by decide, by decide, by kernel_rfl, by decide +kernel, by kernel_rfl, by decide +kernel, by kernel_rfl⟩
theorem g6 : Good [0, 1, 1] := ⟨fun _ _ => by kernel_rfl, fun _ _ => by kernel_rfl, by decide +kernel, by decide, by decide, by kernel_rfl, by decide +kernel, by kernel_rfl, by decide +kernel, by kernel_rfl⟩
theorem g7 : Good [0, 0, 1] := ⟨fun _ _ => by kernel_rfl, fun _ _ => by kernel_rfl, by decide +kernel, by decide, by decide, by kernel_rfl, by decide +kernel, by kernel_rfl, by decide +kernel, by kernel_rfl⟩
theorem g8 : Good [0, 0, 1, 1] := ⟨fun _ _ => by kernel_rfl, fun _ _ => by kernel_rfl, by decide +kernel, by decide, by decide, by kernel_rfl, by decide +kernel, by kernel_rfl, by decide +kernel, by kernel_rfl⟩
theorem g9 : Good [0, 1, 2] := ⟨fun _ _ => by kernel_rfl, fun _ _ => by kernel_rfl, by decide +kernel, by decide, by decide, by kernel_rfl, by decide +kernel, by kernel_rfl, by decide +kernel, by kernel_rfl⟩
theorem g10 : Good [0, 1, 2, 3] := ⟨fun _ _ => by kernel_rfl, fun _ _ => by kernel_rfl, by decide +kernel, by decide, by decide, by kernel_rfl, by decide +kernel, by kernel_rfl, by decide +kernel, by kernel_rfl⟩
theorem Good.rens {hm : List Nat} (g : Good hm) (nm : Nat → P) : Rens (hm.map nm) (rrOf hm) where
  hs := fun ks hk => by
    rw [List.length_map]
    obtain ⟨i, hi, e⟩ := List.mem_iff_getElem.mp hk
    have h := congrArg (fun l => l[i]?) g.a
    simpa [hi, e] using h
  hk := fun ks hk k hkk => by
    have h := List.all_eq_true.mp g.b ks hk
    simp only [Bool.and_eq_true] at h
    rw [List.length_map]
    exact of_decide_eq_true (List.all_eq_true.mp h.1.1 k hkk)
  hkl := fun ks hk => by
    have h := List.all_eq_true.mp g.b ks hk
    simp only [Bool.and_eq_true] at h
    exact of_decide_eq_true h.1.2
  hc := fun ks hk => by
    have h := List.all_eq_true.mp g.b ks hk
    simp only [Bool.and_eq_true] at h
    have h1 := List.all_eq_true.mp h.1.1
    have h2 : ks.map (fun k => hm.getD k 0) = hm := of_decide_eq_true h.2
    conv => rhs; rw [← h2]
    rw [List.map_map]
    refine List.map_congr_left fun k hkk => ?_
    have hlt : k < hm.length := of_decide_eq_true (h1 k hkk)
    simp [hlt]
  hp := fun i hi => by
    have h := congrArg (fun l => l[i]?) g.c
    have hi' : i < (rrOf hm).length - 1 := by omega
    simpa [hi'] using h
  hl := g.d
  ho := g.e
noncomputable def fact : Nat → Nat
  | 2 => 2
  | 3 => 6
  | 4 => 24
  | _ => 1
noncomputable def prodF : List P → Nat
  | [] => 1
  | f :: r => fact (crewOf f) * prodF r
theorem l2 (ψ : Str → GF) (a b c : D) (M : Nat) (f : P) (q5 q6 q7 q8 : Option D) (hf : isFam f) (h1 : 1 ≤ crewOf f) (hM : M ≤ 1000000) :
    ∃ q5', b_n_law_L2 ψ [some a, some b, some c, some (.p (.int (M : Int))), some (.p f), q5, q6, q7, q8] [] = some (.nx, [some a, some b, some c, some (.p (.int ((M * fact (crewOf f) : Nat) : Int))), some (.p f), q5', q6, q7, q8], []) := by
  obtain ⟨nm, cr, rooms, cells, whos, steps, hfm, rfl⟩ := hf
  have hcr := hfm.hcr
  have h1 : 1 ≤ cr := by simpa [crewOf] using h1
  have m2 : mulOk (M : Int) 2 = true := mulOk_small (by omega) (by decide)
  have m3 : mulOk ((M : Int) * 2) 3 = true := mulOk_small (by omega) (by decide)
  have m4 : mulOk ((M : Int) * 2 * 3) 4 = true := mulOk_small (by omega) (by decide)
  have hc : cr = 1 ∨ cr = 2 ∨ cr = 3 ∨ cr = 4 := by omega
  have i1 : Ev.intsFrom 2 1 = [.int 2] := rfl
  have i2 : Ev.intsFrom 2 2 = [.int 2, .int 3] := rfl
  have i3 : Ev.intsFrom 2 3 = [.int 2, .int 3, .int 4] := rfl
  have i0 : Ev.intsFrom 2 0 = [] := rfl
  rcases hc with rfl | rfl | rfl | rfl
  · exact ⟨q5, by simp [b_n_law_L2, b_n_law_L1, crewOf, fact, forGo, i0]⟩
  · exact ⟨some (.p (.int 2)), by simp [b_n_law_L2, b_n_law_L1, crewOf, fact, forGo, i1, m2]⟩
  · exact ⟨some (.p (.int 3)), by simp [b_n_law_L2, b_n_law_L1, crewOf, fact, forGo, i2, m2, m3]; omega⟩
  · exact ⟨some (.p (.int 4)), by simp [b_n_law_L2, b_n_law_L1, crewOf, fact, forGo, i3, m2, m3, m4]; omega⟩
theorem fact_le (n : Nat) : fact n ≤ 24 := by unfold fact; split <;> omega
theorem l2s (ψ : Str → GF) (a b c : D) (q6 q7 q8 : Option D) : ∀ (fams : List P) (M : Nat) (q4 q5 : Option D), (∀ f ∈ fams, isFam f ∧ 1 ≤ crewOf f) → M * 24 ^ fams.length ≤ 331776 → 
    ∃ q4' q5', forGo (gSet 4) (b_n_law_L2 ψ) fams [some a, some b, some c, some (.p (.int (M : Int))), q4, q5, q6, q7, q8] [] = some (.nx, [some a, some b, some c, some (.p (.int ((M * prodF fams : Nat) : Int))), q4', q5', q6, q7, q8], [])
  | [], M, q4, q5, _, _ => ⟨q4, q5, by simp [forGo, prodF]⟩
  | f :: r, M, q4, q5, h, hb => by
    have hf := h f List.mem_cons_self
    have h24 : 0 < 24 ^ r.length := Nat.pow_pos (by decide)
    have hM : M ≤ 331776 := by
      refine Nat.le_trans (Nat.le_mul_of_pos_right M (Nat.pow_pos (n := (f :: r).length) (by decide : 0 < 24))) hb
    obtain ⟨q5', e⟩ := l2 ψ a b c M f q5 q6 q7 q8 hf.1 hf.2 (by omega)
    have hb2 : M * fact (crewOf f) * 24 ^ r.length ≤ 331776 := by
      refine Nat.le_trans ?_ hb
      rw [List.length_cons, Nat.pow_succ, Nat.mul_assoc]
      refine Nat.mul_le_mul_left M ?_
      rw [Nat.mul_comm]
      exact Nat.mul_le_mul_left _ (fact_le _)
    obtain ⟨q4', q5'', e2⟩ := l2s ψ a b c q6 q7 q8 r (M * fact (crewOf f)) (some (.p f)) q5' (fun x hx => h x (List.mem_cons_of_mem _ hx)) hb2
    refine ⟨q4', q5'', ?_⟩
    rw [show M * prodF (f :: r) = M * fact (crewOf f) * prodF r by simp [prodF, Nat.mul_assoc]]
    exact (forGo_nx rfl e).trans e2
theorem ten {fams roads wishes : List P} (h : Pln fams roads wishes) : ∃ hm, (hw 0 fams).map (·.1) = hm ∧ Good hm ∧ prodF fams = (rrOf hm).length := by
  have hc := h.hc
  have hl := h.fl
  have hl1 := h.f1
  match fams, hl, hl1, hc with
  | [a], _, _, hc =>
    have h1 : 1 ≤ crewOf a ∧ crewOf a ≤ 4 := hc a (by simp)
    have : crewOf a = 1 ∨ crewOf a = 2 ∨ crewOf a = 3 ∨ crewOf a = 4 := by omega
    rcases this with e | e | e | e
    · exact ⟨[0], by simp [hw, e], g1, by simp [prodF, e, fact]; decide⟩
    · exact ⟨[0, 0], by simp [hw, e, List.replicate], g2, by simp [prodF, e, fact]; decide +kernel⟩
    · exact ⟨[0, 0, 0], by simp [hw, e, List.replicate], g3, by simp [prodF, e, fact]; decide +kernel⟩
    · exact ⟨[0, 0, 0, 0], by simp [hw, e, List.replicate], g4, by simp [prodF, e, fact]; decide +kernel⟩
  | [a, b], _, _, hc =>
    have h1 : 1 ≤ crewOf a ∧ crewOf a ≤ 2 := hc a (by simp)
    have h2 : 1 ≤ crewOf b ∧ crewOf b ≤ 2 := hc b (by simp)
    have t1 : crewOf a = 1 ∨ crewOf a = 2 := by omega
    have t2 : crewOf b = 1 ∨ crewOf b = 2 := by omega
    rcases t1 with e | e <;> rcases t2 with e2 | e2
    · exact ⟨[0, 1], by simp [hw, e, e2, List.replicate], g5, by simp [prodF, e, e2, fact]; decide +kernel⟩
    · exact ⟨[0, 1, 1], by simp [hw, e, e2, List.replicate], g6, by simp [prodF, e, e2, fact]; decide +kernel⟩
    · exact ⟨[0, 0, 1], by simp [hw, e, e2, List.replicate], g7, by simp [prodF, e, e2, fact]; decide +kernel⟩
    · exact ⟨[0, 0, 1, 1], by simp [hw, e, e2, List.replicate], g8, by simp [prodF, e, e2, fact]; decide +kernel⟩
  | [a, b, c], _, _, hc =>
    have h1 : 1 ≤ crewOf a ∧ crewOf a ≤ 1 := hc a (by simp)
    have h2 : 1 ≤ crewOf b ∧ crewOf b ≤ 1 := hc b (by simp)
    have h3 : 1 ≤ crewOf c ∧ crewOf c ≤ 1 := hc c (by simp)
    have e1 : crewOf a = 1 := by omega
    have e2 : crewOf b = 1 := by omega
    have e3 : crewOf c = 1 := by omega
    exact ⟨[0, 1, 2], by simp [hw, e1, e2, e3, List.replicate], g9, by simp [prodF, e1, e2, e3, fact]; decide +kernel⟩
  | [a, b, c, d], _, _, hc =>
    have h1 : 1 ≤ crewOf a ∧ crewOf a ≤ 1 := hc a (by simp)
    have h2 : 1 ≤ crewOf b ∧ crewOf b ≤ 1 := hc b (by simp)
    have h3 : 1 ≤ crewOf c ∧ crewOf c ≤ 1 := hc c (by simp)
    have h4 : 1 ≤ crewOf d ∧ crewOf d ≤ 1 := hc d (by simp)
    have e1 : crewOf a = 1 := by omega
    have e2 : crewOf b = 1 := by omega
    have e3 : crewOf c = 1 := by omega
    have e4 : crewOf d = 1 := by omega
    exact ⟨[0, 1, 2, 3], by simp [hw, e1, e2, e3, e4, List.replicate], g10, by simp [prodF, e1, e2, e3, e4, fact]; decide +kernel⟩
theorem ren_at {n : Nat} (hn : 2 ≤ n) {fams roads wishes : List P} (h : Pln fams roads wishes) {hm : List Nat} (eh : (hw 0 fams).map (·.1) = hm) {S T : Sto} {j : Nat}
    (r : ∀ ψ pl, runR ψ pl hm S = some (some (some (.ref j)), T)) : Psi Gv Tb n "renamings" [.p (.tup [.lst fams, .lst roads, .lst wishes])] S = some (.ref j, T) := by
  obtain ⟨n, rfl⟩ : ∃ m, n = m + 1 := ⟨n - 1, by omega⟩
  have e0 := fo_pure (n := n) (by omega) h.hf h.fl (.lst roads) (.lst wishes)
  have e1 : homes fams = inats hm := by
    unfold homes inats
    rw [← eh, List.map_map]; rfl
  rw [e1] at e0
  have r := r (Psi Gv Tb n) (.tup [.lst fams, .lst roads, .lst wishes])
  unfold runR at r
  rw [e_n_renamings]
  cases ef : forGo (gSet 3) (b_n_renamings_L2 (Psi Gv Tb n)) (inats hm) [some (.p (.tup [.lst fams, .lst roads, .lst wishes])), some (.p (.lst (inats hm))), some (.p (.lst [.tup []])), none, none, none, none] S with
  | none => rw [ef] at r; cases r
  | some z =>
    obtain ⟨fl, L, S'⟩ := z
    rw [ef] at r
    cases fl with
    | nx =>
      simp only [outR, Option.some.injEq, Prod.mk.injEq] at r
      obtain ⟨r1, rfl⟩ := r
      simp [fnR, b_n_renamings, e0, ef, r1]
    | _ => cases r
theorem hn_comp {fs : List P} (hf : ∀ f ∈ fs, isFam f) (L : Lc) (hl : L.length = 9) (S : Sto) : compGo (gSet 4) bYes (vOp dIx (vE (eVar 4)) (vC (.int 0))) fs L S = some (fs.map fun f => .str (nmOf' f), S) := by
  rw [compGo_eq (p := fun _ => true) (f := fun f => .str (nmOf' f)) (Inv := fun L' => ∃ d, L' = L.set 4 d) (fun v hv L' hL => ?_) ⟨L[4], (List.set_getElem_self (by omega)).symm⟩]
  · rw [List.filter_eq_self.mpr fun _ _ => rfl]
  · obtain ⟨d, rfl⟩ := hL
    obtain ⟨nm, c, rooms, cells, whos, steps, hfm, rfl⟩ := hf v hv
    have k4 : ((L.set 4 d).set 4 (some (.p (.tup [.str nm, .int (c : Int), .lst rooms, .lst cells, .lst whos, .lst steps]))))[4]? = some (some (.p (.tup [.str nm, .int (c : Int), .lst rooms, .lst cells, .lst whos, .lst steps]))) := by rw [List.getElem?_set_self (by simp [hl])]
    exact ⟨_, rfl, ⟨_, List.set_set ..⟩, rfl, fun _ => by simp [-List.set_set, k4, nmOf']⟩
theorem law_val (ns : List Int) : pureOf (Psi Gv Tb 200 "law") [scr ns] = some (.bl true) := by
  obtain ⟨fams, roads, wishes, h, e0⟩ := plan_ok (n := 199) (by omega) ns
  obtain ⟨hm, eh, g, ep⟩ := ten h
  have e1 := lf_pure (n := 199) (by omega) h.hf h.fl (.lst roads) (.lst wishes)
  have hhl := hands_len h.hf h.fl
  have hfa : ∀ f ∈ hands fams, isFam f := fun f hf => hand_fam h.hf hf
  have eN : (hands fams).map (fun f => P.str (nmOf' f)) = hm.map fun k => .str (nmOf' ((fams[k]?).getD .non)) := by
    unfold hands
    rw [← eh, List.map_map, List.map_map]
    refine List.map_congr_left fun x hx => ?_
    obtain ⟨j, q1, q2⟩ := hw_mem hx
    show P.str (nmOf' x.2) = P.str (nmOf' ((fams[x.1]?).getD .non))
    rw [q1, Nat.zero_add, q2]; rfl
  have hN : okP 20 (.lst (hm.map fun k => P.str (nmOf' ((fams[k]?).getD .non)))) = true := by
    rw [← eN]
    refine okL fun x hx => ?_
    obtain ⟨f, hf, rfl⟩ := List.mem_map.mp hx
    obtain ⟨nm, c, rooms, cells, whos, steps, hfm, rfl⟩ := hfa f hf
    simpa [nmOf'] using hfm.hnm
  have hNl : (hm.map fun k => P.str (nmOf' ((fams[k]?).getD .non))).length ≤ 16 := by rw [List.length_map]; have := g.l1; omega
  have R := g.rens (fun k => P.str (nmOf' ((fams[k]?).getD .non)))
  have e2 := fun L hl S => hn_comp hfa L hl S
  rw [eN] at e2
  have r1 := ren_at (n := 199) (by omega) h eh g.r1
  have r2 := ren_at (n := 199) (by omega) h eh g.r2
  generalize hNN : (hm.map fun k => P.str (nmOf' ((fams[k]?).getD .non))) = N at *
  generalize hP : P.tup [.lst fams, .lst roads, .lst wishes] = pl at *
  have p0 : dIx pl (.int 0) = some (.lst fams) := by rw [← hP]; simp
  obtain ⟨q4, q5, e3⟩ := l2s (Psi Gv Tb 199) (.p (scr ns)) (.p pl) (.p (.lst N)) none none none fams 1 none none (fun f hf => ⟨h.hf f hf, (h.hc f hf).1⟩) (by
    have h4 := h.fl
    calc 1 * 24 ^ fams.length ≤ 1 * 24 ^ 4 := Nat.mul_le_mul_left 1 (Nat.pow_le_pow_right (by decide) h4)
      _ ≤ 331776 := by decide)
  rw [Nat.one_mul, ep] at e3
  obtain ⟨q7, q8, f1⟩ := l4 (Psi Gv Tb 199) (.p (scr ns)) pl N q4 (some (.p (.int 0))) none none none (hm.length - 1) (rrOf hm) [] (fzs hm ++ [.lst ((tups (rrOf hm)).map .p)]) hN hNl R r1 (by rw [← g.t]; simp)
  have es : (fzs hm ++ [SO.lst ((tups (rrOf hm)).map .p)]).set (hm.length - 1) (.lst []) = fzs hm ++ [.lst []] := by rw [← g.t]; simp
  rw [es] at f1
  obtain ⟨q7', q8', f2⟩ := l4 (Psi Gv Tb 199) (.p (scr ns)) pl N q4 (some (.p (.int 1))) (some (.ref (hm.length - 1))) q7 q8 (hm.length + (hm.length - 1)) (rrOf hm) (fzs hm ++ [.lst []]) ((fzs hm ++ [.lst []]) ++ (fzs hm ++ [.lst ((tups (rrOf hm)).map .p)])) hN hNl R r2 (by
    have ht := g.t
    have h0 := g.l0
    rw [show hm.length + (hm.length - 1) = (fzs hm ++ [SO.lst []]).length + (fzs hm).length by rw [List.length_append, ht]; simp; omega, List.getElem?_append_right (by omega)]
    simp)
  have F := (forGo_nx (g := gSet 5) (b := b_n_law_L4 (Psi Gv Tb 199)) (v := .int 0) (r := [.int 1]) (L := [some (.p (scr ns)), some (.p pl), some (.p (.lst N)), some (.p (.int ((rrOf hm).length : Int))), q4, q5, none, none, none]) (S := []) rfl f1).trans ((forGo_nx (g := gSet 5) (v := .int 1) (r := []) rfl f2).trans (show _ = some (.nx, _, _) from rfl))
  have i2 : Ev.intsFrom 0 2 = [.int 0, .int 1] := by simp [Ev.intsFrom, List.range_succ]
  rw [e_n_law, pureOf_fn]
  have hh : (hands fams).length ≤ 1000000 := by omega
  have e2' := fun L S (hl : L.length = 9) => e2 L hl S
  rw [show ((1 : Nat) : Int) = 1 from rfl] at e3
  simp [b_n_law, e0, e1, vComp, hh, upL, e2', p0, e3, i2, F]
theorem law_true {K : PySem.W.Frag} {H : Hp} {a : Addr} {ns : List Int} {E : XK} (hl : ns.length ≤ 63) (hO : Only H) (hS : SqL K H a (ns.map V.int)) : spR K (Psi Gv Tb 200 "law") [.ref a] H (fun v _ => v = .bl true) E := law_of hO hS (law_val ns)
end My
open PySem PySem.W PyProof.Rows
set_option maxRecDepth 100000 in
set_option maxHeartbeats 0 in
theorem PySem.Challenge.cw_roadsall_k35_all_renamings_holds : PySem.Challenge.rw_roadsall_k35_all_renamings.Holds := by
  w_on; o_law; k_head; (case hw => w_witness2)
  k_fill
  refine L2.walk_ofK (l := PySem.Challenge.rw_roadsall_k35_all_renamings) (n := 63) (k := 200) (x := "_law_script") (CX := L2.CX0) (sp := fun K => Ev.spR K (Ev.Psi My.Gv My.Tb 200 "law")) rfl (by decide) rfl ⟨rfl, by decide, by decide⟩ (fun w h Y => PySem.W.kIn_of Y) ?F ?S ?C
  case F =>
    intro w mg fa h KX G hmg
    have T : Ev.TOk My.Gv My.Tb (L2.KOf KX) mg := by
      dsimp only [L2.KOf]
      refine' My.all_mk KX G ?a0 ?l0 ?c0 ?k0 ?a1 ?l1 ?c1 ?k1 ?a2 ?l2 ?c2 ?k2 ?a3 ?l3 ?c3 ?k3 ?a4 ?l4 ?c4 ?k4 ?a5 ?l5 ?c5 ?k5 ?a6 ?l6 ?c6 ?k6 ?a7 ?l7 ?c7 ?k7 ?a8 ?l8 ?c8 ?k8 ?a9 ?l9 ?c9 ?k9 ?a10 ?l10 ?c10 ?k10 ?a11 ?l11 ?c11 ?k11 ?a12 ?l12 ?c12 ?k12 ?a13 ?l13 ?c13 ?k13 ?a14 ?l14 ?c14 ?k14 ?z
      (case a0 => k_is); (case l0 => k_is); (case c0 => k_is); (case k0 => k_is)
      (case a1 => k_is); (case l1 => k_is); (case c1 => k_is); (case k1 => k_is)
      (case a2 => k_is); (case l2 => k_is); (case c2 => k_is); (case k2 => k_is)
      (case a3 => k_is); (case l3 => k_is); (case c3 => k_is); (case k3 => k_is)
      (case a4 => k_is); (case l4 => k_is); (case c4 => k_is); (case k4 => k_is)
      (case a5 => k_is); (case l5 => k_is); (case c5 => k_is); (case k5 => k_is)
      (case a6 => k_is); (case l6 => k_is); (case c6 => k_is); (case k6 => k_is)
      (case a7 => k_is); (case l7 => k_is); (case c7 => k_is); (case k7 => k_is)
      (case a8 => k_is); (case l8 => k_is); (case c8 => k_is); (case k8 => k_is)
      (case a9 => k_is); (case l9 => k_is); (case c9 => k_is); (case k9 => k_is)
      (case a10 => k_is); (case l10 => k_is); (case c10 => k_is); (case k10 => k_is)
      (case a11 => k_is); (case l11 => k_is); (case c11 => k_is); (case k11 => k_is)
      (case a12 => k_is); (case l12 => k_is); (case c12 => k_is); (case k12 => k_is)
      (case a13 => k_is); (case l13 => k_is); (case c13 => k_is); (case k13 => k_is)
      (case a14 => k_is); (case l14 => k_is); (case c14 => k_is); (case k14 => k_is)
      case z =>
        intro x hx
        simp only [Ev.bltN, List.mem_cons, List.not_mem_nil, or_false] at hx
        rcases hx with rfl | rfl | rfl | rfl | rfl | rfl | rfl | rfl | rfl | rfl | rfl | rfl | rfl | rfl <;> k_is
    obtain ⟨f, fd, h1, h2, h3⟩ := T.fn My.d_n_law (by simp [My.Tb])
    have e0 := hmg.symm.trans h3
    cases e0
    refine ⟨fd, ?_, fun base kb nb => Ev.defs_ok T 200 My.d_n_law (by simp [My.Tb]) _ fd h1⟩
    obtain ⟨oc, od, kV, doc, pm, an, cdv, ct, osl, rfl, lk, hcd⟩ := h1.ex
    exact fun s v => .of_eq rfl
  case S => exact fun w H a ns hl hO hS => My.law_true hl hO hS
  case C => exact fun _ _ _ _ z => z
