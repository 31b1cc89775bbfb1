import PyProof.Rows.All
import Wide.All
import OpenK.AllK
import Wide.FinOn
import Lean
import PyProof.EqAt
import PyProof.EqKinds
import PyProof.TupleCall
import PySem.Challenge.RW_sortlore_k18_no_rule
set_option Elab.async false
set_option linter.all false
set_option maxRecDepth 100000
noncomputable section
set_option maxRecDepth 100000
namespace L2
open PySem PySem.Spec PyProof.Rows
noncomputable abbrev Key := Sum Int Str
noncomputable def keyIs : Key → Value → Bool
  | .inl k, v => Value.isInt k v
  | .inr x, v => Value.isStrOf x v
noncomputable def keyH (w : World) : Key → Int
  | .inl k => hashInt k
  | .inr x => hashStr w x
theorem keyIs_shape : ∀ {k : Key} {v : Value}, keyIs k v = true → (∃ i t, k = Sum.inl i ∧ v = Value.int i t) ∨ (∃ x t, k = Sum.inr x ∧ v = Value.str x t)
  | .inl i, v, h => by
    obtain ⟨t, e⟩ := Value.isInt_shape (k := i) (v := v) h
    exact .inl ⟨i, t, rfl, e⟩
  | .inr x, v, h => by
    obtain ⟨t, e⟩ := Value.isStrOf_shape (x := x) (v := v) h
    exact .inr ⟨x, t, rfl, e⟩
theorem keyIs_int (i : Int) (t : Tok) : keyIs (.inl i) (.int i t) = true := by simp [keyIs, Value.isInt]
theorem keyIs_str (x : Str) (t : Tok) : keyIs (.inr x) (.str x t) = true := by simp [keyIs, Value.isStrOf]
theorem key_ll (a b : Int) : decide ((Sum.inl a : Key) = Sum.inl b) = (a == b) := by
  by_cases e : a = b
  · subst e; simp
  · have h : ¬ (Sum.inl a : Key) = Sum.inl b := fun q => e (Sum.inl.inj q)
    rw [decide_eq_false h]
    exact (beq_eq_false_iff_ne.mpr e).symm
theorem key_rr (a b : Str) : decide ((Sum.inr a : Key) = Sum.inr b) = decide (a = b) := by
  by_cases e : a = b
  · subst e; simp
  · have h : ¬ (Sum.inr a : Key) = Sum.inr b := fun q => e (Sum.inr.inj q)
    rw [decide_eq_false h, decide_eq_false e]
theorem key_lr (a : Int) (b : Str) : decide ((Sum.inl a : Key) = Sum.inr b) = false := decide_eq_false (fun q => nomatch q)
theorem key_rl (a : Str) (b : Int) : decide ((Sum.inr a : Key) = Sum.inl b) = false := decide_eq_false (fun q => nomatch q)
noncomputable def mixKind (prog : Program) (w : World) : PySem.KeyKind prog w Key where
  is := keyIs
  hash := keyH w
  inj := fun v a b ha hb => by
    rcases keyIs_shape ha with ⟨i, t, rfl, rfl⟩ | ⟨x, t, rfl, rfl⟩
    · rcases keyIs_shape hb with ⟨j, u, rfl, e⟩ | ⟨y, u, rfl, e⟩
      · injection e with e1 _; rw [e1]
      · exact nomatch e
    · rcases keyIs_shape hb with ⟨j, u, rfl, e⟩ | ⟨y, u, rfl, e⟩
      · exact nomatch e
      · injection e with e1 _; rw [e1]
  byValue := fun k v h => by
    rcases keyIs_shape h with ⟨i, t, rfl, rfl⟩ | ⟨x, t, rfl, rfl⟩ <;> rfl
  pyHash := fun hv h => by
    rcases keyIs_shape hv with ⟨i, t, rfl, rfl⟩ | ⟨x, t, rfl, rfl⟩
    · exact wpAny_pyHash_int h
    · exact wpAny_pyHash_str h
  eqBool := fun hu hv h => by
    rcases keyIs_shape hu with ⟨i, t, rfl, rfl⟩ | ⟨x, t, rfl, rfl⟩
    · rcases keyIs_shape hv with ⟨j, u, rfl, rfl⟩ | ⟨y, u, rfl, rfl⟩
      · rw [key_ll] at h; exact wpAny_eqBool_int h
      · rw [key_lr] at h; exact SeqAt.EqAt.int_str i t y u _ _ _ _ h
    · rcases keyIs_shape hv with ⟨j, u, rfl, rfl⟩ | ⟨y, u, rfl, rfl⟩
      · rw [key_rl] at h; exact SeqAt.EqAt.str_int x t j u _ _ _ _ h
      · rw [key_rr] at h; exact wpAny_eqBool_str h
  «strs» := fun k x t v h => by
    rcases keyIs_shape h with ⟨i, u, rfl, e⟩ | ⟨y, u, rfl, e⟩
    · exact nomatch e
    · injection e with e1 _
      subst e1
      cases v <;> rfl
theorem mixKind_int (prog : Program) (w : World) (i : Int) (t : Tok) : (mixKind prog w).is (.inl i) (.int i t) = true := keyIs_int i t
theorem mixKind_str (prog : Program) (w : World) (x : Str) (t : Tok) : (mixKind prog w).is (.inr x) (.str x t) = true := keyIs_str x t
end L2
namespace L2
open PySem PySem.Spec PyProof.Rows
inductive V where
  | non | bl (b : Bool) | int (i : Int) | str (x : Str) | byt (b : Array UInt8) | flt (b : UInt64) | ref (a : Addr) | ty (n : String)
  deriving DecidableEq
noncomputable def RelV : V → Value → Prop
  | .non, u => u = Value.none
  | .bl b, u => u = Value.bool b
  | .int i, u => ∃ t, u = Value.int i t
  | .str x, u => ∃ t, u = Value.str x t
  | .byt b, u => ∃ t, u = Value.bytes b t
  | .flt b, u => ∃ t, u = Value.float b t
  | .ref a, u => u = Value.ref a
  | .ty n, u => u = Value.type n
noncomputable abbrev Vals : List V → List Value → Prop := Paired RelV
theorem Vals.length {xs : List V} {us : List Value} (r : Vals xs us) : xs.length = us.length := Paired.length r
theorem Vals.get : ∀ {xs : List V} {us : List Value} {i : Nat} {x : V}, Vals xs us → xs[i]? = some x → ∃ u, us[i]? = some u ∧ RelV x u
  | _, _, _, _, .nil, e => by simp at e
  | _, _, 0, _, .cons r _, e => by simp at e; subst e; exact ⟨_, rfl, r⟩
  | _, _, i + 1, x, .cons _ t, e => by
    obtain ⟨u, h1, h2⟩ := Vals.get (i := i) (x := x) t (by simpa using e)
    exact ⟨u, by simpa using h1, h2⟩
theorem Vals.set {x : V} {u : Value} (r : RelV x u) : ∀ {xs : List V} {us : List Value} (i : Nat), Vals xs us → Vals (xs.set i x) (us.set i u)
  | _, _, _, .nil => .nil
  | _, _, 0, .cons _ t => .cons r t
  | _, _, i + 1, .cons q t => .cons q (Vals.set r i t)
theorem Vals.append : ∀ {xs ys : List V} {us ws : List Value}, Vals xs us → Vals ys ws → Vals (xs ++ ys) (us ++ ws)
  | _, _, _, _, .nil, s => s
  | _, _, _, _, .cons r t, s => .cons r (Vals.append t s)
theorem Vals.take : ∀ {xs : List V} {us : List Value} (n : Nat), Vals xs us → Vals (xs.take n) (us.take n)
  | _, _, 0, _ => .nil
  | _, _, _ + 1, .nil => .nil
  | _, _, n + 1, .cons r t => .cons r (Vals.take n t)
theorem Vals.drop : ∀ {xs : List V} {us : List Value} (n : Nat), Vals xs us → Vals (xs.drop n) (us.drop n)
  | _, _, 0, r => r
  | _, _, _ + 1, .nil => .nil
  | _, _, n + 1, .cons _ t => Vals.drop n t
theorem Vals.none_of : ∀ {xs : List V} {us : List Value} {i : Nat}, Vals xs us → xs[i]? = none → us[i]? = none := fun {xs us i} r e => by
  have h1 := r.length
  have h2 : xs.length ≤ i := List.getElem?_eq_none_iff.mp e
  exact List.getElem?_eq_none_iff.mpr (by omega)
noncomputable def RelO : Option V → Option Value → Prop
  | some v, some u => RelV v u
  | none, none => True
  | _, _ => False
noncomputable def KV {κ : Type} : List (κ × V) → List (κ × Value) → Prop := Paired fun (p : κ × V) (q : κ × Value) => p.1 = q.1 ∧ RelV p.2 q.2
noncomputable def kV : Key → V
  | .inl i => .int i
  | .inr x => .str x
inductive HO where
  | lst (xs : List V)
  | tup (xs : List V)
  | dK (kvs : List (Key × V)) | dT (kvs : List (List Key × V))
  | set (S : Int → Bool) (n : Nat)
  | ins (C dx : Addr) (fs : List (Str × V))
  | own (x : Addr)
  | xd (fs : List (Str × V))
  | met (f x : Addr)
  | rng (lo hi : Int)
  | frz (o : Obj) (u : HO)
  | tbl (ps : Array Value)
  | ext (φ : Heap → Prop)
noncomputable abbrev Hp := Addr → Option HO
noncomputable def upd (H : Hp) (a : Addr) (o : HO) : Hp := fun b => if b = a then some o else H b
theorem upd_same {H : Hp} {a : Addr} {o : HO} : upd H a o a = some o := by unfold upd; rw [if_pos rfl]
theorem upd_ne {H : Hp} {a b : Addr} {o : HO} (h : b ≠ a) : upd H a o b = H b := by unfold upd; rw [if_neg h]
theorem ne_of_none {H : Hp} {a b : Addr} {o : HO} (h : H a = some o) (h' : H b = none) : a ≠ b := by
  intro e; subst e; rw [h] at h'; cases h'
section
variable (P : Program) (w : World)
noncomputable def ObjOk (H : Hp) (h : Heap) (a : Addr) : HO → Prop
  | .lst xs => xs.length ≤ sizeLine ∧ ∃ (its : List Value) (n : Nat), Vals xs its ∧ h.get? a = some { cls := .type "list", data := .seq its.toArray n }
  | .tup xs => xs.length ≤ sizeLine ∧ ∃ its : List Value, Vals xs its ∧ IsTup h a its.toArray
  | .dK kvs => kvs.length ≤ sizeLine ∧ (a == sysModules) = false ∧ ∃ vs, KV kvs vs ∧ h.DictOf (mixKind P w) a vs
  | .dT kvs => kvs.length ≤ sizeLine ∧ (a == sysModules) = false ∧ ∃ xs : List (List Key × Addr × Value),
      Paired (fun (p : List Key × V) (q : List Key × Addr × Value) => p.1 = q.1 ∧ H q.2.1 = some (.tup (p.1.map kV)) ∧ RelV p.2 q.2.2) kvs xs ∧
      ∃ o es ep, h.get? a = some o ∧ o.ExactDict ∧ o.data = .dict es ep ∧ es.toList = xs.map (entryOfKey (tupleKind (mixKind P w))) ∧ (xs.map (·.1)).Nodup
  | .set S n => h.SetOf (intKind P w) a S n
  | .ins C dx fs => H dx = some (.own a) ∧ fs.length ≤ 1000 ∧ dx ≠ a ∧ h.get? a = some (PySem.W.instObj C dx) ∧
      ∃ mA, h.Ns1 dx mA ∧ (∀ f, RelO (fs.lookup f) (mA f)) ∧ PySem.Within mA (fs.map (·.1))
  | .own _ => ∃ o, h.get? a = some o
  | .xd fs => ∃ mA, h.Ns1 a mA ∧ ∀ f, RelO (fs.lookup f) (mA f)
  | .rng lo hi => ∃ t u v, h.get? a = some { cls := .type "range", data := .fields #[.int lo t, .int hi u, .int 1 v] }
  | .frz o u => h.get? a = some o ∧ ObjOk H h a u
  | .tbl ps => h.get? a = some { cls := .none, data := .fields ps }
  | .met f x => h.get? a = some (PySem.W.methodObj (.ref f) (.ref x))
  | .ext φ => φ h ∧ (∃ o, h.get? a = some o) ∧ ∀ h1 h2 : Heap, φ h1 → (∀ o, h1.get? a = some o → h2.get? a = some o) → φ h2
noncomputable def HOk (H : Hp) (h : Heap) : Prop := ∀ a o, H a = some o → ObjOk P w H h a o
end
section
variable {P : Program} {w : World} {H H' : Hp} {h h' : Heap} {a : Addr} {o : HO}
theorem ObjOk.lt (x : ObjOk P w H h a o) : a < h.objs.size := by
  cases o with
  | lst xs => obtain ⟨_, _, _, _, e⟩ := x; exact Heap.lt_size e
  | tup xs => obtain ⟨_, _, _, p⟩ := x; exact p.lt
  | dK kvs => obtain ⟨_, _, _, _, o, _, _, e, _⟩ := x; exact Heap.lt_size e
  | dT kvs => obtain ⟨_, _, _, _, o, _, _, e, _⟩ := x; exact Heap.lt_size e
  | set S n => obtain ⟨o, _, _, _, e, _⟩ := x; exact Heap.lt_size e
  | ins C dx fs => obtain ⟨_, _, _, e, _⟩ := x; exact Heap.lt_size e
  | own y => obtain ⟨_, e⟩ := x; exact Heap.lt_size e
  | xd fs => obtain ⟨_, ⟨_, _, _, e, _⟩, _⟩ := x; exact Heap.lt_size e
  | rng lo hi => obtain ⟨_, _, _, e⟩ := x; exact Heap.lt_size e
  | frz ob u => obtain ⟨e, _⟩ := x; exact Heap.lt_size e
  | tbl ps => exact Heap.lt_size (show h.get? a = some _ from x)
  | met f y => exact Heap.lt_size (show h.get? a = some _ from x)
  | ext φ => obtain ⟨_, ⟨_, e⟩, _⟩ := x; exact Heap.lt_size e
theorem Paired.mapP {α β : Type} {F G : α → β → Prop} : ∀ {l₁ : List α} {l₂ : List β}, Paired F l₁ l₂ → (∀ a b, F a b → G a b) → Paired G l₁ l₂
  | _, _, .nil, _ => .nil
  | _, _, .cons r t, f => .cons (f _ _ r) (Paired.mapP t f)
theorem ObjOk.stay (x : ObjOk P w H h a o) (k : ∀ b u, (b = a ∨ H b = some (.own a)) → h.get? b = some u → h'.get? b = some u)
    (ho : ∀ b, H b = some (.own a) → H' b = some (.own a)) (ht : ∀ b xs, H b = some (.tup xs) → H' b = some (.tup xs)) : ObjOk P w H' h' a o := by
  induction o with
  | lst xs => obtain ⟨z, its, n, r, e⟩ := x; exact ⟨z, its, n, r, k _ _ (.inl rfl) e⟩
  | tup xs => obtain ⟨z, its, r, ob, e, c⟩ := x; exact ⟨z, its, r, ob, k _ _ (.inl rfl) e, c⟩
  | dK kvs => obtain ⟨z, y, vs, r, ob, es, ep, e, c⟩ := x; exact ⟨z, y, vs, r, ob, es, ep, k _ _ (.inl rfl) e, c⟩
  | dT kvs =>
    obtain ⟨z, y, xs, r, ob, es, ep, e, c⟩ := x
    exact ⟨z, y, xs, Paired.mapP r fun p q z => ⟨z.1, ht _ _ z.2.1, z.2.2⟩, ob, es, ep, k _ _ (.inl rfl) e, c⟩
  | set S n => obtain ⟨ob, es, ep, t, e, c⟩ := x; exact ⟨ob, es, ep, t, k _ _ (.inl rfl) e, c⟩
  | ins C dx fs =>
    obtain ⟨d, z, ne, e, mA, ⟨od, es, ep, e2, c⟩, r⟩ := x
    exact ⟨ho _ d, z, ne, k _ _ (.inl rfl) e, mA, ⟨od, es, ep, k _ _ (.inr d) e2, c⟩, r⟩
  | own y => obtain ⟨ob, e⟩ := x; exact ⟨ob, k _ _ (.inl rfl) e⟩
  | xd fs => obtain ⟨mA, ⟨od, es, ep, e, c⟩, r⟩ := x; exact ⟨mA, ⟨od, es, ep, k _ _ (.inl rfl) e, c⟩, r⟩
  | rng lo hi => obtain ⟨t, u, v, e⟩ := x; exact ⟨t, u, v, k _ _ (.inl rfl) e⟩
  | frz ob u ih => obtain ⟨e, q⟩ := x; exact ⟨k _ _ (.inl rfl) e, ih q⟩
  | tbl ps =>
    have e : h.get? a = some { cls := .none, data := .fields ps } := x
    show h'.get? a = some { cls := .none, data := .fields ps }
    exact k a _ (.inl rfl) e
  | met f y =>
    have e : h.get? a = some (PySem.W.methodObj (.ref f) (.ref y)) := x
    show h'.get? a = some (PySem.W.methodObj (.ref f) (.ref y))
    exact k a _ (.inl rfl) e
  | ext φ => obtain ⟨p, ⟨o, e⟩, st⟩ := x; exact ⟨st _ _ p fun o q => k _ _ (.inl rfl) q, ⟨o, k _ _ (.inl rfl) e⟩, st⟩
theorem HOk.lt (x : HOk P w H h) (e : H a = some o) : a < h.objs.size := (x a o e).lt
theorem HOk.fresh (x : HOk P w H h) (e : h.objs.size ≤ a) : H a = none := by
  cases q : H a with
  | none => rfl
  | some u => exact absurd (Nat.lt_of_lt_of_le (x.lt q) e) (Nat.lt_irrefl _)
theorem HOk.kept (x : HOk P w H h) (k : ∀ b u, h.get? b = some u → h'.get? b = some u) : HOk P w H h' := fun a o e =>
  (x a o e).stay (fun b u _ q => k b u q) (fun _ q => q) fun _ _ q => q
theorem HOk.laid (x : HOk P w H h) (k : ∀ b u, h.get? b = some u → h'.get? b = some u) (hp : h.objs.size ≤ a) (new : ObjOk P w (upd H a o) h' a o) : HOk P w (upd H a o) h' := fun b u e => by
  have hn := x.fresh hp
  by_cases hb : b = a
  · subst hb; rw [upd_same] at e; cases e; exact new
  · rw [upd_ne hb] at e
    exact (x b u e).stay (fun c v _ q => k c v q) (fun c q => by rw [upd_ne (ne_of_none q hn)]; exact q) fun c xs q => by rw [upd_ne (ne_of_none q hn)]; exact q
end
noncomputable def Rd (H : Hp) (a : Addr) (u : HO) : Prop := H a = some u ∨ ∃ o, H a = some (.frz o u)
theorem Rd.of {H : Hp} {a : Addr} {u : HO} (h : H a = some u) : Rd H a u := .inl h
theorem Rd.ok {P : Program} {w : World} {H : Hp} {h : Heap} {a : Addr} {u : HO} (r : Rd H a u) (x : HOk P w H h) : ObjOk P w H h a u := by
  rcases r with r | ⟨o, r⟩
  · exact x a u r
  · obtain ⟨_, q⟩ := x a _ r
    exact q
noncomputable def Mut : Option HO → Prop
  | some (.lst _) => True
  | some (.dK _) => True
  | some (.dT _) => True
  | some (.set _ _) => True
  | some (.ins _ _ _) => True
  | some (.ext _) => True
  | _ => False
section
variable {P : Program} {w : World} {H : Hp} {h h' : Heap} {x e : Addr} {o' : HO}
theorem HOk.write (ok : HOk P w H h) (mu : Mut (H x)) (he : e = x ∨ H e = some (.own x)) (k : ∀ b u, b ≠ e → h.get? b = some u → h'.get? b = some u) (heo : ∃ u, h'.get? e = some u)
    (new : ObjOk P w (upd H x o') h' x o') : HOk P w (upd H x o') h' := fun b u q => by
  have nown : ∀ c y, H c = some (.own y) → c ≠ x := fun c y r z => by subst z; rw [r] at mu; exact mu
  have ntup : ∀ c xs, H c = some (.tup xs) → c ≠ x := fun c xs r z => by subst z; rw [r] at mu; exact mu
  by_cases hb : b = x
  · subst hb; rw [upd_same] at q; cases q; exact new
  · rw [upd_ne hb] at q
    by_cases hbe : b = e
    · have q' : H b = some (.own x) := by
        rcases he with z | z
        · exact absurd (hbe.trans z) hb
        · rw [hbe]; exact z
      rw [q] at q'; cases q'
      obtain ⟨v, hv⟩ := heo
      exact ⟨v, by rw [hbe]; exact hv⟩
    · refine (ok b u q).stay (fun c v hc r => k c v ?_ r) (fun c r => by rw [upd_ne (nown c b r)]; exact r) fun c xs r => by rw [upd_ne (ntup c xs r)]; exact r
      rcases hc with rfl | hc
      · exact hbe
      · rintro rfl
        rcases he with z | z
        · exact nown c b hc z
        · rw [hc] at z; cases z; exact hb rfl
end
structure Un (fs ex : List Addr) (H H' : Hp) (h h' : Heap) : Prop where
  keep : ∀ b o, h.get? b = some o → H b = none → b ∉ fs → b ∉ ex → h'.get? b = some o
  slot : ∀ b o, h.get? b = some o → H b = none → b ∈ fs → b ∉ ex → ∃ sl, h'.get? b = some { o with slots := sl }
  free : ∀ b o, h.get? b = some o → H b = none → b ∉ ex → H' b = none
  there : ∀ b o, h.get? b = some o → b ∉ ex → ∃ o', h'.get? b = some o'
  tups : ∀ b xs, H b = some (.tup xs) → H' b = some (.tup xs)
  frzs : ∀ b o u, H b = some (.frz o u) → H' b = some (.frz o u)
  tbls : ∀ b ps, H b = some (.tbl ps) → ∃ more, H' b = some (.tbl (ps ++ more))
section
variable {fs fs' ex ex' : List Addr} {H H1 H2 : Hp} {h h1 h2 h' : Heap} {a x e : Addr} {o : HO}
theorem Un.any (u : Un fs ex H H1 h h1) {b : Addr} {ob : Obj} (q : h.get? b = some ob) (n : H b = none) (hx : b ∉ ex) : ∃ sl, h1.get? b = some { ob with slots := sl } := by
  by_cases hb : b ∈ fs
  · exact u.slot b ob q n hb hx
  · exact ⟨ob.slots, u.keep b ob q n hb hx⟩
theorem Un.trans (a : Un fs ex H H1 h h1) (b : Un fs ex H1 H2 h1 h2) : Un fs ex H H2 h h2 where
  keep := fun c ob q n hc hx => b.keep c ob (a.keep c ob q n hc hx) (a.free c ob q n hx) hc hx
  slot := fun c ob q n hc hx => by
    obtain ⟨sl, e1⟩ := a.slot c ob q n hc hx
    obtain ⟨sl', e2⟩ := b.slot c _ e1 (a.free c ob q n hx) hc hx
    exact ⟨sl', e2⟩
  free := fun c ob q n hx => by
    obtain ⟨o', e1⟩ := a.there c ob q hx
    exact b.free c o' e1 (a.free c ob q n hx) hx
  there := fun c ob q hx => by
    obtain ⟨o', e1⟩ := a.there c ob q hx
    exact b.there c o' e1 hx
  tups := fun c xs q => b.tups c xs (a.tups c xs q)
  frzs := fun c ob xs q => b.frzs c ob xs (a.frzs c ob xs q)
  tbls := fun c ps q => by
    obtain ⟨m1, e1⟩ := a.tbls c ps q
    obtain ⟨m2, e2⟩ := b.tbls c _ e1
    exact ⟨m1 ++ m2, by rw [e2, Array.append_assoc]⟩
theorem Un.kept (k : ∀ b u, h.get? b = some u → h'.get? b = some u) : Un fs ex H H h h' :=
  ⟨fun b ob q _ _ _ => k b ob q, fun b ob q _ _ _ => ⟨ob.slots, k b ob q⟩, fun _ _ _ n _ => n, fun b ob q _ => ⟨ob, k b ob q⟩, fun _ _ q => q, fun _ _ _ q => q, fun _ ps q => ⟨#[], by rw [q]; simp⟩⟩
theorem Un.refl : Un fs ex H H h h := Un.kept fun _ _ q => q
theorem Un.laid (k : ∀ b u, h.get? b = some u → h'.get? b = some u) (hp : h.objs.size ≤ a) (hn : H a = none) : Un fs ex H (upd H a o) h h' where
  keep := fun b u q _ _ _ => k b u q
  slot := fun b u q _ _ _ => ⟨u.slots, k b u q⟩
  free := fun b u q n _ => by rw [upd_ne (Nat.ne_of_lt (Nat.lt_of_lt_of_le (Heap.lt_size q) hp))]; exact n
  there := fun b u q _ => ⟨u, k b u q⟩
  tups := fun b xs q => by rw [upd_ne (ne_of_none q hn)]; exact q
  frzs := fun b u xs q => by rw [upd_ne (ne_of_none q hn)]; exact q
  tbls := fun b ps q => ⟨#[], by rw [upd_ne (ne_of_none q hn), q]; simp⟩
theorem Un.write (mu : Mut (H x)) (he : e = x ∨ H e = some (.own x)) (k : ∀ b u, b ≠ e → h.get? b = some u → h'.get? b = some u) (heo : ∃ u, h'.get? e = some u) : Un fs ex H (upd H x o) h h' := by
  have hx : ∀ b, H b = none → b ≠ x := fun b n z => by subst z; rw [n] at mu; exact mu
  have hb : ∀ b, H b = none → b ≠ e := fun b n z => by
    subst z
    rcases he with r | r
    · exact hx b n r
    · rw [n] at r; cases r
  have hm : ∀ b u, H b = some u → ¬ Mut (some u) → b ≠ x := fun b u q nm z => by subst z; rw [q] at mu; exact nm mu
  refine ⟨fun b u q n _ _ => k b u (hb b n) q, fun b u q n _ _ => ⟨u.slots, k b u (hb b n) q⟩, fun b u q n _ => by rw [upd_ne (hx b n)]; exact n, fun b u q _ => ?_,
    fun b xs q => by rw [upd_ne (hm b _ q fun z => z)]; exact q, fun b u xs q => by rw [upd_ne (hm b _ q fun z => z)]; exact q, fun b ps q => ⟨#[], by rw [upd_ne (hm b _ q fun z => z), q]; simp⟩⟩
  by_cases hbe : b = e
  · subst hbe; exact heo
  · exact ⟨u, k b u hbe q⟩
theorem Un.mono (u : Un fs ex H H1 h h1) (hs : ∀ b ∈ fs, b ∈ fs') (hx : ∀ b ∈ ex, b ∈ ex') : Un fs' ex' H H1 h h1 :=
  ⟨fun b ob q n hb he => u.keep b ob q n (fun z => hb (hs b z)) fun z => he (hx b z), fun _ _ q n _ he => u.any q n fun z => he (hx _ z), fun b ob q n he => u.free b ob q n fun z => he (hx b z), fun b ob q he => u.there b ob q fun z => he (hx b z), u.tups, u.frzs, u.tbls⟩
end
noncomputable def trk (h : Heap) (H : Hp) : List Addr := (List.range h.objs.size).filter fun a => (H a).isSome
noncomputable def hidT (h : Heap) (H : Hp) : Heap := PySem.W.hideAll h (trk h H)
theorem hidT_size (h : Heap) (H : Hp) : (hidT h H).objs.size = h.objs.size := PySem.W.hideAll_size _ _
theorem hidT_get {h : Heap} {H : Hp} {b : Addr} {o : Obj} (e : h.get? b = some o) (n : H b = none) : (hidT h H).get? b = some o :=
  PySem.W.hideAll_get _ e fun hm => by
    have q : (H b).isSome = true := (List.mem_filter.mp hm).2
    rw [n] at q; simp at q
theorem of_hidT {h : Heap} {H : Hp} {b : Addr} {o : Obj} (e : (hidT h H).get? b = some o) : h.get? b = some o ∧ H b = none := by
  have e' : h.get? b = some o := PySem.W.of_hideAll (trk h H) e
  refine ⟨e', ?_⟩
  cases q : H b with
  | none => rfl
  | some x =>
    have hm : b ∈ trk h H := List.mem_filter.mpr ⟨List.mem_range.mpr (Heap.lt_size e'), by simp [q]⟩
    have z : (hidT h H).get? b = none := PySem.W.hideAll_none (trk h H) hm
    rw [z] at e; cases e
noncomputable def allNews (g h : Heap) (L : Addr) : List (Addr × Obj) := (List.range h.objs.size).filterMap fun a => if a = L ∨ (g.get? a).isSome = true then none else (h.get? a).map fun o => (a, o)
noncomputable def rest (g h : Heap) (L d : Addr) : List (Addr × Obj) := (allNews g h L).filter fun p => decide (p.1 ≠ d)
end L2
namespace L2
open PySem PySem.Spec PyProof.Rows
structure Mod (K : PySem.W.Frag) (mg : Str → Option Value) (base : Heap) : Prop where
  kin : K.In base
  glob : base.Ns mainGlobals mg
  blt : ∃ mb, base.Ns builtinsNs mb ∧ ∀ x : Str, x ≠ "__name__" → mb x = bootBuiltins x
  nolimit : base.NoLimit
structure Cx where
  prog : Program
  w : World
  K : PySem.W.Frag
  mg : Str → Option Value
  base : Heap
  A : Around
  N : List Str
  s₀ : Shared
  H₀ : Hp
  env : Env
  outer : List Env
  stack : List Env
  ex : List Addr
  fn : Str → Bool
  calm : Bool
  pn : List (Addr × Obj)
  xe : Value → Shared → Prop
noncomputable def frs (l : List Env) : List Addr := l.filterMap (·.frame)
noncomputable abbrev Cx.fs (X : Cx) : List Addr := frs X.outer
noncomputable def Vis (sc : Scope) (x : Str) : Prop := sc.names.lookup x = some .local ∨ sc.names.lookup x = some .cell ∨ sc.names.lookup x = some .free
noncomputable def Loc (sc : Scope) (x : Str) : Prop := sc.names.lookup x = some .local ∨ sc.names.lookup x = some .cell
noncomputable def Look (env : Env) (h : Heap) (m : Str → Option Value) (x : Str) (u : Value) : Prop :=
  (env.kindOf x = some .local ∧ m x = some u) ∨ ((env.kindOf x = some .cell ∨ env.kindOf x = some .free) ∧ ∃ c, env.cells.lookup x = some c ∧ h.IsCell c (some u))
structure Cx.Ok (X : Cx) : Prop where
  mod : Mod X.K X.mg X.base
  kind : X.env.scope.kind = .function
  glob : X.env.globals = mainGlobals
  blt : X.env.builtins = builtinsNs
  above : X.s₀.heap.objs.size ≤ X.env.locals
  inj : ∀ x y c, X.env.cells.lookup x = some c → X.env.cells.lookup y = some c → x = y
  has : ∀ x, (X.env.kindOf x = some .cell ∨ X.env.kindOf x = some .free) → ∃ c, X.env.cells.lookup x = some c
  cab : ∀ x c, X.fn x = true → X.env.cells.lookup x = some c → X.s₀.heap.objs.size ≤ c
  hd : X.calm = true → X.A.handled = none
  frames : X.A.frames = some X.stack
  stk : X.stack = X.outer ∨ (X.stack = X.env :: X.outer ∧ X.env.frame = some X.env.locals)
  exf : ∀ b ∈ X.ex, b ≠ X.env.locals ∧ ∀ x c, X.env.cells.lookup x = some c → c ≠ b
  bs : ∀ b o, X.base.get? b = some o → X.s₀.heap.get? b = some o ∧ X.H₀ b = none
  bsz : X.base.objs.size ≤ X.s₀.heap.objs.size
  noex : ∀ b o, X.base.get? b = some o → b ∉ X.ex
  exfs : ∀ b ∈ X.ex, b ∉ X.fs
  funs : X.s₀.heap.FunFrames X.base X.outer
  frf : ∀ b ∈ X.fs, X.H₀ b = none
structure Inv (X : Cx) (pins : List (Addr × Obj)) (σ : List (Option V)) (H : Hp) (s : Shared) : Prop where
  ok : X.Ok
  os : s.os = X.s₀.os
  bare : AllBare s.gens
  base : Un X.fs X.ex X.H₀ H X.s₀.heap s.heap
  loc : ∃ m, s.heap.Ns X.env.locals m ∧ ∀ (i : Nat) (x : Str) (v : V), X.N[i]? = some x → σ[i]? = some (some v) → Vis X.env.scope x → ∃ u, RelV v u ∧ Look X.env s.heap m x u
  cell : ∀ x c, X.env.cells.lookup x = some c → ∃ v, s.heap.IsCell c v
  free : H X.env.locals = none
  freeC : ∀ x c, X.env.cells.lookup x = some c → H c = none
  pin : ∀ p ∈ X.pn ++ pins, s.heap.get? p.1 = some p.2 ∧ H p.1 = none ∧ p.1 ≠ X.env.locals ∧ p.1 ∉ X.fs ∧ ∀ v, p.2.data ≠ .cell v
  hok : HOk X.prog X.w H s.heap
  len : σ.length = X.N.length
section
variable {X : Cx} {pins : List (Addr × Obj)} {σ : List (Option V)} {H H' : Hp} {s : Shared} {h' : Heap}
theorem Cx.Ok.nofr (ok : X.Ok) {b : Addr} {o : Obj} (e : X.base.get? b = some o) : b ∉ X.fs := fun hb => by
  have := (ok.funs.mem hb).1
  rw [e] at this; cases this
theorem Inv.bs (I : Inv X pins σ H s) : ∀ b o, X.base.get? b = some o → s.heap.get? b = some o ∧ H b = none := fun b o e =>
  ⟨I.base.keep b o (I.ok.bs b o e).1 (I.ok.bs b o e).2 (I.ok.nofr e) (I.ok.noex b o e), I.base.free b o (I.ok.bs b o e).1 (I.ok.bs b o e).2 (I.ok.noex b o e)⟩
theorem Inv.bk (I : Inv X pins σ H s) : ∀ b o, X.base.get? b = some o → s.heap.get? b = some o := fun b o e => (I.bs b o e).1
theorem Inv.mod (I : Inv X pins σ H s) : Mod X.K X.mg X.base := I.ok.mod
theorem Inv.kIn (I : Inv X pins σ H s) : X.K.In s.heap := I.ok.mod.kin.keeps I.bk
theorem Inv.nolimit (I : Inv X pins σ H s) : s.heap.NoLimit := I.ok.mod.nolimit.keeps I.bk
theorem Inv.fr (I : Inv X pins σ H s) : ∃ m, Fr X.base X.env.locals s.heap m :=
  let ⟨m, hn, _⟩ := I.loc
  ⟨m, hn, I.bk, Nat.le_trans I.ok.bsz I.ok.above⟩
theorem Inv.lt (I : Inv X pins σ H s) : X.env.locals < s.heap.objs.size := let ⟨_, hn, _⟩ := I.loc; hn.lt
theorem Inv.sz (I : Inv X pins σ H s) : X.s₀.heap.objs.size ≤ s.heap.objs.size := Nat.le_trans I.ok.above (Nat.le_of_lt I.lt)
theorem Inv.nofs (I : Inv X pins σ H s) {a : Addr} (h : s.heap.objs.size ≤ a) : a ∉ X.fs := fun hb => by
  obtain ⟨_, o, ho, _⟩ := I.ok.funs.mem hb
  exact absurd (Nat.lt_of_lt_of_le (Heap.lt_size ho) (Nat.le_trans I.sz h)) (Nat.lt_irrefl _)
theorem Inv.cne (I : Inv X pins σ H s) : ∀ x c, X.env.cells.lookup x = some c → c ≠ X.env.locals := fun x c e z => by
  obtain ⟨v, o, ho, hd⟩ := I.cell x c e
  obtain ⟨m, ⟨o', es, ep, ho', hd', _⟩, _⟩ := I.loc
  rw [z, ho'] at ho; cases ho; rw [hd'] at hd; cases hd
theorem Inv.funs (I : Inv X pins σ H s) : s.heap.FunFrames X.base X.outer := by
  have all : ∀ (l : List Env), (∀ b ∈ frs l, b ∈ X.fs) → X.s₀.heap.FunFrames X.base l → s.heap.FunFrames X.base l := by
    intro l
    induction l with
    | nil => intro _ _; trivial
    | cons env r ih =>
      intro hs hl
      obtain ⟨hk, ⟨L, o, hf, hn, ho, hd⟩, hr⟩ := hl
      have hL : L ∈ X.fs := hs L (by unfold frs; rw [List.filterMap_cons, hf]; exact List.mem_cons_self)
      obtain ⟨sl, e⟩ := I.base.slot L o ho (I.ok.frf L hL) hL fun z => I.ok.exfs L z hL
      exact ⟨hk, ⟨L, _, hf, hn, e, hd⟩, ih (fun b hb => hs b (by unfold frs; rw [List.filterMap_cons, hf]; exact List.mem_cons_of_mem _ hb)) hr⟩
  exact all X.outer (fun _ hb => hb) I.ok.funs
theorem Inv.stack (I : Inv X pins σ H s) : s.heap.FunFrames X.base X.stack := by
  rcases I.ok.stk with e | ⟨e, hf⟩
  · rw [e]; exact I.funs
  · rw [e]
    obtain ⟨m, hn, _⟩ := I.loc
    refine .cons (by rw [I.ok.kind]; decide) hf hn ?_ I.funs
    exact Heap.get?_none_of_le (Nat.le_trans I.ok.bsz I.ok.above)
theorem Inv.stkSub (I : Inv X pins σ H s) : ∀ b ∈ frs X.stack, b ∈ X.env.locals :: X.fs := fun b hb => by
  rcases I.ok.stk with e | ⟨e, hf⟩
  · rw [e] at hb; exact List.mem_cons_of_mem _ hb
  · rw [e] at hb
    unfold frs at hb
    rw [List.filterMap_cons, hf] at hb
    exact hb
theorem Inv.stkFree (I : Inv X pins σ H s) : ∀ b ∈ frs X.stack, H b = none := fun b hb => by
  rcases List.mem_cons.mp (I.stkSub b hb) with e | hb
  · rw [e]; exact I.free
  · obtain ⟨_, o, ho, _⟩ := I.ok.funs.mem hb
    exact I.base.free b o ho (I.ok.frf b hb) fun z => I.ok.exfs b z hb
theorem Inv.step {g' : Array GenState} {t' : Nat} {d' : Drawn} {ch : List Addr} (I : Inv X pins σ H s)
    (hch : ∀ b ∈ ch, (b ∈ X.ex ∨ X.s₀.heap.objs.size ≤ b) ∧ b ≠ X.env.locals ∧ (∀ x c, X.env.cells.lookup x = some c → c ≠ b) ∧ ∀ p ∈ X.pn ++ pins, p.1 ≠ b)
    (keep : ∀ b o, b ≠ X.env.locals → b ∉ X.fs → b ∉ ch → s.heap.get? b = some o → H b = none → h'.get? b = some o)
    (slot : ∀ b o, b ≠ X.env.locals → b ∈ X.fs → b ∉ ch → s.heap.get? b = some o → H b = none → ∃ sl, h'.get? b = some { o with slots := sl }) (free : ∀ b o, b ∉ ch → s.heap.get? b = some o → H b = none → H' b = none)
    (there : ∀ b o, b ∉ ch → s.heap.get? b = some o → ∃ o', h'.get? b = some o')
    (tups : ∀ b xs, H b = some (.tup xs) → H' b = some (.tup xs)) (frzs : ∀ b o u, H b = some (.frz o u) → H' b = some (.frz o u)) (tbls : ∀ b ps, H b = some (.tbl ps) → ∃ more, H' b = some (.tbl (ps ++ more)))
    (ns : ∀ m, s.heap.Ns X.env.locals m → h'.Ns X.env.locals m) (hok : HOk X.prog X.w H' h') (hg : AllBare g') :
    Inv X pins σ H' { s with heap := h', gens := g', drawn := d', toks := t' } := by
  have neL : ∀ b o, X.s₀.heap.get? b = some o → b ≠ X.env.locals := fun b o e => Nat.ne_of_lt (Nat.lt_of_lt_of_le (Heap.lt_size e) I.ok.above)
  have neC : ∀ b o, X.s₀.heap.get? b = some o → b ∉ X.ex → b ∉ ch := fun b o e hx hb => by
    rcases (hch b hb).1 with z | z
    · exact hx z
    · exact absurd (Nat.lt_of_lt_of_le (Heap.lt_size e) z) (Nat.lt_irrefl _)
  have cellK : ∀ x c, X.env.cells.lookup x = some c → ∀ v, s.heap.IsCell c v → h'.IsCell c v := fun x c e v ⟨o, ho, hd⟩ => by
    have nch : c ∉ ch := fun z => (hch c z).2.2.1 x c e rfl
    by_cases hc : c ∈ X.fs
    · obtain ⟨sl, q⟩ := slot c o (I.cne x c e) hc nch ho (I.freeC x c e)
      exact ⟨_, q, hd⟩
    · exact ⟨o, keep c o (I.cne x c e) hc nch ho (I.freeC x c e), hd⟩
  refine ⟨I.ok, I.os, hg, ⟨fun b o e n hb hx => ?_, fun b o e n hb hx => ?_, fun b o e n hx => ?_, fun b o e hx => ?_, fun b xs e => tups b xs (I.base.tups b xs e), fun b o xs e => frzs b o xs (I.base.frzs b o xs e), fun b ps e => ?_⟩, ?_, fun x c e => ?_, ?_, fun x c e => ?_, fun p hp => ?_, hok, I.len⟩
  · exact keep b o (neL b o e) hb (neC b o e hx) (I.base.keep b o e n hb hx) (I.base.free b o e n hx)
  · obtain ⟨sl, e1⟩ := I.base.slot b o e n hb hx
    obtain ⟨sl', e2⟩ := slot b _ (neL b o e) hb (neC b o e hx) e1 (I.base.free b o e n hx)
    exact ⟨sl', e2⟩
  · obtain ⟨o', e1⟩ := I.base.there b o e hx
    exact free b o' (neC b o e hx) e1 (I.base.free b o e n hx)
  · obtain ⟨o', e1⟩ := I.base.there b o e hx
    exact there b o' (neC b o e hx) e1
  · obtain ⟨m1, e1⟩ := I.base.tbls b ps e
    obtain ⟨m2, e2⟩ := tbls b _ e1
    exact ⟨m1 ++ m2, by rw [e2, Array.append_assoc]⟩
  · obtain ⟨m, hn, hl⟩ := I.loc
    refine ⟨m, ns m hn, fun i x v e1 e2 e3 => ?_⟩
    obtain ⟨u, r, l⟩ := hl i x v e1 e2 e3
    refine ⟨u, r, ?_⟩
    rcases l with l | ⟨k, c, e, z⟩
    · exact .inl l
    · exact .inr ⟨k, c, e, cellK x c e _ z⟩
  · obtain ⟨v, z⟩ := I.cell x c e
    exact ⟨v, cellK x c e v z⟩
  · obtain ⟨m, ⟨o, _, _, ho, _⟩, _⟩ := I.loc
    exact free _ o (fun z => (hch _ z).2.1 rfl) ho I.free
  · obtain ⟨v, o, ho, hd⟩ := I.cell x c e
    exact free c o (fun z => (hch c z).2.2.1 x c e rfl) ho (I.freeC x c e)
  · obtain ⟨e, n, ne, nf, d⟩ := I.pin p hp
    have nch : p.1 ∉ ch := fun z => (hch p.1 z).2.2.2 p hp rfl
    exact ⟨keep p.1 p.2 ne nf nch e n, free p.1 p.2 nch e n, ne, nf, d⟩
theorem Inv.un {t' : Nat} (I : Inv X pins σ H s) (u : Un X.fs [] H H' s.heap h') (hok : HOk X.prog X.w H' h') : Inv X pins σ H' { s with heap := h', toks := t' } := by
  obtain ⟨m, ⟨o, es, ep, ho, r⟩, _⟩ := id I.loc
  obtain ⟨sl, hL⟩ := u.any ho I.free (by simp)
  exact I.step (g' := s.gens) (d' := s.drawn) (ch := []) (fun _ z => nomatch z) (fun b o _ hb _ e n => u.keep b o e n hb (by simp)) (fun b o _ hb _ e n => u.slot b o e n hb (by simp)) (fun b o _ e n => u.free b o e n (by simp)) (fun b o _ e => u.there b o e (by simp)) u.tups u.frzs u.tbls (fun m' hm => by
    obtain ⟨o', es', ep', ho', r'⟩ := hm
    rw [ho] at ho'; cases ho'
    exact ⟨_, es', ep', hL, r'⟩) hok I.bare
theorem Inv.call {g' : Array GenState} {t' : Nat} {d' : Drawn} {ch : List Addr} (I : Inv X pins σ H s) (u : Un (frs X.stack) ch H H' s.heap h') (hok : HOk X.prog X.w H' h') (hg : AllBare g')
    (hch : ∀ b ∈ ch, (b ∈ X.ex ∨ X.s₀.heap.objs.size ≤ b) ∧ b ≠ X.env.locals ∧ (∀ x c, X.env.cells.lookup x = some c → c ≠ b) ∧ ∀ p ∈ X.pn ++ pins, p.1 ≠ b) :
    Inv X pins σ H' { s with heap := h', gens := g', drawn := d', toks := t' } := by
  obtain ⟨m, ⟨o, es, ep, ho, r⟩, _⟩ := id I.loc
  obtain ⟨sl, hL⟩ := u.any ho I.free fun z => (hch _ z).2.1 rfl
  exact I.step (ch := ch) hch (fun b o hL hb hc e n => u.keep b o e n (fun z => (List.mem_cons.mp (I.stkSub b z)).elim hL hb) hc) (fun b o _ _ hc e n => u.any e n hc) (fun b o hc e n => u.free b o e n hc) (fun b o hc e => u.there b o e hc) u.tups u.frzs u.tbls (fun m' hm => by
    obtain ⟨o', es', ep', ho', r'⟩ := hm
    rw [ho] at ho'; cases ho'
    exact ⟨_, es', ep', hL, r'⟩) hok hg
theorem Inv.turned {t' : Nat} {it : Addr} (I : Inv X pins σ H s) (k : ∀ b o, b ≠ it → s.heap.get? b = some o → h'.get? b = some o) (hn : H it = none) (hL : it ≠ X.env.locals)
    (h1 : it ∈ X.ex ∨ X.s₀.heap.objs.size ≤ it) (h2 : ∀ x c, X.env.cells.lookup x = some c → c ≠ it) (h3 : ∀ p ∈ X.pn ++ pins, p.1 ≠ it) : Inv X pins σ H { s with heap := h', toks := t' } := by
  have nit : ∀ b u, H b = some u → b ≠ it := fun b u e z => by rw [z, hn] at e; cases e
  refine I.step (g' := s.gens) (d' := s.drawn) (ch := [it]) (fun b hb => ?_) (fun b o _ _ hc e _ => k b o (fun z => hc (by simp [z])) e) (fun b o _ _ hc e _ => ⟨o.slots, k b o (fun z => hc (by simp [z])) e⟩) (fun _ _ _ _ n => n)
    (fun b o hc e => ⟨o, k b o (fun z => hc (by simp [z])) e⟩) (fun _ _ e => e) (fun _ _ _ e => e) (fun b ps e => ⟨#[], by rw [e]; simp⟩) (fun m hm => ?_) (fun b u e => ?_) I.bare
  · have e : b = it := by simpa using hb
    subst e
    exact ⟨h1, hL, h2, h3⟩
  · obtain ⟨o, es, ep, ho, r⟩ := hm
    exact ⟨o, es, ep, k _ o (Ne.symm hL) ho, r⟩
  · refine (I.hok b u e).stay (fun c v hc q => k c v ?_ q) (fun _ q => q) fun _ _ q => q
    rcases hc with z | z
    · rw [z]; exact nit b u e
    · exact nit c _ z
theorem Inv.tok (I : Inv X pins σ H s) (t : Nat) : Inv X pins σ H { s with toks := t } := I.un (h' := s.heap) (t' := t) Un.refl I.hok
theorem Inv.kept {t' : Nat} (I : Inv X pins σ H s) (k : ∀ b u, s.heap.get? b = some u → h'.get? b = some u) : Inv X pins σ H { s with heap := h', toks := t' } := I.un (Un.kept k) (I.hok.kept k)
theorem Inv.laid {a : Addr} {o : HO} {t' : Nat} (I : Inv X pins σ H s) (k : ∀ b u, s.heap.get? b = some u → h'.get? b = some u) (hp : s.heap.objs.size ≤ a) (new : ObjOk X.prog X.w (upd H a o) h' a o) :
    Inv X pins σ (upd H a o) { s with heap := h', toks := t' } := I.un (Un.laid k hp (I.hok.fresh hp)) (I.hok.laid k hp new)
theorem Inv.write {x e : Addr} {o : HO} {t' : Nat} (I : Inv X pins σ H s) (mu : Mut (H x)) (he : e = x ∨ H e = some (.own x)) (k : ∀ b u, b ≠ e → s.heap.get? b = some u → h'.get? b = some u) (heo : ∃ u, h'.get? e = some u)
    (new : ObjOk X.prog X.w (upd H x o) h' x o) : Inv X pins σ (upd H x o) { s with heap := h', toks := t' } := I.un (Un.write mu he k heo) (I.hok.write mu he k heo new)
theorem Inv.pins_of {pins' : List (Addr × Obj)} (I : Inv X pins σ H s) (h : ∀ p ∈ pins', s.heap.get? p.1 = some p.2 ∧ H p.1 = none ∧ p.1 ≠ X.env.locals ∧ p.1 ∉ X.fs ∧ ∀ v, p.2.data ≠ .cell v) : Inv X pins' σ H s :=
  ⟨I.ok, I.os, I.bare, I.base, I.loc, I.cell, I.free, I.freeC, fun p hp => (List.mem_append.mp hp).elim (fun z => I.pin p (List.mem_append_left _ z)) (h p), I.hok, I.len⟩
theorem nodup_ix {N : List Str} (hN : N.Nodup) {i j : Nat} {x : Str} (a : N[i]? = some x) (b : N[j]? = some x) : i = j := by
  obtain ⟨h1, e1⟩ := List.getElem?_eq_some_iff.mp a
  obtain ⟨h2, e2⟩ := List.getElem?_eq_some_iff.mp b
  exact (List.getElem_inj hN).mp (e1.trans e2.symm)
theorem store_ok2 {M : Model} {A : Around} {E : Value → Shared → Prop} {i : Nat} {x : Str} {v : V} {u : Value} {Q : Unit → Shared → Prop} (I : Inv X pins σ H s) (hN : X.N.Nodup) (hi : X.N[i]? = some x) (hx : Loc X.env.scope x) (r : RelV v u)
    (h : ∀ s', Inv X pins (σ.set i (some v)) H s' → (∃ a, Heap.SameBut a s.heap s'.heap ∧ (a = X.env.locals ∨ X.env.cells.lookup x = some a)) → Q () s') (hf : X.fn x = true ∨ X.env.scope.names.lookup x = some .local := by first | exact .inl rfl | exact .inr rfl | assumption) : wpAny M A (storeName X.env x u) Q E s := by
  obtain ⟨m, hn, hl⟩ := id I.loc
  have hcls : (X.env.scope.kind == .class || (X.env.scope.kind == .module && X.env.locals != X.env.globals)) = false := by rw [I.ok.kind]; rfl
  have hiσ : i < σ.length := by rw [I.len]; exact (List.getElem?_eq_some_iff.mp hi).1
  have cne := I.cne
  have tracked : ∀ {a : Addr} {h' : Heap}, (∃ o, s.heap.get? a = some o ∧ H a = none) → Heap.SameBut a s.heap h' → HOk X.prog X.w H h' := fun {a h'} ha hs b ob e => by
    obtain ⟨_, _, hfree⟩ := ha
    refine (I.hok b ob e).stay (fun c w' hc q => (hs.2 c ?_).trans q) (fun _ q => q) fun _ _ q => q
    rintro rfl
    rcases hc with rfl | hc
    · rw [hfree] at e; cases e
    · rw [hfree] at hc; cases hc
  rcases hx with hk | hk
  · refine wpAny_storeName_local hk hn (fun h' hn' hs => ?_) hcls
    obtain ⟨oL, _, _, hoL, _⟩ := id hn
    refine h _ ⟨I.ok, I.os, I.bare, ⟨fun b o e n hb hx => ?_, fun b o e n hb hx => ?_, I.base.free, fun b o e hx => ?_, I.base.tups, I.base.frzs, I.base.tbls⟩, ⟨_, hn', fun j y v' e1 e2 e3 => ?_⟩, fun y c e => ?_, I.free, I.freeC, fun p hp => ?_, tracked ⟨oL, hoL, I.free⟩ hs, by simpa using I.len⟩ ⟨_, hs, .inl rfl⟩
    · exact (hs.2 b (Nat.ne_of_lt (Nat.lt_of_lt_of_le (Heap.lt_size e) I.ok.above))).trans (I.base.keep b o e n hb hx)
    · obtain ⟨sl, e1⟩ := I.base.slot b o e n hb hx
      exact ⟨sl, (hs.2 b (Nat.ne_of_lt (Nat.lt_of_lt_of_le (Heap.lt_size e) I.ok.above))).trans e1⟩
    · obtain ⟨o', e1⟩ := I.base.there b o e hx
      exact ⟨o', (hs.2 b (Nat.ne_of_lt (Nat.lt_of_lt_of_le (Heap.lt_size e) I.ok.above))).trans e1⟩
    · by_cases hj : j = i
      · subst hj
        rw [hi] at e1; cases e1
        rw [List.getElem?_set_self hiσ] at e2
        cases e2
        exact ⟨u, r, .inl ⟨hk, by simp⟩⟩
      · rw [List.getElem?_set_ne (Ne.symm hj)] at e2
        obtain ⟨u', r', q⟩ := hl j y v' e1 e2 e3
        refine ⟨u', r', ?_⟩
        rcases q with ⟨k, e⟩ | ⟨k, c, e, z⟩
        · refine .inl ⟨k, ?_⟩
          have : y ≠ x := fun e => hj (nodup_ix hN e1 (e ▸ hi))
          simp [this, e]
        · exact .inr ⟨k, c, e, z.sameBut hs (cne y c e)⟩
    · obtain ⟨w', z⟩ := I.cell y c e
      exact ⟨w', z.sameBut hs (cne y c e)⟩
    · obtain ⟨e, n, ne, nf, d⟩ := I.pin p hp
      exact ⟨(hs.2 p.1 ne).trans e, n, ne, nf, d⟩
  · have hfn : X.fn x = true := by
      rcases hf with z | z
      · exact z
      · rw [z] at hk; cases hk
    obtain ⟨c, hc⟩ := I.ok.has x (.inl hk)
    obtain ⟨w', z⟩ := I.cell x c hc
    refine wpAny_storeName_cell I.ok.kind hk hc z (fun h' hc' hs => ?_)
    obtain ⟨oc, hoc, hocd⟩ := id z
    refine h { s with heap := h' } ⟨I.ok, I.os, I.bare, ⟨fun b o e n hb hx => ?_, fun b o e n hb hx => ?_, I.base.free, fun b o e hx => ?_, I.base.tups, I.base.frzs, I.base.tbls⟩, ⟨m, hn.sameBut hs (Ne.symm (cne x c hc)), fun j y v' e1 e2 e3 => ?_⟩, fun y c' e => ?_, I.free, I.freeC, fun p hp => ?_, tracked ⟨oc, hoc, I.freeC x c hc⟩ hs, by simpa using I.len⟩ ⟨c, hs, .inr hc⟩
    · exact (hs.2 b (Nat.ne_of_lt (Nat.lt_of_lt_of_le (Heap.lt_size e) (I.ok.cab x c hfn hc)))).trans (I.base.keep b o e n hb hx)
    · obtain ⟨sl, e1⟩ := I.base.slot b o e n hb hx
      exact ⟨sl, (hs.2 b (Nat.ne_of_lt (Nat.lt_of_lt_of_le (Heap.lt_size e) (I.ok.cab x c hfn hc)))).trans e1⟩
    · obtain ⟨o', e1⟩ := I.base.there b o e hx
      exact ⟨o', (hs.2 b (Nat.ne_of_lt (Nat.lt_of_lt_of_le (Heap.lt_size e) (I.ok.cab x c hfn hc)))).trans e1⟩
    · by_cases hj : j = i
      · subst hj
        rw [hi] at e1; cases e1
        rw [List.getElem?_set_self hiσ] at e2
        cases e2
        exact ⟨u, r, .inr ⟨.inl hk, c, hc, hc'⟩⟩
      · rw [List.getElem?_set_ne (Ne.symm hj)] at e2
        obtain ⟨u', r', q⟩ := hl j y v' e1 e2 e3
        refine ⟨u', r', ?_⟩
        rcases q with q | ⟨k, c', e, z'⟩
        · exact .inl q
        · refine .inr ⟨k, c', e, z'.sameBut hs ?_⟩
          rintro rfl
          exact hj (nodup_ix hN e1 (I.ok.inj _ _ _ e hc ▸ hi))
    · by_cases hcc : c' = c
      · subst hcc; exact ⟨_, hc'⟩
      · obtain ⟨w2, z2⟩ := I.cell y c' e
        exact ⟨w2, z2.sameBut hs hcc⟩
    · obtain ⟨e, n, ne, nf, d⟩ := I.pin p hp
      refine ⟨(hs.2 p.1 ?_).trans e, n, ne, nf, d⟩
      intro q
      rw [q, hoc] at e
      have q' : oc = p.2 := Option.some.inj e
      exact d w' (by rw [← q']; exact hocd)
theorem store_ok {M : Model} {A : Around} {E : Value → Shared → Prop} {i : Nat} {x : Str} {v : V} {u : Value} {Q : Unit → Shared → Prop} (I : Inv X pins σ H s) (hN : X.N.Nodup) (hi : X.N[i]? = some x) (hx : Loc X.env.scope x) (r : RelV v u)
    (h : ∀ s', Inv X pins (σ.set i (some v)) H s' → Q () s') (hf : X.fn x = true ∨ X.env.scope.names.lookup x = some .local := by first | exact .inl rfl | exact .inr rfl | assumption) : wpAny M A (storeName X.env x u) Q E s :=
  store_ok2 I hN hi hx r (fun s' I' _ => h s' I') hf
theorem Inv.call' {s' : Shared} {ch : List Addr} (I : Inv X pins σ H s) (ho : s'.os = s.os) (u : Un (frs X.stack) ch H H' s.heap s'.heap) (hok : HOk X.prog X.w H' s'.heap) (hg : AllBare s'.gens)
    (hch : ∀ b ∈ ch, (b ∈ X.ex ∨ X.s₀.heap.objs.size ≤ b) ∧ b ≠ X.env.locals ∧ (∀ x c, X.env.cells.lookup x = some c → c ≠ b) ∧ ∀ p ∈ X.pn ++ pins, p.1 ≠ b) : Inv X pins σ H' s' := by
  obtain ⟨h', g', d', t', o'⟩ := s'
  have e : o' = s.os := ho
  subst e
  exact I.call (g' := g') (t' := t') (d' := d') u hok hg hch
end
noncomputable abbrev XK := Value → Option Addr → Hp → Prop
noncomputable abbrev St := List (Option V)
noncomputable abbrev VK := V → Hp → Prop
noncomputable abbrev TE := St → Hp → VK → Prop
noncomputable abbrev TT := St → Hp → (Bool → Hp → Prop) → Prop
noncomputable abbrev TA := St → Hp → (List V → Hp → Prop) → Prop
structure Ends where
  nx : St → Hp → Prop
  rt : VK
  bk : St → Hp → Prop := fun _ _ => False
  ct : St → Hp → Prop := fun _ _ => False
noncomputable abbrev TS := Ends → St → Hp → Prop
noncomputable def EP (X : Cx) (pins : List (Addr × Obj)) (σ : St) (Q : VK) (u : Value) (s' : Shared) : Prop := ∃ v H', Inv X pins σ H' s' ∧ RelV v u ∧ Q v H'
noncomputable def TP (X : Cx) (pins : List (Addr × Obj)) (σ : St) (Q : Bool → Hp → Prop) (b : Bool) (s' : Shared) : Prop := ∃ H', Inv X pins σ H' s' ∧ Q b H'
noncomputable def AP (X : Cx) (pins : List (Addr × Obj)) (σ : St) (Q : List V → Hp → Prop) (us : List Value) (s' : Shared) : Prop := ∃ vs H', Inv X pins σ H' s' ∧ Vals vs us ∧ Q vs H'
noncomputable def SP (X : Cx) (pins : List (Addr × Obj)) (D : Ends) (f : Flow) (s' : Shared) : Prop :=
  match f with
  | .next => ∃ σ' H', Inv X pins σ' H' s' ∧ D.nx σ' H'
  | .brk => ∃ σ' H', Inv X pins σ' H' s' ∧ D.bk σ' H'
  | .cont => ∃ σ' H', Inv X pins σ' H' s' ∧ D.ct σ' H'
  | .ret u => ∃ v σ' H', Inv X pins σ' H' s' ∧ RelV v u ∧ D.rt v H'
noncomputable def PE (X : Cx) (e : Expr) (t : TE) : Prop :=
  ∀ (pins : List (Addr × Obj)) (s : Shared) (σ : St) (H : Hp) (Q : VK), Inv X pins σ H s → t σ H Q → wpAny (model X.prog X.w) X.A (eval e X.env) (EP X pins σ Q) X.xe s
noncomputable def PT (X : Cx) (e : Expr) (t : TT) : Prop :=
  ∀ (pins : List (Addr × Obj)) (s : Shared) (σ : St) (H : Hp) (Q : Bool → Hp → Prop), Inv X pins σ H s → t σ H Q → wpAny (model X.prog X.w) X.A (isTrue e X.env (eval e X.env)) (TP X pins σ Q) X.xe s
noncomputable def PW (X : Cx) (e : Expr) (t : TT) : Prop :=
  ∀ (whole : Sem Value) (pins : List (Addr × Obj)) (s : Shared) (σ : St) (H : Hp) (Q : Bool → Hp → Prop), Inv X pins σ H s → t σ H Q → wpAny (model X.prog X.w) X.A (isTrue e X.env whole) (TP X pins σ Q) X.xe s
theorem PW.pt {X : Cx} {e : Expr} {t : TT} (h : PW X e t) : PT X e t := h _
noncomputable def PA (X : Cx) (es : List Expr) (t : TA) : Prop :=
  ∀ (pos : Pos) (pins : List (Addr × Obj)) (s : Shared) (σ : St) (H : Hp) (Q : List V → Hp → Prop), Inv X pins σ H s → t σ H Q → wpAny (model X.prog X.w) X.A (spliced (backTo pos (starEach es X.env))) (AP X pins σ Q) X.xe s
noncomputable def PS (X : Cx) (st : Stmt) (t : TS) : Prop :=
  ∀ (pins : List (Addr × Obj)) (s : Shared) (σ : St) (H : Hp) (D : Ends), Inv X pins σ H s → t D σ H → wpAny (model X.prog X.w) X.A (exec st X.env) (SP X pins D) X.xe s
noncomputable def PSs (X : Cx) (st : List Stmt) (t : TS) : Prop :=
  ∀ (pins : List (Addr × Obj)) (s : Shared) (σ : St) (H : Hp) (D : Ends), Inv X pins σ H s → t D σ H → wpAny (model X.prog X.w) X.A (execs st X.env) (SP X pins D) X.xe s
theorem thn {α : Type} {t : Sem α} {Q Q' : α → Shared → Prop} {M : Model} {A : Around} {E : Value → Shared → Prop} {s : Shared} (h : wpAny M A t Q E s) (hQ : ∀ a s, Q a s → Q' a s) : wpAny M A t Q' E s := wpAny_mono h hQ fun _ _ x => x
end L2
namespace L2
open PySem PySem.Spec PyProof.Rows
section
variable {X : Cx}
noncomputable def tVar (i : Nat) : TE := fun σ H Q => ∃ v, σ[i]? = some (some v) ∧ Q v H
noncomputable def tC (v : V) : TE := fun _ H Q => Q v H
theorem pe_var {i : Nat} {x : Str} {pos : Pos} (hN : X.N[i]? = some x) (hv : Vis X.env.scope x) (hd : (x == ("__debug__" : Str)) = false := by decide) (hcd : (x == ("__classdict__" : Str)) = false := by decide) : PE X (.Name x pos) (tVar i) := by
  intro pins s σ H Q I h
  obtain ⟨v, e, h⟩ := h
  obtain ⟨m, hn, hl⟩ := I.loc
  obtain ⟨u, r, l⟩ := hl i x v hN e hv
  have fin : EP X pins σ Q u s := ⟨v, H, I, r, h⟩
  rcases l with ⟨hk, hm⟩ | ⟨hk, c, hc, hcell⟩
  · exact wpAny_Name (wpAny_loadName_local I.ok.kind hk hn hm fin) hd
  · rcases hk with hk | hk
    · exact wpAny_Name (wpAny_loadName_cell I.ok.kind hk hc hcell fin) hd
    · exact wpAny_Name (wpAny_loadName_free I.ok.kind hk hc hcell fin hcd) hd
theorem pe_int {i j pos} : PE X (.Constant (.int i) j pos) (tC (.int i)) := fun _ _ _ H _ I h => wpAny_Constant_int ⟨.int i, H, I.tok _, ⟨_, rfl⟩, h⟩
theorem pe_bl {b j pos} : PE X (.Constant (.bool b) j pos) (tC (.bl b)) := fun _ _ _ H _ I h => Constant_bool ⟨.bl b, H, I, rfl, h⟩
theorem pe_non {j pos} : PE X (.Constant .none j pos) (tC .non) := fun _ _ _ H _ I h => Constant_none ⟨.non, H, I, rfl, h⟩
theorem pe_str {x j pos} : PE X (.Constant (.str x) j pos) (tC (.str x)) := fun _ _ _ H _ I h => Calls.Constant_str ⟨.str x, H, I.tok _, ⟨_, rfl⟩, h⟩
noncomputable def Gl (X : Cx) (x : Str) : Prop := X.env.kindOf x = some .globalImplicit
theorem ld_glob {E : Value → Shared → Prop} {pins : List (Addr × Obj)} {s : Shared} {σ : St} {H : Hp} {x : Str} {u : Value} {pos : Pos} {Q : Value → Shared → Prop} (I : Inv X pins σ H s) (hg : Gl X x) (hm : X.mg x = some u) (h : Q u s)
    (hd : (x == ("__debug__" : Str)) = false := by decide) : wpAny (model X.prog X.w) X.A (eval (.Name x pos) X.env) Q E s :=
  Calls.Name_function_global I.ok.kind hg (Calls.loadGlobal_global (by rw [I.ok.glob]; exact I.mod.glob.keeps I.bk) hm h) hd
theorem ld_blt {E : Value → Shared → Prop} {pins : List (Addr × Obj)} {s : Shared} {σ : St} {H : Hp} {x : Str} {u : Value} {pos : Pos} {Q : Value → Shared → Prop} (I : Inv X pins σ H s) (hg : Gl X x) (hm : X.mg x = none) (hv : bootBuiltins x = some u) (h : Q u s)
    (hn : x ≠ "__name__" := by decide) (hd : (x == ("__debug__" : Str)) = false := by decide) : wpAny (model X.prog X.w) X.A (eval (.Name x pos) X.env) Q E s := by
  obtain ⟨mb, h1, h2⟩ := I.mod.blt
  exact Calls.Name_function_global I.ok.kind hg (Calls.loadGlobal_builtin (by rw [I.ok.glob]; exact I.mod.glob.keeps I.bk) hm (by rw [I.ok.blt]; exact h1.keeps I.bk) ((h2 x hn).trans hv) h) hd
theorem pe_glob {x : Str} {v : V} {u : Value} {pos : Pos} (hg : Gl X x) (hm : X.mg x = some u) (r : RelV v u) (hd : (x == ("__debug__" : Str)) = false := by decide) : PE X (.Name x pos) (tC v) :=
  fun _ _ _ H _ I h => ld_glob I hg hm ⟨v, H, I, r, h⟩ hd
theorem pe_bltn {x : Str} {v : V} {u : Value} {pos : Pos} (hg : Gl X x) (hm : X.mg x = none) (hv : bootBuiltins x = some u) (r : RelV v u) (hn : x ≠ "__name__" := by decide) (hd : (x == ("__debug__" : Str)) = false := by decide) : PE X (.Name x pos) (tC v) :=
  fun _ _ _ H _ I h => ld_blt I hg hm hv ⟨v, H, I, r, h⟩ hn hd
variable {a b : Expr} {ta tb : TE} {pos : Pos}
noncomputable def tB (t : TE) : TT := fun σ H Q => t σ H fun x H1 => ∃ c, x = .bl c ∧ Q c H1
variable {tA tB' : TT} {rest : List Expr}
noncomputable def tAnd (t u : TT) : TT := fun σ H Q => t σ H fun c H1 => if c = true then u σ H1 Q else Q false H1
noncomputable def tOr (t u : TT) : TT := fun σ H Q => t σ H fun c H1 => if c = true then Q true H1 else u σ H1 Q
noncomputable def tNot (t : TT) : TT := fun σ H Q => t σ H fun c H1 => Q (!c) H1
theorem pw_or1 (ha : PT X a tA) : PW X (.BoolOp .Or [a] pos) tA := by
  intro wh pins s σ H Q I h
  refine isTrue_or (thn (ha pins s σ H Q I h) fun c s1 e => ?_)
  cases c with
  | false => exact isTrue_or_nil e
  | true => exact e
theorem pw_or (ha : PT X a tA) (hb : PW X (.BoolOp .Or (b :: rest) pos) tB') : PW X (.BoolOp .Or (a :: b :: rest) pos) (tOr tA tB') := by
  intro wh pins s σ H Q I h
  refine isTrue_or (thn (ha pins s σ H _ I h) fun c s1 ⟨H1, I1, q1⟩ => ?_)
  cases c with
  | true => exact ⟨H1, I1, q1⟩
  | false => exact hb wh pins s1 σ H1 Q I1 q1
theorem pt_not (ha : PT X a tA) : PT X (.UnaryOp .Not a pos) (tNot tA) := by
  intro pins s σ H Q I h
  exact isTrue_not (ha pins s σ H (fun c H1 => Q (!c) H1) I h)
noncomputable def tAndV (ta tb : TE) : TE := fun σ H Q => ta σ H fun x H1 => ∃ c, x = .bl c ∧ if c = true then tb σ H1 Q else Q (.bl false) H1
noncomputable def tOrV (ta tb : TE) : TE := fun σ H Q => ta σ H fun x H1 => ∃ c, x = .bl c ∧ if c = true then Q (.bl true) H1 else tb σ H1 Q
noncomputable def tNotV (ta : TE) : TE := fun σ H Q => ta σ H fun x H1 => ∃ c, x = .bl c ∧ Q (.bl (!c)) H1
theorem pe_one {op} {t : TE} (h : PE X a t) : PE X (.BoolOp op [a] pos) t := fun pins s σ H Q I hw => BoolOp_one (h pins s σ H Q I hw)
theorem pe_and (ha : PE X a ta) (hb : PE X (.BoolOp .And (b :: rest) pos) tb) : PE X (.BoolOp .And (a :: b :: rest) pos) (tAndV ta tb) := by
  intro pins s σ H Q I h
  refine BoolOp_and (thn (ha pins s σ H _ I h) fun v s1 ⟨x, H1, I1, r1, q1⟩ => ?_)
  obtain ⟨c, rfl, q1⟩ := q1
  cases r1
  refine wpAny_truthy_bool ?_
  cases c with
  | true => exact hb pins s1 σ H1 Q I1 q1
  | false => exact ⟨.bl false, H1, I1, rfl, q1⟩
noncomputable def tIf (t : TT) (ta tb : TE) : TE := fun σ H Q => t σ H fun c H1 => if c = true then ta σ H1 Q else tb σ H1 Q
end
end L2
namespace L2
open PySem PySem.Spec PyProof.Rows
noncomputable def SqL (K : PySem.W.Frag) (H : Hp) (a : Addr) (xs : List V) : Prop :=
  Rd H a (.lst xs) ∨
    ∃ (o : Obj) (its : Array Value) (n : Nat), K.lookup a = some o ∧ o.cls = .type "list" ∧ o.dict = none ∧ o.data = .seq its n ∧ its.size ≤ sizeLine ∧ Vals xs its.toList
noncomputable def SqT (K : PySem.W.Frag) (H : Hp) (a : Addr) (xs : List V) : Prop :=
  Rd H a (.tup xs) ∨
    ∃ (o : Obj) (its : Array Value) (n : Nat), K.lookup a = some o ∧ o.cls = .type "tuple" ∧ o.data = .seq its n ∧ its.size ≤ sizeLine ∧ Vals xs its.toList
noncomputable def absV : Value → Option V
  | .none => some .non
  | .bool b => some (.bl b)
  | .int i _ => some (.int i)
  | .str x _ => some (.str x)
  | .bytes b _ => some (.byt b)
  | .float b _ => some (.flt b)
  | .ref a => some (.ref a)
  | .type n => some (.ty n)
  | _ => none
theorem RelV.abs {x : V} {u : Value} (r : RelV x u) : absV u = some x := by
  cases x with
  | non => cases r; rfl
  | bl _ => cases r; rfl
  | int _ => obtain ⟨t, rfl⟩ := r; rfl
  | str _ => obtain ⟨t, rfl⟩ := r; rfl
  | byt _ => obtain ⟨t, rfl⟩ := r; rfl
  | flt _ => obtain ⟨t, rfl⟩ := r; rfl
  | ref _ => cases r; rfl
  | ty _ => cases r; rfl
theorem RelV.inj {x y : V} {u : Value} (r : RelV x u) (q : RelV y u) : x = y := Option.some.inj (r.abs.symm.trans q.abs)
theorem Vals.inj : ∀ {xs ys : List V} {us : List Value}, Vals xs us → Vals ys us → xs = ys
  | _, _, _, .nil, .nil => rfl
  | _, _, _, .cons r t, .cons r' t' => by rw [r.inj r', Vals.inj t t']
section
variable {X : Cx} {pins : List (Addr × Obj)} {σ : St} {H : Hp} {s : Shared} {a : Addr} {xs ys : List V}
theorem SqL.of {K : PySem.W.Frag} (h : H a = some (.lst xs)) : SqL K H a xs := .inl (.inl h)
theorem SqT.of {K : PySem.W.Frag} (h : H a = some (.tup xs)) : SqT K H a xs := .inl (.inl h)
theorem Inv.list (I : Inv X pins σ H s) (h : SqL X.K H a xs) : ∃ its : List Value, Vals xs its ∧ PlainL s.heap a its.toArray ∧ xs.length ≤ sizeLine := by
  rcases h with h | ⟨o, its, n, hk, hc, hd, hs, hz, r⟩
  · obtain ⟨z, its, n, r, e⟩ := h.ok I.hok
    exact ⟨its, r, ⟨_, n, e, rfl, rfl, rfl⟩, z⟩
  · refine ⟨its.toList, r, ⟨o, n, I.kIn a o hk, hc, hd, by simpa using hs⟩, ?_⟩
    have e := r.length
    simp only [Array.length_toList] at e
    omega
theorem Inv.tuple (I : Inv X pins σ H s) (h : SqT X.K H a xs) : ∃ its : List Value, Vals xs its ∧ IsTup s.heap a its.toArray ∧ xs.length ≤ sizeLine := by
  rcases h with h | ⟨o, its, n, hk, hc, hs, hz, r⟩
  · obtain ⟨z, its, r, p⟩ := h.ok I.hok
    exact ⟨its, r, p, z⟩
  · refine ⟨its.toList, r, ⟨o, I.kIn a o hk, hc, n, by simpa using hs⟩, ?_⟩
    have e := r.length
    simp only [Array.length_toList] at e
    omega
theorem Inv.list_inj (I : Inv X pins σ H s) (h : SqL X.K H a xs) (h' : SqL X.K H a ys) : xs = ys := by
  obtain ⟨its, r, ⟨o, n, e, _, _, d⟩, _⟩ := I.list h
  obtain ⟨its', r', ⟨o', n', e', _, _, d'⟩, _⟩ := I.list h'
  rw [e] at e'; cases e'
  rw [d] at d'
  injection d' with d1 _
  have : its = its' := by simpa using congrArg Array.toList d1
  subst this
  exact r.inj r'
end
noncomputable abbrev Cx.wish (X : Cx) (E : Value → Shared → Prop) : Cx := { X with xe := E }
noncomputable abbrev Cx.nox (X : Cx) : Cx := X.wish fun _ _ => False
theorem Cx.Ok.wish {X : Cx} (ok : X.Ok) (E : Value → Shared → Prop) : (X.wish E).Ok :=
  ⟨ok.mod, ok.kind, ok.glob, ok.blt, ok.above, ok.inj, ok.has, ok.cab, ok.hd, ok.frames, ok.stk, ok.exf, ok.bs, ok.bsz, ok.noex, ok.exfs, ok.funs, ok.frf⟩
theorem Cx.Ok.unwish {X : Cx} {E : Value → Shared → Prop} (ok : (X.wish E).Ok) : X.Ok :=
  ⟨ok.mod, ok.kind, ok.glob, ok.blt, ok.above, ok.inj, ok.has, ok.cab, ok.hd, ok.frames, ok.stk, ok.exf, ok.bs, ok.bsz, ok.noex, ok.exfs, ok.funs, ok.frf⟩
section
variable {X : Cx} {pins : List (Addr × Obj)} {σ : St} {H : Hp} {s : Shared} {E : Value → Shared → Prop}
theorem Inv.wish (I : Inv X pins σ H s) (E : Value → Shared → Prop) : Inv (X.wish E) pins σ H s := ⟨I.ok.wish E, I.os, I.bare, I.base, I.loc, I.cell, I.free, I.freeC, I.pin, I.hok, I.len⟩
theorem Inv.unwish (I : Inv (X.wish E) pins σ H s) : Inv X pins σ H s := ⟨I.ok.unwish, I.os, I.bare, I.base, I.loc, I.cell, I.free, I.freeC, I.pin, I.hok, I.len⟩
theorem SP.unwish {D : Ends} {f : Flow} {s' : Shared} (h : SP (X.wish E) pins D f s') : SP X pins D f s' := by
  cases f with
  | next => obtain ⟨σ', H', I, q⟩ := h; exact ⟨σ', H', I.unwish, q⟩
  | brk => obtain ⟨σ', H', I, q⟩ := h; exact ⟨σ', H', I.unwish, q⟩
  | cont => obtain ⟨σ', H', I, q⟩ := h; exact ⟨σ', H', I.unwish, q⟩
  | ret u => obtain ⟨v, σ', H', I, r, q⟩ := h; exact ⟨v, σ', H', I.unwish, r, q⟩
theorem PE.nox {e : Expr} {t : TE} (h : PE X.nox e t) : PE X e t := fun pins s σ H Q I hw =>
  wpAny_mono (h pins s σ H Q (I.wish _) hw) (by rintro _ _ ⟨v, H', I', r, q⟩; exact ⟨v, H', I'.unwish, r, q⟩) fun _ _ z => False.elim z
theorem PT.nox {e : Expr} {t : TT} (h : PT X.nox e t) : PT X e t := fun pins s σ H Q I hw =>
  wpAny_mono (h pins s σ H Q (I.wish _) hw) (by rintro _ _ ⟨H', I', q⟩; exact ⟨H', I'.unwish, q⟩) fun _ _ z => False.elim z
theorem PSs.nox {st : List Stmt} {t : TS} (h : PSs X.nox st t) : PSs X st t := fun pins s σ H D I hw =>
  wpAny_mono (h pins s σ H D (I.wish _) hw) (fun _ _ q => q.unwish) fun _ _ z => False.elim z
end
section
variable {X : Cx} {st : Stmt} {rest : List Stmt} {t u : TS} {e : Expr} {te : TE} {pos : Pos}
noncomputable def tNext : TS := fun D σ H => D.nx σ H
noncomputable def tSeq (t u : TS) : TS := fun D σ H => t { D with nx := u D } σ H
theorem pss_nil : PSs X [] tNext := fun _ _ σ H _ I h => wpAny_execs_nil ⟨σ, H, I, h⟩
theorem pss_cons (h1 : PS X st t) (h2 : PSs X rest u) : PSs X (st :: rest) (tSeq t u) := by
  intro pins s σ H D I h
  refine wpAny_execs_cons (thn (h1 pins s σ H { D with nx := u D } I h) fun f s1 q => ?_)
  cases f with
  | next =>
    obtain ⟨σ', H', I', q⟩ := q
    exact h2 pins s1 σ' H' D I' q
  | ret v => exact q
  | brk => exact q
  | cont => exact q
theorem pss_one (h1 : PS X st t) : PSs X [st] t := by
  intro pins s σ H D I h
  refine wpAny_execs_cons (thn (h1 pins s σ H D I h) fun f s1 q => ?_)
  cases f with
  | next => exact wpAny_execs_nil q
  | ret v => exact q
  | brk => exact q
  | cont => exact q
noncomputable def tBreak : TS := fun D σ H => D.bk σ H
noncomputable def tCont : TS := fun D σ H => D.ct σ H
theorem Inv.quiet {pins : List (Addr × Obj)} {σ : St} {H : Hp} {s : Shared} (I : Inv X pins σ H s) : interactive X.env = false := by simp [interactive, I.ok.kind]
noncomputable def tDrop (te : TE) : TS := fun D σ H => te σ H fun _ H1 => D.nx σ H1
theorem ps_expr (he : PE X e te) (hs : swapsWith e none pos.line X.env = pure false := by rfl) : PS X (.Expr e pos) (tDrop te) := by
  intro pins s σ H D I h
  exact wpAny_Expr_any (thn (he pins s σ H _ I h) fun v s1 ⟨x, H1, I1, r1, q1⟩ => ⟨σ, H1, I1, q1⟩) I.quiet hs
noncomputable def tRet (te : TE) : TS := fun D σ H => te σ H D.rt
theorem ps_ret (he : PE X e te) : PS X (.Return (some e) pos) (tRet te) := by
  intro pins s σ H D I h
  exact wpAny_Return_some (thn (he pins s σ H _ I h) fun v s1 ⟨x, H1, I1, r1, q1⟩ => ⟨x, σ, H1, I1, r1, q1⟩)
noncomputable def tRetN : TS := fun D _ H => D.rt .non H
noncomputable def tIfS (c : TT) (t u : TS) : TS := fun D σ H => c σ H fun b H1 => if b = true then t D σ H1 else u D σ H1
theorem ps_if {c : Expr} {a b : List Stmt} {tc : TT} (hc : PT X c tc) (ha : PSs X a t) (hb : PSs X b u) : PS X (.If c a b pos) (tIfS tc t u) := by
  intro pins s σ H D I h
  refine wpAny_If (thn (hc pins s σ H _ I h) fun d s1 ⟨H1, I1, q1⟩ => ?_)
  cases d with
  | true => exact ha pins s1 σ H1 D I1 q1
  | false => exact hb pins s1 σ H1 D I1 q1
noncomputable def tNever : TS := fun _ _ _ => False
end
noncomputable abbrev TG := V → St → Hp → (St → Hp → Prop) → Prop
noncomputable abbrev TGs := List V → St → Hp → (St → Hp → Prop) → Prop
noncomputable def PG (X : Cx) (target : Expr) (t : TG) : Prop :=
  ∀ (pins : List (Addr × Obj)) (s : Shared) (σ : St) (H : Hp) (v : V) (u : Value) (Q : St → Hp → Prop), Inv X pins σ H s → RelV v u → t v σ H Q →
    wpAny (model X.prog X.w) X.A (assign target X.env u) (fun _ s' => ∃ σ' H', Inv X pins σ' H' s' ∧ Q σ' H') X.xe s
noncomputable abbrev TSet := V → V → V → Hp → (Hp → Prop) → Prop
noncomputable abbrev TIp := V → V → Hp → VK → Prop
section
variable {X : Cx} {pos : Pos}
noncomputable def gName (i : Nat) : TG := fun v σ H Q => Q (σ.set i (some v)) H
theorem pg_name {i : Nat} {x : Str} (hN : X.N.Nodup) (hi : X.N[i]? = some x) (hx : Loc X.env.scope x) (hf : X.fn x = true ∨ X.env.scope.names.lookup x = some .local := by first | exact .inl rfl | exact .inr rfl | assumption) : PG X (.Name x pos) (gName i) := by
  intro pins s σ H v u Q I r h
  exact wpAny_assign_Name (store_ok I hN hi hx r (fun s' I' => ⟨_, H, I', h⟩) hf)
noncomputable def gNil : TGs := fun vs σ H Q => vs = [] ∧ Q σ H
noncomputable def gCons (t : TG) (u : TGs) : TGs := fun vs σ H Q => ∃ v r, vs = v :: r ∧ t v σ H fun σ' H' => u r σ' H' Q
noncomputable def gTup (K : PySem.W.Frag) (n : Nat) (t : TGs) : TG := fun v σ H Q => ∃ a xs, v = .ref a ∧ SqT K H a xs ∧ xs.length = n ∧ t xs σ H Q
noncomputable def gSub (to ti : TE) (t : TSet) : TG := fun v σ H Q => to σ H fun o H1 => ti σ H1 fun i H2 => t o i v H2 fun H3 => Q σ H3
noncomputable def tAsg (te : TE) (g : TG) : TS := fun D σ H => te σ H fun x H1 => g x σ H1 D.nx
theorem ps_set {i : Nat} {x : Str} {e : Expr} {te : TE} {pos' : Pos} (hN : X.N.Nodup) (hi : X.N[i]? = some x) (hx : Loc X.env.scope x) (he : PE X e te) (hs : swapsWith e (some (.Name x pos')) pos.line X.env = pure false := by rfl) (hf : X.fn x = true ∨ X.env.scope.names.lookup x = some .local := by first | exact .inl rfl | exact .inr rfl | assumption) :
    PS X (.Assign [.Name x pos'] e pos) (tAsg te (gName i)) := by
  intro pins s σ H D I h
  refine wpAny_Assign_Name (thn (he pins s σ H _ I h) fun v s1 ⟨y, H1, I1, r1, q1⟩ => ?_) hs
  exact store_ok I1 hN hi hx r1 (fun s2 I2 => ⟨_, H1, I2, q1⟩) hf
noncomputable def tAug (i : Nat) (te : TE) (ti : TIp) : TS := fun D σ H => ∃ x, σ[i]? = some (some x) ∧ te σ H fun y H1 => ti x y H1 fun z H2 => D.nx (σ.set i (some z)) H2
noncomputable def ipI (f : Int → Int → Int) : TIp := fun x y H Q => ∃ i j, x = .int i ∧ y = .int j ∧ Q (.int (f i j)) H
end
section
variable {X : Cx} {pos : Pos}
noncomputable def tWhile (c : TT) (tb : TS) : TS := fun D σ H => ∃ W : Nat → St → Hp → Prop, (∃ m, W m σ H) ∧ ∀ m σ H, W m σ H →
  c σ H fun b H1 => if b = true then ∃ N : St → Hp → Prop, (∀ σ' H', N σ' H' → ∃ m', m' < m ∧ W m' σ' H') ∧ tb { D with nx := N, ct := N, bk := D.nx } σ H1 else D.nx σ H1
end
structure It where
  go : Nat → Hp → Prop
  yld : Nat → Hp → V → Hp → Prop
  stop : Nat → Hp → Prop
noncomputable def FpOk (X : Cx) (pins : List (Addr × Obj)) (H : Hp) (b : Addr) : Prop :=
  H b = none ∧ b ≠ X.env.locals ∧ b ∉ X.fs ∧ (b ∈ X.ex ∨ X.s₀.heap.objs.size ≤ b) ∧ (∀ x c, X.env.cells.lookup x = some c → c ≠ b) ∧ ∀ p ∈ X.pn ++ pins, p.1 ≠ b
theorem Inv.fpOk {X : Cx} {pins : List (Addr × Obj)} {σ : St} {H H' : Hp} {s : Shared} {b : Addr} (I : Inv X pins σ H s) (hb : s.heap.objs.size ≤ b) (hn : H' b = none) : FpOk X pins H' b := by
  refine ⟨hn, Nat.ne_of_gt (Nat.lt_of_lt_of_le I.lt hb), I.nofs hb, .inr (Nat.le_trans I.sz hb), fun x c e z => ?_, fun p hp z => ?_⟩
  · obtain ⟨v, q⟩ := I.cell x c e
    exact absurd (Nat.lt_of_lt_of_le q.lt (by rw [z]; exact hb)) (Nat.lt_irrefl _)
  · exact absurd (Nat.lt_of_lt_of_le (Heap.lt_size (I.pin p hp).1) (by rw [z]; exact hb)) (Nat.lt_irrefl _)
structure Turn (P : Program) (w : World) (K : PySem.W.Frag) (tg : Expr) (J : It) (fp : List Addr) (it : Addr) (tn : Nat → Heap → Prop) : Prop where
  mem : it ∈ fp
  obj : ∀ i h, tn i h → ∀ b ∈ fp, ∃ o, h.get? b = some o ∧ ∀ v, o.data ≠ .cell v
  keep : ∀ i h h', tn i h → (∀ b ∈ fp, ∀ o, h.get? b = some o → h'.get? b = some o) → tn i h'
  item : ∀ (X : Cx), X.prog = P → X.w = w → X.K = K → X.calm = true → ∀ (i : Nat) (pins : List (Addr × Obj)) (s : Shared) (σ : St) (H : Hp) (E : Value → Shared → Prop), Inv X pins σ H s → (∀ b ∈ fp, FpOk X pins H b) → tn i s.heap → J.go i H →
    wpAny (model P w) X.A (pyNext (.ref it)) (fun r s1 => ∃ u, r = some u ∧
      wpAny (model P w) X.A (letOwnedTupleGo tg (.ref it) u) (fun _ s2 => ∃ x H', Inv X pins σ H' s2 ∧ RelV x u ∧ J.yld i H x H' ∧ tn (i + 1) s2.heap ∧ ∀ b ∈ fp, H' b = none) E s1) E s
  done : ∀ (X : Cx), X.prog = P → X.w = w → X.K = K → X.calm = true → ∀ (i : Nat) (pins : List (Addr × Obj)) (s : Shared) (σ : St) (H : Hp) (E : Value → Shared → Prop), Inv X pins σ H s → (∀ b ∈ fp, FpOk X pins H b) → tn i s.heap → J.stop i H →
    wpAny (model P w) X.A (pyNext (.ref it)) (fun r s1 => r = none ∧ Inv X pins σ H s1) E s
  self : ∀ (A : Around) (i : Nat) (s : Shared) (Q : Value → Shared → Prop) (E : Value → Shared → Prop), tn i s.heap → Q (.ref it) s → wpAny (model P w) A (pyIter (.ref it)) Q E s
noncomputable abbrev TI := St → Hp → (It → Hp → Prop) → Prop
noncomputable def PIE (X : Cx) (pins : List (Addr × Obj)) (σ : St) (tg : Expr) (R : It → Hp → Prop) (itv : Value) (s2 : Shared) : Prop :=
  ∃ (it : Addr) (fp : List Addr) (tn : Nat → Heap → Prop) (J : It) (H' : Hp), itv = .ref it ∧ Inv X pins σ H' s2 ∧ Turn X.prog X.w X.K tg J fp it tn ∧ tn 0 s2.heap ∧ (∀ b ∈ fp, FpOk X pins H' b) ∧ R J H'
noncomputable def PI (X : Cx) (tg iter : Expr) (wi : TI) : Prop :=
  ∀ (pins : List (Addr × Obj)) (s : Shared) (σ : St) (H : Hp) (R : It → Hp → Prop), Inv X pins σ H s → wi σ H R →
    wpAny (model X.prog X.w) X.A (eval iter X.env) (fun v s1 => wpAny (model X.prog X.w) X.A (pyIter v) (PIE X pins σ tg R) X.xe s1) X.xe s
theorem go_of {M : Model} {A : Around} {E : Value → Shared → Prop} {s : Shared} {tg : Expr} {it : Addr} {u : Value} {o : Obj} {n : String} {vs : Array Value} {Q : Unit → Shared → Prop} (ho : s.heap.get? it = some o) (hc : o.cls = .type n) (hd : o.data = .fields vs)
    (hn : ["enumerate", "zip", "dict_itemiterator", "dict_reverseitemiterator", "odict_iterator", "itertools.zip_longest", "itertools.pairwise"].contains n = false) (hQ : Q () s) : wpAny M A (letOwnedTupleGo tg (.ref it) u) Q E s := by
  unfold letOwnedTupleGo
  cases tg <;> first
    | exact wpAny_pure hQ
    | (cases u <;> first
        | exact wpAny_pure hQ
        | (refine wpAny_bind (wpAny_load ho ?_)
           rw [hc, hd]
           show wpAny M A (if (["enumerate", "zip", "dict_itemiterator", "dict_reverseitemiterator", "odict_iterator", "itertools.zip_longest", "itertools.pairwise"].contains n && vs[0]? == some (rawInt _)) = true then _ else _) Q E s
           rw [if_neg (by intro h; rw [hn, Bool.false_and] at h; cases h)]
           exact wpAny_pure hQ))
noncomputable def Itl (K : PySem.W.Frag) (a : Addr) : It :=
  ⟨fun i H => ∃ xs x, SqL K H a xs ∧ xs[i]? = some x, fun i H x H' => H' = H ∧ ∀ xs, SqL K H a xs → xs[i]? = some x, fun i H => ∃ xs, SqL K H a xs ∧ xs.length ≤ i⟩
noncomputable def Itt (K : PySem.W.Frag) (a : Addr) : It :=
  ⟨fun i H => ∃ xs x, SqT K H a xs ∧ xs[i]? = some x, fun i H x H' => H' = H ∧ ∀ xs, SqT K H a xs → xs[i]? = some x, fun i H => ∃ xs, SqT K H a xs ∧ xs.length ≤ i⟩
noncomputable def Itr (lo : Int) (n : Nat) : It := ⟨fun i _ => i < n, fun i H x H' => H' = H ∧ x = .int (lo + i), fun i _ => n ≤ i⟩
theorem turn_list {P : Program} {w : World} {K : PySem.W.Frag} {tg : Expr} (a it : Addr) : Turn P w K tg (Itl K a) [it] it (fun i h => h.IsListIter it a i) where
  mem := by simp
  obj := fun i h st b hb => by
    have e : b = it := by simpa using hb
    subst e
    obtain ⟨o, e, c, d⟩ := st
    exact ⟨o, e, fun v z => by rw [d] at z; cases z⟩
  keep := fun i h h' st k => st.at fun o e => k it (by simp) o e
  item := by
    intro X hP hw hK hc i pins s σ H E I hf st hg
    subst hP hw hK
    obtain ⟨xs, x, hq, hx⟩ := hg
    obtain ⟨its, rv, p, hz⟩ := I.list hq
    obtain ⟨u, hu, ru⟩ := rv.get hx
    obtain ⟨f0, f1, f2, f3, f4, f5⟩ := hf it (by simp)
    refine wpAny_pyNext_list_item st p.isList (x := u) (by simpa using hu) fun h' st' sb => ?_
    have I1 : Inv X pins σ H { s with heap := h' } := I.turned (t' := s.toks) (fun b o hb e => (sb.2 b hb).trans e) f0 f1 f3 f4 f5
    obtain ⟨o, e, c, d⟩ := id st'
    exact ⟨u, rfl, go_of (s := { s with heap := h' }) e c d (by decide) ⟨x, H, I1, ru, ⟨rfl, fun ys hy => by rw [I.list_inj hy hq]; exact hx⟩, st', fun b hb => (hf b hb).1⟩⟩
  done := by
    intro X hP hw hK hc i pins s σ H E I hf st hg
    subst hP hw hK
    obtain ⟨xs, hq, hx⟩ := hg
    obtain ⟨its, rv, p, hz⟩ := I.list hq
    obtain ⟨f0, f1, f2, f3, f4, f5⟩ := hf it (by simp)
    have hl := rv.length
    exact wpAny_pyNext_list_end (I.ok.hd hc) st p.isList (by simp; omega) fun h' eb => ⟨rfl, I.turned (t' := s.toks) (fun b o hb e => eb b o hb e) f0 f1 f3 f4 f5⟩
  self := fun _ _ _ _ _ st h => wpAny_pyIter_listiter st h
theorem turn_range {P : Program} {w : World} {K : PySem.W.Frag} {tg : Expr} (it : Addr) (lo : Int) (n : Nat) : Turn P w K tg (Itr lo n) [it] it (fun i h => IsRangeIter h it (lo + (i : Nat) * 1) ((n : Int) - (i : Nat)) 1) where
  mem := by simp
  obj := fun i h st b hb => by
    have e : b = it := by simpa using hb
    subst e
    exact ⟨_, st, fun v z => by
      have z' : Data.fields _ = Data.cell v := z
      cases z'⟩
  keep := fun i h h' st k => k it (by simp) _ st
  item := by
    intro X hP hw hK hc i pins s σ H E I hf st hg
    subst hP hw hK
    obtain ⟨f0, f1, f2, f3, f4, f5⟩ := hf it (by simp)
    have W := Walks.range (prog := X.prog) (w := X.w) (I.ok.hd hc) it lo 1 n
    refine W.item i s _ _ hg st fun v h' tk hv st' kk => ?_
    obtain ⟨t, rfl⟩ := hv
    have I1 : Inv X pins σ H { s with heap := h', toks := tk } := I.turned (fun b o hb e => kk b o (by simpa using hb) e) f0 f1 f3 f4 f5
    refine ⟨_, rfl, go_of (s := { s with heap := h', toks := tk }) (n := "range_iterator") st' rfl rfl (by decide) ⟨.int (lo + i), H, I1, ⟨t, ?_⟩, ⟨rfl, rfl⟩, st', fun b hb => (hf b hb).1⟩⟩
    rw [Int.mul_one]
  done := by
    intro X hP hw hK hc i pins s σ H E I hf st hg
    subst hP hw hK
    obtain ⟨f0, f1, f2, f3, f4, f5⟩ := hf it (by simp)
    exact wpAny_pyNext_range_end (I.ok.hd hc) st (by have : n ≤ i := hg; omega) fun h' eb => ⟨rfl, I.turned (t' := s.toks) (fun b o hb e => eb b o hb e) f0 f1 f3 f4 f5⟩
  self := fun _ _ _ _ _ st h => wpAny_pyIter_rangeiter st h
end L2
namespace L2
open PySem PySem.Spec PyProof.Rows
section
variable {X : Cx} {tg : Expr}
noncomputable def iList (K : PySem.W.Frag) (tl : TE) : TI := fun σ H R => tl σ H fun x H1 => ∃ a, x = .ref a ∧ (∃ xs, SqL K H1 a xs) ∧ R (Itl K a) H1
noncomputable def iTup (K : PySem.W.Frag) (tl : TE) : TI := fun σ H R => tl σ H fun x H1 => ∃ a, x = .ref a ∧ (∃ xs, SqT K H1 a xs) ∧ R (Itt K a) H1
theorem pi_list {l : Expr} {tl : TE} (hl : PE X l tl) : PI X tg l (iList X.K tl) := by
  intro pins s σ H R I h
  refine thn (hl pins s σ H _ I h) fun v s1 ⟨x, H1, I1, r1, q1⟩ => ?_
  obtain ⟨a, e, ⟨xs, hq⟩, q⟩ := q1
  subst e
  cases r1
  obtain ⟨its, rv, p, hz⟩ := I1.list hq
  refine wpAny_pyIter_list p.isList ?_
  refine ⟨s1.heap.objs.size, [s1.heap.objs.size], _, _, H1, rfl, I1.kept (t' := s1.toks) fun b o e => Heap.get?_push_of_some _ e, turn_list a _, ⟨_, Heap.get?_push_size _ rfl, rfl, rfl⟩, fun b hb => ?_, q⟩
  have e : b = s1.heap.objs.size := by simpa using hb
  subst e
  exact I1.fpOk (Nat.le_refl _) (I1.hok.fresh (Nat.le_refl _))
theorem range_it {pins : List (Addr × Obj)} {σ : St} {H : Hp} {s : Shared} {R : It → Hp → Prop} {E : Value → Shared → Prop} {lo hi : Int} {t u v : Tok} {tk : Nat} (I : Inv X pins σ H s) (h1 : -(2 ^ 62) ≤ lo) (h2 : lo < 2 ^ 62) (h3 : -(2 ^ 62) ≤ hi) (h4 : hi < 2 ^ 62)
    (q : R (Itr lo (hi - lo).toNat) H) : wpAny (model X.prog X.w) X.A (pyIter (.ref s.heap.objs.size)) (PIE X pins σ tg R) E { s with heap := s.heap.push { cls := .type "range", data := .fields #[.int lo t, .int hi u, .int 1 v] }, toks := tk } := by
  refine wpAny_pyIter_range (IsRange.new ..) (small_one h1 h2 h3 h4) ?_
  have I1 : Inv X pins σ H { s with heap := s.heap.push { cls := .type "range", data := .fields #[.int lo t, .int hi u, .int 1 v] }, toks := tk } := I.kept fun b o e => Heap.get?_push_of_some _ e
  refine ⟨(s.heap.push { cls := .type "range", data := .fields #[.int lo t, .int hi u, .int 1 v] }).objs.size, [(s.heap.push { cls := .type "range", data := .fields #[.int lo t, .int hi u, .int 1 v] }).objs.size], _, _, H, rfl,
    I1.kept (t' := tk) fun b o e => Heap.get?_push_of_some _ e, turn_range _ lo (hi - lo).toNat, ?_, fun b hb => ?_, q⟩
  · have e1 : lo + ((0 : Nat) : Int) * 1 = lo := by simp
    have e2 : (((hi - lo).toNat : Nat) : Int) - ((0 : Nat) : Int) = Builtin.Range.rangeSize lo hi 1 := by rw [rangeSize_one]; split <;> omega
    show IsRangeIter _ _ (lo + ((0 : Nat) : Int) * 1) ((((hi - lo).toNat : Nat) : Int) - ((0 : Nat) : Int)) 1
    rw [e1, e2]
    exact Heap.get?_push_size _ rfl
  · have e : b = (s.heap.push { cls := .type "range", data := .fields #[.int lo t, .int hi u, .int 1 v] }).objs.size := by simpa using hb
    subst e
    exact I1.fpOk (Nat.le_refl _) (I1.hok.fresh (Nat.le_refl _))
noncomputable def iRng1 (ta : TA) : TI := fun σ H R => ta σ H fun vs H1 => ∃ j : Int, vs = [.int j] ∧ -(2 ^ 62) ≤ j ∧ j < 2 ^ 62 ∧ R (Itr 0 j.toNat) H1
noncomputable def iRng2 (ta : TA) : TI := fun σ H R => ta σ H fun vs H1 => ∃ i j : Int, vs = [.int i, .int j] ∧ (-(2 ^ 62) ≤ i ∧ i < 2 ^ 62 ∧ -(2 ^ 62) ≤ j ∧ j < 2 ^ 62) ∧ R (Itr i (j - i).toNat) H1
theorem pi_range1 {a : Expr} {ta : TA} {p pos : Pos} (hg : Gl X "range") (hm : X.mg "range" = none) (ha : PA X [a] ta) (hs : starEach [a] X.env = [(false, eval a X.env)] := by rfl) : PI X tg (.Call (.Name "range" p) [a] [] pos) (iRng1 ta) := by
  intro pins s σ H R I h
  refine Call_ (ld_blt I hg hm boot_range (PyProof.Rows.callWith_type1 (thn (ha pos pins s σ H _ I h) fun us s1 ⟨vs, H1, I1, r1, q1⟩ => ?_) hs rfl))
  obtain ⟨j, e, q1, q2, q⟩ := q1
  subst e
  cases r1 with
  | cons r rr =>
    cases rr
    obtain ⟨t, rfl⟩ := r
    exact call_range_1 (range_it I1 (by omega) (by omega) q1 q2 (by simpa using q))
noncomputable def tFor (wi : TI) (g : TG) (tb : TS) : TS := fun D σ H => wi σ H fun J H1 => ∃ W : Nat → Nat → St → Hp → Prop, (∃ m, W 0 m σ H1) ∧ ∀ i m σ H, W i m σ H →
  (J.stop i H ∧ D.nx σ H) ∨ (J.go i H ∧ ∃ N : St → Hp → Prop, (∀ σ' H', N σ' H' → ∃ m', m' < m ∧ W (i + 1) m' σ' H') ∧ ∀ x H', J.yld i H x H' → g x σ H' fun σ2 H2 => tb { D with nx := N, ct := N, bk := D.nx } σ2 H2)
noncomputable def pinsAt (fp : List Addr) (h : Heap) : List (Addr × Obj) := fp.filterMap fun b => (h.get? b).map fun o => (b, o)
theorem mem_pinsAt {fp : List Addr} {h : Heap} {b : Addr} {o : Obj} (hb : b ∈ fp) (e : h.get? b = some o) : (b, o) ∈ pinsAt fp h := List.mem_filterMap.mpr ⟨b, hb, by rw [e]; rfl⟩
theorem of_pinsAt {fp : List Addr} {h : Heap} {p : Addr × Obj} (hp : p ∈ pinsAt fp h) : p.1 ∈ fp ∧ h.get? p.1 = some p.2 := by
  obtain ⟨b, hb, e⟩ := List.mem_filterMap.mp hp
  cases q : h.get? b with
  | none => rw [q] at e; cases e
  | some o =>
    rw [q] at e
    have e' : (b, o) = p := Option.some.inj e
    subst e'
    exact ⟨hb, q⟩
theorem Inv.pinned {pins : List (Addr × Obj)} {σ : St} {H : Hp} {s : Shared} {fp : List Addr} (I : Inv X pins σ H s) (hf : ∀ b ∈ fp, FpOk X pins H b) (ho : ∀ b ∈ fp, ∃ o, s.heap.get? b = some o ∧ ∀ v, o.data ≠ .cell v) : Inv X (pins ++ pinsAt fp s.heap) σ H s :=
  I.pins_of fun p hp => (List.mem_append.mp hp).elim (fun z => I.pin p (List.mem_append_right _ z)) fun z => by
    obtain ⟨hb, e⟩ := of_pinsAt z
    obtain ⟨f0, f1, f2, _⟩ := hf p.1 hb
    obtain ⟨o, e', d⟩ := ho p.1 hb
    rw [e] at e'; cases e'
    exact ⟨e, f0, f1, f2, d⟩
theorem Inv.unpinned {pins pl : List (Addr × Obj)} {σ : St} {H : Hp} {s : Shared} (I : Inv X (pins ++ pl) σ H s) : Inv X pins σ H s := I.pins_of fun p hp => I.pin p (List.mem_append_right _ (List.mem_append_left _ hp))
theorem ps_for {iter : Expr} {body : List Stmt} {wi : TI} {g : TG} {tb : TS} {pos : Pos} (hp : PassesOwn (model X.prog X.w) X.A X.env X.xe) (hc : X.calm = true) (hi : PI X tg iter wi) (hg : PG X tg g) (hb : PSs X body tb)
    (hs : ∀ x, foldedSetIterable iter X.env x = pure x := by intro _; rfl) : PS X (.For tg iter body [] pos) (tFor wi g tb) := by
  intro pins s σ H D I h
  refine wpAny_For (thn (hi pins s σ H _ I h) fun v s1 h1 => thn h1 fun itv s2 h2 => ?_) hs
  obtain ⟨it, fp, tn, J, H2, e, I2, T, st2, f2, W, ⟨m0, w0⟩, turn⟩ := h2
  subst e
  have stat : ∀ {H' : Hp}, (∀ b ∈ fp, H' b = none) → ∀ b ∈ fp, FpOk X pins H' b := fun hn b hb => ⟨hn b hb, (f2 b hb).2⟩
  refine codeAny_forLoop_any (fun n s' => ∃ i σ' H', Inv X pins σ' H' s' ∧ tn i s'.heap ∧ (∀ b ∈ fp, H' b = none) ∧ W i n σ' H') ?_ m0 ⟨0, σ, H2, I2, st2, fun b hb => (f2 b hb).1, w0⟩
  rintro n s3 ⟨i, σ3, H3, I3, st3, fr3, w3⟩
  rcases turn i n σ3 H3 w3 with ⟨stop, qn⟩ | ⟨go, N, hN, step⟩
  · refine wpAny_passesOwn hp (thn (T.done X rfl rfl rfl hc i pins s3 σ3 H3 X.xe I3 (stat fr3) st3 stop) fun r s4 ⟨hr, I4⟩ => ?_)
    subst hr
    exact wpAny_execs_nil ⟨σ3, H3, I4, qn⟩
  · refine wpAny_passesOwn hp (thn (T.item X rfl rfl rfl hc i pins s3 σ3 H3 X.xe I3 (stat fr3) st3 go) fun r s4 ⟨u, hr, h4⟩ => ?_)
    subst hr
    refine wpAny_passesOwn hp (thn h4 fun _ s5 ⟨x, H5, I5, r5, y5, st5, fr5⟩ => ?_)
    have I5' := I5.pinned (stat fr5) (T.obj _ _ st5)
    refine wpAny_passesOwn hp (thn (hg _ s5 σ3 H5 x u _ I5' r5 (step x H5 y5)) fun _ s6 ⟨σ6, H6, I6, q6⟩ => ?_)
    refine wpAny_passesOwn hp (thn (hb _ s6 σ6 H6 _ I6 q6) fun f s7 q7 => ?_)
    have again : ∀ {σ7 : St} {H7 : Hp}, Inv X (pins ++ pinsAt fp s5.heap) σ7 H7 s7 → N σ7 H7 → ∃ m, m < n ∧ ∃ i σ' H', Inv X pins σ' H' s7 ∧ tn i s7.heap ∧ (∀ b ∈ fp, H' b = none) ∧ W i m σ' H' := fun {σ7 H7} I7 n7 => by
      obtain ⟨m', hm, w7⟩ := hN σ7 H7 n7
      refine ⟨m', hm, i + 1, σ7, H7, I7.unpinned, T.keep _ _ _ st5 fun b hb o e => (I7.pin (b, o) (List.mem_append_right _ (List.mem_append_right _ (mem_pinsAt hb e)))).1, fun b hb => ?_, w7⟩
      obtain ⟨o, e, d⟩ := T.obj _ _ st5 b hb
      exact (I7.pin (b, o) (List.mem_append_right _ (List.mem_append_right _ (mem_pinsAt hb e)))).2.1
    cases f with
    | next => obtain ⟨σ7, H7, I7, n7⟩ := q7; exact again I7 n7
    | cont => obtain ⟨σ7, H7, I7, n7⟩ := q7; exact again I7 n7
    | brk => obtain ⟨σ7, H7, I7, q7⟩ := q7; exact ⟨σ7, H7, I7.unpinned, q7⟩
    | ret v => obtain ⟨x7, σ7, H7, I7, r7, q7⟩ := q7; exact ⟨x7, σ7, H7, I7.unpinned, r7, q7⟩
end
theorem for_range {lo : Int} {n : Nat} {g : TG} {tb : TS} {D : Ends} {σ : St} {H : Hp} (Pv : Nat → St → Hp → Prop) (h0 : Pv 0 σ H)
    (hs : ∀ i σ H, i < n → Pv i σ H → g (.int (lo + i)) σ H fun σ2 H2 => tb { D with nx := Pv (i + 1), ct := Pv (i + 1), bk := D.nx } σ2 H2) (hd : ∀ σ H, Pv n σ H → D.nx σ H) :
    ∃ W : Nat → Nat → St → Hp → Prop, (∃ m, W 0 m σ H) ∧ ∀ i m σ H, W i m σ H →
      ((Itr lo n).stop i H ∧ D.nx σ H) ∨ ((Itr lo n).go i H ∧ ∃ N : St → Hp → Prop, (∀ σ' H', N σ' H' → ∃ m', m' < m ∧ W (i + 1) m' σ' H') ∧ ∀ x H', (Itr lo n).yld i H x H' → g x σ H' fun σ2 H2 => tb { D with nx := N, ct := N, bk := D.nx } σ2 H2) := by
  refine ⟨fun i m σ H => m = n - i ∧ i ≤ n ∧ Pv i σ H, ⟨n, by simp, Nat.zero_le _, h0⟩, ?_⟩
  rintro i m σ H ⟨rfl, hi, p⟩
  by_cases hlt : i < n
  · refine .inr ⟨hlt, Pv (i + 1), fun σ' H' p' => ⟨n - (i + 1), by omega, rfl, hlt, p'⟩, fun x H' y => ?_⟩
    obtain ⟨e, y⟩ := y
    subst e y
    exact hs i σ _ hlt p
  · have e : i = n := by omega
    subst e
    exact .inl ⟨Nat.le_refl _, hd σ H p⟩
end L2
namespace L2
open PySem PySem.Spec PyProof.Rows
noncomputable abbrev R2 := V → V → Hp → VK → Prop
noncomputable def OpR (X : Cx) (f : Value → Value → Sem Value) (r : R2) : Prop :=
  ∀ (pins : List (Addr × Obj)) (s : Shared) (σ : St) (H : Hp) (x y : V) (v u : Value) (Q : VK), Inv X pins σ H s → RelV x v → RelV y u → r x y H Q →
    wpAny (model X.prog X.w) X.A (f v u) (EP X pins σ Q) X.xe s
noncomputable def CallR (X : Cx) (f : Value) (r : List V → Hp → VK → Prop) : Prop :=
  ∀ (pins : List (Addr × Obj)) (s : Shared) (σ : St) (H : Hp) (xs : List V) (us : List Value) (Q : VK), Inv X pins σ H s → Vals xs us → r xs H Q →
    wpAny (model X.prog X.w) X.A (call f us) (EP X pins σ Q) X.xe s
noncomputable def TruR (X : Cx) (r : V → Hp → (Bool → Hp → Prop) → Prop) : Prop :=
  ∀ (pins : List (Addr × Obj)) (s : Shared) (σ : St) (H : Hp) (x : V) (v : Value) (Q : Bool → Hp → Prop), Inv X pins σ H s → RelV x v → r x H Q →
    wpAny (model X.prog X.w) X.A (truthy v) (TP X pins σ Q) X.xe s
noncomputable def tOp (r : R2) (ta tb : TE) : TE := fun σ H Q => ta σ H fun x H1 => tb σ H1 fun y H2 => r x y H2 Q
noncomputable def tUn (r : V → Hp → VK → Prop) (ta : TE) : TE := fun σ H Q => ta σ H fun x H1 => r x H1 Q
noncomputable def rI (C : Int → Int → Prop) (g : Int → Int → V) : R2 := fun x y H Q => ∃ i j, x = .int i ∧ y = .int j ∧ C i j ∧ Q (g i j) H
noncomputable def rI0 (g : Int → Int → V) : R2 := fun x y H Q => ∃ i j, x = .int i ∧ y = .int j ∧ Q (g i j) H
noncomputable def rU (g : Int → V) : V → Hp → VK → Prop := fun x H Q => ∃ i, x = .int i ∧ Q (g i) H
section
variable {X : Cx} {a b c : Expr} {ta tb tc : TE} {pos : Pos}
theorem binT (ha : PE X a ta) (hb : PE X b tb) {pins : List (Addr × Obj)} {s : Shared} {σ : St} {H : Hp} {R : V → V → Hp → Prop} (I : Inv X pins σ H s)
    (h : ta σ H fun x H1 => tb σ H1 fun y H2 => R x y H2) {Q : Value → Shared → Prop} {f : Value → Value → Sem Value}
    (hf : ∀ v u s2 x y H2, Inv X pins σ H2 s2 → RelV x v → RelV y u → R x y H2 → wpAny (model X.prog X.w) X.A (f v u) Q X.xe s2) :
    wpAny (model X.prog X.w) X.A (eval a X.env) (fun v s₁ => wpAny (model X.prog X.w) X.A (eval b X.env) (fun u s₂ => wpAny (model X.prog X.w) X.A (f v u) Q X.xe s₂) X.xe s₁) X.xe s := by
  refine thn (ha pins s σ H _ I h) fun v s1 ⟨x, H1, I1, r1, q1⟩ => ?_
  refine thn (hb pins s1 σ H1 _ I1 q1) fun u s2 ⟨y, H2, I2, r2, q2⟩ => ?_
  exact hf v u s2 x y H2 I2 r1 r2 q2
theorem pe_op {op : Operator} {r : R2} (ho : OpR X (binaryOp op) r) (ha : PE X a ta) (hb : PE X b tb) : PE X (.BinOp a op b pos) (tOp r ta tb) := by
  intro pins s σ H Q I h
  exact wpAny_BinOp (binT ha hb I h fun v u s2 x y H2 I2 rx ry q => ho pins s2 σ H2 x y v u Q I2 rx ry q)
theorem opI {f : Value → Value → Sem Value} {C : Int → Int → Prop} {g : Int → Int → Int}
    (rule : ∀ (i j : Int) (t u : Tok) (s : Shared) (Q : Value → Shared → Prop) (E : Value → Shared → Prop), C i j → Q (.int (g i j) s.toks) { s with toks := s.toks + 1 } → wpAny (model X.prog X.w) X.A (f (.int i t) (.int j u)) Q E s) :
    OpR X f (rI C fun i j => .int (g i j)) := by
  intro pins s σ H x y v u Q I rx ry h
  obtain ⟨i, j, rfl, rfl, hc, q⟩ := h
  obtain ⟨t, rfl⟩ := rx
  obtain ⟨t', rfl⟩ := ry
  exact rule i j t t' s _ _ hc ⟨.int (g i j), H, I.tok _, ⟨_, rfl⟩, q⟩
theorem opI0 {f : Value → Value → Sem Value} {g : Int → Int → Int}
    (rule : ∀ (i j : Int) (t u : Tok) (s : Shared) (Q : Value → Shared → Prop) (E : Value → Shared → Prop), Q (.int (g i j) s.toks) { s with toks := s.toks + 1 } → wpAny (model X.prog X.w) X.A (f (.int i t) (.int j u)) Q E s) :
    OpR X f (rI0 fun i j => .int (g i j)) := by
  intro pins s σ H x y v u Q I rx ry h
  obtain ⟨i, j, rfl, rfl, q⟩ := h
  obtain ⟨t, rfl⟩ := rx
  obtain ⟨t', rfl⟩ := ry
  exact rule i j t t' s _ _ ⟨.int (g i j), H, I.tok _, ⟨_, rfl⟩, q⟩
theorem opB0 {f : Value → Value → Sem Value} {g : Int → Int → Bool}
    (rule : ∀ (i j : Int) (t u : Tok) (s : Shared) (Q : Value → Shared → Prop) (E : Value → Shared → Prop), Q (.bool (g i j)) s → wpAny (model X.prog X.w) X.A (f (.int i t) (.int j u)) Q E s) :
    OpR X f (rI0 fun i j => .bl (g i j)) := by
  intro pins s σ H x y v u Q I rx ry h
  obtain ⟨i, j, rfl, rfl, q⟩ := h
  obtain ⟨t, rfl⟩ := rx
  obtain ⟨t', rfl⟩ := ry
  exact rule i j t t' s _ _ ⟨.bl (g i j), H, I, rfl, q⟩
noncomputable def CDiv (i j : Int) : Prop := 0 < j ∧ j < 1073741824
noncomputable def CMul (i j : Int) : Prop := (-(2 ^ 64) < i ∧ i < 2 ^ 64) ∨ (-(2 ^ 64) < j ∧ j < 2 ^ 64)
theorem CMul.ok {i j : Int} (h : CMul i j) : IntMulOk i j := by
  rcases h with ⟨h1, h2⟩ | ⟨h1, h2⟩
  · exact .of_left (intBits_le_64 h1 h2)
  · exact .of_right (intBits_le_64 h1 h2)
theorem op_add : OpR X (binaryOp .Add) (rI0 fun i j => .int (i + j)) := opI0 fun _ _ _ _ _ _ _ q => add_int q
theorem op_sub : OpR X (binaryOp .Sub) (rI0 fun i j => .int (i - j)) := opI0 fun _ _ _ _ _ _ _ q => sub_int q
theorem op_mul : OpR X (binaryOp .Mult) (rI CMul fun i j => .int (i * j)) := opI fun _ _ _ _ _ _ _ hc q => mul_int q hc.ok
theorem op_fdiv : OpR X (binaryOp .FloorDiv) (rI CDiv fun i j => .int (i / j)) := opI fun i j _ _ _ _ _ hc q => by
  have h1 : (0 : Int) < j := hc.1
  have h2 : j < 1073741824 := hc.2
  exact floordiv_int (by omega) (by rw [Int.fdiv_eq_ediv_of_nonneg i (by omega)]; exact q) (.inl (PyProof.noPylong_small (by omega)))
theorem op_mod : OpR X (binaryOp .Mod) (rI (fun _ j => 0 < j) fun i j => .int (i % j)) := opI fun i j _ _ _ _ _ hc q => by
  have h1 : (0 : Int) < j := hc
  exact mod_int' (by omega) (by rw [Int.fmod_eq_emod_of_nonneg i (by omega)]; exact q)
end
noncomputable def scal : V → V → Bool
  | .non, .non => true | .non, .int _ => true | .int _, .non => true | .non, .bl _ => true | .bl _, .non => true | .non, .str _ => true | .str _, .non => true
  | .int _, .int _ => true | .bl _, .bl _ => true | .str _, .str _ => true | .byt _, .byt _ => true
  | .int _, .str _ => true | .str _, .int _ => true | .bl _, .str _ => true | .str _, .bl _ => true
  | _, _ => false
noncomputable def rEq : R2 := fun x y H Q => scal x y = true ∧ Q (.bl (decide (x = y))) H
noncomputable def rNe : R2 := fun x y H Q => scal x y = true ∧ Q (.bl (!decide (x = y))) H
theorem dec_int {i j : Int} : decide (V.int i = V.int j) = (i == j) := by
  rw [Bool.eq_iff_iff]
  simp
theorem dec_bl {i j : Bool} : decide (V.bl i = V.bl j) = (i == j) := by
  rw [Bool.eq_iff_iff]
  simp
theorem dec_str {i j : Str} : decide (V.str i = V.str j) = (i == j) := by
  rw [Bool.eq_iff_iff]
  simp
theorem dec_byt {i j : Array UInt8} : decide (V.byt i = V.byt j) = (i.toList == j.toList) := by
  rw [Bool.eq_iff_iff]
  cases i
  cases j
  simp
section
variable {X : Cx} {a b c : Expr} {ta tb tc : TE} {pos : Pos}
theorem fin_bl {pins : List (Addr × Obj)} {σ : St} {H : Hp} {s : Shared} {Q : VK} {k k' : Bool} (I : Inv X pins σ H s) (q : Q (.bl k) H) (e : k = k') : EP X pins σ Q (.bool k') s := by
  subst e
  exact ⟨.bl k, H, I, rfl, q⟩
theorem op_eq : OpR X (compareOp .Eq) rEq := by
  intro pins s σ H x y v u Q I rx ry h
  obtain ⟨hs, q⟩ := h
  cases x with
  | non =>
    cases rx
    cases y with
    | non => cases ry; exact PySem.EqNone.eq_none_none (fin_bl I q (by simp))
    | bl j => cases ry; exact PySem.EqNone.eq_none_bool (fin_bl I q (by simp))
    | int j => obtain ⟨t', rfl⟩ := ry; exact PySem.EqNone.eq_none_int (fin_bl I q (by simp))
    | str j => obtain ⟨t', rfl⟩ := ry; exact PySem.EqNone.eq_none_str (fin_bl I q (by simp))
    | _ => exact absurd (show false = true from hs) Bool.false_ne_true
  | bl i =>
    cases rx
    cases y with
    | non => cases ry; exact PySem.EqNone.eq_bool_none (fin_bl I q (by simp))
    | bl j => cases ry; exact eq_bool (fin_bl I q dec_bl)
    | str j => obtain ⟨t', rfl⟩ := ry; exact PySem.EqMixed.eq_bool_str (fin_bl I q (by simp))
    | _ => exact absurd (show false = true from hs) Bool.false_ne_true
  | int i =>
    obtain ⟨t, rfl⟩ := rx
    cases y with
    | non => cases ry; exact PySem.EqNone.eq_int_none (fin_bl I q (by simp))
    | int j => obtain ⟨t', rfl⟩ := ry; exact eq_int (fin_bl I q dec_int)
    | str j => obtain ⟨t', rfl⟩ := ry; exact PySem.EqMixed.eq_int_str (fin_bl I q (by simp))
    | _ => exact absurd (show false = true from hs) Bool.false_ne_true
  | str i =>
    obtain ⟨t, rfl⟩ := rx
    cases y with
    | non => cases ry; exact PySem.EqNone.eq_str_none (fin_bl I q (by simp))
    | bl j => cases ry; exact PySem.EqMixed.eq_str_bool (fin_bl I q (by simp))
    | int j => obtain ⟨t', rfl⟩ := ry; exact PySem.EqMixed.eq_str_int (fin_bl I q (by simp))
    | str j => obtain ⟨t', rfl⟩ := ry; exact eq_str (fin_bl I q dec_str)
    | _ => exact absurd (show false = true from hs) Bool.false_ne_true
  | byt i =>
    obtain ⟨t, rfl⟩ := rx
    cases y with
    | byt j => obtain ⟨t', rfl⟩ := ry; exact PySem.W.eq_bytes (fin_bl I q dec_byt)
    | _ => exact absurd (show false = true from hs) Bool.false_ne_true
  | _ => cases y <;> exact absurd (show false = true from hs) Bool.false_ne_true
theorem op_ne : OpR X (compareOp .NotEq) rNe := by
  intro pins s σ H x y v u Q I rx ry h
  obtain ⟨hs, q⟩ := h
  cases x with
  | non =>
    cases rx
    cases y with
    | non => cases ry; exact PySem.EqNone.ne_none_none (fin_bl I q (by simp))
    | bl j => cases ry; exact PySem.EqNone.ne_none_bool (fin_bl I q (by simp))
    | int j => obtain ⟨t', rfl⟩ := ry; exact PySem.EqNone.ne_none_int (fin_bl I q (by simp))
    | str j => obtain ⟨t', rfl⟩ := ry; exact PySem.EqNone.ne_none_str (fin_bl I q (by simp))
    | _ => exact absurd (show false = true from hs) Bool.false_ne_true
  | bl i =>
    cases rx
    cases y with
    | non => cases ry; exact PySem.EqNone.ne_bool_none (fin_bl I q (by simp))
    | bl j => cases ry; exact ne_bool (fin_bl I q (congrArg not dec_bl))
    | str j => obtain ⟨t', rfl⟩ := ry; exact PySem.EqMixed.ne_bool_str (fin_bl I q (by simp))
    | _ => exact absurd (show false = true from hs) Bool.false_ne_true
  | int i =>
    obtain ⟨t, rfl⟩ := rx
    cases y with
    | non => cases ry; exact PySem.EqNone.ne_int_none (fin_bl I q (by simp))
    | int j => obtain ⟨t', rfl⟩ := ry; exact ne_int (fin_bl I q (congrArg not dec_int))
    | str j => obtain ⟨t', rfl⟩ := ry; exact PySem.EqMixed.ne_int_str (fin_bl I q (by simp))
    | _ => exact absurd (show false = true from hs) Bool.false_ne_true
  | str i =>
    obtain ⟨t, rfl⟩ := rx
    cases y with
    | non => cases ry; exact PySem.EqNone.ne_str_none (fin_bl I q (by simp))
    | bl j => cases ry; exact PySem.EqMixed.ne_str_bool (fin_bl I q (by simp))
    | int j => obtain ⟨t', rfl⟩ := ry; exact PySem.EqMixed.ne_str_int (fin_bl I q (by simp))
    | str j => obtain ⟨t', rfl⟩ := ry; exact ne_str (fin_bl I q (congrArg not dec_str))
    | _ => exact absurd (show false = true from hs) Bool.false_ne_true
  | byt i =>
    obtain ⟨t, rfl⟩ := rx
    cases y with
    | byt j => obtain ⟨t', rfl⟩ := ry; exact PySem.W.ne_bytes (fin_bl I q (congrArg not dec_byt))
    | _ => exact absurd (show false = true from hs) Bool.false_ne_true
  | _ => cases y <;> exact absurd (show false = true from hs) Bool.false_ne_true
theorem op_lt : OpR X (compareOp .Lt) (rI0 fun i j => .bl (decide (i < j))) := opB0 fun _ _ _ _ _ _ _ q => lt_int q
theorem op_le : OpR X (compareOp .LtE) (rI0 fun i j => .bl (decide (i ≤ j))) := opB0 fun _ _ _ _ _ _ _ q => le_int q
theorem op_gt : OpR X (compareOp .Gt) (rI0 fun i j => .bl (decide (j < i))) := opB0 fun _ _ _ _ _ _ _ q => gt_int q
theorem op_ge : OpR X (compareOp .GtE) (rI0 fun i j => .bl (decide (j ≤ i))) := opB0 fun _ _ _ _ _ _ _ q => ge_int q
theorem op_lt_str : OpR X (compareOp .Lt) (fun x y H Q => ∃ i j, x = .str i ∧ y = .str j ∧ Q (.bl (decide (i.cps.toList < j.cps.toList))) H) := by
  intro pins s σ H x y v u Q I rx ry h
  obtain ⟨i, j, rfl, rfl, q⟩ := h
  obtain ⟨t, rfl⟩ := rx
  obtain ⟨t', rfl⟩ := ry
  exact lt_str (fin_bl I q rfl)
theorem op_in_str : OpR X (compareOp .In) (fun x y H Q => ∃ i j, x = .str i ∧ y = .str j ∧ Q (.bl (!(Builtin.Str.occurrences j i 0 j.length 1).isEmpty)) H) := by
  intro pins s σ H x y v u Q I rx ry h
  obtain ⟨i, j, rfl, rfl, q⟩ := h
  obtain ⟨t, rfl⟩ := rx
  obtain ⟨t', rfl⟩ := ry
  exact in_str (fin_bl I q rfl)
theorem OpR.or {f : Value → Value → Sem Value} {r r' : R2} (h : OpR X f r) (h' : OpR X f r') : OpR X f (fun x y H Q => r x y H Q ∨ r' x y H Q) := by
  intro pins s σ H x y v u Q I rx ry q
  rcases q with q | q
  · exact h pins s σ H x y v u Q I rx ry q
  · exact h' pins s σ H x y v u Q I rx ry q
theorem nomark (b : Expr) {op : CmpOp} (h : op ≠ .In := by decide) (h2 : op ≠ .NotIn := by decide) : behindInMarks op b = false := by
  have e1 : (op == CmpOp.In) = false := by cases op <;> first | rfl | exact absurd rfl h
  have e2 : (op == CmpOp.NotIn) = false := by cases op <;> first | rfl | exact absurd rfl h2
  cases b <;> simp [behindInMarks, e1, e2]
theorem pe_cmpR {op : CmpOp} {r : R2} (ho : OpR X (compareOp op) r) (ha : PE X a ta) (hb : PE X b tb) (hm : behindInMarks op b = false) : PE X (.Compare a [op] [b] pos) (tOp r ta tb) := by
  intro pins s σ H Q I h
  exact wpAny_Compare1 (binT ha hb I h fun v u s2 x y H2 I2 rx ry q => ho pins s2 σ H2 x y v u Q I2 rx ry q) hm
noncomputable def tTest (t : TE) : TT := fun σ H Q => t σ H fun x H' => ∃ k, x = .bl k ∧ Q k H'
theorem pt_cmpR {op : CmpOp} {r : R2} (ho : OpR X (compareOp op) r) (ha : PE X a ta) (hb : PE X b tb) (hm : behindInMarks op b = false) : PT X (.Compare a [op] [b] pos) (tTest (tOp r ta tb)) := by
  intro pins s σ H Q I h
  refine wpAny_isTrue_Compare1 (thn (ha pins s σ H _ I h) fun v s1 ⟨x, H1, I1, r1, q1⟩ => thn (hb pins s1 σ H1 _ I1 q1) fun u s2 ⟨y, H2, I2, r2, q2⟩ =>
    thn (ho pins s2 σ H2 x y v u _ I2 r1 r2 q2) fun c s3 ⟨z, H3, I3, r3, k, e, q3⟩ => ?_) hm
  subst e
  cases r3
  exact wpAny_truthy_bool ⟨H3, I3, q3⟩
noncomputable def tChain (r r' : R2) (ta tb tc : TE) : TE := fun σ H Q => ta σ H fun x H1 => tb σ H1 fun y H2 => r x y H2 fun z H3 => ∃ k, z = .bl k ∧
  (if k = true then tc σ H3 fun w' H4 => r' y w' H4 Q else Q (.bl false) H3)
theorem pe_chain {op op' : CmpOp} {r r' : R2} (ho : OpR X (compareOp op) r) (ho' : OpR X (compareOp op') r') (ha : PE X a ta) (hb : PE X b tb) (hc : PE X c tc)
    (hm : lastMarks [op, op'] [b, c] = false := by with_unfolding_all rfl) : PE X (.Compare a [op, op'] [b, c] pos) (tChain r r' ta tb tc) := by
  intro pins s σ H Q I h
  refine Compare_chain (thn (ha pins s σ H _ I h) fun v s1 ⟨x, H1, I1, r1, q1⟩ => chain_link (thn (hb pins s1 σ H1 _ I1 q1) fun u s2 ⟨y, H2, I2, r2, q2⟩ =>
    thn (ho pins s2 σ H2 x y v u _ I2 r1 r2 q2) fun d s3 ⟨z, H3, I3, r3, k, e, q3⟩ => ?_)) hm
  subst e
  cases r3
  refine wpAny_truthy_bool ?_
  cases k with
  | false => exact ite_ff ⟨.bl false, H3, I3, rfl, q3⟩
  | true => exact ite_tt (chain_last (thn (hc pins s3 σ H3 _ I3 q3) fun w' s4 ⟨z', H4, I4, r4, q4⟩ => ho' pins s4 σ H4 y z' u w' Q I4 r2 r4 q4))
noncomputable def TruV (K : PySem.W.Frag) (x : V) (H : Hp) (k : Bool) : Prop :=
  match x with
  | .non => k = false
  | .bl b => k = b
  | .int i => k = (i != 0)
  | .str y => y.length ≤ sizeLine ∧ k = ((y.length : Int) != 0)
  | .byt y => y.size ≤ sizeLine ∧ k = ((y.size : Int) != 0)
  | .ref p => (∃ xs, SqL K H p xs ∧ k = !xs.isEmpty) ∨ (∃ xs, SqT K H p xs ∧ k = !xs.isEmpty) ∨ ∃ kvs, H p = some (.dK kvs) ∧ k = !kvs.isEmpty
  | _ => False
theorem isEmpty_kv {κ : Type} {kvs : List (κ × V)} {vs : List (κ × Value)} (r : KV kvs vs) : (!vs.isEmpty) = !kvs.isEmpty := by
  cases r <;> rfl
theorem isEmpty_of {xs : List V} {its : List Value} (r : Vals xs its) : (!its.toArray.isEmpty) = !xs.isEmpty := by
  cases r <;> simp
theorem line63 : (sizeLine : Nat) < 2 ^ 63 := by rw [sizeLine_eq]; decide
theorem tru_ok : TruR X (fun x H Q => ∃ k, TruV X.K x H k ∧ Q k H) := by
  intro pins s σ H x v Q I rx h
  obtain ⟨k, e, q⟩ := h
  have hl := line63
  have hs : sizeLine = 16777216 := sizeLine_eq
  cases x with
  | non =>
    cases rx
    have e' : k = false := e
    subst e'
    exact truthy_none ⟨H, I, q⟩
  | bl b =>
    cases rx
    have e' : k = b := e
    subst e'
    exact wpAny_truthy_bool ⟨H, I, q⟩
  | int i =>
    obtain ⟨t, rfl⟩ := rx
    have e' : k = (i != 0) := e
    subst e'
    exact PySem.P.truthy_int ⟨H, I, q⟩
  | str y =>
    obtain ⟨t, rfl⟩ := rx
    obtain ⟨hy, e'⟩ : y.length ≤ sizeLine ∧ k = ((y.length : Int) != 0) := e
    subst e'
    exact PySem.P.truthy_str (by omega) ⟨H, I.tok _, q⟩
  | byt y =>
    obtain ⟨t, rfl⟩ := rx
    obtain ⟨hy, e'⟩ : y.size ≤ sizeLine ∧ k = ((y.size : Int) != 0) := e
    subst e'
    exact PySem.W.truthy_bytes (by omega) ⟨H, I.tok _, q⟩
  | ref p =>
    cases rx
    have e' : (∃ xs, SqL X.K H p xs ∧ k = !xs.isEmpty) ∨ (∃ xs, SqT X.K H p xs ∧ k = !xs.isEmpty) ∨ ∃ kvs, H p = some (.dK kvs) ∧ k = !kvs.isEmpty := e
    rcases e' with ⟨xs, hx, e'⟩ | ⟨xs, hx, e'⟩ | ⟨kvs, hx, e'⟩
    · subst e'
      obtain ⟨its, r, pl, hz⟩ := I.list hx
      have hlen := r.length
      exact wpAny_truthy_list pl.isList (by simp only [List.size_toArray]; omega) ⟨H, I.tok _, by rw [isEmpty_of r]; exact q⟩
    · subst e'
      obtain ⟨its, r, pl, hz⟩ := I.tuple hx
      have hlen := r.length
      exact truthy_tuple pl (by simp only [List.size_toArray]; omega) ⟨H, I.tok _, by rw [isEmpty_of r]; exact q⟩
    · subst e'
      obtain ⟨hz, hS, vs, r, m⟩ : kvs.length ≤ sizeLine ∧ (p == sysModules) = false ∧ ∃ vs, KV kvs vs ∧ s.heap.DictOf (mixKind X.prog X.w) p vs := I.hok p _ hx
      have hlen : kvs.length = vs.length := Paired.length r
      exact wpAny_truthy_dict hS m (by omega) ⟨H, I.tok _, by rw [isEmpty_kv r]; exact q⟩
  | _ => exact (show False from e).elim
theorem pt_truth (ha : PE X a ta) (he : ∀ whole, isTrue a X.env whole = (do let v ← whole; standAt a.pos; holding [v] (truthy v))) :
    PT X a (fun σ H Q => ta σ H fun x H' => ∃ k, TruV X.K x H' k ∧ Q k H') := by
  intro pins s σ H Q I h
  exact isTrue_plain (thn (ha pins s σ H _ I h) fun v s1 ⟨x, H1, I1, r1, q1⟩ => tru_ok pins s1 σ H1 x v Q I1 r1 q1) (he _)
theorem op_add_str : OpR X (binaryOp .Add) (fun x y H Q => ∃ i j, x = .str i ∧ y = .str j ∧ i.length + j.length ≤ sizeLine ∧ Q (.str (i ++ j)) H) := by
  intro pins s σ H x y v u Q I rx ry h
  obtain ⟨i, j, rfl, rfl, hz, q⟩ := h
  obtain ⟨t, rfl⟩ := rx
  obtain ⟨t', rfl⟩ := ry
  exact add_str (fun t' tk => ⟨.str (i ++ j), H, I.tok _, ⟨_, rfl⟩, q⟩) hz
theorem vals1 {x : V} {us : List Value} (r : Vals [x] us) : ∃ u, us = [u] ∧ RelV x u := by
  cases r with
  | cons r1 r2 => cases r2; exact ⟨_, rfl, r1⟩
theorem vals2 {x y : V} {us : List Value} (r : Vals [x, y] us) : ∃ u w', us = [u, w'] ∧ RelV x u ∧ RelV y w' := by
  cases r with
  | cons r1 r2 =>
    cases r2 with
    | cons r3 r4 => cases r4; exact ⟨_, _, rfl, r1, r3⟩
theorem call_max2 (hc : X.calm = true) : CallR X (.builtin "max") (fun xs H Q => ∃ i j, xs = [.int i, .int j] ∧ Q (.int (if j > i then j else i)) H) := by
  intro pins s σ H xs us Q I r h
  obtain ⟨i, j, rfl, q⟩ := h
  obtain ⟨u, w', rfl, ⟨t, rfl⟩, ⟨t', rfl⟩⟩ := vals2 r
  refine max_two_ints (I.ok.hd hc) fun h' tk k => ⟨_, H, I.kept k, ?_, q⟩
  by_cases hj : j > i
  · rw [if_pos hj, if_pos hj]; exact ⟨_, rfl⟩
  · rw [if_neg hj, if_neg hj]; exact ⟨_, rfl⟩
theorem call_ord : CallR X (.builtin "ord") (fun xs H Q => ∃ x, xs = [.str x] ∧ x.length = 1 ∧ Q (.int (x.cps.getD 0 0 : Nat)) H) := by
  intro pins s σ H xs us Q I r h
  obtain ⟨x, rfl, hz, q⟩ := h
  obtain ⟨u, rfl, t, rfl⟩ := vals1 r
  exact ord_of_one hz ⟨.int _, H, I.tok _, ⟨_, rfl⟩, q⟩
noncomputable def LenV (K : PySem.W.Frag) (x : V) (H : Hp) (n : Nat) : Prop :=
  match x with
  | .str y => y.length ≤ sizeLine ∧ n = y.length
  | .byt y => y.size ≤ sizeLine ∧ n = y.size
  | .ref p => (∃ xs, SqL K H p xs ∧ n = xs.length) ∨ ∃ xs, SqT K H p xs ∧ n = xs.length
  | _ => False
theorem call_len : CallR X (.builtin "len") (fun xs H Q => ∃ x n, xs = [x] ∧ LenV X.K x H n ∧ Q (.int n) H) := by
  intro pins s σ H xs us Q I r h
  obtain ⟨x, n, rfl, e, q⟩ := h
  obtain ⟨u, rfl, rx⟩ := vals1 r
  have hl := line63
  have hs : sizeLine = 16777216 := sizeLine_eq
  cases x with
  | str y =>
    obtain ⟨t, rfl⟩ := rx
    obtain ⟨hy, e'⟩ : y.length ≤ sizeLine ∧ n = y.length := e
    subst e'
    exact len_str (by omega) ⟨.int _, H, I.tok _, ⟨_, rfl⟩, q⟩
  | byt y =>
    obtain ⟨t, rfl⟩ := rx
    obtain ⟨hy, e'⟩ : y.size ≤ sizeLine ∧ n = y.size := e
    subst e'
    exact PySem.W.len_bytes (by omega) ⟨.int _, H, I.tok _, ⟨_, rfl⟩, q⟩
  | ref p =>
    cases rx
    have e' : (∃ xs, SqL X.K H p xs ∧ n = xs.length) ∨ ∃ xs, SqT X.K H p xs ∧ n = xs.length := e
    rcases e' with ⟨xs, hx, e'⟩ | ⟨xs, hx, e'⟩
    · subst e'
      obtain ⟨its, r', pl, hz⟩ := I.list hx
      have hlen := r'.length
      exact Calls.call_len_list pl.isList (by simp only [List.size_toArray]; omega) ⟨.int xs.length, H, I.tok _, ⟨_, by simp only [List.size_toArray]; rw [hlen]⟩, q⟩
    · subst e'
      obtain ⟨its, r', pl, hz⟩ := I.tuple hx
      have hlen := r'.length
      exact len_tuple pl (by simp only [List.size_toArray]; omega) ⟨.int xs.length, H, I.tok _, ⟨_, by simp only [List.size_toArray]; rw [hlen]⟩, q⟩
  | _ => exact (show False from e).elim
end
end L2
namespace L2
open PySem PySem.Spec PyProof.Rows
structure ObjM (h : Heap) (x dx C : Addr) (mA : Str → Option Value) : Prop where
  obj : h.get? x = some (PySem.W.instObj C dx)
  ns : h.Ns1 dx mA
  ne : dx ≠ x
theorem lookIn_ns {h : Heap} {dx : Addr} {mA : Str → Option Value} (n : h.Ns1 dx mA) : ∃ od, h.get? dx = some od ∧ ∀ name, PySem.W.lookIn name od = some (mA name) := by
  obtain ⟨o, es, ep, ho, hd, hk, _, hm⟩ := n
  refine ⟨o, ho, fun name => ?_⟩
  have e := hm name
  unfold nsFind findBy at e
  rw [← Array.find?_toList] at e
  unfold PySem.W.lookIn
  rw [hd]
  dsimp only
  split
  · rename_i y q
    rw [q] at e
    exact congrArg some e
  · rename_i q
    rw [q] at e
    have a : es.toList.any (·.refKey) = false := by
      rw [List.any_eq_false]
      intro y hy
      obtain ⟨z, t, hkey⟩ := hk y (Array.mem_toList_iff.mp hy)
      simp [DictEntry.refKey, hkey]
    have a' : ¬ es.toList.any (·.refKey) = true := by rw [a]; exact Bool.false_ne_true
    rw [if_neg a']
    exact congrArg some e
theorem ObjM.look {h : Heap} {x dx C : Addr} {mA : Str → Option Value} (I : ObjM h x dx C mA) : ∃ od, PySem.W.InstAt h x (PySem.W.instObj C dx) C (some od) ∧ ∀ name, PySem.W.lookIn name od = some (mA name) :=
  let ⟨od, ho, hl⟩ := lookIn_ns I.ns
  ⟨od, ⟨I.obj, rfl, rfl, ho⟩, hl⟩
section
variable {prog : Program} {w : World} {A : Around} {E : Value → Shared → Prop} {s : Shared} {K : PySem.W.Frag} {x dx C f : Addr} {mA : Str → Option Value} {name : Str} {v : Value}
end
theorem RelO.some_of {v : V} {o : Option Value} (r : RelO (some v) o) : ∃ u, o = some u ∧ RelV v u := by
  cases o with
  | none => exact (show False from r).elim
  | some u => exact ⟨u, rfl, r⟩
theorem RelO.none_of {o : Option Value} (r : RelO none o) : o = none := by
  cases o with
  | none => rfl
  | some u => exact (show False from r).elim
theorem handed_of {v : V} {u : Value} (r : RelV v u) : PySem.W.handedIn u = true := by
  cases v with
  | non => cases (show u = Value.none from r); rfl
  | bl b => cases (show u = Value.bool b from r); rfl
  | int i => obtain ⟨t, e⟩ := (show ∃ t, u = Value.int i t from r); cases e; rfl
  | str x => obtain ⟨t, e⟩ := (show ∃ t, u = Value.str x t from r); cases e; rfl
  | byt b => obtain ⟨t, e⟩ := (show ∃ t, u = Value.bytes b t from r); cases e; rfl
  | flt b => obtain ⟨t, e⟩ := (show ∃ t, u = Value.float b t from r); cases e; rfl
  | ref a => cases (show u = Value.ref a from r); rfl
  | ty n => cases (show u = Value.type n from r); rfl
section
variable {P : Program} {w : World} {H H' : Hp} {h h' : Heap} {a C dx : Addr} {fs fs' : List (Str × V)}
theorem ins_get (hok : HOk P w H h) (e : H a = some (.ins C dx fs)) : ∃ mA, ObjM h a dx C mA ∧ (∀ f, RelO (fs.lookup f) (mA f)) ∧ PySem.Within mA (fs.map (·.1)) ∧ fs.length ≤ 1000 ∧ H dx = some (.own a) := by
  obtain ⟨d, z, ne, ob, mA, n, r, q⟩ := (show ObjOk P w H h a (.ins C dx fs) from hok a _ e)
  exact ⟨mA, ⟨ob, n, ne⟩, r, q, z, d⟩
end
structure Cls (K : PySem.W.Frag) (C : Addr) : Prop where
  pg : PySem.W.plainGet K C Str.empty = true
  hd : PySem.W.hasDictIn K C = true
  po : PySem.W.plainOver K C = true
  sa : PySem.W.findIn K (.ref C) "__setattr__" = some (some (.builtin "object.__setattr__"))
theorem Cls.get {K : PySem.W.Frag} {C : Addr} (c : Cls K C) (f : Str) : PySem.W.plainGet K C f = true := c.pg
noncomputable def NoAttr (K : PySem.W.Frag) (C : Addr) (f : Str) : Prop := PySem.W.findIn K (.ref C) f = some none
section
variable {X : Cx} {pins : List (Addr × Obj)} {σ : St} {H : Hp} {s : Shared} {a C dx : Addr} {fs : List (Str × V)} {f : Str} {v : V} {A : Around} {E : Value → Shared → Prop}
theorem attr_of {prog : Program} {w : World} {env : Env} {e : Expr} {f : Str} {pos : Pos} {s : Shared} {Q : Value → Shared → Prop} (hb : attributeBase e f env (eval e env) = eval e env)
    (h : wpAny (model prog w) A (eval e env) (fun o s₁ => wpAny (model prog w) A (getAttr o f true) Q E s₁) E s) : wpAny (model prog w) A (eval (.Attribute e f pos) env) Q E s :=
  Attribute_any_ h (by rw [arm_eval_Attribute, hb])
end
section
variable {X : Cx} {o e value : Expr} {f : Str} {pos pos' tpos : Pos} {ta tv : TE}
end
section
variable {X : Cx} {pins : List (Addr × Obj)} {σ : St} {H : Hp} {s : Shared} {A : Around} {E : Value → Shared → Prop} {Q : Value → Shared → Prop} {c : Value} {b : Bool}
inductive TyOf (K : PySem.W.Frag) (H : Hp) : V → Value → Prop where
  | non : TyOf K H .non (.type "NoneType")
  | bl (x : Bool) : TyOf K H (.bl x) (.type "bool")
  | int (i : Int) : TyOf K H (.int i) (.type "int")
  | str (x : Str) : TyOf K H (.str x) (.type "str")
  | flt (x : UInt64) : TyOf K H (.flt x) (.type "float")
  | lst {a : Addr} {xs : List V} (e : H a = some (.lst xs)) : TyOf K H (.ref a) (.type "list")
  | frz {a : Addr} {o : Obj} {xs : List V} (e : H a = some (.frz o (.lst xs))) : TyOf K H (.ref a) (.type "list")
  | tup {a : Addr} {xs : List V} (e : H a = some (.tup xs)) : TyOf K H (.ref a) (.type "tuple")
  | dK {a : Addr} {kvs : List (Key × V)} (e : H a = some (.dK kvs)) : TyOf K H (.ref a) (.type "dict")
  | dT {a : Addr} {kvs : List (List Key × V)} (e : H a = some (.dT kvs)) : TyOf K H (.ref a) (.type "dict")
  | ins {a C dx : Addr} {fs : List (Str × V)} (e : H a = some (.ins C dx fs)) (cl : Cls K C) (ha : PySem.W.findIn K (.ref C) "__class__" = some (some (.builtin "object.__class__")))
      (hn : PySem.W.specialIn K (.builtin "object.__class__") "__get__" = some (some (.builtin "getset_descriptor.__get__"))) (htk : PySem.W.takesIn K (.builtin "object.__class__") = some true)
      (hm : PySem.W.mroIn K C (.type "object") = some true) : TyOf K H (.ref a) (.ref C)
theorem isinst_ok {x : V} {u t : Value} (I : Inv X pins σ H s) (rx : RelV x u) (ty : TyOf X.K H x t) (e : PySem.W.kitOne X.K t c = some b) (h : ∀ tk, Q (.bool b) { s with toks := tk }) :
    wpAny (model X.prog X.w) A (call (.builtin "isinstance") [u, c]) Q E s := by
  cases ty with
  | non => cases (show u = Value.none from rx); exact PySem.W.kia_one PySem.W.kitx_none I.kIn True.intro e (fun z => nomatch z) h
  | bl y => cases (show u = Value.bool y from rx); exact PySem.W.kia_one PySem.W.kitx_bool I.kIn True.intro e (fun z => nomatch z) h
  | int i => obtain ⟨t, q⟩ := (show ∃ t, u = Value.int i t from rx); cases q; exact PySem.W.kia_one PySem.W.kitx_int I.kIn True.intro e (fun z => nomatch z) h
  | str y => obtain ⟨t, q⟩ := (show ∃ t, u = Value.str y t from rx); cases q; exact PySem.W.kia_one PySem.W.kitx_str I.kIn True.intro e (fun z => nomatch z) h
  | flt y => obtain ⟨t, q⟩ := (show ∃ t, u = Value.float y t from rx); cases q; exact PySem.W.kia_one PySem.W.kitx_float I.kIn True.intro e (fun z => nomatch z) h
  | @lst a xs ea =>
    cases (show u = Value.ref a from rx)
    obtain ⟨_, _, n, _, h1⟩ := (show ObjOk X.prog X.w H s.heap a (.lst xs) from I.hok a _ ea)
    exact PySem.W.kia_one PySem.W.kitx_list I.kIn ⟨_, h1, rfl⟩ e (fun z => nomatch z) h
  | @frz a ob xs ea =>
    cases (show u = Value.ref a from rx)
    obtain ⟨_, _, _, n, _, h1⟩ := (show ObjOk X.prog X.w H s.heap a (.frz ob (.lst xs)) from I.hok a _ ea)
    exact PySem.W.kia_one PySem.W.kitx_list I.kIn ⟨_, h1, rfl⟩ e (fun z => nomatch z) h
  | @tup a xs ea =>
    cases (show u = Value.ref a from rx)
    obtain ⟨_, _, _, p⟩ := (show ObjOk X.prog X.w H s.heap a (.tup xs) from I.hok a _ ea)
    obtain ⟨o, h1, h2, _⟩ := p
    exact PySem.W.kia_one PySem.W.kitx_tuple I.kIn ⟨o, h1, h2⟩ e (fun z => nomatch z) h
  | @dK a kvs ea =>
    cases (show u = Value.ref a from rx)
    obtain ⟨_, _, vs, _, p⟩ := (show ObjOk X.prog X.w H s.heap a (.dK kvs) from I.hok a _ ea)
    obtain ⟨o, es, ep, h1, h2, _⟩ := p
    exact PySem.W.kia_one PySem.W.kitx_dict I.kIn ⟨o, h1, h2.1⟩ e (fun z => nomatch z) h
  | @dT a kvs ea =>
    cases (show u = Value.ref a from rx)
    obtain ⟨_, _, xs, _, o, es, ep, h1, h2, _⟩ := (show ObjOk X.prog X.w H s.heap a (.dT kvs) from I.hok a _ ea)
    exact PySem.W.kia_one PySem.W.kitx_dict I.kIn ⟨o, h1, h2.1⟩ e (fun z => nomatch z) h
  | @ins a C dx fs ea cl ha hn htk hm =>
    cases (show u = Value.ref a from rx)
    obtain ⟨mA, O, _⟩ := ins_get I.hok ea
    obtain ⟨od, J, _⟩ := O.look
    exact PySem.W.kia_one (PySem.W.kitx_own (cl.get _) cl.hd ha hn htk hm) I.kIn J e (fun z => nomatch z) h
end
end L2
namespace L2
open PySem PySem.Spec PyProof.Rows
structure Room (k : Nat) (A : Around) : Prop where
  hd : A.handled = none
  dp : A.depth + 3 * k + 5 < recursionLimit
  un : A.units + 16 * k + 200 < cLine
theorem Room.mono {j k : Nat} {A : Around} (r : Room k A) (h : j ≤ k) : Room j A := ⟨r.hd, by have := r.dp; omega, by have := r.un; omega⟩
theorem Room.deeper {k : Nat} {A : Around} (r : Room (k + 1) A) (env : Env) : Room k (A.deeper env) :=
  ⟨r.hd, by have := r.dp; show A.depth + 1 + 3 * k + 5 < _; omega, by have := r.un; show A.units + 3 + 16 * k + 200 < _; omega⟩
theorem Room.in1 {k : Nat} {A : Around} (r : Room (k + 1) A) : Room k A.in1 :=
  ⟨r.hd, by have := r.dp; show A.depth + 3 * k + 5 < _; omega, by have := r.un; show A.units + 1 + 16 * k + 200 < _; omega⟩
theorem make_depth {A : Around} {C : Addr} {us : List Value} {kw : List (Str × Value)} : (A.under (.builtin "type.__call__" ⟨.ref C :: us, kw⟩)).depth = A.depth + 1 := by
  first | rfl | simp [Around.under, Code.weight, Code.isCreation, Code.isGuard, Code.isCaller, Code.frames, Code.isFrame, guardIds]
theorem make_units {A : Around} {C : Addr} {us : List Value} {kw : List (Str × Value)} : (A.under (.builtin "type.__call__" ⟨.ref C :: us, kw⟩)).units = A.units + 1 := by
  first | rfl | simp [Around.under, Code.cUnits, Code.frames, Code.isFrame]
theorem Room.make {k : Nat} {A : Around} (r : Room (k + 1) A) (C : Addr) (us : List Value) (kw : List (Str × Value)) : Room k (A.under (.builtin "type.__call__" ⟨.ref C :: us, kw⟩)) :=
  ⟨r.hd, by have := r.dp; rw [make_depth]; omega, by have := r.un; rw [make_units]; omega⟩
theorem Room.depth {k : Nat} {A : Around} (r : Room k A) : A.depth < recursionLimit := by have := r.dp; omega
theorem Room.units {k : Nat} {A : Around} (r : Room k A) : A.units + 64 < cLine := by have := r.un; omega
noncomputable def tNil : TA := fun _ H Q => Q [] H
noncomputable def tCons (ta : TE) (tr : TA) : TA := fun σ H Q => ta σ H fun x H1 => tr σ H1 fun xs H2 => Q (x :: xs) H2
section
variable {X : Cx} {e : Expr} {es : List Expr} {te : TE} {t : TA} {pos : Pos}
theorem pa_nil : PA X [] tNil := fun _ _ _ _ H Q I h => Calls.spliced_nil ⟨[], H, I, .nil, h⟩
theorem pa_cons (ha : PE X e te) (hr : PA X es t) (hs : starEach (e :: es) X.env = (false, eval e X.env) :: starEach es X.env := by rfl) : PA X (e :: es) (tCons te t) := by
  intro pos pins s σ H Q I h
  rw [hs]
  show wpAny _ _ (spliced ((false, eval e X.env) :: backTo pos (starEach es X.env))) _ _ s
  refine Calls.spliced_cons (thn (ha pins s σ H _ I h) fun u s1 ⟨x, H1, I1, r1, q1⟩ => ?_)
  exact thn (hr pos pins s1 σ H1 _ I1 q1) fun us s2 ⟨xs, H2, I2, r2, q2⟩ => ⟨x :: xs, H2, I2, .cons r1 r2, q2⟩
noncomputable def tTup (t : TA) : TE := fun σ H Q => t σ H fun xs H1 => xs.length ≤ sizeLine ∧ ∀ p, H1 p = none → Q (.ref p) (upd H1 p (.tup xs))
noncomputable def tLst (t : TA) : TE := fun σ H Q => t σ H fun xs H1 => xs.length ≤ sizeLine ∧ ∀ p, H1 p = none → Q (.ref p) (upd H1 p (.lst xs))
theorem pe_tup {x1} (h : PA X es t) : PE X (.Tuple es x1 pos) (tTup t) := by
  intro pins s σ H Q I hq
  refine wpAny_Tuple_spliced (thn (h pos pins s σ H _ I hq) fun us s1 ⟨xs, H1, I1, r, z, q⟩ => ⟨by rw [← r.length]; exact z, ?_⟩)
  have hf : H1 s1.heap.objs.size = none := I1.hok.fresh (Nat.le_refl _)
  refine ⟨.ref s1.heap.objs.size, upd H1 s1.heap.objs.size (.tup xs), I1.laid (t' := s1.toks) (fun b u e => Heap.get?_push_of_some _ e) (Nat.le_refl _) ?_, rfl, q _ hf⟩
  exact ⟨z, us, r, ⟨_, Heap.get?_push_size _ rfl, rfl, _, rfl⟩⟩
theorem pe_lst (h : PA X es t) : PE X (.List es pos) (tLst t) := by
  intro pins s σ H Q I hq
  refine wpAny_List_spliced (thn (h pos pins s σ H _ I hq) fun us s1 ⟨xs, H1, I1, r, z, q⟩ => ⟨by rw [← r.length]; exact z, ?_⟩)
  have hf : H1 s1.heap.objs.size = none := I1.hok.fresh (Nat.le_refl _)
  refine ⟨.ref s1.heap.objs.size, upd H1 s1.heap.objs.size (.lst xs), I1.laid (t' := s1.toks) (fun b u e => Heap.get?_push_of_some _ e) (Nat.le_refl _) ?_, rfl, q _ hf⟩
  exact ⟨z, us, 0, r, Heap.get?_push_size _ rfl⟩
end
noncomputable abbrev Sp := List V → Hp → VK → XK → Prop
noncomputable abbrev CXT := List Env → Hp → Shared → XK → Value → Shared → Prop
structure Env0 (P : Program) (w : World) (K : PySem.W.Frag) (mg : Str → Option Value) (base : Heap) (A : Around) (outer : List Env) (s : Shared) (H : Hp) : Prop where
  frames : A.frames = some outer
  mod : Mod K mg base
  bs : ∀ b o, base.get? b = some o → s.heap.get? b = some o ∧ H b = none
  bsz : base.objs.size ≤ s.heap.objs.size
  funs : s.heap.FunFrames base outer
  frf : ∀ b ∈ frs outer, H b = none
  hok : HOk P w H s.heap
  bare : AllBare s.gens
noncomputable def CE (outer : List Env) (P : Program) (w : World) (H : Hp) (s : Shared) (Q : VK) (u : Value) (s' : Shared) : Prop :=
  ∃ v H', s'.os = s.os ∧ AllBare s'.gens ∧ Un (frs outer) [] H H' s.heap s'.heap ∧ HOk P w H' s'.heap ∧ RelV v u ∧ Q v H'
noncomputable def CR (CX : CXT) (outer : List Env) (P : Program) (w : World) (H : Hp) (s : Shared) (Q : VK) (E : XK) (r : Result) (s' : Shared) : Prop :=
  match r with
  | .ok (.ret u) => CE outer P w H s Q u s'
  | .ok _ => False
  | .error e => CX outer H s E e s'
structure FnOk (P : Program) (w : World) (K : PySem.W.Frag) (mg : Str → Option Value) (base : Heap) (CX : CXT) (k : Nat) (f : Addr) (fd : FuncData) (ps : List Str) (sp : Sp) : Prop where
  len : ∀ vs H Q E, sp vs H Q E → vs.length = ps.length
  run : ∀ (A : Around) (outer : List Env) (s : Shared) (H : Hp) (args : Args) (us : List Value) (vs : List V) (Q : VK) (E : XK), Room k A → Env0 P w K mg base A outer s H → BindsTo s fd args (ps.zip us) → Vals vs us → sp vs H Q E →
    codeAny (model P w) A (.call (.ref f) args) (CR CX outer P w H s Q E) s
theorem FnOk.mono {P : Program} {w : World} {K : PySem.W.Frag} {mg : Str → Option Value} {base : Heap} {CX : CXT} {j k : Nat} {f : Addr} {fd : FuncData} {ps : List Str} {sp : Sp} (F : FnOk P w K mg base CX j f fd ps sp) (h : j ≤ k) :
    FnOk P w K mg base CX k f fd ps sp := ⟨F.len, fun A outer s H args us vs Q E hr => F.run A outer s H args us vs Q E (hr.mono h)⟩
theorem Env0.make {P : Program} {w : World} {K : PySem.W.Frag} {mg : Str → Option Value} {base : Heap} {A : Around} {outer : List Env} {s : Shared} {H : Hp} (e : Env0 P w K mg base A outer s H) (C : Addr) (us : List Value) (kw : List (Str × Value)) :
    Env0 P w K mg base (A.under (.builtin "type.__call__" ⟨.ref C :: us, kw⟩)) outer s H := ⟨by first | exact e.frames | (simpa [Around.under, Code.envs, Code.isFrame, pushEnvs] using e.frames), e.mod, e.bs, e.bsz, e.funs, e.frf, e.hok, e.bare⟩
theorem Env0.in1 {P : Program} {w : World} {K : PySem.W.Frag} {mg : Str → Option Value} {base : Heap} {A : Around} {outer : List Env} {s : Shared} {H : Hp} (e : Env0 P w K mg base A outer s H) :
    Env0 P w K mg base A.in1 outer s H := ⟨e.frames, e.mod, e.bs, e.bsz, e.funs, e.frf, e.hok, e.bare⟩
section
variable {X : Cx} {pins : List (Addr × Obj)} {σ : St} {H : Hp} {s s' : Shared}
theorem Inv.env0 (I : Inv X pins σ H s) : Env0 X.prog X.w X.K X.mg X.base X.A X.stack s H :=
  ⟨I.ok.frames, I.ok.mod, I.bs, Nat.le_trans I.ok.bsz I.sz, I.stack, I.stkFree, I.hok, I.bare⟩
theorem Inv.after {Q : VK} {u : Value} (I : Inv X pins σ H s) (h : CE X.stack X.prog X.w H s Q u s') : EP X pins σ Q u s' := by
  obtain ⟨v, H', os, bare, un, hok, r, q⟩ := h
  obtain ⟨hh, g, d, t, os'⟩ := s'
  obtain rfl : os' = s.os := os
  exact ⟨v, H', I.call (h' := hh) (g' := g) (d' := d) (t' := t) (ch := []) un hok bare (fun b z => absurd z (by simp)), r, q⟩
end
noncomputable def tCall (sp : Sp) (dvs : List V) (E : XK) (t : TA) : TE := fun σ H Q => t σ H fun vs H1 => sp (vs ++ dvs) H1 Q E
noncomputable def Binds (K : PySem.W.Frag) (fd : FuncData) (ps : List Str) (ds : List Value) : Prop :=
  ∀ (s : Shared) (us : List Value), K.In s.heap → (us ++ ds).length = ps.length → BindsTo s fd ⟨us, []⟩ (ps.zip (us ++ ds))
theorem Binds.all {K : PySem.W.Frag} {fd : FuncData} {ps : List Str} (h : ∀ us : List Value, us.length = ps.length → bindArgs fd ⟨us, []⟩ = pure (ps.zip us)) : Binds K fd ps [] := fun s us _ hl => by
  rw [List.append_nil] at hl ⊢
  exact .of_eq (h us hl)
noncomputable def Passes (CX : CXT) (X : Cx) (E : XK) : Prop := ∀ (pins : List (Addr × Obj)) (σ : St) (H : Hp) (s : Shared) (e : Value) (s' : Shared), Inv X pins σ H s → CX X.stack H s E e s' → X.xe e s'
section
variable {X : Cx} {CX : CXT} {k : Nat} {f C : Addr} {fd : FuncData} {ps : List Str} {sp : Sp} {dvs : List V} {ds : List Value} {E : XK} {x m : Str} {p pos apos : Pos} {e o : Expr} {es : List Expr} {ta : TE} {t : TA}
theorem run_fn {pins : List (Addr × Obj)} {σ : St} {H : Hp} {s : Shared} {Q : VK} {us : List Value} {vs : List V} (F : FnOk X.prog X.w X.K X.mg X.base CX k f fd ps sp) (hr : Room k X.A) (hb : Binds X.K fd ps ds) (hd : Vals dvs ds) (hx : Passes CX X E)
    (I : Inv X pins σ H s) (r : Vals vs us) (h : sp (vs ++ dvs) H Q E) : wpAny (model X.prog X.w) X.A (call (.ref f) us) (EP X pins σ Q) X.xe s := by
  have r2 : Vals (vs ++ dvs) (us ++ ds) := r.append hd
  have hl : (us ++ ds).length = ps.length := by rw [← r2.length]; exact F.len _ _ _ _ h
  refine wpAny_call (codeAny_mono (F.run X.A X.stack s H ⟨us, []⟩ (us ++ ds) (vs ++ dvs) Q E hr I.env0 (hb s us I.kIn hl) r2 h) fun r s' hq => ?_)
  cases r with
  | error e => exact hx pins σ H s e s' I hq
  | ok fl =>
    cases fl with
    | ret u => exact I.after hq
    | next => exact False.elim hq
    | brk => exact False.elim hq
    | cont => exact False.elim hq
theorem pe_call (F : FnOk X.prog X.w X.K X.mg X.base CX k f fd ps sp) (hr : Room k X.A) (hg : Gl X x) (hm : X.mg x = some (.ref f)) (hk : PySem.W.keepIn X.K (.ref f) = true) (hb : Binds X.K fd ps ds) (hd : Vals dvs ds) (hx : Passes CX X E)
    (ha : PA X (e :: es) t) (hdb : (x == ("__debug__" : Str)) = false := by decide) (he : starEach (e :: es) X.env = (false, eval e X.env) :: starEach es X.env := by rfl) (hpl : (backTo pos (starEach es X.env)).any (·.1) = false := by rfl) :
    PE X (.Call (.Name x p) (e :: es) [] pos) (tCall sp dvs E t) := by
  intro pins s σ H Q I h
  refine wpAny_Call_Name_kw (ld_glob I hg hm ?_ hdb)
  refine PySem.W.callWith_K (h₀ := X.base) I.ok.mod.kin hk (thn (ha pos pins s σ H _ I h) fun us s1 ⟨vs, H1, I1, r, q⟩ => ⟨I1.kIn, ?_⟩) he hpl
  exact run_fn F hr hb hd hx I1 r q
end
section
variable {X : Cx} {CX : CXT} {k : Nat} {f C : Addr} {fd : FuncData} {ps ks : List Str} {sp : Sp} {E : XK} {x m : Str} {p pos apos kpos : Pos} {e o : Expr} {es : List Expr} {kws : List Keyword} {te ta : TE} {t tk : TA} {nm : Option Str}
variable {g : List Value → List Value → List Value} {gV : List V → List V → List V}
end
structure FnScope (N P : List Str) (sc : Scope) : Prop where
  kind : sc.kind = .function
  co : sc.isCoroutine = false
  gen : sc.isGenerator = false
  nd : N.Nodup
  pre : N.take P.length = P
  par : ∀ x ∈ P, sc.names.lookup x = some .local ∨ sc.names.lookup x = some .cell
  nofree : ∀ y ∈ sc.names, y.2 ≠ .free
theorem bindL_out {kindOf : Str → Option NameKind} {x : Str} : ∀ {binds : List (Str × Value)} {m : Str → Option Value}, (∀ v, (x, v) ∉ binds) → bindL kindOf binds m x = m x
  | [], _, _ => rfl
  | (n, v) :: r, m, h => by
    unfold bindL
    rw [bindL_out fun w hw => h w (List.mem_cons_of_mem _ hw)]
    split
    · have : x ≠ n := by rintro rfl; exact h v List.mem_cons_self
      simp [this]
    · rfl
theorem bindC_out {kindOf : Str → Option NameKind} {x : Str} : ∀ {binds : List (Str × Value)} {m : Str → Option Value}, (∀ v, (x, v) ∉ binds) → bindC kindOf binds m x = m x
  | [], _, _ => rfl
  | (n, v) :: r, m, h => by
    unfold bindC
    rw [bindC_out fun w hw => h w (List.mem_cons_of_mem _ hw)]
    split
    · rfl
    · have : x ≠ n := by rintro rfl; exact h v List.mem_cons_self
      simp [this]
theorem bindL_get {kindOf : Str → Option NameKind} {x : Str} {v : Value} : ∀ {P : List Str} {vs : List Value} {i : Nat} {m : Str → Option Value}, P.Nodup → P[i]? = some x → vs[i]? = some v → kindOf x = some .local →
    bindL kindOf (P.zip vs) m x = some v
  | [], _, _, _, _, h, _, _ => by simp at h
  | _ :: _, [], _, _, _, _, h, _ => by simp at h
  | p :: P, w :: vs, 0, m, nd, h1, h2, hk => by
    simp at h1 h2; subst h1; subst h2
    show bindL kindOf ((p, w) :: P.zip vs) m p = _
    unfold bindL
    rw [bindL_out fun v hv => (List.nodup_cons.mp nd).1 (List.of_mem_zip hv).1, if_pos hk]
    simp
  | p :: P, w :: vs, i + 1, m, nd, h1, h2, hk => by
    show bindL kindOf ((p, w) :: P.zip vs) m x = _
    unfold bindL
    exact bindL_get (i := i) (List.nodup_cons.mp nd).2 (by simpa using h1) (by simpa using h2) hk
theorem bindC_get {kindOf : Str → Option NameKind} {x : Str} {v : Value} : ∀ {P : List Str} {vs : List Value} {i : Nat} {m : Str → Option Value}, P.Nodup → P[i]? = some x → vs[i]? = some v → kindOf x ≠ some .local →
    bindC kindOf (P.zip vs) m x = some v
  | [], _, _, _, _, h, _, _ => by simp at h
  | _ :: _, [], _, _, _, _, h, _ => by simp at h
  | p :: P, w :: vs, 0, m, nd, h1, h2, hk => by
    simp at h1 h2; subst h1; subst h2
    show bindC kindOf ((p, w) :: P.zip vs) m p = _
    unfold bindC
    rw [bindC_out fun v hv => (List.nodup_cons.mp nd).1 (List.of_mem_zip hv).1, if_neg hk]
    simp
  | p :: P, w :: vs, i + 1, m, nd, h1, h2, hk => by
    show bindC kindOf ((p, w) :: P.zip vs) m x = _
    unfold bindC
    exact bindC_get (i := i) (List.nodup_cons.mp nd).2 (by simpa using h1) (by simpa using h2) hk
noncomputable def start (N : List Str) (vs : List V) : St := vs.map some ++ List.replicate (N.length - vs.length) none
noncomputable def cxOf (CX : CXT) (P : Program) (w : World) (K : PySem.W.Frag) (mg : Str → Option Value) (base : Heap) (N : List Str) (qual : Str) (scope : Scope) (f : Addr) (cd : Value) (A : Around) (outer : List Env) (s : Shared) (H : Hp) (E : XK) : Cx where
  prog := P
  w := w
  K := K
  mg := mg
  base := base
  A := A.deeper (envOfC qual scope s.heap.objs.size f cd)
  N := N
  s₀ := s
  H₀ := H
  env := envOfC qual scope s.heap.objs.size f cd
  outer := outer
  stack := envOfC qual scope s.heap.objs.size f cd :: outer
  ex := []
  calm := true
  fn := fun _ => true
  pn := []
  xe := fun e s' => wpAny (model P w) (A.deeper (envOfC qual scope s.heap.objs.size f cd)) (leaving (envOfC qual scope s.heap.objs.size f cd) e) (fun _ s'' => CX outer H s E e s'') (fun e' s'' => CX outer H s E e' s'') s'
theorem cell_has {sc : Scope} {n : Nat} {x : Str} (h : sc.names.lookup x = some .cell) : ∃ c, (cellsFrom n sc.names []).lookup x = some c := by
  have q := PySem.W.cellsFrom_some sc.names n [] (.inl h)
  exact Option.isSome_iff_exists.mp q
theorem inv_start {CX : CXT} {P : Program} {w : World} {K : PySem.W.Frag} {mg : Str → Option Value} {base : Heap} {N ps : List Str} {qual : Str} {scope : Scope} {f : Addr} {cd : Value} {A : Around} {outer : List Env} {s s1 : Shared} {H : Hp} {E : XK} {us : List Value} {vs : List V}
    (S : FnScope N ps scope) (hd : A.handled = none) (e0 : Env0 P w K mg base A outer s H) (hl : vs.length = ps.length) (r : Vals vs us)
    (x : InCallC s s.heap.objs.size (bindL (envOfC qual scope s.heap.objs.size f cd).kindOf (ps.zip us) fun _ => none) (cellsFrom (s.heap.objs.size + 1) scope.names []) (bindC (envOfC qual scope s.heap.objs.size f cd).kindOf (ps.zip us) fun _ => none) s1) :
    Inv (cxOf CX P w K mg base N qual scope f cd A outer s H E) [] (start N vs) H s1 := by
  have hpl : ps.length ≤ N.length := by have := congrArg List.length S.pre; rw [List.length_take] at this; omega
  obtain ⟨h1, tk, rfl, hk⟩ := x.done
  have noA : ∀ b : Addr, b ∉ (cxOf CX P w K mg base N qual scope f cd A outer s H E).ex := fun b z => absurd (show b ∈ ([] : List Addr) from z) (by simp)
  refine ⟨⟨e0.mod, S.kind, rfl, rfl, Nat.le_refl _, fun y z c h1 h2 => ?_, fun y hy => ?_, fun y c _ h => ?_, fun _ => hd, Around.frames_deeper e0.frames, .inr ⟨rfl, rfl⟩, fun b z => absurd z (noA b), e0.bs, e0.bsz, fun b _ _ => noA b, fun b z => absurd z (noA b), e0.funs, e0.frf⟩,
    rfl, e0.bare, Un.kept hk, ⟨_, x.toInCall.ns, fun i y v h1 h2 h3 => ?_⟩, fun y c h => ⟨_, x.cell y c h⟩, e0.hok.fresh (Nat.le_refl _), fun y c h => ?_, fun p hp => absurd (show p ∈ ([] : List (Addr × Obj)) from hp) (by simp), e0.hok.kept hk, ?_⟩
  · exact name_of_addr x.apart (PySem.mem_of_lookup h1) (PySem.mem_of_lookup h2)
  · have hy : scope.names.lookup y = some .cell ∨ scope.names.lookup y = some .free := hy
    rcases hy with hy | hy
    · exact cell_has hy
    · exact absurd rfl (S.nofree _ (PySem.mem_of_lookup hy))
  · exact Nat.le_of_lt (x.above y c (PySem.mem_of_lookup h))
  · have hi : i < vs.length := by
      unfold start at h2
      by_cases hi : i < vs.length
      · exact hi
      · rw [List.getElem?_append_right (by simpa using hi)] at h2
        rw [List.getElem?_replicate] at h2
        split at h2 <;> cases h2
    have ha : vs[i]? = some v := by
      unfold start at h2
      rw [List.getElem?_append_left (by simpa using hi), List.getElem?_map] at h2
      cases e : vs[i]? with
      | none => rw [e] at h2; cases h2
      | some a => rw [e] at h2; cases h2; rfl
    obtain ⟨u, hu, rv⟩ := r.get ha
    have hp : ps[i]? = some y := by
      rw [← S.pre, List.getElem?_take_of_lt (by omega)]; exact h1
    have ndP : ps.Nodup := by rw [← S.pre]; exact S.nd.sublist (List.take_sublist _ _)
    refine ⟨u, rv, ?_⟩
    rcases S.par y (List.mem_of_getElem? hp) with k | k
    · exact .inl ⟨k, bindL_get ndP hp hu k⟩
    · obtain ⟨c, e⟩ := cell_has (n := s.heap.objs.size + 1) k
      refine .inr ⟨.inl k, c, e, ?_⟩
      have q := x.cell y c e
      rw [bindC_get ndP hp hu (by show scope.names.lookup y ≠ _; rw [k]; decide)] at q
      exact q
  · exact e0.hok.fresh (Nat.le_of_lt (x.above y c (PySem.mem_of_lookup h)))
  · unfold start
    show _ = N.length
    rw [List.length_append, List.length_map, List.length_replicate]
    omega
theorem fn_of {CX : CXT} {P : Program} {w : World} {K : PySem.W.Frag} {mg : Str → Option Value} {base : Heap} {k : Nat} {f : Addr} {name qual : Str} {params : Arguments} {body : List Stmt} {scope : Scope} {dV kV doc pm cdv ct oc : Value} {an od : Option Addr}
    {osl : Array (Option Value)} {N ps : List Str} {sp : Sp} (lk : K.lookup f = some ⟨oc, od, .func (PySem.W.fnOf name qual params body scope dV kV doc pm an cdv ct), osl⟩) (hcd : PySem.W.codeIn K cdv qual = true) (S : FnScope N ps scope)
    (len : ∀ vs H Q E, sp vs H Q E → vs.length = ps.length)
    (hbody : ∀ (A : Around) (outer : List Env) (s : Shared) (H : Hp) (vs : List V) (Q : VK) (E : XK), Room k (A.deeper (envOfC qual scope s.heap.objs.size f cdv)) → sp vs H Q E →
      ∃ t, PSs (cxOf CX P w K mg base N qual scope f cdv A outer s H E) body t ∧ t { nx := fun _ H' => Q .non H', rt := Q } (start N vs) H) :
    FnOk P w K mg base CX (k + 1) f (PySem.W.fnOf name qual params body scope dV kV doc pm an cdv ct) ps sp := by
  refine ⟨len, fun A outer s H args us vs Q E hr e0 hb r hsp => ?_⟩
  have hl := len _ _ _ _ hsp
  have KX : K.In s.heap := e0.mod.kin.keeps fun b o e => (e0.bs b o e).1
  have lim : s.heap.NoLimit := e0.mod.nolimit.keeps fun b o e => (e0.bs b o e).1
  have hkind : ∀ y ∈ ps.zip us, scope.names.lookup y.1 = some .local ∨ (scope.names.lookup y.1 = some .cell ∧ ((cellsFrom (s.heap.objs.size + 1) scope.names []).lookup y.1).isSome = true) := fun ⟨n, v⟩ hy => by
    rcases S.par n (List.of_mem_zip hy).1 with q | q
    · exact .inl q
    · exact .inr ⟨q, PySem.W.cellsFrom_some _ _ _ (.inl q)⟩
  refine codeAny_call_function hr.depth (KX _ _ lk) rfl S.co S.gen rfl (PySem.W.codeRec_of KX hcd) (hb _ _ _ _ ?_)
  refine wpAny_newFunctionEnv_cells S.kind hkind fun env he s1 x => ?_
  subst he
  refine ⟨lim.keeps x.toInCall.keep, codeAny_func ?_⟩
  obtain ⟨t, ht, hq⟩ := hbody A outer s H vs Q E (hr.deeper _) hsp
  have I : Inv (cxOf CX P w K mg base N qual scope f cdv A outer s H E) [] (start N vs) H s1 := inv_start S hr.hd e0 hl r x
  refine wpAny_mono (ht [] s1 (start N vs) H _ I hq) (fun fl s' hs => ?_) fun e s' hs => hs
  have fin : ∀ {σ' : St} {H' : Hp} {v : V} {u : Value}, Inv (cxOf CX P w K mg base N qual scope f cdv A outer s H E) [] σ' H' s' → RelV v u → Q v H' → CE outer P w H s Q u s' :=
    fun {σ' H' v u} J rv q => ⟨v, H', J.os, J.bare, J.base, J.hok, rv, q⟩
  cases fl with
  | ret u =>
    obtain ⟨v, σ', H', J, rv, q⟩ := hs
    exact fin J rv q
  | next =>
    obtain ⟨σ', H', J, q⟩ := hs
    exact fin (v := V.non) (u := Value.none) J rfl q
  | brk =>
    obtain ⟨_, _, _, q⟩ := hs
    exact False.elim q
  | cont =>
    obtain ⟨_, _, _, q⟩ := hs
    exact False.elim q
end L2
namespace L2
open PySem PySem.Spec PyProof.Rows
section
variable {X : Cx} {x : Str} {p pos : Pos} {e : Expr} {es : List Expr} {t : TA} {id T : String} {r : List V → Hp → VK → Prop}
noncomputable def tCB (r : List V → Hp → VK → Prop) (t : TA) : TE := fun σ H Q => t σ H fun vs H1 => r vs H1 Q
theorem pe_callB (hc : CallR X (.builtin id) r) (hg : Gl X x) (hm : X.mg x = none) (hv : bootBuiltins x = some (.builtin id)) (ha : PA X (e :: es) t) (hn : x ≠ "__name__" := by decide) (hdb : (x == ("__debug__" : Str)) = false := by decide)
    (he : starEach (e :: es) X.env = (false, eval e X.env) :: starEach es X.env := by rfl) (hpl : (backTo pos (starEach es X.env)).any (·.1) = false := by rfl) : PE X (.Call (.Name x p) (e :: es) [] pos) (tCB r t) := by
  intro pins s σ H Q I h
  refine wpAny_Call_Name_kw (ld_blt I hg hm hv ?_ hn hdb)
  exact PyProof.Rows.callWith_builtin1 (thn (ha pos pins s σ H _ I h) fun us s1 ⟨vs, H1, I1, r1, q1⟩ => hc pins s1 σ H1 vs us Q I1 r1 q1) he hpl
theorem pe_callTy (hc : CallR X (.type T) r) (hg : Gl X x) (hm : X.mg x = none) (hv : bootBuiltins x = some (.type T)) (ha : PA X (e :: es) t) (hn : x ≠ "__name__" := by decide) (hdb : (x == ("__debug__" : Str)) = false := by decide)
    (he : starEach (e :: es) X.env = (false, eval e X.env) :: starEach es X.env := by rfl) (hpl : (backTo pos (starEach es X.env)).any (·.1) = false := by rfl) : PE X (.Call (.Name x p) (e :: es) [] pos) (tCB r t) := by
  intro pins s σ H Q I h
  refine wpAny_Call_Name_kw (ld_blt I hg hm hv ?_ hn hdb)
  exact PyProof.Rows.callWith_type1 (thn (ha pos pins s σ H _ I h) fun us s1 ⟨vs, H1, I1, r1, q1⟩ => hc pins s1 σ H1 vs us Q I1 r1 q1) he hpl
end
end L2
namespace HT
open PySem PyProof.Rows
section
open PySem.SeqAt
open PySem.AutoSeq1 (wpAny_loadPart')
open PySem.MeetsSeq PySem.MeetsSeq2 PySem.MeetsSeq3
end
section
variable {prog : Program} {w : World} {A : Around} {E : Value → Shared → Prop} {s : Shared}
theorem cat_tup {t b : Addr} {vs ws : List Value} {Q : Value → Shared → Prop} (ht : IsTup s.heap t vs.toArray) (hb : IsTup s.heap b ws.toArray) (hv : vs ≠ [])
    (h1 : ws = [] → Q (.ref t) s) (h2 : ws ≠ [] → Q (.ref s.heap.objs.size) { s with heap := s.heap.push { cls := .type "tuple", data := .seq (vs ++ ws).toArray } })
    (hsz : vs.length + ws.length ≤ sizeLine) : wpAny (model prog w) A (binaryOp .Add (.ref t) (.ref b)) Q E s := by
  obtain ⟨⟨cls, dd, data, sl⟩, ho, hc, n, hd⟩ := id ht
  obtain ⟨⟨cls2, dd2, data2, sl2⟩, ho2, hc2, n2, hd2⟩ := id hb
  simp only at hc hd hc2 hd2
  subst hc hd hc2 hd2
  have e : vs.toArray ++ ws.toArray = (vs ++ ws).toArray := by simp
  by_cases hw : ws = []
  · exact concat_meets ⟨_, ho, rfl⟩ ⟨_, ho2, rfl⟩ noFill_tuple_add seq_tuple_add PySem.F.slot_tuple_add PySem.F.entry_tuple_add (PySem.F.args_tuple_add_2 _ _)
      (tuple_addW1 t b vs.toArray ws.toArray n n2 dd dd2 sl sl2 (by simpa using hv) (by simp [hw])) ⟨ho, ho2, h1 hw⟩
  · refine concat_meets ⟨_, ho, rfl⟩ ⟨_, ho2, rfl⟩ noFill_tuple_add seq_tuple_add PySem.F.slot_tuple_add PySem.F.entry_tuple_add (PySem.F.args_tuple_add_2 _ _)
      (tuple_addW2 t b vs.toArray ws.toArray n n2 dd dd2 sl sl2 (by simpa using hv) (by simpa using hw) (by rw [List.size_toArray, List.size_toArray]; exact hsz)) ⟨ho, ho2, ?_⟩
    rw [e]
    exact h2 hw
noncomputable def sIx (n d : Nat) : Option Int → Nat
  | none => d
  | some v => if v < 0 then (v + (n : Int)).toNat else min v.toNat n
theorem sIx_nat (n d k : Nat) : sIx n d (some (k : Int)) = min k n := by
  show (if (k : Int) < 0 then ((k : Int) + (n : Int)).toNat else min (k : Int).toNat n) = min k n
  rw [if_neg (by omega), Int.toNat_natCast]
theorem sIx_le (n d : Nat) (hd : d ≤ n) (o : Option Int) : sIx n d o ≤ n := by
  cases o with
  | none => exact hd
  | some v =>
    show (if v < 0 then (v + (n : Int)).toNat else min v.toNat n) ≤ n
    by_cases hv : v < 0
    · rw [if_pos hv]; omega
    · rw [if_neg hv]; exact Nat.min_le_right _ _
theorem clip_eq (v : Int) (n d : Nat) : (if v < 0 then max (v + (n : Int)) 0 else min v (n : Int)) = ((sIx n d (some v) : Nat) : Int) := by
  show (if v < 0 then max (v + (n : Int)) 0 else min v (n : Int)) = (((if v < 0 then (v + (n : Int)).toNat else min v.toNat n) : Nat) : Int)
  by_cases hv : v < 0
  · simp only [if_pos hv]; omega
  · simp only [if_neg hv]; omega
theorem adjust_gen (lo hi : Option Int) (n : Nat) : Builtin.Slice.sliceAdjust lo hi 1 (n : Int) = (((sIx n 0 lo : Nat) : Int), ((sIx n n hi : Nat) : Int)) := by
  have h1 : ¬ ((1 : Int) < 0) := by omega
  unfold Builtin.Slice.sliceAdjust
  simp only [h1, if_false]
  refine Prod.ext ?_ ?_
  · cases lo with
    | none => rfl
    | some v => exact clip_eq v n 0
  · cases hi with
    | none => rfl
    | some v => exact clip_eq v n n
theorem places_gen (i j : Nat) : Builtin.Slice.slicePlaces (i : Int) (j : Int) 1 = j - i := by
  unfold Builtin.Slice.slicePlaces
  have h1 : (1 : Int) > 0 := by omega
  simp only [h1, if_true, Int.ediv_one]
  split <;> omega
theorem slicePart_ {v : Value} {o : Option Int} {Q : Option Int → Shared → Prop} (p : IsPart v o) (h : Q o s) : wpAny (model prog w) A (Builtin.Slice.slicePartIndex v) Q E s := by
  cases p with
  | none => exact slicePart_none h
  | int i t => exact slicePart_int h
theorem sliceApplied_gen {sl : Addr} {vl vu : Value} {lo hi : Option Int} {n : Nat} {Q : Int × Int × Nat → Shared → Prop} (hs : s.heap.IsSliceOf sl vl vu .none) (pl : IsPart vl lo) (pu : IsPart vu hi)
    (h : Q (((sIx n 0 lo : Nat) : Int), 1, sIx n n hi - sIx n 0 lo) s) : wpAny (model prog w) A (Builtin.Slice.sliceApplied (.ref sl) (pure (n : Int))) Q E s := by
  obtain ⟨os, hos, hcs, hds⟩ := id hs
  unfold Builtin.Slice.sliceApplied Builtin.Slice.sliceFields
  refine wpAny_bind (wpAny_bind (wpAny_field hos hds (x := vl) rfl (wpAny_bind (wpAny_field hos hds (x := vu) rfl (wpAny_bind (wpAny_field hos hds (x := .none) rfl (wpAny_pure ?_)))))))
  refine wpAny_bind (slicePart_none ?_)
  show wpAny _ _ (if ((1 : Int) == 0) = true then _ else _) _ _ s
  rw [if_neg (by decide)]
  refine wpAny_bind (slicePart_ pl (wpAny_bind (slicePart_ pu (wpAny_bind (wpAny_pure ?_)))))
  show wpAny _ _ (match Builtin.Slice.sliceAdjust lo hi 1 (n : Int) with | (lo, hi) => pure (lo, (1 : Int), Builtin.Slice.slicePlaces lo hi 1)) _ _ s
  rw [adjust_gen lo hi n]
  show wpAny _ _ (pure (((sIx n 0 lo : Nat) : Int), (1 : Int), Builtin.Slice.slicePlaces ((sIx n 0 lo : Nat) : Int) ((sIx n n hi : Nat) : Int) 1)) _ _ s
  rw [places_gen]
  exact wpAny_pure h
theorem pick_gen (xs : Array Value) (i k : Nat) : ((List.range k).filterMap fun (m : Nat) => xs[((i : Int) + (m : Int) * 1).toNat]?).toArray = ((xs.toList.drop i).take k).toArray := by
  have e : (fun (m : Nat) => xs[((i : Int) + (m : Int) * 1).toNat]?) = fun m => xs[i + m]? := by
    funext m
    have : ((i : Int) + (m : Int) * 1).toNat = i + m := by omega
    rw [this]
  rw [e]
  have := pick_run xs i k
  rw [List.filterMap_map] at this
  have e2 : ((fun x => xs[x]?) ∘ fun x => i + x) = fun m => xs[i + m]? := rfl
  rw [e2] at this
  rw [this]
theorem getItem_tuple_cut {t sl : Addr} {items : Array Value} {vl vu : Value} {lo hi : Option Int} {Q : Value → Shared → Prop} (ht : IsTup s.heap t items) (hs : s.heap.IsSliceOf sl vl vu .none) (pl : IsPart vl lo) (pu : IsPart vu hi)
    (hw : ¬ (sIx items.size 0 lo = 0 ∧ sIx items.size items.size hi = items.size))
    (h : Q (.ref s.heap.objs.size) { s with heap := s.heap.push { cls := .type "tuple", data := .seq ((items.toList.drop (sIx items.size 0 lo)).take (sIx items.size items.size hi - sIx items.size 0 lo)).toArray } })
    (hsz : items.size ≤ sizeLine) : wpAny (model prog w) A (getItem (.ref t) (.ref sl)) Q E s := by
  have htake : sizeOk (.seq ((items.toList.drop (sIx items.size 0 lo)).take (sIx items.size items.size hi - sIx items.size 0 lo)).toArray) := by
    show ((items.toList.drop (sIx items.size 0 lo)).take (sIx items.size items.size hi - sIx items.size 0 lo)).toArray.size ≤ sizeLine
    rw [List.size_toArray, List.length_take, List.length_drop, Array.length_toList]
    omega
  have hj : sIx items.size items.size hi ≤ items.size := sIx_le _ _ (Nat.le_refl _) hi
  obtain ⟨os, hos, hcs, hds⟩ := id hs
  have hTs : s.TypeIs (.ref sl) "slice" := ⟨os, hos, hcs⟩
  unfold getItem
  try with_reducible refine wpAny_holding ?_
  first | refine wpAny_bind (wpAny_pure ?_) | skip
  refine wpAny_bind (wpAny_sequenceKey ht.typeIs (by decide) ?_)
  refine wpAny_bind (wpAny_callSpecial?_slot (name := Str.ofString "__getitem__") ht.typeIs PyProof.Rows.slot_tuple_getitem
    (wpAny_call_entry PyProof.Rows.slot_tuple_getitem ht.typeIs entry_tuple_getitem ?_ (args_tuple_getitem _ _)))
  show wpAny _ _ (Builtin.Tuple.tupleItemsOf (.ref t) >>= _) _ _ s
  refine wpAny_bind (tupleItemsOf_ ht ?_)
  refine wpAny_bind (wpAny_typeOf hTs ?_)
  rw [if_pos (by decide)]
  refine wpAny_bind (sliceApplied_gen hs pl pu ?_)
  have hno : ¬ ((((sIx items.size 0 lo : Nat) : Int) == 0 && (1 : Int) == 1 && (sIx items.size items.size hi - sIx items.size 0 lo) == items.size) = true) := by
    intro q
    rw [Bool.and_eq_true, Bool.and_eq_true] at q
    have q1 : ((sIx items.size 0 lo : Nat) : Int) = 0 := eq_of_beq q.1.1
    have q2 : sIx items.size items.size hi - sIx items.size 0 lo = items.size := eq_of_beq q.2
    exact hw ⟨by omega, by omega⟩
  show wpAny _ _ (if (((sIx items.size 0 lo : Nat) : Int) == 0 && (1 : Int) == 1 && (sIx items.size items.size hi - sIx items.size 0 lo) == items.size) = true then _ else _) _ _ s
  rw [if_neg hno, pick_gen]
  first
    | exact wpAny_bind (m := Builtin.Tuple.tupleExact _) (wpAny_newObj_type (wpAny_pure ⟨_, rfl, wpAny_pure h⟩) htake)
    | exact wpAny_bind (m := Builtin.Tuple.tupleExact _) (wpAny_newObj_type (wpAny_bind (wpAny_pure (wpAny_pure ⟨_, rfl, wpAny_pure h⟩))) htake)
    | exact wpAny_bind (wpAny_bind (m := Builtin.Tuple.tupleExact _) (wpAny_newObj_type (wpAny_pure (wpAny_pure ⟨_, rfl, wpAny_pure h⟩)) htake))
    | exact wpAny_bind (wpAny_bind (m := Builtin.Tuple.tupleExact _) (wpAny_newObj_type (wpAny_pure ⟨_, rfl, wpAny_pure h⟩) htake))
end
end HT
namespace L2
open PySem PySem.Spec PyProof.Rows
noncomputable abbrev TO := St → Hp → (Option Int → Hp → Prop) → Prop
noncomputable def PO (X : Cx) (e : Option Expr) (t : TO) : Prop :=
  ∀ (pins : List (Addr × Obj)) (s : Shared) (σ : St) (H : Hp) (Q : Option Int → Hp → Prop), Inv X pins σ H s → t σ H Q →
    wpAny (model X.prog X.w) X.A (evalPart e X.env) (fun u s' => ∃ o H', Inv X pins σ H' s' ∧ IsPart u o ∧ Q o H') X.xe s
noncomputable def tNoPart : TO := fun _ H Q => Q none H
noncomputable def tPart (t : TE) : TO := fun σ H Q => t σ H fun x H1 => ∃ i, x = .int i ∧ Q (some i) H1
section
variable {X : Cx} {e : Expr} {te : TE} {lo hi : Option Expr} {tl th : TO} {pos p2 : Pos}
theorem po_none : PO X none tNoPart := by
  intro pins s σ H Q I h
  rw [evalPart_none]
  exact wpAny_pure ⟨none, H, I, .none, h⟩
theorem po_some (h : PE X e te) : PO X (some e) (tPart te) := by
  intro pins s σ H Q I hw
  rw [evalPart_some]
  refine thn (h pins s σ H _ I hw) fun u s1 ⟨x, H1, I1, r1, q1⟩ => ?_
  obtain ⟨i, rfl, q⟩ := q1
  obtain ⟨t, rfl⟩ := r1
  exact ⟨some i, H1, I1, .int i t, q⟩
noncomputable def SlR (X : Cx) (r : V → Option Int → Option Int → Hp → VK → Prop) : Prop :=
  ∀ (pins : List (Addr × Obj)) (s : Shared) (σ : St) (H : Hp) (x : V) (v vl vu : Value) (lo hi : Option Int) (sl : Addr) (Q : VK), Inv X pins σ H s → RelV x v → s.heap.IsSliceOf sl vl vu .none → IsPart vl lo → IsPart vu hi → r x lo hi H Q →
    ∃ T id, typeLookup (.type T) "__getitem__" = pure (some (.builtin id)) ∧ s.TypeIs v T ∧ wpAny (model X.prog X.w) X.A (getItem v (.ref sl)) (EP X pins σ Q) X.xe s
theorem SlR.or {r r' : V → Option Int → Option Int → Hp → VK → Prop} (h : SlR X r) (h' : SlR X r') : SlR X (fun x lo hi H Q => r x lo hi H Q ∨ r' x lo hi H Q) := by
  intro pins s σ H x v vl vu lo hi sl Q I rx hs pl pu q
  rcases q with q | q
  · exact h pins s σ H x v vl vu lo hi sl Q I rx hs pl pu q
  · exact h' pins s σ H x v vl vu lo hi sl Q I rx hs pl pu q
noncomputable def tSl (r : V → Option Int → Option Int → Hp → VK → Prop) (te : TE) (tl th : TO) : TE := fun σ H Q => te σ H fun x H1 => tl σ H1 fun l H2 => th σ H2 fun u H3 => r x l u H3 Q
theorem pe_slice {r : V → Option Int → Option Int → Hp → VK → Prop} (hr : SlR X r) (he : PE X e te) (hl : PO X lo tl) (hu : PO X hi th) : PE X (.Subscript e (.Slice lo hi none p2) pos) (tSl r te tl th) := by
  intro pins s σ H Q I h
  refine Subscript_ (thn (he pins s σ H _ I h) fun v s1 ⟨x, H1, I1, r1, q1⟩ => ?_)
  refine wpAny_Slice (thn (hl pins s1 σ H1 _ I1 q1) fun vl s2 ⟨l, H2, I2, pl, q2⟩ => thn (hu pins s2 σ H2 _ I2 q2) fun vu s3 ⟨u, H3, I3, pu, q3⟩ => ?_)
  rw [evalPart_none]
  refine wpAny_pure ?_
  have I4 : Inv X pins σ H3 { s3 with heap := s3.heap.push { cls := .type "slice", data := .fields #[vl, vu, .none] } } := I3.kept (t' := s3.toks) fun b ob q => Heap.get?_push_of_some _ q
  obtain ⟨T, id, hT, ht, hg⟩ := hr pins { s3 with heap := s3.heap.push { cls := .type "slice", data := .fields #[vl, vu, .none] } } σ H3 x v vl vu l u s3.heap.objs.size Q I4 r1 (Heap.IsSliceOf.new ..) pl pu q3
  show wpAny (model X.prog X.w) X.A (subscriptTail e (.Slice lo hi none p2) v (.ref s3.heap.objs.size)) (EP X pins σ Q) X.xe { s3 with heap := s3.heap.push { cls := .type "slice", data := .fields #[vl, vu, .none] } }
  exact tail_any (ops := [.ref s3.heap.objs.size, v]) ht hT hg (by with_unfolding_all rfl)
noncomputable def cutV (xs : List V) (lo hi : Option Int) : List V := (xs.drop (HT.sIx xs.length 0 lo)).take (HT.sIx xs.length xs.length hi - HT.sIx xs.length 0 lo)
theorem cutV_length (xs : List V) (lo hi : Option Int) : (cutV xs lo hi).length ≤ xs.length := by
  unfold cutV
  rw [List.length_take, List.length_drop]
  omega
noncomputable def rSlT (K : PySem.W.Frag) : V → Option Int → Option Int → Hp → VK → Prop := fun x lo hi H Q => ∃ a xs, x = .ref a ∧ SqT K H a xs ∧
  ¬ (HT.sIx xs.length 0 lo = 0 ∧ HT.sIx xs.length xs.length hi = xs.length) ∧ ∀ p, H p = none → Q (.ref p) (upd H p (.tup (cutV xs lo hi)))
theorem sl_tup : SlR X (rSlT X.K) := by
  intro pins s σ H x v vl vu lo hi sl Q I rx hs pl pu h
  obtain ⟨a, xs, rfl, hx, hw, q⟩ := h
  cases rx
  obtain ⟨its, r, ht, hz⟩ := I.tuple hx
  have hlen : its.toArray.size = xs.length := by rw [List.size_toArray]; exact r.length.symm
  refine ⟨"tuple", _, PyProof.Rows.slot_tuple_getitem.lookup, ht.typeIs, ?_⟩
  refine HT.getItem_tuple_cut ht hs pl pu (by rw [hlen]; exact hw) ?_ (by rw [hlen]; exact hz)
  rw [hlen]
  refine ⟨.ref s.heap.objs.size, _, I.laid (t' := s.toks) (o := .tup (cutV xs lo hi)) (fun b ob q => Heap.get?_push_of_some _ q) (Nat.le_refl _) ?_, rfl, q _ (I.hok.fresh (Nat.le_refl _))⟩
  exact ⟨Nat.le_trans (cutV_length xs lo hi) hz, _, (r.drop (HT.sIx xs.length 0 lo)).take (HT.sIx xs.length xs.length hi - HT.sIx xs.length 0 lo), IsTup.new _ _⟩
noncomputable def rCatT (K : PySem.W.Frag) : R2 := fun x y H Q => ∃ a b xs ys, x = .ref a ∧ y = .ref b ∧ SqT K H a xs ∧ SqT K H b ys ∧ xs ≠ [] ∧ xs.length + ys.length ≤ sizeLine ∧
  (ys = [] → Q (.ref a) H) ∧ (ys ≠ [] → ∀ p, H p = none → Q (.ref p) (upd H p (.tup (xs ++ ys))))
theorem Vals.nil_iff {xs : List V} {us : List Value} (r : Vals xs us) : us = [] ↔ xs = [] := by
  cases r with
  | nil => simp
  | cons _ _ => simp
theorem op_catT : OpR X (binaryOp .Add) (rCatT X.K) := by
  intro pins s σ H x y v u Q I rx ry h
  obtain ⟨a, b, xs, ys, rfl, rfl, ha, hb, hx, hz, q1, q2⟩ := h
  cases rx
  cases ry
  obtain ⟨its, r1, p1, _⟩ := I.tuple ha
  obtain ⟨its2, r2, p2, _⟩ := I.tuple hb
  refine HT.cat_tup p1 p2 (fun z => hx (r1.nil_iff.mp z)) (fun z => ⟨.ref a, H, I, rfl, q1 (r2.nil_iff.mp z)⟩) (fun z => ?_) (by rw [← r1.length, ← r2.length]; exact hz)
  refine ⟨.ref s.heap.objs.size, _, I.laid (t' := s.toks) (o := .tup (xs ++ ys)) (fun b ob q => Heap.get?_push_of_some _ q) (Nat.le_refl _) ?_, rfl, q2 (fun w => z (r2.nil_iff.mpr w)) _ (I.hok.fresh (Nat.le_refl _))⟩
  exact ⟨by rw [List.length_append]; exact hz, _, r1.append r2, IsTup.new _ _⟩
end
end L2
namespace L2
open PySem PySem.Spec PyProof.Rows
noncomputable def ixN (n : Nat) (i : Int) : Option Nat := if 0 ≤ i then (if i < n then some i.toNat else none) else if -(n : Int) ≤ i then some (i + n).toNat else none
noncomputable def atI {α : Type} (xs : List α) (i : Int) : Option α := (ixN xs.length i).bind fun j => xs[j]?
theorem ixN_seq {n : Nat} {i : Int} {j : Nat} (h : ixN n i = some j) : seqIndex? i n = some j ∧ j < n ∧ -(n : Int) ≤ i ∧ i < n := by
  unfold ixN at h
  by_cases h0 : 0 ≤ i
  · rw [if_pos h0] at h
    by_cases h1 : i < n
    · rw [if_pos h1] at h
      have e : i.toNat = j := Option.some.inj h
      exact ⟨by rw [seqIndex_of h0 h1, e], by omega, by omega, h1⟩
    · rw [if_neg h1] at h; cases h
  · rw [if_neg h0] at h
    by_cases h1 : -(n : Int) ≤ i
    · rw [if_pos h1] at h
      have e : (i + n).toNat = j := Option.some.inj h
      exact ⟨by rw [seqIndex_neg (by omega) h1, e], by omega, h1, by omega⟩
    · rw [if_neg h1] at h; cases h
theorem atI_get {α : Type} {xs : List α} {i : Int} {v : α} (h : atI xs i = some v) : ∃ j, seqIndex? i xs.length = some j ∧ xs[j]? = some v ∧ j < xs.length ∧ -(xs.length : Int) ≤ i ∧ i < xs.length := by
  unfold atI at h
  cases e : ixN xs.length i with
  | none => rw [e] at h; cases h
  | some j =>
    rw [e] at h
    obtain ⟨h1, h2, h3, h4⟩ := ixN_seq e
    exact ⟨j, h1, h, h2, h3, h4⟩
theorem atI_nat {α : Type} {xs : List α} {j : Nat} {v : α} (h : xs[j]? = some v) : atI xs (j : Int) = some v := by
  have hj : j < xs.length := (List.getElem?_eq_some_iff.mp h).1
  have e : ixN xs.length (j : Int) = some j := by
    unfold ixN
    rw [if_pos (by omega), if_pos (by omega)]; simp
  unfold atI; rw [e]; exact h
noncomputable def PlainIx (b : Expr) : Prop := ∀ o i, subscripted b false o i = operate [o, i] (getItem o i)
noncomputable def IxR (X : Cx) (r : R2) : Prop :=
  ∀ (value slice : Expr) (pins : List (Addr × Obj)) (s : Shared) (σ : St) (H : Hp) (x y : V) (v u : Value) (Q : VK), Inv X pins σ H s → RelV x v → RelV y u → r x y H Q →
    subscripted slice false v u = operate [v, u] (getItem v u) → wpAny (model X.prog X.w) X.A (subscriptTail value slice v u) (EP X pins σ Q) X.xe s
noncomputable def MtR (X : Cx) (id : String) (r : V → List V → Hp → VK → Prop) : Prop :=
  ∀ (pins : List (Addr × Obj)) (s : Shared) (σ : St) (H : Hp) (x : V) (xs : List V) (v : Value) (us : List Value) (Q : VK), Inv X pins σ H s → RelV x v → Vals xs us → r x xs H Q →
    wpAny (model X.prog X.w) X.A (call (.builtin id) (v :: us)) (EP X pins σ Q) X.xe s
section
variable {X : Cx} {a b : Expr} {ta tb : TE} {pos : Pos}
theorem IxR.or {r r' : R2} (h : IxR X r) (h' : IxR X r') : IxR X (fun x y H Q => r x y H Q ∨ r' x y H Q) := by
  intro value slice pins s σ H x y v u Q I rx ry q hs
  rcases q with q | q
  · exact h value slice pins s σ H x y v u Q I rx ry q hs
  · exact h' value slice pins s σ H x y v u Q I rx ry q hs
theorem MtR.or {id : String} {r r' : V → List V → Hp → VK → Prop} (h : MtR X id r) (h' : MtR X id r') : MtR X id (fun x xs H Q => r x xs H Q ∨ r' x xs H Q) := by
  intro pins s σ H x xs v us Q I rx rs q
  rcases q with q | q
  · exact h pins s σ H x xs v us Q I rx rs q
  · exact h' pins s σ H x xs v us Q I rx rs q
theorem pe_ix {r : R2} (hr : IxR X r) (ha : PE X a ta) (hb : PE X b tb) (hs : PlainIx b) : PE X (.Subscript a b pos) (tOp r ta tb) := by
  intro pins s σ H Q I h
  exact Subscript_ (binT ha hb I h fun v u s2 x y H2 I2 rx ry q => hr a b pins s2 σ H2 x y v u Q I2 rx ry q (hs _ _))
noncomputable def rIxL (K : PySem.W.Frag) : R2 := fun x y H Q => ∃ p xs i v, x = .ref p ∧ y = .int i ∧ SqL K H p xs ∧ atI xs i = some v ∧ Q v H
noncomputable def rIxT (K : PySem.W.Frag) : R2 := fun x y H Q => ∃ p xs i v, x = .ref p ∧ y = .int i ∧ SqT K H p xs ∧ atI xs i = some v ∧ Q v H
noncomputable def rIxS : R2 := fun x y H Q => ∃ z i c, x = .str z ∧ y = .int i ∧ z.length ≤ sizeLine ∧ atI z.cps.toList i = some c ∧ Q (.str ⟨#[c]⟩) H
theorem ix_list : IxR X (rIxL X.K) := by
  intro value slice pins s σ H x y v u Q I rx ry h hs
  obtain ⟨p, xs, i, z, rfl, rfl, hq, he, q⟩ := h
  cases rx
  obtain ⟨t, rfl⟩ := ry
  obtain ⟨its, r, pl, hz⟩ := I.list hq
  obtain ⟨j, h1, h2, h3, h4, h5⟩ := atI_get he
  obtain ⟨w, ew, rw'⟩ := r.get h2
  have hl := r.length
  have hn := line63
  have fin : EP X pins σ Q w s := ⟨z, H, I, rw', q⟩
  by_cases h0 : 0 ≤ i
  · have hj : i.toNat = j := by
      rw [seqIndex_of h0 h5] at h1
      exact Option.some.inj h1
    exact item_listR pl.isList h0 (by omega) (by rw [hj]; simpa using ew) fin hs
  · have hj : (i + (its.toArray.size : Int)).toNat = j := by
      rw [seqIndex_neg (by omega) h4] at h1
      rw [List.size_toArray, ← hl]
      exact Option.some.inj h1
    exact subscriptTail_builtinR (x := w) pl.isList.typeIs slot_list_getitem.lookup
      (wpAny_getItem_list_neg (Q := fun r s' => r = w ∧ EP X pins σ Q r s') pl.isList (by omega) (by rw [List.size_toArray] <;> omega) (by omega) (by rw [hj]; simpa using ew) ⟨rfl, fin⟩) hs
theorem ix_tup : IxR X (rIxT X.K) := by
  intro value slice pins s σ H x y v u Q I rx ry h hs
  obtain ⟨p, xs, i, z, rfl, rfl, hq, he, q⟩ := h
  cases rx
  obtain ⟨t, rfl⟩ := ry
  obtain ⟨its, r, pl, hz⟩ := I.tuple hq
  obtain ⟨j, h1, h2, h3, h4, h5⟩ := atI_get he
  obtain ⟨w, ew, rw'⟩ := r.get h2
  have hl := r.length
  have hn := line63
  have fin : EP X pins σ Q w s := ⟨z, H, I, rw', q⟩
  exact subscriptTail_builtinR (x := w) pl.typeIs slot_tuple_getitem.lookup
    (getItem_tuple (j := j) (Q := fun r s' => r = w ∧ EP X pins σ Q r s') pl (by omega) (by omega) (by rw [List.size_toArray, ← hl]; exact h1) (by simpa using ew) ⟨rfl, fin⟩) hs
theorem ix_str : IxR X rIxS := by
  intro value slice pins s σ H x y v u Q I rx ry h hs
  obtain ⟨z, i, c, rfl, rfl, hz, he, q⟩ := h
  obtain ⟨t, rfl⟩ := rx
  obtain ⟨t', rfl⟩ := ry
  obtain ⟨j, h1, h2, h3, h4, h5⟩ := atI_get he
  have hl : z.cps.toList.length = z.length := by simp [Str.length]
  rw [hl] at h1 h4 h5
  have hn := line63
  exact tail_any (typeIs_str s z t) slot_str_getitem.lookup (getItem_str (c := c) (by
    have e1 : decide (i < -(2 ^ 63 : Int)) = false := decide_eq_false (by omega)
    have e2 : decide (i ≥ 2 ^ 63) = false := decide_eq_false (by omega)
    rw [e1, e2, Bool.or_false]) (by rw [h1]; simpa using h2) ⟨.str ⟨#[c]⟩, H, I.tok _, ⟨_, rfl⟩, q⟩) hs
noncomputable def rIx (K : PySem.W.Frag) : R2 := fun x y H Q => rIxL K x y H Q ∨ rIxT K x y H Q ∨ rIxS x y H Q
theorem ix_seq : IxR X (rIx X.K) := ix_list.or (ix_tup.or ix_str)
theorem Inv.lst {pins : List (Addr × Obj)} {σ : St} {H : Hp} {s : Shared} {p : Addr} {xs : List V} (I : Inv X pins σ H s) (h : H p = some (.lst xs)) :
    ∃ (its : List Value) (n : Nat), Vals xs its ∧ s.heap.get? p = some { cls := .type "list", data := .seq its.toArray n } ∧ xs.length ≤ sizeLine := by
  obtain ⟨z, its, n, r, e⟩ := I.hok p _ h
  exact ⟨its, n, r, e, z⟩
theorem slice_bounds (lo hi : Option Int) (n : Nat) : (sliceBounds lo hi none n).1 = ((HT.sIx n 0 lo : Nat) : Int) ∧ (sliceBounds lo hi none n).2.1 = ((HT.sIx n n hi : Nat) : Int) ∧ (sliceBounds lo hi none n).2.2 = 1 := by
  refine ⟨?_, ?_, rfl⟩
  · cases lo with
    | none => simp [sliceBounds, HT.sIx]
    | some i =>
      simp only [sliceBounds, HT.sIx, Option.getD_none, show (1 : Int) > 0 by decide, if_true]
      by_cases h : i < 0
      · simp only [h, if_true] <;> omega
      · simp only [h, if_false] <;> omega
  · cases hi with
    | none => simp [sliceBounds, HT.sIx]
    | some i =>
      simp only [sliceBounds, HT.sIx, Option.getD_none, show (1 : Int) > 0 by decide, if_true]
      by_cases h : i < 0
      · simp only [h, if_true] <;> omega
      · simp only [h, if_false] <;> omega
theorem slicePick_cut (its : List Value) (lo hi : Option Int) : slicePick its.toArray lo hi none = ((its.drop (HT.sIx its.length 0 lo)).take (HT.sIx its.length its.length hi - HT.sIx its.length 0 lo)).toArray := by
  obtain ⟨h1, h2, h3⟩ := slice_bounds lo hi its.toArray.size
  unfold slicePick
  rw [h1, h2, h3]
  simp only [sliceRange_one, pick_run, List.size_toArray] <;> rfl
noncomputable def rSlL (K : PySem.W.Frag) : V → Option Int → Option Int → Hp → VK → Prop := fun x lo hi H Q => ∃ a xs, x = .ref a ∧ SqL K H a xs ∧ ∀ p, H p = none → Q (.ref p) (upd H p (.lst (cutV xs lo hi)))
theorem sl_list : SlR X (rSlL X.K) := by
  intro pins s σ H x v vl vu lo hi sl Q I rx hs pl pu h
  obtain ⟨a, xs, rfl, hx, q⟩ := h
  cases rx
  obtain ⟨its, r, ht, hz⟩ := I.list hx
  have hlen := r.length
  refine ⟨"list", _, slot_list_getitem.lookup, ht.isList.typeIs, ?_⟩
  refine wpAny_getItem_list_slice ht.isList hs pl pu .none (by simp) ?_ (by rw [List.size_toArray] <;> omega)
  rw [slicePick_cut, ← hlen]
  refine ⟨.ref s.heap.objs.size, _, I.laid (t' := s.toks) (o := .lst (cutV xs lo hi)) (fun b ob q => Heap.get?_push_of_some _ q) (Nat.le_refl _) ?_, rfl, q _ (I.hok.fresh (Nat.le_refl _))⟩
  exact ⟨Nat.le_trans (cutV_length xs lo hi) hz, _, 0, (r.drop (HT.sIx xs.length 0 lo)).take (HT.sIx xs.length xs.length hi - HT.sIx xs.length 0 lo), Heap.get?_push_size _ rfl⟩
noncomputable def flatV : V → Bool
  | .non => true
  | .bl _ => true
  | .int _ => true
  | .str _ => true
  | _ => false
noncomputable def eqV : V → V → Bool
  | .non, .non => true
  | .bl a, .bl b => a == b
  | .bl a, .int b => (if a then 1 else 0) == b
  | .int a, .bl b => a == (if b then 1 else 0)
  | .int a, .int b => a == b
  | .str a, .str b => a == b
  | _, _ => false
theorem eqAt_V {A : Around} {s : Shared} {y x : V} {u v : Value} (ry : RelV y u) (rx : RelV x v) (fy : flatV y = true) (fx : flatV x = true) : SeqAt.EqAt A s u v (eqV y x) := by
  cases y with
  | non =>
    cases ry
    cases x with
    | non => cases rx; exact SeqAt.EqAt.same _
    | bl b => cases rx; exact SeqAt.EqAt.none_bool b
    | int b => obtain ⟨t, rfl⟩ := rx; exact SeqAt.EqAt.none_int b t
    | str b => obtain ⟨t, rfl⟩ := rx; exact SeqAt.EqAt.none_str b t
    | _ => exact absurd (show false = true from fx) Bool.false_ne_true
  | bl a =>
    cases ry
    cases x with
    | non => cases rx; exact SeqAt.EqAt.bool_none a
    | bl b => cases rx; exact SeqAt.EqAt.bool_bool a b
    | int b => obtain ⟨t, rfl⟩ := rx; exact SeqAt.EqAt.bool_int a b t
    | str b => obtain ⟨t, rfl⟩ := rx; exact SeqAt.EqAt.bool_str a b t
    | _ => exact absurd (show false = true from fx) Bool.false_ne_true
  | int a =>
    obtain ⟨t', rfl⟩ := ry
    cases x with
    | non => cases rx; exact SeqAt.EqAt.int_none a t'
    | bl b => cases rx; exact SeqAt.EqAt.int_bool a t' b
    | int b => obtain ⟨t, rfl⟩ := rx; exact SeqAt.EqAt.int_int a t' b t
    | str b => obtain ⟨t, rfl⟩ := rx; exact SeqAt.EqAt.int_str a t' b t
    | _ => exact absurd (show false = true from fx) Bool.false_ne_true
  | str a =>
    obtain ⟨t', rfl⟩ := ry
    cases x with
    | non => cases rx; exact SeqAt.EqAt.str_none a t'
    | bl b => cases rx; exact SeqAt.EqAt.str_bool a t' b
    | int b => obtain ⟨t, rfl⟩ := rx; exact SeqAt.EqAt.str_int a t' b t
    | str b => obtain ⟨t, rfl⟩ := rx; exact SeqAt.EqAt.str_str a t' b t
    | _ => exact absurd (show false = true from fx) Bool.false_ne_true
  | _ => exact absurd (show false = true from fy) Bool.false_ne_true
noncomputable def eqU (x : V) (u : Value) : Bool := match u with
  | .none => eqV .non x
  | .bool b => eqV (.bl b) x
  | .int i _ => eqV (.int i) x
  | .str z _ => eqV (.str z) x
  | _ => false
theorem eqU_of {x y : V} {u : Value} (r : RelV y u) (f : flatV y = true) : eqU x u = eqV y x := by
  cases y with
  | non => cases r; rfl
  | bl b => cases r; rfl
  | int i => obtain ⟨t, rfl⟩ := r; rfl
  | str z => obtain ⟨t, rfl⟩ := r; rfl
  | _ => exact absurd (show false = true from f) Bool.false_ne_true
theorem any_eqU {x : V} : ∀ {xs : List V} {us : List Value}, Vals xs us → xs.all flatV = true → us.any (eqU x) = xs.any fun y => eqV y x
  | _, _, .nil, _ => rfl
  | y :: xs, u :: us, .cons r t, f => by
    rw [List.all_cons, Bool.and_eq_true] at f
    rw [List.any_cons, List.any_cons, eqU_of r f.1, any_eqU t f.2]
theorem mem_eqAt {A : Around} {s : Shared} {x : V} {v : Value} (rx : RelV x v) (fx : flatV x = true) : ∀ {xs : List V} {us : List Value}, Vals xs us → xs.all flatV = true → ∀ u ∈ us, SeqAt.EqAt A s u v (eqU x u)
  | _, _, .nil, _ => fun u hu => by cases hu
  | y :: xs, u :: us, .cons r t, f => fun u' hu => by
    rw [List.all_cons, Bool.and_eq_true] at f
    rcases List.mem_cons.mp hu with rfl | hu
    · rw [eqU_of r f.1]; exact eqAt_V r rx f.1 fx
    · exact mem_eqAt rx fx t f.2 u' hu
noncomputable def inV (x : V) (xs : List V) : Bool := xs.any fun y => eqV y x
noncomputable def rIn (K : PySem.W.Frag) (neg : Bool) : R2 := fun x y H Q => ∃ p xs, y = .ref p ∧ (SqL K H p xs ∨ SqT K H p xs) ∧ flatV x = true ∧ xs.all flatV = true ∧ Q (.bl (if neg then !inV x xs else inV x xs)) H
theorem op_in_seq : OpR X (compareOp .In) (rIn X.K false) := by
  intro pins s σ H x y v u Q I rx ry h
  obtain ⟨p, xs, rfl, hq, fx, fs, q⟩ := h
  cases ry
  rcases hq with hq | hq
  · obtain ⟨its, r, pl, hz⟩ := I.list hq
    refine SeqAt.in_listAt (eqU x) pl.isList (fun w hw => mem_eqAt rx fx r fs w (by simpa using hw)) ⟨.bl _, H, I, rfl, ?_⟩
    rw [show its.toArray.any (eqU x) = its.any (eqU x) by simp, any_eqU r fs]
    exact q
  · obtain ⟨its, r, pl, hz⟩ := I.tuple hq
    refine SeqAt.in_tupleAt (eqU x) pl (fun w hw => mem_eqAt rx fx r fs w (by simpa using hw)) ⟨.bl _, H, I, rfl, ?_⟩
    rw [show its.toArray.any (eqU x) = its.any (eqU x) by simp, any_eqU r fs]
    exact q
theorem CallR.or {f : Value} {r r' : List V → Hp → VK → Prop} (h : CallR X f r) (h' : CallR X f r') : CallR X f (fun xs H Q => r xs H Q ∨ r' xs H Q) := by
  intro pins s σ H xs us Q I rs q
  rcases q with q | q
  · exact h pins s σ H xs us Q I rs q
  · exact h' pins s σ H xs us Q I rs q
theorem call_tuple_of : CallR X (.type "tuple") (fun xs H Q => ∃ p ys, xs = [.ref p] ∧ ((SqL X.K H p ys ∧ ∀ l, H l = none → Q (.ref l) (upd H l (.tup ys))) ∨ (SqT X.K H p ys ∧ Q (.ref p) H))) := by
  intro pins s σ H xs us Q I r h
  obtain ⟨p, ys, rfl, h⟩ := h
  obtain ⟨u, rfl, rx⟩ := vals1 r
  cases rx
  rcases h with ⟨hq, q⟩ | ⟨hq, q⟩
  · obtain ⟨its, r', pl, hz⟩ := I.list hq
    have hlen := r'.length
    refine call_tuple_list pl.isList (fun h' kp => ?_) (by simp only [List.size_toArray] <;> omega)
    have I1 : Inv X pins σ H { s with heap := h' } := I.kept (t' := s.toks) kp
    have I2 : Inv X pins σ (upd H h'.objs.size (.tup ys)) { s with heap := h'.push { cls := .type "tuple", data := .seq its.toArray } } :=
      I1.laid (t' := s.toks) (fun b o e => Heap.get?_push_of_some _ e) (Nat.le_refl _) (show ObjOk X.prog X.w _ _ _ (.tup ys) from ⟨hz, its, r', IsTup.new _ _⟩)
    exact ⟨.ref h'.objs.size, _, I2, rfl, q _ (I1.hok.fresh (Nat.le_refl _))⟩
  · obtain ⟨its, r', pl, hz⟩ := I.tuple hq
    exact call_tuple_same pl ⟨.ref p, H, I, rfl, q⟩
noncomputable def tyV (K : PySem.W.Frag) (T : String) (x : V) (H : Hp) : Prop := match x with
  | .str _ => T = "str"
  | .int _ => T = "int"
  | .ref p => (T = "list" ∧ ∃ xs, SqL K H p xs) ∨ (T = "tuple" ∧ ∃ o, K.lookup p = some o ∧ o.cls = .type "tuple" ∧ o.dict = none) ∨
      (T = "dict" ∧ ((∃ kvs, H p = some (.dK kvs)) ∨ ∃ kvs, H p = some (.dT kvs))) ∨ (T = "set" ∧ ∃ S n, H p = some (.set S n))
  | _ => False
theorem tyV_is {pins : List (Addr × Obj)} {σ : St} {H : Hp} {s : Shared} {T : String} {x : V} {v : Value} (I : Inv X pins σ H s) (r : RelV x v) (ty : tyV X.K T x H) :
    s.TypeIs v T ∧ ∀ a, v = .ref a → ∃ ob, s.heap.get? a = some ob ∧ ob.dict = none := by
  cases x with
  | str z =>
    obtain ⟨t, rfl⟩ := r
    cases (show T = "str" from ty)
    exact ⟨typeIs_str s z t, fun _ e => nomatch e⟩
  | int i =>
    obtain ⟨t, rfl⟩ := r
    cases (show T = "int" from ty)
    exact ⟨typeIs_int s i t, fun _ e => nomatch e⟩
  | ref p =>
    cases r
    rcases ty with ⟨rfl, xs, hq⟩ | ⟨rfl, o, hk, hc, hd⟩ | ⟨rfl, hk⟩ | ⟨rfl, S, n, hk⟩
    · obtain ⟨its, _, pl, _⟩ := I.list hq
      refine ⟨pl.isList.typeIs, fun a e => ?_⟩
      cases e
      obtain ⟨o, n, e, c, hd, _⟩ := pl
      exact ⟨o, e, hd⟩
    · refine ⟨⟨o, I.kIn p o hk, hc⟩, fun a e => ?_⟩
      cases e
      exact ⟨o, I.kIn _ o hk, hd⟩
    · have z : ∃ o, s.heap.get? p = some o ∧ o.ExactDict := by
        rcases hk with ⟨kvs, hk⟩ | ⟨kvs, hk⟩
        · obtain ⟨_, _, _, _, o, _, _, e, ex, _⟩ := I.hok p _ hk
          exact ⟨o, e, ex⟩
        · obtain ⟨_, _, _, _, o, _, _, e, ex, _⟩ := I.hok p _ hk
          exact ⟨o, e, ex⟩
      obtain ⟨o, e, ex⟩ := z
      refine ⟨⟨o, e, ex.1⟩, fun a e2 => ?_⟩
      cases e2
      exact ⟨o, e, ex.2.1⟩
    · obtain ⟨o, _, _, _, e, ex, _⟩ := I.hok p _ hk
      refine ⟨⟨o, e, ex.1⟩, fun a e2 => ?_⟩
      cases e2
      exact ⟨o, e, ex.2.1⟩
  | _ => exact False.elim ty
noncomputable def tBM0 (K : PySem.W.Frag) (T : String) (r : V → List V → Hp → VK → Prop) (to : TE) : TE := fun σ H Q => to σ H fun x H1 => tyV K T x H1 ∧ r x [] H1 Q
noncomputable def tBM (K : PySem.W.Frag) (T : String) (r : V → List V → Hp → VK → Prop) (to : TE) (t : TA) : TE := fun σ H Q => to σ H fun x H1 => tyV K T x H1 ∧ t σ H1 fun xs H2 => r x xs H2 Q
variable {o e : Expr} {es : List Expr} {to : TE} {t : TA} {name : Str} {apos cpos : Pos} {T id : String} {r : V → List V → Hp → VK → Prop}
theorem pe_bm0 (pa : PlainAttrs T) (slot : Slot T name id) (hty : typeOf (.builtin id) = pure (.type "method_descriptor")) (hm : MtR X id r) (ho : PE X o to)
    (hbase : attributeBase o name X.env (eval o X.env) = eval o X.env := by rfl) (hline : (apos.endLine == cpos.line) = true := by rfl) : PE X (.Call (.Attribute o name apos) [] [] cpos) (tBM0 X.K T r to) := by
  intro pins s σ H Q I h
  refine wpAny_Call_method0_late hbase hline (thn (ho pins s σ H _ I h) fun v s1 ⟨x, H1, I1, r1, ty, q1⟩ => ?_)
  obtain ⟨h1, h2⟩ := tyV_is I1 r1 ty
  exact ⟨T, id, pa, slot, hty, h1, h2, Calls.callWith_builtin rfl (PySem.evalArgs_none (hm pins s1 σ H1 x [] v [] Q I1 r1 .nil q1))⟩
theorem pe_bm (pa : PlainAttrs T) (slot : Slot T name id) (hty : typeOf (.builtin id) = pure (.type "method_descriptor")) (hm : MtR X id r) (ho : PE X o to) (ha : PA X (e :: es) t)
    (hbase : attributeBase o name X.env (eval o X.env) = eval o X.env := by rfl)
    (hfew : ((backTo cpos (starEach (e :: es) X.env)).all (fun x => !x.1) && (backToKw cpos (keywordEach [] X.env)).all (fun x => x.1.isSome)
      && decide ((e :: es).length + ([] : List Keyword).length + (if ([] : List Keyword).isEmpty then 0 else 1) < 30)) = true := by rfl)
    (hline : (apos.endLine == cpos.line) = true := by rfl) (hs : starEach (e :: es) X.env = (false, eval e X.env) :: starEach es X.env := by rfl) (hplain : (backTo cpos (starEach es X.env)).any (·.1) = false := by rfl) :
    PE X (.Call (.Attribute o name apos) (e :: es) [] cpos) (tBM X.K T r to t) := by
  intro pins s σ H Q I h
  refine wpAny_Call_method_late hbase hfew hline rfl (thn (ho pins s σ H _ I h) fun v s1 ⟨x, H1, I1, r1, ty, q1⟩ => ?_)
  obtain ⟨h1, h2⟩ := tyV_is I1 r1 ty
  refine ⟨T, id, pa, slot, hty, h1, h2, ?_⟩
  have hA := ha cpos pins s1 σ H1 _ I1 q1
  rw [hs] at hA ⊢
  refine Calls.callWith_builtin (by show (false || (backTo cpos (starEach es X.env)).any (·.1)) = false; rw [hplain] <;> rfl) (Calls.evalArgs_plain ?_)
  exact thn hA fun us s2 ⟨vs, H2, I2, r2, q2⟩ => hm pins s2 σ H2 x vs v us Q I2 r1 r2 q2
end
end L2
namespace L2
open PySem PySem.Spec PyProof.Rows
noncomputable def MtM (X : Cx) (id : String) (r : V → List V → Hp → VK → Prop) : Prop :=
  ∀ (pins : List (Addr × Obj)) (s : Shared) (σ : St) (H : Hp) (x : V) (xs : List V) (v : Value) (us : List Value) (Q : VK), Inv X pins σ H s → RelV x v → Vals xs us → r x xs H Q →
    wpAny (model X.prog X.w) X.A (call (.builtin id) (v :: us)) (EP X pins σ Q) X.xe s
theorem Vals.one : ∀ {x : V} {us : List Value}, Vals [x] us → ∃ u, us = [u] ∧ RelV x u
  | _, _, .cons r .nil => ⟨_, rfl, r⟩
theorem Vals.zero : ∀ {us : List Value}, Vals [] us → us = []
  | _, .nil => rfl
theorem Vals.reverse {xs : List V} {us : List Value} (h : Vals xs us) : Vals xs.reverse us.reverse := by
  induction h with
  | nil => exact .nil
  | cons r t ih => rw [List.reverse_cons, List.reverse_cons]; exact Vals.append ih (.cons r .nil)
theorem Vals.rep {xs : List V} {us : List Value} (h : Vals xs us) : ∀ k : Nat, Vals (List.replicate k xs).flatten (List.replicate k us).flatten
  | 0 => .nil
  | k + 1 => by
    rw [List.replicate_succ, List.replicate_succ, List.flatten_cons, List.flatten_cons]
    exact Vals.append h (Vals.rep h k)
theorem foldl_rep (its : List Value) : ∀ (k : Nat) (acc : List Value),
    List.foldl (fun x1 x2 => x1 ++ x2) acc.toArray (List.replicate k its.toArray) = (acc ++ (List.replicate k its).flatten).toArray
  | 0, acc => by simp
  | k + 1, acc => by
    have e : acc.toArray ++ its.toArray = (acc ++ its).toArray := by simp
    have e2 : (acc ++ its) ++ (List.replicate k its).flatten = acc ++ (List.replicate (k + 1) its).flatten := by
      rw [List.replicate_succ, List.flatten_cons, List.append_assoc]
    rw [← e2, ← foldl_rep its k (acc ++ its), ← e, List.replicate_succ, List.foldl_cons]
section
variable {X : Cx} {pins : List (Addr × Obj)} {σ : St} {H : Hp} {s : Shared} {l b : Addr} {xs ys zs : List V}
theorem Inv.lset {its its' : List Value} {n : Nat} {f : Array Value → Array Value} {t' : Nat} (I : Inv X pins σ H s) (hH : H l = some (.lst xs))
    (e : s.heap.get? l = some { cls := .type "list", data := .seq its.toArray n }) (hf : f its.toArray = its'.toArray) (hv : Vals ys its') (hz : ys.length ≤ sizeLine) :
    Inv X pins σ (upd H l (.lst ys)) { s with heap := s.heap.update l (Obj.mapSeq f), toks := t' } := by
  have q := PySem.IsL.update e f
  rw [hf] at q
  refine I.write (x := l) (e := l) (by rw [hH]; exact trivial) (.inl rfl) (fun b' u hb hu => (Heap.get?_update_other s.heap (Obj.mapSeq f) (Ne.symm hb)).trans hu) ⟨_, q⟩ ?_
  exact ⟨hz, its', _, hv, q⟩
theorem Inv.lnew {its : List Value} {t' : Nat} (I : Inv X pins σ H s) (hv : Vals ys its) (hz : ys.length ≤ sizeLine) :
    Inv X pins σ (upd H s.heap.objs.size (.lst ys)) { s with heap := s.heap.push { cls := .type "list", data := .seq its.toArray }, toks := t' } :=
  I.laid (fun _ _ q => Heap.get?_push_of_some _ q) (Nat.le_refl _) ⟨hz, its, 0, hv, Heap.get?_push_size _ rfl⟩
theorem Inv.fresh (I : Inv X pins σ H s) : H s.heap.objs.size = none := I.hok.fresh (Nat.le_refl _)
theorem Inv.lstM (I : Inv X pins σ H s) (hH : H l = some (.lst xs)) : xs.length ≤ sizeLine ∧ ∃ (its : List Value) (n : Nat), Vals xs its ∧ xs.length = its.length ∧ s.heap.get? l = some { cls := .type "list", data := .seq its.toArray n } := by
  obtain ⟨z, its, n, r, e⟩ := I.hok l _ hH
  exact ⟨z, its, n, r, r.length, e⟩
theorem notLongL {n : Nat} (h : n ≤ sizeLine) : Builtin.List.listTooLong n = false := by
  unfold Builtin.List.listTooLong
  exact decide_eq_false (by omega)
end
section
variable {X : Cx}
noncomputable def rAppend : V → List V → Hp → VK → Prop := fun x vs H Q => ∃ l xs y, x = .ref l ∧ vs = [y] ∧ H l = some (.lst xs) ∧ xs.length < sizeLine ∧ Q .non (upd H l (.lst (xs ++ [y])))
theorem mt_append : MtM X "list.append" rAppend := by
  intro pins s σ H x vs v us Q I rx rv h
  obtain ⟨l, xs, y, rfl, rfl, hH, hz, q⟩ := h
  cases rx
  obtain ⟨u, rfl, ru⟩ := rv.one
  obtain ⟨z, its, n, r, hl, e⟩ := I.lstM hH
  refine call_meets F.slot_list_append ⟨_, e, rfl⟩ F.entry_list_append (F.args_list_append_2 _ _) (PySem.list_append l its.toArray n u (by rw [List.size_toArray]; omega)) ⟨e, ?_⟩
  refine ⟨.non, _, I.lset (its' := its ++ [u]) hH e (by simp) (r.append (.cons ru .nil)) ?_, rfl, q⟩
  rw [List.length_append, List.length_singleton]
  omega
noncomputable def rCat : R2 := fun x y H Q => ∃ l b xs zs, x = .ref l ∧ y = .ref b ∧ H l = some (.lst xs) ∧ H b = some (.lst zs) ∧ xs.length + zs.length ≤ sizeLine ∧ ∀ p, H p = none → Q (.ref p) (upd H p (.lst (xs ++ zs)))
theorem op_cat : OpR X (binaryOp .Add) rCat := by
  intro pins s σ H x y v u Q I rx ry h
  obtain ⟨l, b, xs, zs, rfl, rfl, hH, hB, hz, q⟩ := h
  cases rx
  cases ry
  obtain ⟨z, its, n, r, hl, e⟩ := I.lstM hH
  obtain ⟨z2, its2, n2, r2, hl2, e2⟩ := I.lstM hB
  refine PySem.P.add_list e e2 ?_ (by rw [List.size_toArray, List.size_toArray]; omega)
  have ea : its.toArray ++ its2.toArray = (its ++ its2).toArray := by simp
  rw [ea]
  exact ⟨.ref _, _, I.lnew (t' := s.toks) (r.append r2) (by rw [List.length_append]; omega), rfl, q _ I.fresh⟩
noncomputable def rRep : R2 := fun x y H Q => ∃ l k xs, x = .ref l ∧ y = .int k ∧ H l = some (.lst xs) ∧ -(2 ^ 63) ≤ k ∧ k < 2 ^ 63 ∧ xs.length * k.toNat ≤ sizeLine ∧
  ∀ p, H p = none → Q (.ref p) (upd H p (.lst (List.replicate k.toNat xs).flatten))
theorem len_rep {α : Type} (xs : List α) (k : Nat) : (List.replicate k xs).flatten.length = k * xs.length := by
  induction k with
  | zero => simp
  | succ k ih => rw [List.replicate_succ, List.flatten_cons, List.length_append, ih, Nat.succ_mul, Nat.add_comm]
theorem op_rep : OpR X (binaryOp .Mult) rRep := by
  intro pins s σ H x y v u Q I rx ry h
  obtain ⟨l, k, xs, rfl, rfl, hH, h1, h2, hz, q⟩ := h
  cases rx
  obtain ⟨t, rfl⟩ := ry
  obtain ⟨z, its, n, r, hl, e⟩ := I.lstM hH
  have hlen : its.toArray.size * k.toNat ≤ sizeLine := by rw [List.size_toArray, ← hl]; exact hz
  have hcap : ¬ its.toArray.size * k.toNat > (2 ^ 63 - 1) / 8 := by
    have : (sizeLine : Nat) ≤ (2 ^ 63 - 1) / 8 := by decide
    omega
  have hfit : ¬ (!Builtin.List.listFitsIndex k) = true := by
    rw [fitsIndex_both h1 h2]
    exact Bool.false_ne_true
  have hlong : ¬ Builtin.List.listTooLong (its.toArray.size * k.toNat) = true := by
    rw [notLongL hlen]
    exact Bool.false_ne_true
  have hnew : List.foldl (fun x1 x2 => x1 ++ x2) #[] (List.replicate (if its.toArray.isEmpty = true then 0 else k.toNat) its.toArray) = (List.replicate k.toNat its).flatten.toArray := by
    have f0 : ∀ m : Nat, List.foldl (fun x1 x2 => x1 ++ x2) #[] (List.replicate m its.toArray) = (List.replicate m its).flatten.toArray := fun m => by
      have := foldl_rep its m []
      rw [List.nil_append] at this
      exact this
    rw [f0]
    cases its with
    | nil => simp
    | cons a r' => rw [if_neg (by simp)]
  refine wpAny_binaryOp_repeat_ref (T := "list") (U := "int") (by decide) ⟨_, e, rfl⟩ (fun s' => typeIs_int s' k t) noFill_list_mul F.fills_int_mul F.slot_int_rmul repeat_list F.slot_int_index.lookup
    (call_meets F.slot_int_rmul (typeIs_int s k t) F.entry_int_rmul (F.args_int_rmul_2 _ _) (int___rmul___int_list k t l its.toArray n)
      ⟨e, rfl, ⟨_, e, rfl⟩, call_meets F.slot_list_mul ⟨_, e, rfl⟩ F.entry_list_mul (F.args_list_mul_2 _ _) (AutoListH.list___mul___list_int_3 l its.toArray n k t hfit hcap hlong) ⟨e, ?_⟩⟩)
  rw [hnew]
  exact ⟨.ref _, _, I.lnew (t' := s.toks) (r.rep k.toNat) (by rw [len_rep, Nat.mul_comm]; exact hz), rfl, q _ I.fresh⟩
end
section
variable {prog : Program} {w : World} {A : Around} {E : Value → Shared → Prop} {s : Shared}
theorem bounds_run {a c n : Nat} (hac : a ≤ c) (hc : c ≤ n) : sliceBounds (some (a : Int)) (some (c : Int)) none n = ((a : Int), (c : Int), 1) := by
  simp only [sliceBounds, Option.getD_none]
  have h1 : ¬ ((a : Int) < 0) := by omega
  have h2 : ¬ ((c : Int) < 0) := by omega
  simp only [h1, h2, if_false, show (1 : Int) > 0 by decide, if_true]
  congr 1
  · omega
  · congr 1; omega
set_option maxRecDepth 100000 in
theorem setItem_slice {l b sl : Addr} {items new : Array Value} {n n2 : Nat} {vl vu : Value} {a c : Nat} {Q : Unit → Shared → Prop}
    (e : s.heap.get? l = some { cls := .type "list", data := .seq items n }) (e2 : s.heap.get? b = some { cls := .type "list", data := .seq new n2 }) (hne : l ≠ b)
    (hs : s.heap.IsSliceOf sl vl vu .none) (pl : IsPart vl (some (a : Int))) (pu : IsPart vu (some (c : Int))) (hac : a ≤ c) (hc : c ≤ items.size)
    (hsz : items.size + new.size ≤ sizeLine) (h : Q () { s with heap := s.heap.update l (Obj.mapSeq fun xs => xs.extract 0 a ++ new ++ xs.extract c xs.size) }) :
    wpAny (model prog w) A (setItem (.ref l) (.ref sl) (.ref b)) Q E s := by
  have hl : s.heap.IsList l items := PySem.IsL.isList e
  have hb : s.heap.IsList b new := PySem.IsL.isList e2
  obtain ⟨os, hos, hcs, hds⟩ := id hs
  have hTs : s.TypeIs (.ref sl) "slice" := ⟨os, hos, hcs⟩
  have hstep : ¬ ((rawPart none == rawInt 0) = true) := Bool.false_ne_true
  have hsame : Builtin.List.listSameRef (.ref l) (.ref b) = false := by
    unfold Builtin.List.listSameRef
    exact beq_eq_false_iff_ne.mpr hne
  have hmax : (max (a : Int) (c : Int)).toNat = c := by omega
  have hz' : ((fun xs : Array Value => xs.extract 0 a ++ new ++ xs.extract c xs.size) items).size ≤ sizeLine + 1 := by
    simp only [Array.size_append, Array.size_extract]
    omega
  unfold setItem
  try with_reducible refine wpAny_holding ?_
  first | refine wpAny_bind (wpAny_pure ?_) | skip
  refine wpAny_bind (wpAny_sequenceKey hl.typeIs (by decide) ?_)
  refine wpAny_bind (wpAny_callSpecial?_slot (name := Str.ofString "__setitem__") hl.typeIs slot_list_setitem
    (wpAny_call_entry slot_list_setitem hl.typeIs entry_list_setitem ?_ (args_list_setitem _ _ _)))
  show wpAny _ _ (Builtin.List.listSubscript? (.ref sl) >>= _) _ _ s
  refine wpAny_bind ?_
  unfold Builtin.List.listSubscript?
  refine wpAny_bind (wpAny_specialOf hTs slice_no_index ?_)
  simp only [Option.isNone_none, if_true]
  refine wpAny_pure ?_
  show wpAny _ _ (typeOf (.ref sl) >>= _) _ _ s
  refine wpAny_bind (wpAny_typeOf hTs ?_)
  first
    | rw [if_neg (by decide)]
    | refine PySem.W.KFB.if_not (by decide) ?_
  rw [listSliceParts_eq]
  refine wpAny_bind (wpAny_bind (wpAny_field hos hds (x := .none) rfl (wpAny_bind (wpAny_listPart .none ?_))))
  rw [if_neg hstep]
  refine wpAny_bind (wpAny_field hos hds (x := vl) rfl (wpAny_bind (wpAny_listPart pl ?_)))
  refine wpAny_bind (wpAny_field hos hds (x := vu) rfl (wpAny_bind (wpAny_listPart pu (wpAny_pure ?_))))
  first
    | simp only [hsame, Bool.false_eq_true, if_false]
    | refine PySem.W.KFB.if_not hsame ?_
    | (dsimp only
       rw [if_neg (by rw [hsame]; exact Bool.false_ne_true)])
  refine wpAny_bind (m := Builtin.List.listAllItems (.ref b) "must assign iterable to extended slice") ?_
  unfold Builtin.List.listAllItems
  refine wpAny_bind (wpAny_typeOf hb.typeIs ?_)
  first
    | refine PySem.W.KFB.if_so (by decide) ?_
    | rw [if_pos (by decide)]
    | simp only [beq_self_eq_true, Bool.true_or, if_true]
  unfold Builtin.List.listItems
  refine wpAny_bind (wpAny_seqItems e2 rfl (wpAny_pure ?_))
  refine wpAny_bind (wpAny_bind (wpAny_seqItems e rfl (wpAny_pure ?_)))
  refine wpAny_bind (wpAny_of_eq ((sliceIndices_raw (some (a : Int)) (some (c : Int)) none items.size (by simp)).trans (congrArg (pure : Int × Int × Int → Sem (Int × Int × Int)) (bounds_run hac hc))) ?_)
  show wpAny _ _ (if ((1 : Int) == 1) = true then _ else _) _ _ s
  rw [if_pos (by decide)]
  refine wpAny_bind (wpAny_rule ?_)
  first
    | simp only [notLongL hsz, Bool.false_eq_true, if_false]
    | refine PySem.W.KFB.if_not (notLongL hsz) ?_
  first | refine wpAny_bind (wpAny_pure ?_) | skip
  show wpAny _ _ (updateSeq l (fun xs => xs.extract 0 ((a : Int)).toNat ++ new ++ xs.extract (max (a : Int) (c : Int)).toNat xs.size) >>= _) _ _ s
  rw [hmax, Int.toNat_natCast]
  refine wpAny_bind (wpAny_updateSeq (hz := Nat.le_trans (Nat.le_add_right _ _) hsz) (_hz' := hz') e rfl ?_)
  refine wpAny_bind (wpAny_letGo ?_)
  first
    | exact wpAny_bind (wpAny_pure (wpAny_pure ⟨.none, rfl, wpAny_pure h⟩))
    | exact wpAny_pure ⟨.none, rfl, wpAny_pure h⟩
end
section
variable {X : Cx}
end
end L2
namespace Att
open PySem PySem.W PySem.Calls PyProof.Rows
theorem ints_of_wellAll {P : Params} {h : Heap} : ∀ (ns : List Int) (vs : List Value), WellAll P h vs (ns.map WData.int) → IntsAre vs ns := by
  intro ns
  induction ns with
  | nil =>
    intro vs w
    rw [List.map_nil] at w
    cases w
    exact .nil
  | cons n ns ih =>
    intro vs w
    rw [List.map_cons] at w
    cases w with
    | cons a b =>
      cases a
      exact .cons _ _ (ih _ b)
theorem script_of {l : OpenLaw} {n : Nat} (hn : l.most = some n) {P : Params} {h : Heap} {args : List WData} {vals : List Value}
    (hpre : l.row.toRowW.claim.pre args = true) (hwl : WellAll P h vals args) :
    ∃ a vs ns, vals = [Value.ref a] ∧ args = [WData.list (ns.map WData.int)] ∧ h.get? a = some { cls := .type "list", data := .seq vs.toArray } ∧ IntsAre vs ns ∧ ns.length ≤ n := by
  have hsh : WShape.hasAll [] args [.list .int] = true := (pre_splitW hpre).1
  have hc : l.pre.holds [] { args := args } = true := (pre_splitW hpre).2
  obtain ⟨d, r, rfl, h1, h2⟩ := hasAllW_cons hsh
  obtain rfl := hasAllW_nil h2
  obtain ⟨xs, rfl, h3⟩ := hasW_list h1
  obtain ⟨ns, rfl⟩ := items_int h3
  have hlen : ns.length ≤ n := by
    unfold OpenLaw.pre at hc
    have h4 : (WTm.not (.lt (.lit (.int (n : Int))) (.len (.arg 0)))).holds [] { args := [.list (ns.map .int)] } = true := by
      have h4 := (holds_andW hc).1
      rw [hn] at h4
      exact h4
    have h5 := condW_of h4 (w_not (w_lt w_lit (w_len_list (w_arg rfl))))
    rw [List.length_map] at h5
    refine Nat.le_of_not_lt fun q => ?_
    have q' : (n : Int) < ((ns.length : Nat) : Int) := by omega
    first
      | (rw [decide_eq_true q'] at h5; exact absurd h5 (by decide))
      | (simp at h5; omega)
  cases hwl with
  | cons w1 w2 =>
    cases w2
    cases w1 with
    | list ho hall => exact ⟨_, _, ns, rfl, rfl, ho, ints_of_wellAll ns _ hall, hlen⟩
theorem post_true (l : OpenLaw) (args : List WData) : l.row.toRowW.claim.post args (.bool true) args = true :=
  postW_of (r := l.row.toRowW) (X := (true == true))
    (show WShape.has [] (.bool true) .bool = true by first | rfl | decide | simp [WShape.has, WShape.arms, WShape.armsAll])
    (show (WTm.eq .res (.lit (.bool true))).value [] { args := args, res := some (.bool true), after := args } = some (.bool (true == true)) from w_eq_bool (w_res rfl) w_lit) rfl
theorem attach_call {l : OpenLaw} {n : Nat} {q : Program} {loose : List Str} {XP : (Str → Option Value) → Heap → Prop} {YP : World → Heap → Prop} {d : DefRec}
    (hn : l.most = some n) (hdf : d.params.defaults = [])
    (call : ∀ (w : World) (s₀ s₁ : Shared) (mg mb : Str → Option Value) (fa : Addr) (o : Obj) (pm cd doc : Value) (a : Addr) (vs : List Value) (ns : List Int),
      Ground q loose [] XP w s₀ mg mb s₁.heap → YP w s₁.heap →
      s₁.heap.get? fa = some o → o.data = .func (docDef d.name d.params d.body d.scope pm cd doc) → s₁.heap.CodeRec cd d.name → mg d.name = some (.ref fa) →
      s₁.heap.get? a = some { cls := .type "list", data := .seq vs.toArray } → IntsAre vs ns → ns.length ≤ n → s₁.gens = #[] →
      codeAny (model l.prog w) callerA (.call (.ref fa) ⟨[.ref a], []⟩) (fun r s' => r = .ok (.ret (.bool true)) ∧ OldK s₁.heap s'.heap ∧ s'.os = s₁.os ∧ AllBare s'.gens) s₁) :
    WalkO q loose XP YP l.row.toRowW d [] (fun f vs => PySem.call f vs) := by
  intro w s₀ s₁ mg mb G Y fa o pm cd doc dV kV ho hd hcd hD hmg hg args vals as hpre hlay hrd hwl hlo
  obtain rfl : dV = .none := Dflts.none hD hdf
  obtain rfl : kV = .none := Dflts.noKw hD
  obtain ⟨a, vs, ns, rfl, rfl, hobj, hints, hlen⟩ := script_of hn hpre hwl
  refine enter_call (codeAny_mono (call w s₀ s₁ mg mb fa o pm cd doc a vs ns G Y ho (fd_plain hd) hcd hmg hobj hints hlen hg) fun r s' hq => ?_)
  obtain ⟨rfl, h2, h3, h4⟩ := hq
  exact ⟨.inl ⟨.bool true, .bool true, [], rfl, fun _ => rfl, .bool true, post_true l _, fun _ => ⟨List.Pairwise.nil, fun _ hm => (nomatch hm)⟩⟩, h2, h3, h4⟩
section
variable {prog : Program} {w : World} {A : Around} {E : Value → Shared → Prop} {s : Shared} {K : Frag}
end
end Att
namespace L2
open PySem PySem.Spec PyProof.Rows
theorem vals_ints : ∀ {vs : List Value} {ns : List Int}, IntsAre vs ns → Vals (ns.map V.int) vs
  | _, _, .nil => .nil
  | _, _, .cons n t h => .cons ⟨t, rfl⟩ (vals_ints h)
noncomputable def Only (H : Hp) : Prop := ∀ b, H b = none ∨ ∃ o xs, H b = some (.frz o (.lst xs))
theorem law_call {P : Program} {w : World} {K : PySem.W.Frag} {mg mb : Str → Option Value} {CX : CXT} {k : Nat} {fa a : Addr} {fd : FuncData} {x : Str} {sp : Sp} {s₁ : Shared} {vs : List Value} {ns : List Int}
    (KX : K.In s₁.heap) (hns : s₁.heap.Ns mainGlobals mg) (hb : s₁.heap.Ns builtinsNs mb) (hbb : ∀ x : Str, x ≠ "__name__" → mb x = bootBuiltins x) (hlim : s₁.heap.NoLimit) (hg : s₁.gens = #[])
    (ha : s₁.heap.get? a = some { cls := .type "list", data := .seq vs.toArray }) (hi : IntsAre vs ns) (hl : ns.length ≤ sizeLine) (hr : Room k callerA)
    (F : ∀ base : Heap, K.In base → base.Ns mainGlobals mg → FnOk P w K mg base CX k fa fd [x] sp) (hbind : ∀ (s : Shared) (u : Value), BindsTo s fd ⟨[u], []⟩ [(x, u)])
    (hsp : ∀ H : Hp, Only H → SqL K H a (ns.map V.int) → sp [.ref a] H (fun v _ => v = .bl true) fun _ _ _ => False)
    (hCX : ∀ H e s', CX [] H s₁ (fun _ _ _ => False) e s' → False) :
    codeAny (model P w) callerA (.call (.ref fa) ⟨[.ref a], []⟩) (fun r s' => r = .ok (.ret (.bool true)) ∧ OldK s₁.heap s'.heap ∧ s'.os = s₁.os ∧ AllBare s'.gens) s₁ := by
  have rv := vals_ints hi
  have lenV := hi.length
  have core : ∀ H : Hp, Only H → SqL K H a (ns.map V.int) → HOk P w H s₁.heap → (∀ b, H b ≠ none → b = a) → (H a ≠ none → K.lookup a = none) →
      codeAny (model P w) callerA (.call (.ref fa) ⟨[.ref a], []⟩) (fun r s' => r = .ok (.ret (.bool true)) ∧ OldK s₁.heap s'.heap ∧ s'.os = s₁.os ∧ AllBare s'.gens) s₁ := by
    intro H hO hS hok hA hK
    have base_of : ∀ {b : Addr} {o : Obj}, s₁.heap.get? b = some o → H b = none → (hidT s₁.heap H).get? b = some o := fun e n => hidT_get e n
    have noA : ∀ {b : Addr} {o : Obj} {es : Array DictEntry} {ep : Nat}, s₁.heap.get? b = some o → o.data = .dict es ep → H b = none := fun {b o es ep} e d => by
      cases q : H b with
      | none => rfl
      | some u =>
        have e' : b = a := hA b (by rw [q]; simp)
        subst e'
        rw [ha] at e; cases e
        have d' : Data.seq vs.toArray _ = Data.dict es ep := d
        cases d'
    have nsK : ∀ {b : Addr} {m : Str → Option Value}, s₁.heap.Ns b m → (hidT s₁.heap H).Ns b m := fun {b m} ⟨o, es, ep, e, d, r⟩ => ⟨o, es, ep, base_of e (noA e d), d, r⟩
    have hKb : K.In (hidT s₁.heap H) := fun b o e => base_of (KX b o e) (by
      cases q : H b with
      | none => rfl
      | some u =>
        have e' : b = a := hA b (by rw [q]; simp)
        subst e'
        rw [hK (by rw [q]; simp)] at e; cases e)
    have hM : Mod K mg (hidT s₁.heap H) := ⟨hKb, nsK hns, ⟨mb, nsK hb, hbb⟩, let ⟨mc, h1, h2⟩ := hlim; ⟨mc, nsK h1, h2⟩⟩
    have e0 : Env0 P w K mg (hidT s₁.heap H) callerA [] s₁ H := ⟨rfl, hM, fun b o e => of_hidT e, Nat.le_of_eq (hidT_size _ _), trivial, fun b hb => absurd (show b ∈ ([] : List Addr) from hb) (by simp), hok, .of_eq hg⟩
    refine codeAny_mono ((F _ hKb (nsK hns)).run callerA [] s₁ H ⟨[.ref a], []⟩ [.ref a] [.ref a] _ _ hr e0 (hbind s₁ (.ref a)) (.cons rfl .nil) (hsp H hO hS)) fun r s' h => ?_
    cases r with
    | error e => exact (hCX H e s' h).elim
    | ok fl =>
      cases fl with
      | next => exact False.elim h
      | brk => exact False.elim h
      | cont => exact False.elim h
      | ret u =>
        obtain ⟨v, H', os, bare, un, hok', r', q⟩ := h
        have q' : v = .bl true := q
        subst q'
        obtain rfl : u = Value.bool true := r'
        refine ⟨rfl, OldK.of_keep fun b o e => ?_, os, bare⟩
        cases q : H b with
        | none => exact un.keep b o e q (by intro z; exact absurd (show b ∈ ([] : List Addr) from z) (by simp)) (by simp)
        | some u =>
          rcases hO b with z | ⟨ob, xs, z⟩
          · rw [q] at z; cases z
          · have z2 := un.frzs b ob _ z
            obtain ⟨e1, _⟩ := hok b _ z
            obtain ⟨e2, _⟩ := hok' b _ z2
            rw [e] at e1; cases e1
            exact e2
  cases hk : K.lookup a with
  | some o =>
    have e := KX a o hk
    rw [ha] at e
    cases e
    refine core (fun _ => none) (fun _ => .inl rfl) (.inr ⟨_, vs.toArray, _, hk, rfl, rfl, rfl, by rw [List.size_toArray, lenV]; exact hl, by simpa using rv⟩) (fun b u z => by have z' : (none : Option HO) = some u := z; cases z') (fun b z => absurd rfl z) fun z => absurd rfl z
  | none =>
    refine core (fun b => if b = a then some (.frz { cls := .type "list", data := .seq vs.toArray } (.lst (ns.map V.int))) else none) (fun b => ?_) (.inl (.inr ⟨{ cls := .type "list", data := .seq vs.toArray }, if_pos rfl⟩)) (fun b u z => ?_) (fun b z => ?_) fun _ => hk
    · by_cases hb : b = a
      · exact .inr ⟨_, _, if_pos hb⟩
      · exact .inl (if_neg hb)
    · by_cases hb : b = a
      · have z' := (if_pos hb).symm.trans z
        cases z'
        subst hb
        exact ⟨ha, by rw [List.length_map]; exact hl, vs, _, rv, ha⟩
      · have z' := (if_neg hb).symm.trans z
        cases z'
    · by_cases hb : b = a
      · exact hb
      · exact absurd (if_neg hb) z
end L2
namespace L2
open PySem PySem.Spec PyProof.Rows
theorem walk_of {l : PySem.W.OpenLaw} {n k : Nat} {q : Program} {loose : List Str} {XP : (Str → Option Value) → Heap → Prop} {YP : World → Heap → Prop} {d : DefRec} {K : Params → PySem.W.Frag} {CX : World → CXT} {sp : World → Sp} {x : Str}
    (hn : l.most = some n) (hn2 : n ≤ sizeLine) (hdf : d.params.defaults = []) (hr : Room k callerA)
    (hY : ∀ (w : World) (h : Heap), YP w h → (K w.params).In h)
    (F : ∀ (w : World) (mg : Str → Option Value) (fa : Addr) (h : Heap), (K w.params).In h → h.Ns mainGlobals mg → mg d.name = some (.ref fa) →
      ∃ fd : FuncData, (∀ (s : Shared) (u : Value), BindsTo s fd ⟨[u], []⟩ [(x, u)]) ∧
        ∀ base : Heap, (K w.params).In base → base.Ns mainGlobals mg → FnOk l.prog w (K w.params) mg base (CX w) k fa fd [x] (sp w))
    (hsp : ∀ (w : World) (H : Hp) (a : Addr) (ns : List Int), ns.length ≤ n → Only H → SqL (K w.params) H a (ns.map V.int) → sp w [.ref a] H (fun v _ => v = .bl true) fun _ _ _ => False)
    (hCX : ∀ (w : World) (H : Hp) (s : Shared) (e : Value) (s' : Shared), CX w [] H s (fun _ _ _ => False) e s' → False) :
    PySem.W.WalkO q loose XP YP l.row.toRowW d [] (fun f vs => PySem.call f vs) := by
  refine Att.attach_call hn hdf fun w s₀ s₁ mg mb fa o pm cd doc a vs ns G Y ho hd hcd hmg hobj hints hlen hg => ?_
  have KX := hY w _ Y
  obtain ⟨fd, hb, hF⟩ := F w mg fa _ KX G.T.g hmg
  exact law_call KX G.T.g G.T.b G.T.builtins G.T.nolimit hg hobj hints (Nat.le_trans hlen hn2) hr hF hb (fun H hO hS => hsp w H a ns hlen hO hS) fun H e s' => hCX w H s₁ e s'
end L2
namespace L2
open PySem PySem.Spec PyProof.Rows
noncomputable def inClass (s : Stmt) (j : Nat) : Stmt := match s with
  | .ClassDef _ _ _ body _ _ _ _ _ _ _ => body.getD j (.Pass ⟨0, 0, 0, 0⟩)
  | _ => .Pass ⟨0, 0, 0, 0⟩
noncomputable def defArgs (s : Stmt) : Arguments := match s with
  | .FunctionDef _ a _ _ _ _ _ _ _ _ => a
  | _ => { posonlyargs := [], args := [], vararg := none, kwonlyargs := [], kw_defaults := [], kwarg := none, defaults := [] }
noncomputable def defBody (s : Stmt) : List Stmt := match s with
  | .FunctionDef _ _ b _ _ _ _ _ _ _ => b
  | _ => []
noncomputable def defScope (s : Stmt) : Scope := match s with
  | .FunctionDef _ _ _ _ _ _ sc _ _ _ => sc
  | _ => { kind := .function, names := [], isGenerator := false, isCoroutine := false }
noncomputable abbrev CX0 : CXT := fun _ _ _ _ _ _ => False
noncomputable abbrev E0 : XK := fun _ _ _ => False
theorem pass0 {X : Cx} : Passes CX0 X E0 := fun _ _ _ _ _ _ _ h => h.elim
structure Fun (K : PySem.W.Frag) (x qual : Str) (st : Stmt) (f : Addr) (fd : FuncData) : Prop where
  ex : ∃ (oc : Value) (od : Option Addr) (kV doc pm : Value) (an : Option Addr) (cdv ct : Value) (osl : Array (Option Value)),
    fd = PySem.W.fnOf x qual (defArgs st) (defBody st) (defScope st) .none kV doc pm an cdv ct ∧ K.lookup f = some ⟨oc, od, .func fd, osl⟩ ∧ PySem.W.codeIn K cdv qual = true
  kp : PySem.W.keepIn K (.ref f) = true
section
variable {P : Program} {w : World} {K : PySem.W.Frag} {mg : Str → Option Value} {base : Heap}
theorem Fun.ok {x qual : Str} {st : Stmt} {f : Addr} {fd : FuncData} {N ps : List Str} {k : Nat} {sp : Sp} (F : Fun K x qual st f fd) (S : FnScope N ps (defScope st)) (len : ∀ vs H Q E, sp vs H Q E → vs.length = ps.length)
    (hbody : ∀ (cdv : Value) (A : Around) (outer : List Env) (s : Shared) (H : Hp) (vs : List V) (Q : VK) (E : XK), Room k (A.deeper (envOfC qual (defScope st) s.heap.objs.size f cdv)) → sp vs H Q E →
      ∃ t, PSs (cxOf CX0 P w K mg base N qual (defScope st) f cdv A outer s H E).nox (defBody st) t ∧ t { nx := fun _ H' => Q .non H', rt := Q } (start N vs) H) : FnOk P w K mg base CX0 (k + 1) f fd ps sp := by
  obtain ⟨oc, od, kV, doc, pm, an, cdv, ct, osl, rfl, lk, hcd⟩ := F.ex
  refine fn_of lk hcd S len fun A outer s H vs Q E hr hsp => ?_
  obtain ⟨t, h, q⟩ := hbody cdv A outer s H vs Q E hr hsp
  exact ⟨t, h.nox, q⟩
theorem Fun.binds {x qual : Str} {st : Stmt} {f : Addr} {fd : FuncData} {ps : List Str} (F : Fun K x qual st f fd)
    (h : ∀ (kV doc pm : Value) (an : Option Addr) (cdv ct : Value) (us : List Value), us.length = ps.length → bindArgs (PySem.W.fnOf x qual (defArgs st) (defBody st) (defScope st) .none kV doc pm an cdv ct) ⟨us, []⟩ = pure (ps.zip us)) : Binds K fd ps [] := by
  obtain ⟨oc, od, kV, doc, pm, an, cdv, ct, osl, rfl, lk, hcd⟩ := F.ex
  exact .all (h kV doc pm an cdv ct)
end
theorem hu_of {A : Around} {k : Nat} (hr : Room k A) : A.units + 1 < cLine := Nat.lt_of_le_of_lt (Nat.add_le_add_left (by decide : 1 ≤ 64) _) hr.units
section
variable {X : Cx}
end
theorem iteF {A B : Prop} (h : B) : if false = true then A else B := by
  rw [if_neg Bool.false_ne_true]
  exact h
theorem iteT {A B : Prop} (h : A) : if true = true then A else B := by
  rw [if_pos rfl]
  exact h
noncomputable def Same (H H' : Hp) : Prop := ∀ b o, H b = some o → H' b = some o
theorem Same.refl (H : Hp) : Same H H := fun _ _ h => h
theorem Same.trans {H H1 H2 : Hp} (a : Same H H1) (b : Same H1 H2) : Same H H2 := fun c o h => b c o (a c o h)
theorem Same.free {H H' : Hp} (e : Same H H') {l : Addr} (h : H' l = Option.none) : H l = Option.none := by
  cases q : H l with
  | none => rfl
  | some o =>
    rw [e l o q] at h
    cases h
theorem Same.seq {K : PySem.W.Frag} {H H' : Hp} {a : Addr} {xs : List V} (e : Same H H') (h : SqL K H a xs) : SqL K H' a xs := by
  rcases h with (h | ⟨o, h⟩) | h
  · exact .inl (.inl (e _ _ h))
  · exact .inl (.inr ⟨o, e _ _ h⟩)
  · exact .inr h
end L2
set_option maxRecDepth 100000
namespace L2
open PySem PySem.Spec PyProof.Rows
section
variable {κ : Type} [DecidableEq κ]
noncomputable def valV (kvs : List (κ × V)) (k : κ) : Option V := (kvs.find? fun kv => decide (kv.1 = k)).map (·.2)
noncomputable def putK (kvs : List (κ × V)) (k : κ) (v : V) : List (κ × V) :=
  if (kvs.any fun kv => decide (kv.1 = k)) = true then kvs.map (fun kv => if kv.1 = k then (kv.1, v) else kv) else kvs ++ [(k, v)]
noncomputable def dropK (kvs : List (κ × V)) (k : κ) : List (κ × V) := kvs.filter fun kv => decide (kv.1 ≠ k)
theorem valV_pos {p : κ × V} {r : List (κ × V)} {k : κ} (e : p.1 = k) : valV (p :: r) k = some p.2 := by simp [valV, List.find?_cons, e]
theorem valV_neg {p : κ × V} {r : List (κ × V)} {k : κ} (e : ¬ p.1 = k) : valV (p :: r) k = valV r k := by simp [valV, List.find?_cons, e]
theorem valV_any (k : κ) : ∀ kvs : List (κ × V), (kvs.any fun kv => decide (kv.1 = k)) = (valV kvs k).isSome
  | [] => rfl
  | p :: r => by
    rw [List.any_cons]
    by_cases e : p.1 = k
    · simp only [valV_pos e, decide_eq_true e, Bool.true_or, Option.isSome_some]
    · rw [valV_neg e, decide_eq_false e, Bool.false_or]; exact valV_any k r
theorem length_putK (kvs : List (κ × V)) (k : κ) (v : V) : (putK kvs k v).length ≤ kvs.length + 1 := by
  unfold putK
  split
  · rw [List.length_map]; omega
  · rw [List.length_append, List.length_cons, List.length_nil]; omega
theorem RelO.isSome_eq {o : Option V} {u : Option Value} (r : RelO o u) : o.isSome = u.isSome := by
  cases o with
  | none => cases u with
    | none => rfl
    | some _ => exact (show False from r).elim
  | some _ => cases u with
    | none => exact (show False from r).elim
    | some _ => rfl
theorem RelO.getD {o : Option V} {u : Option Value} {d : V} {d' : Value} (r : RelO o u) (rd : RelV d d') : RelV (o.getD d) (u.getD d') := by
  cases o with
  | none => cases u with
    | none => exact rd
    | some _ => exact (show False from r).elim
  | some _ => cases u with
    | none => exact (show False from r).elim
    | some _ => exact r
theorem KV.val {kvs : List (κ × V)} {vs : List (κ × Value)} (r : KV kvs vs) (k : κ) : RelO (valV kvs k) (valueAt vs k) := by
  unfold KV at r
  induction r with
  | nil => exact True.intro
  | @cons p q ps qs h t ih =>
    obtain ⟨h1, h2⟩ := h
    by_cases e : p.1 = k
    · have e' : q.1 = k := h1.symm.trans e
      have b : valueAt (q :: qs) k = some q.2 := by simp [valueAt, List.find?_cons, e']
      rw [valV_pos e, b]; exact h2
    · have e' : ¬ q.1 = k := fun z => e (h1.trans z)
      have b : valueAt (q :: qs) k = valueAt qs k := by simp [valueAt, List.find?_cons, e']
      rw [valV_neg e, b]; exact ih
theorem KV.any {kvs : List (κ × V)} {vs : List (κ × Value)} (r : KV kvs vs) (k : κ) : (kvs.any fun kv => decide (kv.1 = k)) = vs.any fun kv => decide (kv.1 = k) := by
  unfold KV at r
  induction r with
  | nil => rfl
  | cons h t ih => rw [List.any_cons, List.any_cons, ih, h.1]
theorem KV.repl {kvs : List (κ × V)} {vs : List (κ × Value)} (r : KV kvs vs) (k : κ) {y : V} {u : Value} (ry : RelV y u) :
    KV (kvs.map fun kv => if kv.1 = k then (kv.1, y) else kv) (vs.map fun kv => if kv.1 = k then (kv.1, u) else kv) := by
  unfold KV at r ⊢
  induction r with
  | nil => exact .nil
  | @cons p q ps qs h t ih =>
    rw [List.map_cons, List.map_cons]
    refine .cons ?_ ih
    obtain ⟨h1, h2⟩ := h
    by_cases e : p.1 = k
    · rw [if_pos e, if_pos (h1.symm.trans e)]; exact ⟨h1, ry⟩
    · rw [if_neg e, if_neg (fun z => e (h1.trans z))]; exact ⟨h1, h2⟩
theorem KV.put {kvs : List (κ × V)} {vs : List (κ × Value)} (r : KV kvs vs) (k : κ) {y : V} {u : Value} (ry : RelV y u) : KV (putK kvs k y) (stored vs k u) := by
  unfold putK stored
  rw [r.any k]
  by_cases e : (vs.any fun kv => decide (kv.1 = k)) = true
  · rw [if_pos e, if_pos e]; exact r.repl k ry
  · rw [if_neg e, if_neg e]; exact Paired.snoc r ⟨rfl, ry⟩
theorem KV.drop {kvs : List (κ × V)} {vs : List (κ × Value)} (r : KV kvs vs) (k : κ) : KV (dropK kvs k) (without vs k) := by
  unfold KV at r ⊢
  unfold dropK without
  induction r with
  | nil => exact .nil
  | @cons p q ps qs h t ih =>
    obtain ⟨h1, h2⟩ := h
    rw [List.filter_cons, List.filter_cons]
    by_cases e : p.1 = k
    · have a : ¬ decide (p.1 ≠ k) = true := by simp [e]
      have b : ¬ decide (q.1 ≠ k) = true := by simp [h1.symm.trans e]
      rw [if_neg a, if_neg b]; exact ih
    · have e' : ¬ q.1 = k := fun z => e (h1.trans z)
      have a : decide (p.1 ≠ k) = true := by simp [e]
      have b : decide (q.1 ≠ k) = true := by simp [e']
      rw [if_pos a, if_pos b]; exact .cons ⟨h1, h2⟩ ih
theorem KV.keys {kvs : List (κ × V)} {vs : List (κ × Value)} (r : KV kvs vs) : kvs.map (·.1) = vs.map (·.1) := by
  unfold KV at r
  induction r with
  | nil => rfl
  | cons h t ih => rw [List.map_cons, List.map_cons, ih, h.1]
theorem KV.length {kvs : List (κ × V)} {vs : List (κ × Value)} (r : KV kvs vs) : kvs.length = vs.length := Paired.length r
end
theorem kV_is {P : Program} {w : World} {k : Key} {u : Value} (r : RelV (kV k) u) : (mixKind P w).is k u = true := by
  cases k with
  | inl i => obtain ⟨t, e⟩ := (show ∃ t, u = Value.int i t from r); subst e; exact mixKind_int P w i t
  | inr x => obtain ⟨t, e⟩ := (show ∃ t, u = Value.str x t from r); subst e; exact mixKind_str P w x t
theorem items_are {P : Program} {w : World} : ∀ {ks : List Key} {us : List Value}, Vals (ks.map kV) us → ItemsAre (mixKind P w) ks us
  | [], _, r => by rw [List.map_nil] at r; cases r; exact .nil
  | k :: ks, _, r => by
    rw [List.map_cons] at r
    cases r with
    | cons h t => exact .cons (kV_is h) (items_are t)
noncomputable abbrev KT (H : Hp) : List (List Key × V) → List (List Key × Addr × Value) → Prop := Paired fun p q => p.1 = q.1 ∧ H q.2.1 = some (.tup (p.1.map kV)) ∧ RelV p.2 q.2.2
theorem KT.val {H : Hp} {kvs : List (List Key × V)} {xs : List (List Key × Addr × Value)} (r : KT H kvs xs) (k : List Key) : RelO (valV kvs k) ((atKey xs k).map (·.2)) := by
  induction r with
  | nil => exact True.intro
  | @cons p q ps qs h t ih =>
    obtain ⟨h1, _, h2⟩ := h
    by_cases e : p.1 = k
    · have e' : q.1 = k := h1.symm.trans e
      have b : atKey (q :: qs) k = some q.2 := by simp [atKey, List.find?_cons, e']
      rw [valV_pos e, b]; exact h2
    · have e' : ¬ q.1 = k := fun z => e (h1.trans z)
      have b : atKey (q :: qs) k = atKey qs k := by simp [atKey, List.find?_cons, e']
      rw [valV_neg e, b]; exact ih
theorem KT.repl {H : Hp} {kvs : List (List Key × V)} {xs : List (List Key × Addr × Value)} (r : KT H kvs xs) (k : List Key) {y : V} {u : Value} (ry : RelV y u) :
    KT H (kvs.map fun kv => if kv.1 = k then (kv.1, y) else kv) (xs.map (putAt k u)) := by
  induction r with
  | nil => exact .nil
  | @cons p q ps qs h t ih =>
    rw [List.map_cons, List.map_cons]
    refine .cons ?_ ih
    obtain ⟨h1, h2, h3⟩ := h
    unfold putAt
    by_cases e : p.1 = k
    · rw [if_pos e, if_pos (h1.symm.trans e)]; exact ⟨h1, h2, ry⟩
    · rw [if_neg e, if_neg (fun z => e (h1.trans z))]; exact ⟨h1, h2, h3⟩
theorem KT.put {H : Hp} {kvs : List (List Key × V)} {xs : List (List Key × Addr × Value)} (r : KT H kvs xs) (k : List Key) {b : Addr} {y : V} {u : Value} (hb : H b = some (.tup (k.map kV))) (ry : RelV y u) :
    KT H (putK kvs k y) (storedH xs k b u) := by
  have e : (kvs.any fun kv => decide (kv.1 = k)) = (atKey xs k).isSome := by
    rw [valV_any, (r.val k).isSome_eq, Option.isSome_map]
  unfold putK storedH
  rw [e]
  by_cases q : (atKey xs k).isSome = true
  · rw [if_pos q, if_pos q]; exact r.repl k ry
  · rw [if_neg q, if_neg q]; exact Paired.snoc r ⟨rfl, hb, ry⟩
theorem KT.keeps {H H' : Hp} {kvs : List (List Key × V)} {xs : List (List Key × Addr × Value)} (r : KT H kvs xs) (ht : ∀ b ys, H b = some (.tup ys) → H' b = some (.tup ys)) : KT H' kvs xs :=
  Paired.mapP r fun _ _ z => ⟨z.1, ht _ _ z.2.1, z.2.2⟩
section
variable {P : Program} {w : World} {H : Hp} {h : Heap} {a : Addr}
theorem rd_of {u : HO} (ok : HOk P w H h) (e : Rd H a u) : ObjOk P w H h a u := e.ok ok
theorem dk_rd {kvs : List (Key × V)} (ok : HOk P w H h) (e : Rd H a (.dK kvs)) : kvs.length ≤ sizeLine ∧ (a == sysModules) = false ∧ ∃ vs, KV kvs vs ∧ h.DictOf (mixKind P w) a vs :=
  show ObjOk P w H h a (.dK kvs) from rd_of ok e
theorem dk_of {kvs : List (Key × V)} (ok : HOk P w H h) (e : H a = some (.dK kvs)) : kvs.length ≤ sizeLine ∧ (a == sysModules) = false ∧ ∃ vs, KV kvs vs ∧ h.DictOf (mixKind P w) a vs := dk_rd ok (.inl e)
theorem key_of {ks : List Key} (ok : HOk P w H h) (e : H a = some (.tup (ks.map kV))) : (tupleKind (mixKind P w)).is h ks a := by
  obtain ⟨_, its, r, o, h1, h2, n, h3⟩ := (show ObjOk P w H h a (.tup (ks.map kV)) from ok a _ e)
  exact ⟨o, its.toArray, n, h1, h2, h3, by simpa using items_are r⟩
theorem dt_rd {kvs : List (List Key × V)} (ok : HOk P w H h) (e : Rd H a (.dT kvs)) : kvs.length ≤ sizeLine ∧ (a == sysModules) = false ∧
    ∃ xs, KT H kvs xs ∧ h.DictOfH (tupleKind (mixKind P w)) a xs := by
  obtain ⟨z, y, xs, r, o, es, ep, h1, h2, h3, h4, h5⟩ := (show ObjOk P w H h a (.dT kvs) from rd_of ok e)
  refine ⟨z, y, xs, r, o, es, ep, h1, h2, h3, h4, fun x hx => ?_, h5⟩
  have all : ∀ {l : List (List Key × V)} {m : List (List Key × Addr × Value)}, KT H l m → ∀ x ∈ m, (tupleKind (mixKind P w)).is h x.1 x.2.1 := by
    intro l m q
    induction q with
    | nil => intro x hx; exact nomatch hx
    | @cons p q ps qs hq t ih =>
      intro x hx
      rcases List.mem_cons.mp hx with e | hx
      · subst e
        exact key_of ok (by rw [← hq.1]; exact hq.2.1)
      · exact ih x hx
  exact all r x hx
end
noncomputable def DGet (H : Hp) (a : Addr) (y : V) (r : Option V) : Prop :=
  (∃ kvs k, Rd H a (.dK kvs) ∧ y = kV k ∧ r = valV kvs k) ∨ ∃ kvs k b, Rd H a (.dT kvs) ∧ y = .ref b ∧ H b = some (.tup (k.map kV)) ∧ r = valV kvs k
noncomputable def DPut (H : Hp) (a : Addr) (y v : V) (H' : Hp) : Prop :=
  (∃ kvs k, H a = some (.dK kvs) ∧ y = kV k ∧ kvs.length < sizeLine ∧ H' = upd H a (.dK (putK kvs k v))) ∨
  ∃ kvs k b, H a = some (.dT kvs) ∧ y = .ref b ∧ H b = some (.tup (k.map kV)) ∧ kvs.length < sizeLine ∧ H' = upd H a (.dT (putK kvs k v))
theorem DGet.k {H : Hp} {a : Addr} {kvs : List (Key × V)} {k : Key} (e : H a = some (.dK kvs)) : DGet H a (kV k) (valV kvs k) := .inl ⟨kvs, k, .inl e, rfl, rfl⟩
theorem DGet.t {H : Hp} {a b : Addr} {kvs : List (List Key × V)} {k : List Key} (e : H a = some (.dT kvs)) (eb : H b = some (.tup (k.map kV))) : DGet H a (.ref b) (valV kvs k) := .inr ⟨kvs, k, b, .inl e, rfl, eb, rfl⟩
theorem DPut.k {H : Hp} {a : Addr} {kvs : List (Key × V)} {k : Key} {v : V} (e : H a = some (.dK kvs)) (hl : kvs.length < sizeLine) : DPut H a (kV k) v (upd H a (.dK (putK kvs k v))) := .inl ⟨kvs, k, e, rfl, hl, rfl⟩
theorem DPut.t {H : Hp} {a b : Addr} {kvs : List (List Key × V)} {k : List Key} {v : V} (e : H a = some (.dT kvs)) (eb : H b = some (.tup (k.map kV))) (hl : kvs.length < sizeLine) :
    DPut H a (.ref b) v (upd H a (.dT (putK kvs k v))) := .inr ⟨kvs, k, b, e, rfl, eb, hl, rfl⟩
section
variable {X : Cx} {pins : List (Addr × Obj)} {σ : St} {H : Hp} {s : Shared} {a : Addr} {y v : V} {u r : Value} {o : Option V} {A : Around} {E : Value → Shared → Prop}
theorem Inv.big (I : Inv X pins σ H s) : sysModules < s.heap.objs.size := by
  have h : mainGlobals < s.heap.objs.size := (I.mod.glob.keeps I.bk).lt
  exact Nat.lt_trans (by decide) h
theorem d_getItem {Q : Value → Shared → Prop} (hu : A.units + 1 < cLine) (I : Inv X pins σ H s) (g : DGet H a y (some v)) (ry : RelV y u) (h : ∀ w' s', Inv X pins σ H s' → RelV v w' → Q w' s') :
    wpAny (model X.prog X.w) A (getItem (.ref a) u) Q E s := by
  rcases g with ⟨kvs, k, e, ey, l⟩ | ⟨kvs, k, b, e, ey, eb, l⟩
  · subst ey
    obtain ⟨z, hd, vs, rel, dd⟩ := dk_rd I.hok e
    obtain ⟨w', hw, rw'⟩ := RelO.some_of (v := v) (o := valueAt vs k) (by rw [l]; exact rel.val k)
    exact wpAny_getItem_of (kV_is ry) dd.mapOf hw (h w' _ (I.tok _) rw')
  · subst ey
    cases (show u = Value.ref b from ry)
    obtain ⟨z, hd, xs, rel, dd⟩ := dt_rd I.hok e
    obtain ⟨w', hw, rw'⟩ := RelO.some_of (v := v) (o := (atKey xs k).map (·.2)) (by rw [l]; exact rel.val k)
    obtain ⟨p, hp, hp2⟩ := Option.map_eq_some_iff.mp hw
    refine wpAny_getItem_heap (tupleKind_room_in1 hu) (key_of I.hok eb) dd hp ?_
    rw [hp2]
    exact h w' _ (I.tok _) rw'
theorem d_in {Q : Value → Shared → Prop} (hu : A.units + 1 < cLine) (I : Inv X pins σ H s) (g : DGet H a y o) (ry : RelV y u) (h : ∀ s', Inv X pins σ H s' → Q (.bool o.isSome) s') :
    wpAny (model X.prog X.w) A (compareOp .In u (.ref a)) Q E s := by
  rcases g with ⟨kvs, k, e, ey, l⟩ | ⟨kvs, k, b, e, ey, eb, l⟩
  · subst ey
    obtain ⟨z, hd, vs, rel, dd⟩ := dk_rd I.hok e
    refine wpAny_in_of (kV_is ry) hd dd.mapOf ?_
    rw [← (rel.val k).isSome_eq, ← l]
    exact h _ (I.tok _)
  · subst ey
    cases (show u = Value.ref b from ry)
    obtain ⟨z, hd, xs, rel, dd⟩ := dt_rd I.hok e
    refine wpAny_in_heap (tupleKind_room_in1 hu) (key_of I.hok eb) hd dd ?_
    have q := (rel.val k).isSome_eq
    rw [Option.isSome_map] at q
    rw [← q, ← l]
    exact h _ (I.tok _)
theorem d_write {h' : Heap} {t' : Nat} {ob : HO} (I : Inv X pins σ H s) (mu : Mut (H a)) (hs : Heap.SameBut a s.heap h') (he : ∃ q, h'.get? a = some q) (new : ObjOk X.prog X.w (upd H a ob) h' a ob) :
    Inv X pins σ (upd H a ob) { s with heap := h', toks := t' } :=
  I.write (x := a) (e := a) mu (.inl rfl) (fun b q hb z => (hs.2 b hb).trans z) he new
theorem dk_new {P : Program} {w : World} {H' : Hp} {h' : Heap} {kvs : List (Key × V)} {vs : List (Key × Value)} (z : kvs.length ≤ sizeLine) (hd : (a == sysModules) = false) (rel : KV kvs vs) (dd : h'.DictOf (mixKind P w) a vs) :
    ObjOk P w H' h' a (.dK kvs) := ⟨z, hd, vs, rel, dd⟩
end
section
variable {X : Cx} {pins : List (Addr × Obj)} {σ : St} {H : Hp} {s : Shared} {a : Addr} {kvs : List (Key × V)} {k : Key} {u : Value} {A : Around} {E : Value → Shared → Prop}
theorem d_len {Q : Value → Shared → Prop} (I : Inv X pins σ H s) (e : Rd H a (.dK kvs)) (h : ∀ t s', Inv X pins σ H s' → Q (.int kvs.length t) s') : wpAny (model X.prog X.w) A (call (.builtin "len") [.ref a]) Q E s := by
  obtain ⟨z, hd, vs, rel, dd⟩ := dk_rd I.hok e
  refine call_len_dict hd dd (by rw [← rel.length]; rw [sizeLine_eq] at z; omega) ?_
  rw [← rel.length]
  exact h _ _ (I.tok _)
end
noncomputable def NoSl (i : Expr) : Prop := ∀ ov iv, subscripted i false ov iv = operate [ov, iv] (getItem ov iv)
theorem subD_of {prog : Program} {w : World} {A : Around} {E : Value → Shared → Prop} {s : Shared} {env : Env} {value slice : Expr} {pos : Pos} {T id : String} {Q : Value → Shared → Prop}
    (hl : typeLookup (.type T) "__getitem__" = pure (some (.builtin id))) (hs : NoSl slice)
    (h : wpAny (model prog w) A (eval value env) (fun o s₁ => wpAny (model prog w) A (eval slice env) (fun i s₂ => s₂.TypeIs o T ∧ wpAny (model prog w) A (getItem o i) Q E s₂) E s₁) E s) :
    wpAny (model prog w) A (eval (.Subscript value slice pos) env) Q E s := by
  refine Subscript_ (wpAny_mono h (fun o s₁ h₁ => wpAny_mono h₁ (fun i s₂ h₂ => ?_) fun _ _ x => x) fun _ _ x => x)
  obtain ⟨hT, h₂⟩ := h₂
  unfold subscriptTail
  refine wpAny_bind ?_
  rw [getitemInPython_of_ne hT.not_modules]
  refine wpAny_bind (wpAny_specialOf hT hl ?_)
  have fin : wpAny (model prog w) A (subscripted slice false o i) (fun r s₃ => wpAny (model prog w) A (letTemporaryGo value o r >>= fun _ => pure r) Q E s₃) E s₂ := by
    rw [hs o i]
    exact wpAny_operating (wpAny_mono h₂ (fun r s₃ h₃ => wpAny_bind (wpAny_letTemporaryGo (wpAny_pure h₃))) fun _ _ x => x)
  first
    | exact wpAny_pure (wpAny_bind fin)
    | exact wpAny_bind (wpAny_pure (wpAny_bind fin))
    | exact wpAny_bind fin
theorem dict_typeIs {X : Cx} {pins : List (Addr × Obj)} {σ : St} {H : Hp} {s : Shared} {a : Addr} {y : V} {o : Option V} (I : Inv X pins σ H s) (g : DGet H a y o) : s.TypeIs (.ref a) "dict" := by
  rcases g with ⟨kvs, k, e, _, _⟩ | ⟨kvs, k, b, e, _, _, _⟩
  · obtain ⟨_, _, vs, _, dd⟩ := dk_rd I.hok e
    exact dd.typeIs
  · obtain ⟨_, _, xs, _, dd⟩ := dt_rd I.hok e
    exact dd.typeIs
noncomputable def tDGet (td ty : TE) : TE := fun σ H Q => td σ H fun x H1 => ty σ H1 fun y H2 => ∃ a v, x = .ref a ∧ DGet H2 a y (some v) ∧ Q v H2
noncomputable def sDPut (td ty tv : TE) : TS := fun D σ H => tv σ H fun v H1 => td σ H1 fun x H2 => ty σ H2 fun y H3 => ∃ a H4, x = .ref a ∧ DPut H3 a y v H4 ∧ D.nx σ H4
noncomputable def sDAug (td ty tv : TE) (rd : V → V → Hp → VK → Prop) : TS := fun D σ H => td σ H fun x H1 => ty σ H1 fun y H2 => ∃ a v, x = .ref a ∧ DGet H2 a y (some v) ∧
  tv σ H2 fun y2 H3 => rd v y2 H3 fun z H4 => ∃ H5, DPut H4 a y z H5 ∧ D.nx σ H5
section
variable {X : Cx} {o i e value : Expr} {pos pos' tpos : Pos} {td ty tv : TE}
theorem pe_dget (hu : X.A.units + 1 < cLine) (ho : PE X o td) (hi : PE X i ty) (hs : NoSl i) : PE X (.Subscript o i pos) (tDGet td ty) := by
  intro pins s σ H Q I h
  refine subD_of PySem.F.slot_dict_getitem.lookup hs (thn (ho pins s σ H _ I h) fun u s1 ⟨x, H1, I1, rx, q1⟩ => thn (hi pins s1 σ H1 _ I1 q1) fun iv s2 ⟨y, H2, I2, ry, a, v, ex, g, q2⟩ => ?_)
  subst ex
  obtain rfl : u = Value.ref a := rx
  exact ⟨dict_typeIs I2 g, d_getItem hu I2 g ry fun w' s3 I3 rw' => ⟨v, H2, I3, rw', q2⟩⟩
end
theorem dk_empty {P : Program} {w : World} {H : Hp} (h : Heap) (hb : sysModules < h.objs.size) : ObjOk P w H (h.push { cls := .type "dict", data := .dict #[] }) h.objs.size (.dK []) :=
  ⟨Nat.zero_le _, beq_eq_false_iff_ne.mpr (Ne.symm (Nat.ne_of_lt hb)), [], .nil, Heap.DictOf.new h⟩
noncomputable def tDNewK : TE := fun _ H Q => ∀ p, H p = none → Q (.ref p) (upd H p (.dK []))
section
variable {X : Cx} {pos : Pos}
theorem pe_dnewK : PE X (.Dict [] [] pos) tDNewK := fun pins s σ H Q I h =>
  wpAny_Dict_empty ⟨.ref s.heap.objs.size, _, I.laid (a := s.heap.objs.size) (o := .dK []) (t' := s.toks) (fun _ _ q => Heap.get?_push_of_some _ q) (Nat.le_refl _) (dk_empty s.heap I.big), rfl, h _ (I.hok.fresh (Nat.le_refl _))⟩
end
noncomputable def tPairs : List (TE × TE) → St → Hp → (List (V × V) → Hp → Prop) → Prop
  | [], _, H, Q => Q [] H
  | (tk, tv) :: r, σ, H, Q => tk σ H fun x H1 => tv σ H1 fun y H2 => tPairs r σ H2 fun ps H3 => Q ((x, y) :: ps) H3
noncomputable abbrev VV : List (V × V) → List (Value × Value) → Prop := Paired fun p q => RelV p.1 q.1 ∧ RelV p.2 q.2
noncomputable def PPs (X : Cx) (pos : Pos) (keys : List (Option Expr)) (values : List Expr) (trs : List (TE × TE)) : Prop :=
  ∀ (pins : List (Addr × Obj)) (s : Shared) (σ : St) (H : Hp) (Q : List (V × V) → Hp → Prop), Inv X pins σ H s → tPairs trs σ H Q →
    wpAny (model X.prog X.w) X.A (evalPairs (pairTrees keys values X.env pos)) (fun vs s' => ∃ ps H', Inv X pins σ H' s' ∧ VV ps vs ∧ Q ps H') X.xe s
theorem pps_nil {X : Cx} {pos : Pos} : PPs X pos [] [] [] := fun pins s σ H Q I h => pairTrees_nil_walk ⟨[], H, I, .nil, h⟩
theorem pps_cons {X : Cx} {pos : Pos} {k v : Expr} {ks : List (Option Expr)} {vs : List Expr} {tk tv : TE} {trs : List (TE × TE)} (hk : PE X k tk) (hv : PE X v tv) (hr : PPs X pos ks vs trs) :
    PPs X pos (some k :: ks) (v :: vs) ((tk, tv) :: trs) := fun pins s σ H Q I h =>
  pairTrees_cons_walk (thn (hk pins s σ H _ I h) fun u s1 ⟨x, H1, I1, rx, q1⟩ => thn (hv pins s1 σ H1 _ I1 q1) fun w2 s2 ⟨y, H2, I2, ry, q2⟩ =>
    thn (hr pins s2 σ H2 _ I2 q2) fun ws s3 ⟨ps, H3, I3, rel, q3⟩ => ⟨(x, y) :: ps, H3, I3, .cons ⟨rx, ry⟩ rel, q3⟩)
noncomputable def mergeK (kvs more : List (Key × V)) : List (Key × V) := more.foldl (fun acc kv => putK acc kv.1 kv.2) kvs
theorem KV.merge : ∀ {more : List (Key × V)} {rs : List (Key × Value)} {kvs : List (Key × V)} {vs : List (Key × Value)}, KV more rs → KV kvs vs → KV (mergeK kvs more) (merged vs rs) := by
  intro more rs kvs vs r
  unfold KV at r
  induction r generalizing kvs vs with
  | nil => intro q; exact q
  | @cons p q ps qs h t ih =>
    intro r0
    have e : KV (putK kvs p.1 p.2) (stored vs q.1 q.2) := by
      have := r0.put p.1 h.2
      rw [← h.1]; exact this
    exact ih e
theorem length_mergeK : ∀ (more kvs : List (Key × V)), (mergeK kvs more).length ≤ kvs.length + more.length
  | [], kvs => by show kvs.length ≤ kvs.length + 0; omega
  | p :: r, kvs => by
    have h1 := length_mergeK r (putK kvs p.1 p.2)
    have h2 := length_putK kvs p.1 p.2
    show (mergeK (putK kvs p.1 p.2) r).length ≤ _
    rw [List.length_cons]; omega
theorem carries_of {P : Program} {w : World} : ∀ {kvs : List (Key × V)} {ws : List (Value × Value)}, VV (kvs.map fun kv => (kV kv.1, kv.2)) ws → ∃ rs, Carries (mixKind P w) ws rs ∧ KV kvs rs
  | [], _, r => by rw [List.map_nil] at r; cases r; exact ⟨[], True.intro, .nil⟩
  | p :: kvs, _, r => by
    rw [List.map_cons] at r
    cases r with
    | @cons a b as bs h t =>
      obtain ⟨rs, c, q⟩ := carries_of (P := P) (w := w) t
      obtain ⟨b1, b2⟩ := b
      exact ⟨(p.1, b2) :: rs, ⟨kV_is h.1, rfl, c⟩, .cons ⟨rfl, h.2⟩ q⟩
noncomputable def tDisp (trs : List (TE × TE)) : TE := fun σ H Q => ∀ p, H p = none → tPairs trs σ (upd H p (.dK [])) fun ps H2 => H2 p = some (.dK []) ∧ ∃ kvs : List (Key × V), ps = kvs.map (fun kv => (kV kv.1, kv.2)) ∧ kvs.length ≤ 15 ∧ Q (.ref p) (upd H2 p (.dK (mergeK [] kvs)))
theorem pe_disp {X : Cx} {pos : Pos} {keys : List (Option Expr)} {values : List Expr} {trs : List (TE × TE)} (h : PPs X pos keys values trs) (hall : keys.all (·.isSome) = true) (hl : keys.length = values.length) (h0 : keys ≠ [])
    (h15 : keys.length ≤ 15) : PE X (.Dict keys values pos) (tDisp trs) := by
  intro pins s σ H Q I q
  have hn := I.hok.fresh (Nat.le_refl s.heap.objs.size)
  have I1 := I.laid (a := s.heap.objs.size) (o := .dK []) (h' := s.heap.push { cls := .type "dict", data := .dict #[] }) (t' := s.toks) (fun _ _ q => Heap.get?_push_of_some _ q) (Nat.le_refl _) (dk_empty s.heap I.big)
  refine wpAny_Dict_walk (knd := mixKind X.prog X.w) hall hl h0 h15 (thn (h pins _ σ _ _ I1 (q _ hn)) fun ws s2 ⟨ps, H2, I2, rel, e, kvs, ep, lk, q2⟩ => ?_)
  subst ep
  obtain ⟨rs, c, rk⟩ := carries_of (P := X.prog) (w := X.w) rel
  obtain ⟨z, hd, vs0, r0, dd⟩ := dk_of I2.hok e
  cases r0
  refine ⟨rs, c, dd, fun h' dd' hs => ⟨.ref s.heap.objs.size, _, ?_, rfl, q2⟩⟩
  have hz : (mergeK [] kvs).length ≤ sizeLine := by
    have h1 := length_mergeK kvs []
    rw [List.length_nil] at h1
    rw [sizeLine_eq]; omega
  have he : ∃ q, h'.get? s.heap.objs.size = some q := let ⟨q, _, _, hq, _⟩ := dd'; ⟨q, hq⟩
  exact d_write I2 (by rw [e]; exact True.intro) hs he (dk_new hz hd (rk.merge .nil) dd')
noncomputable def IsD (H : Hp) (a : Addr) : Prop := (∃ kvs, Rd H a (.dK kvs)) ∨ ∃ kvs, Rd H a (.dT kvs)
section
variable {X : Cx} {pins : List (Addr × Obj)} {σ : St} {H : Hp} {s : Shared} {a : Addr} {y d : V} {u r : Value} {o : Option V} {A : Around} {E : Value → Shared → Prop}
end
noncomputable def tDGet2 (td ty tx : TE) : TE := fun σ H Q => td σ H fun x H1 => ∃ a, x = .ref a ∧ IsD H1 a ∧ ty σ H1 fun y H2 => tx σ H2 fun z H3 => ∃ o, DGet H3 a y o ∧ Q (o.getD z) H3
section
variable {X : Cx} {o e f : Expr} {apos cpos : Pos} {td ty tx : TE}
end
section
variable {X : Cx} {pins : List (Addr × Obj)} {σ : St} {H : Hp} {s : Shared} {a : Addr} {kvs : List (Key × V)} {A : Around} {E : Value → Shared → Prop}
end
section
variable {X : Cx} {pins : List (Addr × Obj)} {σ : St} {H : Hp} {s : Shared} {a : Addr} {y : V} {u : Value} {A : Around} {E : Value → Shared → Prop}
end
end L2
namespace L2
open PySem PySem.Spec PyProof.Rows
section
variable {X : Cx}
end
section
variable {κ : Type} [DecidableEq κ]
end
end L2
set_option maxRecDepth 100000
namespace L2
open PySem PySem.Spec PyProof.Rows
noncomputable def cloOf (cells : List (Str × Addr)) : List (Str × NameKind) → List (Str × Addr) → List (Str × Addr)
  | [], acc => acc
  | (n, k) :: r, acc => if k = .free then cloOf cells r ((n, (cells.lookup n).getD 0) :: acc) else cloOf cells r acc
theorem forIn_clo {env : Env} : ∀ (names : List (Str × NameKind)) (acc : List (Str × Addr)), (∀ x ∈ names, x.2 = .free → ∃ c, env.cells.lookup x.1 = some c) →
    (forIn names acc fun (x : Str × NameKind) (cs : List (Str × Addr)) => (if (x.2 == NameKind.free) = true then do
      let c ← cellOf env x.1
      pure (ForInStep.yield ((x.1, c) :: cs)) else pure (ForInStep.yield cs) : Sem (ForInStep (List (Str × Addr))))) = (pure (cloOf env.cells names acc) : Sem (List (Str × Addr)))
  | [], acc, _ => rfl
  | (n, k) :: r, acc, h => by
    rw [List.forIn_cons]
    have hr : ∀ x ∈ r, x.2 = .free → ∃ c, env.cells.lookup x.1 = some c := fun x hx => h x (List.mem_cons_of_mem _ hx)
    by_cases hk : k = .free
    · subst hk
      obtain ⟨c, hc⟩ := h (n, .free) List.mem_cons_self rfl
      have e1 : cellOf env n = pure c := by unfold cellOf; rw [show env.cells.lookup n = some c from hc]
      simp only [beq_self_eq_true, if_true]
      rw [e1]
      show (forIn r ((n, c) :: acc) _ : Sem _) = _
      rw [forIn_clo r _ hr]
      show _ = pure (if NameKind.free = .free then cloOf env.cells r ((n, (env.cells.lookup n).getD 0) :: acc) else _)
      rw [if_pos rfl, show env.cells.lookup n = some c from hc]
      rfl
    · have hb : (k == NameKind.free) = false := by simpa using hk
      simp only [hb, Bool.false_eq_true, if_false]
      show (forIn r acc _ : Sem _) = _
      rw [forIn_clo r _ hr]
      show _ = pure (if k = .free then _ else cloOf env.cells r acc)
      rw [if_neg hk]
theorem closureFor_clo {scope : Scope} {env : Env} (h : ∀ x ∈ scope.names, x.2 = .free → ∃ c, env.cells.lookup x.1 = some c) : closureFor scope env = pure (cloOf env.cells scope.names []) := by
  simp only [closureFor]
  have e := forIn_clo (env := env) scope.names [] h
  rw [e]
  rfl
theorem clo_lookup {cells : List (Str × Addr)} {x : Str} : ∀ (names : List (Str × NameKind)) (acc : List (Str × Addr)),
    (cloOf cells names acc).lookup x = if (x, NameKind.free) ∈ names then some ((cells.lookup x).getD 0) else acc.lookup x
  | [], acc => by simp [cloOf]
  | (n, k) :: r, acc => by
    show (if k = .free then cloOf cells r ((n, (cells.lookup n).getD 0) :: acc) else cloOf cells r acc).lookup x = _
    by_cases hk : k = .free
    · subst hk
      rw [if_pos rfl, clo_lookup r]
      by_cases hm : (x, NameKind.free) ∈ r
      · rw [if_pos hm, if_pos (List.mem_cons_of_mem _ hm)]
      · rw [if_neg hm, List.lookup_cons]
        by_cases hx : x = n
        · subst hx
          rw [if_pos List.mem_cons_self]
          simp
        · have e : (x == n) = false := by simpa using hx
          rw [e, if_neg]
          intro z
          rcases List.mem_cons.mp z with z | z
          · exact hx (Prod.mk.inj z).1
          · exact hm z
    · rw [if_neg hk, clo_lookup r]
      by_cases hm : (x, NameKind.free) ∈ r
      · rw [if_pos hm, if_pos (List.mem_cons_of_mem _ hm)]
      · rw [if_neg hm, if_neg]
        intro z
        rcases List.mem_cons.mp z with z | z
        · exact hk (Prod.mk.inj z).2.symm
        · exact hm z
theorem lookup_mem' {α : Type} {x : Str} : ∀ {l : List (Str × α)} {k : α}, l.lookup x = some k → (x, k) ∈ l
  | [], _, h => by simp at h
  | (n, a) :: r, k, h => by
    rw [List.lookup_cons] at h
    by_cases hx : x = n
    · subst hx
      simp at h
      subst h
      exact List.mem_cons_self
    · have e : (x == n) = false := by simpa using hx
      rw [e] at h
      exact List.mem_cons_of_mem _ (lookup_mem' h)
theorem relabel_free {sc : Scope} {env : Env} {x : Str} {k : NameKind} (hc : ∀ y ∈ sc.names, y.2 ≠ .cell) (h : (relabel sc env).names.lookup x = some k) (hk : k = .cell ∨ k = .free) : (x, NameKind.free) ∈ sc.names := by
  have m := lookup_mem' h
  unfold relabel at m
  obtain ⟨⟨n, k'⟩, hm, e⟩ := List.mem_map.mp m
  have hne := hc _ hm
  by_cases hf : k' = .free
  · subst hf
    have : n = x := by
      dsimp only at e
      split at e
      · exact (Prod.mk.inj e).1
      · exact (Prod.mk.inj e).1
    subst this
    exact hm
  · have hb : (k' == NameKind.free) = false := by simpa using hf
    simp only [hb, Bool.false_and, Bool.false_eq_true, if_false] at e
    obtain ⟨e1, e2⟩ := Prod.mk.inj e
    subst e1 e2
    rcases hk with z | z
    · exact absurd z hne
    · subst z
      exact absurd rfl hf
structure CompOk (N : List Str) (kn : List (Str × NameKind)) (sc : Scope) (N' : List Str) (k : Nat) (ixs : List Nat) : Prop where
  kind : sc.kind = .function
  cell : ∀ x ∈ sc.names, x.2 ≠ .cell
  names : ∀ x ∈ sc.names, x.2 = .local → sc.names.lookup x.1 = some .local
  free : ∀ x ∈ sc.names, x.2 = .free → kn.lookup x.1 = some .cell ∨ kn.lookup x.1 = some .free
  clean : ∀ x ∈ sc.names, x.2 = .free → sc.names.lookup x.1 = some .free
  len : N'.length = k + ixs.length
  at_ : ixs.map (fun i => N[i]?) = (N'.drop k).map some
  fr : ∀ x ∈ N'.drop k, (x, NameKind.free) ∈ sc.names
noncomputable def blk (X : Cx) (sc : Scope) (N' : List Str) (C : Addr) (s₃ : Shared) (H₃ : Hp) (fp : List Addr) (pins : List (Addr × Obj)) : Cx :=
  { prog := X.prog, w := X.w, K := X.K, mg := X.mg, base := X.base, A := X.A, N := N', s₀ := s₃, H₀ := H₃,
    env := compEnvC sc (cloOf X.env.cells sc.names []) C X.env, outer := X.stack, stack := X.stack, ex := fp, fn := fun _ => false, calm := X.calm,
    pn := X.pn ++ pins, xe := fun _ _ => False }
noncomputable def compStart (k : Nat) (ixs : List Nat) (σ : St) : St := List.replicate k none ++ ixs.map fun i => (σ[i]?).join
theorem compStart_len {k : Nat} {ixs : List Nat} {σ : St} : (compStart k ixs σ).length = k + ixs.length := by simp [compStart]
section
variable {X : Cx} {sc : Scope} {N' : List Str} {k : Nat} {ixs : List Nat} {pins : List (Addr × Obj)} {σ : St} {H : Hp} {s : Shared} {fp : List Addr}
theorem clo_cell (C : CompOk X.N X.env.scope.names sc N' k ixs) (I : Inv X pins σ H s) {x : Str} {c : Addr} (e : (cloOf X.env.cells sc.names []).lookup x = some c) : X.env.cells.lookup x = some c ∧ (x, NameKind.free) ∈ sc.names := by
  rw [clo_lookup] at e
  by_cases hm : (x, NameKind.free) ∈ sc.names
  · rw [if_pos hm] at e
    obtain ⟨c', hc'⟩ := I.ok.has x (C.free _ hm rfl)
    rw [hc'] at e
    exact ⟨hc'.trans e, hm⟩
  · rw [if_neg hm] at e
    cases e
theorem clo_has (C : CompOk X.N X.env.scope.names sc N' k ixs) (I : Inv X pins σ H s) {x : Str} (hm : (x, NameKind.free) ∈ sc.names) : ∃ c, (cloOf X.env.cells sc.names []).lookup x = some c ∧ X.env.cells.lookup x = some c := by
  obtain ⟨c', hc'⟩ := I.ok.has x (C.free _ hm rfl)
  refine ⟨c', ?_, hc'⟩
  rw [clo_lookup, if_pos hm, hc']
  rfl
theorem blk_ok (C : CompOk X.N X.env.scope.names sc N' k ixs) (I : Inv X pins σ H s) (hf : ∀ b ∈ fp, FpOk X pins H b) (ho : ∀ b ∈ fp, ∃ o, s.heap.get? b = some o) : (blk X sc N' s.heap.objs.size s H fp pins).Ok where
  mod := I.ok.mod
  kind := C.kind
  glob := I.ok.glob
  blt := I.ok.blt
  above := Nat.le_refl _
  inj := fun x y c e1 e2 => I.ok.inj x y c (clo_cell C I e1).1 (clo_cell C I e2).1
  has := fun x hx => by
    have hm : (x, NameKind.free) ∈ sc.names := by
      rcases hx with z | z
      · exact relabel_free C.cell z (.inl rfl)
      · exact relabel_free C.cell z (.inr rfl)
    obtain ⟨c, h1, _⟩ := clo_has C I hm
    exact ⟨c, h1⟩
  cab := fun x c h _ => by cases h
  hd := I.ok.hd
  frames := I.ok.frames
  stk := .inl rfl
  exf := fun b hb => by
    obtain ⟨o, e⟩ := ho b hb
    exact ⟨Nat.ne_of_lt (Heap.lt_size e), fun x c e1 => (hf b hb).2.2.2.2.1 x c (clo_cell C I e1).1⟩
  bs := I.bs
  bsz := Nat.le_trans I.ok.bsz I.sz
  noex := fun b o e hb => by
    rcases (hf b hb).2.2.2.1 with z | z
    · exact I.ok.noex b o e z
    · exact absurd (Nat.lt_of_lt_of_le (Heap.lt_size e) (Nat.le_trans I.ok.bsz z)) (Nat.lt_irrefl _)
  exfs := fun b hb hm => by
    rcases List.mem_cons.mp (I.stkSub b hm) with z | z
    · exact (hf b hb).2.1 z
    · exact (hf b hb).2.2.1 z
  funs := I.stack
  frf := I.stkFree
theorem blk_inv (C : CompOk X.N X.env.scope.names sc N' k ixs) (I : Inv X pins σ H s) (hf : ∀ b ∈ fp, FpOk X pins H b) (ho : ∀ b ∈ fp, ∃ o, s.heap.get? b = some o) {h' : Heap} {t' : Nat} {m : Str → Option Value}
    (hn : h'.Ns s.heap.objs.size m) (hk : ∀ b o, s.heap.get? b = some o → h'.get? b = some o) : Inv (blk X sc N' s.heap.objs.size s H fp pins) [] (compStart k ixs σ) H { s with heap := h', toks := t' } where
  ok := blk_ok C I hf ho
  os := rfl
  bare := I.bare
  base := Un.kept hk
  loc := by
    refine ⟨m, hn, fun i x v e1 e2 e3 => ?_⟩
    unfold compStart at e2
    by_cases hi : i < k
    · rw [List.getElem?_append_left (by simpa using hi)] at e2
      rw [List.getElem?_replicate_of_lt hi] at e2
      cases e2
    · rw [List.getElem?_append_right (by simpa using hi), List.length_replicate] at e2
      rw [List.getElem?_map] at e2
      cases e4 : ixs[i - k]? with
      | none => rw [e4] at e2; cases e2
      | some j =>
        rw [e4] at e2
        have e5 : (σ[j]?).join = some v := Option.some.inj e2
        have e6 : σ[j]? = some (some v) := by
          cases e7 : σ[j]? with
          | none => rw [e7] at e5; cases e5
          | some o => rw [e7] at e5; exact congrArg some e5
        have e1' : N'[i]? = some x := e1
        have ed : (N'.drop k)[i - k]? = some x := by rw [List.getElem?_drop, show k + (i - k) = i by omega]; exact e1'
        have n3 : (x, NameKind.free) ∈ sc.names := C.fr x (List.mem_of_getElem? ed)
        have n2 : X.N[j]? = some x := by
          have q := congrArg (fun l => l[i - k]?) C.at_
          simp only [List.getElem?_map, e4, ed, Option.map_some] at q
          exact Option.some.inj q
        obtain ⟨m0, hn0, hl0⟩ := I.loc
        have hvis : X.env.scope.names.lookup x = some .cell ∨ X.env.scope.names.lookup x = some .free := C.free _ n3 rfl
        obtain ⟨u, r, l⟩ := hl0 j x v n2 e6 (.inr hvis)
        refine ⟨u, r, .inr ?_⟩
        rcases l with ⟨l, _⟩ | ⟨_, c, hc, hcell⟩
        · have l' : X.env.scope.names.lookup x = some .local := l
          rcases hvis with z | z
          · rw [l'] at z; cases z
          · rw [l'] at z; cases z
        · obtain ⟨c', h1, h2⟩ := clo_has C I n3
          rw [hc] at h2
          cases h2
          refine ⟨?_, c, h1, ?_⟩
          · have e3' : (relabel sc X.env).names.lookup x = some .local ∨ (relabel sc X.env).names.lookup x = some .cell ∨ (relabel sc X.env).names.lookup x = some .free := e3
            rcases e3' with z | z
            · exfalso
              have mm := lookup_mem' z
              unfold relabel at mm
              obtain ⟨⟨n, k'⟩, hm, e⟩ := List.mem_map.mp mm
              have hkl : k' = .local ∧ n = x := by
                dsimp only at e
                split at e
                · obtain ⟨_, q⟩ := Prod.mk.inj e
                  cases q
                · exact ⟨(Prod.mk.inj e).2, (Prod.mk.inj e).1⟩
              obtain ⟨z1, z2⟩ := hkl
              subst z1 z2
              have q1 := C.names _ hm rfl
              rw [C.clean _ n3 rfl] at q1
              cases q1
            · exact z
          · exact hcell.keeps hk
  cell := fun x c e => by
    obtain ⟨v, z⟩ := I.cell x c (clo_cell C I e).1
    exact ⟨v, z.keeps hk⟩
  free := I.hok.fresh (Nat.le_refl _)
  freeC := fun x c e => I.freeC x c (clo_cell C I e).1
  pin := fun p hp => by
    have hp' : p ∈ X.pn ++ pins := by simpa [blk] using hp
    obtain ⟨e, n, ne, nf, d⟩ := I.pin p hp'
    refine ⟨hk _ _ e, n, Nat.ne_of_lt (Heap.lt_size e), fun hm => ?_, d⟩
    rcases List.mem_cons.mp (I.stkSub _ hm) with z | z
    · exact ne z
    · exact nf z
  hok := I.hok.kept hk
  len := by rw [compStart_len]; exact C.len.symm
end
section
variable {prog : Program} {w : World} {A : Around} {R : Result → Shared → Prop} {s : Shared}
theorem compLoop_any {elt target iter : Expr} {ifs : List Expr} {scope : Scope} {pos : Pos} {it acc : Value} {env : Env} (I : Nat → Shared → Prop)
    (turn : ∀ n s, I n s → wpAny (model prog w) A (pyNext it) (fun r s₁ => match r with
      | none => R (.ok .next) s₁
      | some v => wpAny (model prog w) A (letOwnedTupleGo target it v) (fun _ s₁ => wpAny (model prog w) A (assign target env v) (fun _ s₂ =>
          wpAny (model prog w) A (forIn ifs true fun c r => if r = true then do let ok ← isTrue c env (eval c env); pure (ForInStep.yield ok) else pure (ForInStep.yield r)) (fun ok s₃ =>
            if ok = true then wpAny (model prog w) A (eval elt env) (fun x s₄ =>
              wpAny (model prog w) A (call (.builtin "list.append") [acc, x]) (fun _ s₅ => ∃ m, m < n ∧ I m s₅) (notedBy (model prog w) A env fun e s' => R (.error e) s') s₄) (notedBy (model prog w) A env fun e s' => R (.error e) s') s₃
            else ∃ m, m < n ∧ I m s₃) (notedBy (model prog w) A env fun e s' => R (.error e) s') s₂) (notedBy (model prog w) A env fun e s' => R (.error e) s') s₁) (notedBy (model prog w) A env fun e s' => R (.error e) s') s₁) (notedBy (model prog w) A env fun e s' => R (.error e) s') s)
    (n : Nat) (h : I n s) :
    codeAny (model prog w) A (.compLoop (.ListComp elt [⟨target, iter, ifs, 0⟩] scope pos) 0 it acc env) R s := by
  refine codeAny_loop rfl I (fun n s hI => ?_) n h
  show wpAny _ A ((compTurn (.ListComp elt [⟨target, iter, ifs, 0⟩] scope pos) 0 it acc env).onRaise (fun x => do noteFrame x env; theTreesLotGoes x)) _ _ s
  refine wpAny_noted ?_
  rw [compTurn_list]
  refine wpAny_bind (wpAny_standAt (wpAny_bind (wpAny_mono (turn n s hI) (fun r s₁ h₁ => ?_) fun _ _ h' => h')))
  cases r with
  | none => exact wpAny_pure h₁
  | some v =>
    refine wpAny_bind (wpAny_mono h₁ (fun _ s₁ h₁ => ?_) fun _ _ h' => h')
    refine wpAny_bind (wpAny_mono h₁ (fun _ s₂ h₂ => wpAny_bind (wpAny_mono h₂ (fun ok s₃ h₃ => ?_) fun _ _ h' => h')) fun _ _ h' => h')
    cases ok with
    | false => exact wpAny_pure ⟨rfl, h₃⟩
    | true =>
      exact wpAny_bind (wpAny_bind (wpAny_mono h₃ (fun x s₄ h₄ => wpAny_bind (wpAny_mono h₄ (fun _ s₅ h₅ => wpAny_pure (wpAny_pure ⟨rfl, h₅⟩)) fun _ _ h' => h')) fun _ _ h' => h'))
end
noncomputable def PIfs (X : Cx) (ifs : List Expr) (t : TT) : Prop :=
  ∀ (pins : List (Addr × Obj)) (s : Shared) (σ : St) (H : Hp) (Q : Bool → Hp → Prop), Inv X pins σ H s → t σ H Q →
    wpAny (model X.prog X.w) X.A (forIn ifs true fun c r => if r = true then do let ok ← isTrue c X.env (eval c X.env); pure (ForInStep.yield ok) else pure (ForInStep.yield r)) (TP X pins σ Q) X.xe s
noncomputable def tYes : TT := fun _ H Q => Q true H
theorem pifs_nil {X : Cx} : PIfs X [] tYes := fun _ _ _ H _ I h => wpAny_tests_nil ⟨H, I, h⟩
noncomputable def tComp (wi : TI) (k : Nat) (ixs : List Nat) (g : TG) (c : TT) (te : TE) : TE := fun σ H Q => wi σ H fun J H1 => ∀ D, H1 D = none →
  ∃ (n : Nat) (W : Nat → List V → St → Hp → Prop), W 0 [] (compStart k ixs σ) (upd H1 D (.lst [])) ∧ ∀ i ys σ2 H2, W i ys σ2 H2 → H2 D = some (.lst ys) →
    (J.stop i H2 ∧ Q (.ref D) H2) ∨
    (i < n ∧ J.go i H2 ∧ ∀ x H', J.yld i H2 x H' → g x σ2 H' fun σ3 H3 => c σ3 H3 fun b H4 =>
      if b = true then te σ3 H4 fun y H5 => H5 D = some (.lst ys) ∧ ys.length < sizeLine ∧ W (i + 1) (ys ++ [y]) σ3 (upd H5 D (.lst (ys ++ [y])))
      else H4 D = some (.lst ys) ∧ W (i + 1) ys σ3 H4)
section
variable {X : Cx} {sc : Scope} {N' : List Str} {k : Nat} {ixs : List Nat}
theorem comp_block {elt target iter : Expr} {ifs : List Expr} {pos : Pos} {J : It} {g : TG} {c : TT} {te : TE} (C : CompOk X.N X.env.scope.names sc N' k ixs) (hcalm : X.calm = true)
    (hg : ∀ C s₃ H₃ fp pins, PG (blk X sc N' C s₃ H₃ fp pins) target g) (hc : ∀ C s₃ H₃ fp pins, PIfs (blk X sc N' C s₃ H₃ fp pins) ifs c) (he : ∀ C s₃ H₃ fp pins, PE (blk X sc N' C s₃ H₃ fp pins) elt te)
    {pins : List (Addr × Obj)} {σ : St} {H : Hp} {s : Shared} {it : Addr} {fp : List Addr} {tn : Nat → Heap → Prop} {Q : VK} {E : Value → Shared → Prop} (I : Inv X pins σ H s) (T : Turn X.prog X.w X.K target J fp it tn) (st : tn 0 s.heap) (hf : ∀ b ∈ fp, FpOk X pins H b)
    (h : ∀ D, H D = none → ∃ (n : Nat) (W : Nat → List V → St → Hp → Prop), W 0 [] (compStart k ixs σ) (upd H D (.lst [])) ∧ ∀ i ys σ2 H2, W i ys σ2 H2 → H2 D = some (.lst ys) →
      (J.stop i H2 ∧ Q (.ref D) H2) ∨
      (i < n ∧ J.go i H2 ∧ ∀ x H', J.yld i H2 x H' → g x σ2 H' fun σ3 H3 => c σ3 H3 fun b H4 =>
        if b = true then te σ3 H4 fun y H5 => H5 D = some (.lst ys) ∧ ys.length < sizeLine ∧ W (i + 1) (ys ++ [y]) σ3 (upd H5 D (.lst (ys ++ [y])))
        else H4 D = some (.lst ys) ∧ W (i + 1) ys σ3 H4))
    {RR : Value → Addr → Result → Shared → Prop}
    (hRR : ∀ D Cc (H' : Hp) (s' : Shared) (o : Obj) m, Inv X pins σ H' s' → Inv X (pins ++ [(Cc, o)]) σ H' s' → s'.heap.get? Cc = some o → s'.heap.Ns Cc m → H' Cc = none → Cc ≠ X.env.locals → X.s₀.heap.objs.size ≤ Cc →
      (∀ x c, X.env.cells.lookup x = some c → c ≠ Cc) → (∀ p ∈ X.pn ++ pins, p.1 ≠ Cc) → Q (.ref D) H' → RR (.ref D) Cc (.ok .next) s') :
    wpAny (model X.prog X.w) X.A (newList []) (fun acc s₃ => wpAny (model X.prog X.w) X.A (newFunctionEnv sc X.env.globals (cloOf X.env.cells sc.names []) [] X.env.qual none .none (some X.env)) (fun cenv s₄ =>
      codeAny (model X.prog X.w) X.A (.compStart (.ListComp elt [⟨target, iter, ifs, 0⟩] sc pos) 0 (.ref it) acc { cenv with scope := relabel sc X.env }) (RR acc cenv.locals) s₄) E s₃) E s := by
  have fresh := I.hok.fresh (Nat.le_refl s.heap.objs.size)
  obtain ⟨n, W, w0, turn⟩ := h s.heap.objs.size fresh
  have hfD : ∀ b ∈ fp, b ≠ s.heap.objs.size := fun b hb z => by
    obtain ⟨o, e, _⟩ := T.obj _ _ st b hb
    rw [z] at e
    exact absurd (Heap.lt_size e) (Nat.lt_irrefl _)
  have hf3 : ∀ b ∈ fp, FpOk X pins (upd H s.heap.objs.size (.lst [])) b := fun b hb => ⟨by rw [upd_ne (hfD b hb)]; exact (hf b hb).1, (hf b hb).2⟩
  have main : ∀ (s3 : Shared) (h₁ : Heap) (t1 : Nat), Inv X pins σ (upd H s.heap.objs.size (.lst [])) s3 → (∀ b o, s.heap.get? b = some o → s3.heap.get? b = some o) → h₁.Ns s3.heap.objs.size (fun x => ([] : List (Str × Value)).reverse.lookup x) →
      (∀ b o, s3.heap.get? b = some o → h₁.get? b = some o) →
      tn 0 h₁ ∧ codeAny (model X.prog X.w) X.A (.compLoop (.ListComp elt [⟨target, iter, ifs, 0⟩] sc pos) 0 (.ref it) (.ref s.heap.objs.size) (blk X sc N' s3.heap.objs.size s3 (upd H s.heap.objs.size (.lst [])) fp pins).env) (RR (.ref s.heap.objs.size) s3.heap.objs.size) { s3 with heap := h₁, toks := t1 } := by
    intro s3 h₁ t1 I3 k3 hns keep3
    have st3 : tn 0 s3.heap := T.keep _ _ _ st fun b hb o e => k3 b o e
    have ho3 : ∀ b ∈ fp, ∃ o, s3.heap.get? b = some o := fun b hb => let ⟨o, e, _⟩ := T.obj _ _ st3 b hb; ⟨o, e⟩
    have st1 : tn 0 h₁ := T.keep _ _ _ st3 fun b hb o e => keep3 b o e
    have B0 : Inv (blk X sc N' s3.heap.objs.size s3 (upd H s.heap.objs.size (.lst [])) fp pins) [] (compStart k ixs σ) (upd H s.heap.objs.size (.lst [])) { s3 with heap := h₁, toks := t1 } := blk_inv C I3 hf3 ho3 hns keep3
    refine ⟨st1, ?_⟩
    have fpX : ∀ {H' : Hp}, (∀ b ∈ fp, H' b = none) → ∀ b ∈ fp, FpOk (blk X sc N' s3.heap.objs.size s3 (upd H s.heap.objs.size (.lst [])) fp pins) [] H' b := fun {H'} hn b hb => by
      obtain ⟨o, eo⟩ := ho3 b hb
      refine ⟨hn b hb, Nat.ne_of_lt (Heap.lt_size eo), ?_, .inl hb, ?_, ?_⟩
      · intro hm
        rcases List.mem_cons.mp (I3.stkSub b hm) with z | z
        · exact (hf b hb).2.1 z
        · exact (hf b hb).2.2.1 z
      · intro x cc ec
        exact (hf b hb).2.2.2.2.1 x cc (clo_cell C I3 ec).1
      · intro p hp
        exact (hf b hb).2.2.2.2.2 p (by simpa [blk] using hp)
    refine compLoop_any (fun m s' => ∃ i ys σ' H', m = n - i ∧ Inv (blk X sc N' s3.heap.objs.size s3 (upd H s.heap.objs.size (.lst [])) fp pins) [] σ' H' s' ∧ tn i s'.heap ∧ (∀ b ∈ fp, H' b = none) ∧ H' s.heap.objs.size = some (.lst ys) ∧ W i ys σ' H') ?_ n ⟨0, [], _, _, rfl, B0, st1, fun b hb => (hf3 b hb).1, upd_same, w0⟩
    rintro m s4 ⟨i, ys, σ4, H4, rfl, I4, st4, fr4, hD4, w4⟩
    have again : ∀ {i' : Nat} {ys' : List V} {σ7 : St} {H7 : Hp} {s6 s7 : Shared}, i < n → i' = i + 1 → tn i' s6.heap → Inv (blk X sc N' s3.heap.objs.size s3 (upd H s.heap.objs.size (.lst [])) fp pins) ([] ++ pinsAt fp s6.heap) σ7 H7 s7 → H7 s.heap.objs.size = some (.lst ys') → W i' ys' σ7 H7 →
        ∃ m, m < n - i ∧ ∃ i ys σ' H', m = n - i ∧ Inv (blk X sc N' s3.heap.objs.size s3 (upd H s.heap.objs.size (.lst [])) fp pins) [] σ' H' s7 ∧ tn i s7.heap ∧ (∀ b ∈ fp, H' b = none) ∧ H' s.heap.objs.size = some (.lst ys) ∧ W i ys σ' H' := fun {i' ys' σ7 H7 s6 s7} hlt ei st6 I7 hD w => by
      subst ei
      refine ⟨n - (i + 1), by omega, i + 1, ys', σ7, H7, rfl, I7.unpinned, T.keep _ _ _ st6 fun b hb o e => (I7.pin (b, o) (List.mem_append_right _ (List.mem_append_right _ (mem_pinsAt hb e)))).1, fun b hb => ?_, hD, w⟩
      obtain ⟨o, e, _⟩ := T.obj _ _ st6 b hb
      exact (I7.pin (b, o) (List.mem_append_right _ (List.mem_append_right _ (mem_pinsAt hb e)))).2.1
    rcases turn i ys σ4 H4 w4 hD4 with ⟨stop, q⟩ | ⟨hlt, go, step⟩
    · refine thn (T.done (blk X sc N' s3.heap.objs.size s3 (upd H s.heap.objs.size (.lst [])) fp pins) rfl rfl rfl hcalm i [] s4 σ4 H4 _ I4 (fpX fr4) st4 stop) fun r s5 hr5 => ?_
      obtain ⟨hr, I5⟩ := hr5
      subst hr
      have back : Inv X pins σ H4 s5 := I3.call' (ch := fp) I5.os I5.base I5.hok I5.bare fun b hb => ⟨(hf b hb).2.2.2.1, (hf b hb).2.1, (hf b hb).2.2.2.2.1, (hf b hb).2.2.2.2.2⟩
      obtain ⟨mm, hn5, _⟩ := I5.loc
      obtain ⟨o, es, ep, ho, hd, hrest⟩ := id hn5
      have hC : s3.heap.objs.size ≠ X.env.locals := Nat.ne_of_gt I3.lt
      refine hRR s.heap.objs.size s3.heap.objs.size H4 s5 o mm back ?_ ho hn5 I5.free hC I3.sz ?_ ?_ q
      · refine back.pins_of fun p hp => ?_
        rcases List.mem_append.mp hp with z | z
        · exact back.pin p (List.mem_append_right _ z)
        · have e : p = (s3.heap.objs.size, o) := by simpa using z
          subst e
          exact ⟨ho, I5.free, hC, I3.nofs (Nat.le_refl _), fun v z => by rw [hd] at z; cases z⟩
      · intro x c e z
        obtain ⟨v, q⟩ := I3.cell x c e
        have := q.lt
        rw [z] at this
        exact Nat.lt_irrefl _ this
      · intro p hp z
        have := Heap.lt_size (I3.pin p hp).1
        rw [z] at this
        exact Nat.lt_irrefl _ this
    · refine thn (T.item (blk X sc N' s3.heap.objs.size s3 (upd H s.heap.objs.size (.lst [])) fp pins) rfl rfl rfl hcalm i [] s4 σ4 H4 _ I4 (fpX fr4) st4 go) fun r s5 hr5 => ?_
      obtain ⟨u, hr, h5⟩ := hr5
      subst hr
      refine thn h5 fun _ s6 h6 => ?_
      obtain ⟨x, H6, I6, r6, y6, st6, fr6⟩ := h6
      have I6' := I6.pinned (fpX fr6) (T.obj _ _ st6)
      refine wpAny_mono (hg _ _ _ _ _ _ s6 σ4 H6 x u _ I6' r6 (step x H6 y6)) (fun _ s7 h7 => ?_) fun _ _ z => False.elim z
      obtain ⟨σ7, H7, I7, q7⟩ := h7
      refine wpAny_mono (hc _ _ _ _ _ _ s7 σ7 H7 _ I7 q7) (fun ok s8 h8 => ?_) fun _ _ z => False.elim z
      obtain ⟨H8, I8, q8⟩ := h8
      cases ok with
      | false =>
        rw [if_neg Bool.false_ne_true] at q8 ⊢
        exact again hlt rfl st6 I8 q8.1 q8.2
      | true =>
        rw [if_pos rfl] at q8 ⊢
        refine wpAny_mono (he _ _ _ _ _ _ s8 σ7 H8 _ I8 q8) (fun y s9 h9 => ?_) fun _ _ z => False.elim z
        obtain ⟨yv, H9, I9, r9, hD9, hz9, w9⟩ := h9
        refine wpAny_mono (mt_append (X := (blk X sc N' s3.heap.objs.size s3 (upd H s.heap.objs.size (.lst [])) fp pins)) _ s9 σ7 H9 (.ref s.heap.objs.size) [yv] (.ref s.heap.objs.size) [y] (fun _ H' => H' = upd H9 s.heap.objs.size (.lst (ys ++ [yv]))) I9 rfl (.cons r9 .nil) ⟨_, ys, yv, rfl, rfl, hD9, hz9, rfl⟩) (fun _ s10 h10 => ?_) fun _ _ z => False.elim z
        obtain ⟨_, H10, I10, _, e10⟩ := h10
        subst e10
        exact again hlt rfl st6 I10 upd_same w9
  have I3 := I.lnew (ys := []) (its := []) (t' := s.toks) .nil (Nat.zero_le _)
  refine wpAny_newObj_type (wpAny_newFunctionEnv C.cell (by intro y hy; simp at hy) (fun h₁ hns₁ hsb₁ => ?_) C.kind)
  obtain ⟨st1, loop⟩ := main _ h₁ (s.toks + ([] : List (Str × Value)).length) I3 (fun b o e => Heap.get?_push_of_some _ e) hns₁ fun b o e => hsb₁.extBut b o (Nat.ne_of_lt (Heap.lt_size e)) (Heap.get?_push_of_some _ e)
  exact codeAny_compStart_list loop (T.self X.A 0 _ _ _ st1 loop)
theorem pe_comp {elt target iter : Expr} {ifs : List Expr} {pos : Pos} {wi : TI} {g : TG} {c : TT} {te : TE} (C : CompOk X.N X.env.scope.names sc N' k ixs) (hcalm : X.calm = true) (hi : PI X target iter wi)
    (hg : ∀ C s₃ H₃ fp pins, PG (blk X sc N' C s₃ H₃ fp pins) target g) (hc : ∀ C s₃ H₃ fp pins, PIfs (blk X sc N' C s₃ H₃ fp pins) ifs c) (he : ∀ C s₃ H₃ fp pins, PE (blk X sc N' C s₃ H₃ fp pins) elt te)
    (hs : ∀ x, foldedSetIterable iter X.env x = pure x := by intro _; rfl) : PE X (.ListComp elt [⟨target, iter, ifs, 0⟩] sc pos) (tComp wi k ixs g c te) := by
  intro pins s σ H Q I h
  rw [eval_ListComp]
  refine wpAny_comprehension_free (use := none) rfl hs (closureFor_clo fun x hx hf => I.ok.has x.1 (C.free x hx hf)) C.kind C.names (thn (hi pins s σ H _ I h) fun v s1 h1 => thn h1 fun itv s2 h2 => ?_)
  obtain ⟨it, fp, tn, J, H2, e, I2, T, st2, f2, q2⟩ := h2
  subst e
  refine comp_block (RR := fun acc C => compPost (model X.prog X.w) X.A X.xe none (EP X pins σ Q) acc C) C hcalm hg hc he I2 T st2 f2 q2 ?_
  intro D Cc H' s' o m I' _ ho hn hC hL hab hcell hpin q
  exact ⟨m, hn, fun h'' hs'' => ⟨.ref D, H', I'.turned (t' := s'.toks) (fun b o hb e => hs''.extBut b o hb e) hC hL (.inr hab) hcell hpin, rfl, q⟩⟩
end
end L2
set_option maxRecDepth 100000
namespace L2
open PySem PySem.Spec PyProof.Rows
section
variable {X : Cx} {a b : Expr} {ta tb : TE} {pos : Pos} {rest : List Expr}
noncomputable def tTru (K : PySem.W.Frag) (te : TE) : TT := fun σ H Q => te σ H fun x H1 => ∃ k, TruV K x H1 k ∧ Q k H1
theorem pt_tru (ha : PE X a ta) (he : ∀ whole, isTrue a X.env whole = (do let v ← whole; standAt a.pos; holding [v] (truthy v)) := by intro _; rfl) : PT X a (tTru X.K ta) := pt_truth ha he
noncomputable def tNotT (K : PySem.W.Frag) (te : TE) : TE := fun σ H Q => te σ H fun x H1 => ∃ k, TruV K x H1 k ∧ Q (.bl (!k)) H1
theorem pe_notT (ha : PE X a ta) : PE X (.UnaryOp .Not a pos) (tNotT X.K ta) := by
  intro pins s σ H Q I h
  refine UnaryOp_ (thn (ha pins s σ H _ I h) fun v s1 ⟨x, H1, I1, r1, q1⟩ => ?_)
  exact not_of (thn (tru_ok pins s1 σ H1 x v (fun k H2 => Q (.bl (!k)) H2) I1 r1 q1) fun c s2 ⟨H2, I2, q2⟩ => ⟨.bl (!c), H2, I2, rfl, q2⟩)
end
mutual
inductive Dn (K : PySem.W.Frag) (H : Hp) : V → PyData → Prop
  | non : Dn K H .non .none
  | bl (b) : Dn K H (.bl b) (.bool b)
  | int (i) : Dn K H (.int i) (.int i)
  | str (x) : PyData.strOk x = true → Dn K H (.str x) (.str x)
  | lst {a xs ds} : SqL K H a xs → DnAll K H xs ds → Dn K H (.ref a) (.list ds)
  | tup {a xs ds} : SqT K H a xs → DnAll K H xs ds → Dn K H (.ref a) (.tuple ds)
inductive DnAll (K : PySem.W.Frag) (H : Hp) : List V → List PyData → Prop
  | nil : DnAll K H [] []
  | cons {x xs d ds} : Dn K H x d → DnAll K H xs ds → DnAll K H (x :: xs) (d :: ds)
end
section
variable {X : Cx} {pins : List (Addr × Obj)} {σ : St} {H : Hp} {s : Shared}
mutual
theorem Dn.reads {K : PySem.W.Frag} {x : V} {d : PyData} (I : Inv X pins σ H s) (hK : X.K = K) : Dn K H x d → ∀ {u : Value}, RelV x u → d.canLay0 = true ∧ ∃ as, Reads s.heap u d as
  | .non, u, r => by cases r; exact ⟨rfl, _, .none⟩
  | .bl b, u, r => by cases r; exact ⟨rfl, _, .bool b⟩
  | .int i, u, r => by obtain ⟨t, rfl⟩ := r; exact ⟨rfl, _, .int i t⟩
  | .str x hx, u, r => by obtain ⟨t, rfl⟩ := r; exact ⟨hx, _, .str x t⟩
  | .lst (a := a) q hs, u, r => by
    cases r
    subst hK
    obtain ⟨its, rv, ⟨o, n, e, c, _, dd⟩, _⟩ := I.list q
    obtain ⟨h1, as, h2⟩ := DnAll.reads I rfl hs rv
    exact ⟨h1, _, .list e c dd (by simpa using h2)⟩
  | .tup (a := a) q hs, u, r => by
    cases r
    subst hK
    obtain ⟨its, rv, ⟨o, e, c, n, dd⟩, _⟩ := I.tuple q
    obtain ⟨h1, as, h2⟩ := DnAll.reads I rfl hs rv
    exact ⟨h1, _, .tuple e c dd (by simpa using h2)⟩
theorem DnAll.reads {K : PySem.W.Frag} {xs : List V} {ds : List PyData} (I : Inv X pins σ H s) (hK : X.K = K) : DnAll K H xs ds → ∀ {us : List Value}, Vals xs us → PyData.canLayAll0 ds = true ∧ ∃ as, ReadsAll s.heap us ds as
  | .nil, us, r => by cases r; exact ⟨rfl, _, .nil⟩
  | .cons h t, us, r => by
    cases r with
    | cons r1 r2 =>
      obtain ⟨c1, a1, q1⟩ := Dn.reads I hK h r1
      obtain ⟨c2, a2, q2⟩ := DnAll.reads I hK t r2
      exact ⟨by simp [PyData.canLayAll0, c1, c2], _, .cons q1 q2⟩
end
end
mutual
theorem Dn.same {K : PySem.W.Frag} {H H' : Hp} (hs : Same H H') {x : V} {d : PyData} : Dn K H x d → Dn K H' x d
  | .non => .non
  | .bl b => .bl b
  | .int i => .int i
  | .str x h => .str x h
  | .lst q h => .lst (hs.seq q) (DnAll.same hs h)
  | .tup (a := a) (xs := xs) q h => .tup (by
      rcases q with (q | ⟨o, q⟩) | q
      · exact .inl (.inl (hs _ _ q))
      · exact .inl (.inr ⟨o, hs _ _ q⟩)
      · exact .inr q) (DnAll.same hs h)
theorem DnAll.same {K : PySem.W.Frag} {H H' : Hp} (hs : Same H H') {xs : List V} {ds : List PyData} : DnAll K H xs ds → DnAll K H' xs ds
  | .nil => .nil
  | .cons h t => .cons (Dn.same hs h) (DnAll.same hs t)
end
theorem Same.tup {K : PySem.W.Frag} {H H' : Hp} {a : Addr} {xs : List V} (e : Same H H') (h : SqT K H a xs) : SqT K H' a xs := by
  rcases h with (h | ⟨o, h⟩) | h
  · exact .inl (.inl (e _ _ h))
  · exact .inl (.inr ⟨o, e _ _ h⟩)
  · exact .inr h
theorem DnAll.strs {K : PySem.W.Frag} {H : Hp} : ∀ {zs : List Str}, (∀ z ∈ zs, PyData.strOk z = true) → DnAll K H (zs.map V.str) (zs.map PyData.str)
  | [], _ => .nil
  | z :: zs, h => .cons (.str z (h z List.mem_cons_self)) (DnAll.strs fun y hy => h y (List.mem_cons_of_mem _ hy))
theorem eqvAll_strs : ∀ (xs ys : List Str), PyData.eqvAll (xs.map PyData.str) (ys.map PyData.str) = decide (xs = ys)
  | [], [] => by simp [PyData.eqvAll]
  | [], _ :: _ => by simp [PyData.eqvAll]
  | _ :: _, [] => by simp [PyData.eqvAll]
  | x :: xs, y :: ys => by
    rw [List.map_cons, List.map_cons, PyData.eqvAll, eqvAll_strs xs ys]
    rw [show PyData.eqv (.str x) (.str y) = (x == y) by simp [PyData.eqv]]
    by_cases h1 : x = y
    · subst h1; simp
    · simp [h1]
noncomputable def rAddR (K : PySem.W.Frag) (a b : Addr) (H : Hp) (Q : VK) : Prop := rCat (.ref a) (.ref b) H Q ∨ rCatT K (.ref a) (.ref b) H Q
theorem rAddR.l {K : PySem.W.Frag} {a b : Addr} {H : Hp} {Q : VK} {xs ys : List V} (h1 : H a = some (.lst xs)) (h2 : H b = some (.lst ys)) (h3 : xs.length + ys.length ≤ sizeLine) (h : ∀ p, H p = none → Q (.ref p) (upd H p (.lst (xs ++ ys)))) : rAddR K a b H Q := .inl ⟨a, b, xs, ys, rfl, rfl, h1, h2, h3, h⟩
theorem rAddR.t {K : PySem.W.Frag} {a b : Addr} {H : Hp} {Q : VK} {xs ys : List V} (h1 : SqT K H a xs) (h2 : SqT K H b ys) (h0 : xs ≠ []) (h3 : xs.length + ys.length ≤ sizeLine) (he : ys = [] → Q (.ref a) H) (h : ys ≠ [] → ∀ p, H p = none → Q (.ref p) (upd H p (.tup (xs ++ ys)))) : rAddR K a b H Q := .inr ⟨a, b, xs, ys, rfl, rfl, h1, h2, h0, h3, he, h⟩
noncomputable def rAddU (K : PySem.W.Frag) : V → V → Hp → VK → Prop
  | .int i, .int j, H, Q => Q (.int (i + j)) H
  | .str i, .str j, H, Q => i.length + j.length ≤ sizeLine ∧ Q (.str (i ++ j)) H
  | .ref a, .ref b, H, Q => rAddR K a b H Q
  | _, _, _, _ => False
noncomputable def rMulU : V → V → Hp → VK → Prop
  | .int i, .int j, H, Q => CMul i j ∧ Q (.int (i * j)) H
  | .ref a, .int j, H, Q => rRep (.ref a) (.int j) H Q
  | _, _, _, _ => False
noncomputable def rEqU (K : PySem.W.Frag) : V → V → Hp → VK → Prop
  | .int i, .int j, H, Q => Q (.bl (decide (i = j))) H
  | .str i, .str j, H, Q => Q (.bl (decide (i = j))) H
  | .bl i, .bl j, H, Q => Q (.bl (decide (i = j))) H
  | x, y, H, Q => ∃ d e, Dn K H x d ∧ Dn K H y e ∧ min d.depth e.depth ≤ 60 ∧ Q (.bl (PyData.eqv d e)) H
noncomputable def rNeU (K : PySem.W.Frag) : V → V → Hp → VK → Prop
  | .int i, .int j, H, Q => Q (.bl (!decide (i = j))) H
  | .str i, .str j, H, Q => Q (.bl (!decide (i = j))) H
  | .bl i, .bl j, H, Q => Q (.bl (!decide (i = j))) H
  | x, y, H, Q => ∃ d e, Dn K H x d ∧ Dn K H y e ∧ min d.depth e.depth ≤ 60 ∧ Q (.bl (!PyData.eqv d e)) H
noncomputable def rLtU : V → V → Hp → VK → Prop
  | .int i, .int j, H, Q => Q (.bl (decide (i < j))) H
  | .str i, .str j, H, Q => Q (.bl (decide (i.cps.toList < j.cps.toList))) H
  | _, _, _, _ => False
noncomputable def rLeU : V → V → Hp → VK → Prop
  | .int i, .int j, H, Q => Q (.bl (decide (i ≤ j))) H
  | .str i, .str j, H, Q => Q (.bl (!decide (j.cps.toList < i.cps.toList))) H
  | _, _, _, _ => False
noncomputable def rGtU : V → V → Hp → VK → Prop
  | .int i, .int j, H, Q => Q (.bl (decide (j < i))) H
  | .str i, .str j, H, Q => Q (.bl (decide (j.cps.toList < i.cps.toList))) H
  | _, _, _, _ => False
noncomputable def rGeU : V → V → Hp → VK → Prop
  | .int i, .int j, H, Q => Q (.bl (decide (j ≤ i))) H
  | .str i, .str j, H, Q => Q (.bl (!decide (i.cps.toList < j.cps.toList))) H
  | _, _, _, _ => False
noncomputable def rInR (K : PySem.W.Frag) (neg : Bool) (x : V) (p : Addr) (H : Hp) (Q : VK) : Prop := rIn K neg x (.ref p) H Q ∨ ∃ o, DGet H p x o ∧ Q (.bl (neg.xor o.isSome)) H
theorem rInR.l {K : PySem.W.Frag} {neg : Bool} {x : V} {p : Addr} {H : Hp} {Q : VK} {xs : List V} (h1 : SqL K H p xs ∨ SqT K H p xs) (h2 : flatV x = true) (h3 : xs.all flatV = true) (h : Q (.bl (neg.xor (inV x xs))) H) : rInR K neg x p H Q := .inl ⟨p, xs, rfl, h1, h2, h3, by cases neg <;> simpa using h⟩
theorem rInR.d {K : PySem.W.Frag} {neg : Bool} {x : V} {p : Addr} {H : Hp} {Q : VK} {o : Option V} (h1 : DGet H p x o) (h : Q (.bl (neg.xor o.isSome)) H) : rInR K neg x p H Q := .inr ⟨o, h1, h⟩
noncomputable def rInU (K : PySem.W.Frag) (neg : Bool) (x : V) : V → Hp → VK → Prop
  | .str j, H, Q => ∃ i, x = .str i ∧ Q (.bl (neg.xor (!(Builtin.Str.occurrences j i 0 j.length 1).isEmpty))) H
  | .ref p, H, Q => rInR K neg x p H Q
  | _, _, _ => False
section
variable {X : Cx} {pins : List (Addr × Obj)} {σ : St} {H : Hp} {s : Shared}
theorem p_add : OpR X (binaryOp .Add) (rAddU X.K) := by
  intro pins s σ H x y v u Q I rx ry h
  cases x <;> cases y <;> try exact h.elim
  · exact op_add pins s σ H _ _ v u Q I rx ry ⟨_, _, rfl, rfl, h⟩
  · exact op_add_str pins s σ H _ _ v u Q I rx ry ⟨_, _, rfl, rfl, h⟩
  · rcases h with h | h
    · exact op_cat pins s σ H _ _ v u Q I rx ry h
    · exact op_catT pins s σ H _ _ v u Q I rx ry h
theorem p_sub : OpR X (binaryOp .Sub) (rI0 fun i j => .int (i - j)) := op_sub
theorem p_mul : OpR X (binaryOp .Mult) rMulU := by
  intro pins s σ H x y v u Q I rx ry h
  cases x <;> cases y <;> try exact h.elim
  · exact op_mul pins s σ H _ _ v u Q I rx ry ⟨_, _, rfl, rfl, h⟩
  · exact op_rep pins s σ H _ _ v u Q I rx ry h
theorem p_fdiv : OpR X (binaryOp .FloorDiv) (rI CDiv fun i j => .int (i / j)) := op_fdiv
theorem p_mod : OpR X (binaryOp .Mod) (rI (fun _ j => 0 < j) fun i j => .int (i % j)) := op_mod
theorem eq_gen (hu : X.A.units + 64 < cLine) {x y : V} {v u : Value} {Q : VK} (I : Inv X pins σ H s) (rx : RelV x v) (ry : RelV y u)
    (h : ∃ d e, Dn X.K H x d ∧ Dn X.K H y e ∧ min d.depth e.depth ≤ 60 ∧ Q (.bl (PyData.eqv d e)) H) : wpAny (model X.prog X.w) X.A (compareOp .Eq v u) (EP X pins σ Q) X.xe s := by
  obtain ⟨d, e, h1, h2, hd, q⟩ := h
  obtain ⟨c1, as, r1⟩ := h1.reads I rfl rx
  obtain ⟨c2, bs, r2⟩ := h2.reads I rfl ry
  exact SeqAt.compareEq_reads r1 r2 c1 c2 (by omega) ⟨.bl _, H, I, rfl, q⟩
theorem ne_gen (hu : X.A.units + 64 < cLine) {x y : V} {v u : Value} {Q : VK} (I : Inv X pins σ H s) (rx : RelV x v) (ry : RelV y u)
    (h : ∃ d e, Dn X.K H x d ∧ Dn X.K H y e ∧ min d.depth e.depth ≤ 60 ∧ Q (.bl (!PyData.eqv d e)) H) : wpAny (model X.prog X.w) X.A (compareOp .NotEq v u) (EP X pins σ Q) X.xe s := by
  obtain ⟨d, e, h1, h2, hd, q⟩ := h
  obtain ⟨c1, as, r1⟩ := h1.reads I rfl rx
  obtain ⟨c2, bs, r2⟩ := h2.reads I rfl ry
  exact SeqAt.compareNe_reads r1 r2 c1 c2 (by omega) ⟨.bl _, H, I, rfl, q⟩
theorem p_eq (hu : X.A.units + 64 < cLine) : OpR X (compareOp .Eq) (rEqU X.K) := by
  intro pins s σ H x y v u Q I rx ry h
  have sc : ∀ {x y : V}, rEq x y H Q → RelV x v → RelV y u → wpAny (model X.prog X.w) X.A (compareOp .Eq v u) (EP X pins σ Q) X.xe s := fun {x y} h rx ry => op_eq pins s σ H x y v u Q I rx ry h
  cases x with
  | int i => cases y with
    | int j => exact sc (x := .int i) (y := .int j) ⟨rfl, by simpa using (show Q (.bl (decide (i = j))) H from h)⟩ rx ry
    | _ => exact eq_gen hu I rx ry h
  | str i => cases y with
    | str j => exact sc (x := .str i) (y := .str j) ⟨rfl, by simpa using (show Q (.bl (decide (i = j))) H from h)⟩ rx ry
    | _ => exact eq_gen hu I rx ry h
  | bl i => cases y with
    | bl j => exact sc (x := .bl i) (y := .bl j) ⟨rfl, by simpa using (show Q (.bl (decide (i = j))) H from h)⟩ rx ry
    | _ => exact eq_gen hu I rx ry h
  | _ => cases y <;> exact eq_gen hu I rx ry h
theorem p_ne (hu : X.A.units + 64 < cLine) : OpR X (compareOp .NotEq) (rNeU X.K) := by
  intro pins s σ H x y v u Q I rx ry h
  have sc : ∀ {x y : V}, rNe x y H Q → RelV x v → RelV y u → wpAny (model X.prog X.w) X.A (compareOp .NotEq v u) (EP X pins σ Q) X.xe s := fun {x y} h rx ry => op_ne pins s σ H x y v u Q I rx ry h
  cases x with
  | int i => cases y with
    | int j => exact sc (x := .int i) (y := .int j) ⟨rfl, by simpa using (show Q (.bl (!decide (i = j))) H from h)⟩ rx ry
    | _ => exact ne_gen hu I rx ry h
  | str i => cases y with
    | str j => exact sc (x := .str i) (y := .str j) ⟨rfl, by simpa using (show Q (.bl (!decide (i = j))) H from h)⟩ rx ry
    | _ => exact ne_gen hu I rx ry h
  | bl i => cases y with
    | bl j => exact sc (x := .bl i) (y := .bl j) ⟨rfl, by simpa using (show Q (.bl (!decide (i = j))) H from h)⟩ rx ry
    | _ => exact ne_gen hu I rx ry h
  | _ => cases y <;> exact ne_gen hu I rx ry h
theorem p_lt : OpR X (compareOp .Lt) rLtU := by
  intro pins s σ H x y v u Q I rx ry h
  cases x <;> cases y <;> try exact h.elim
  · exact op_lt pins s σ H _ _ v u Q I rx ry ⟨_, _, rfl, rfl, h⟩
  · exact op_lt_str pins s σ H _ _ v u Q I rx ry ⟨_, _, rfl, rfl, h⟩
theorem p_le : OpR X (compareOp .LtE) rLeU := by
  intro pins s σ H x y v u Q I rx ry h
  cases x <;> cases y <;> try exact h.elim
  · exact op_le pins s σ H _ _ v u Q I rx ry ⟨_, _, rfl, rfl, h⟩
  · obtain ⟨t, rfl⟩ := rx
    obtain ⟨t', rfl⟩ := ry
    exact PySem.P.le_str ⟨.bl _, H, I, by simp [RelV], h⟩
theorem p_gt : OpR X (compareOp .Gt) rGtU := by
  intro pins s σ H x y v u Q I rx ry h
  cases x <;> cases y <;> try exact h.elim
  · exact op_gt pins s σ H _ _ v u Q I rx ry ⟨_, _, rfl, rfl, h⟩
  · obtain ⟨t, rfl⟩ := rx
    obtain ⟨t', rfl⟩ := ry
    exact PySem.P.gt_str ⟨.bl _, H, I, rfl, h⟩
theorem p_ge : OpR X (compareOp .GtE) rGeU := by
  intro pins s σ H x y v u Q I rx ry h
  cases x <;> cases y <;> try exact h.elim
  · exact op_ge pins s σ H _ _ v u Q I rx ry ⟨_, _, rfl, rfl, h⟩
  · obtain ⟨t, rfl⟩ := rx
    obtain ⟨t', rfl⟩ := ry
    exact PySem.P.ge_str ⟨.bl _, H, I, by simp [RelV], h⟩
theorem p_in (hu : X.A.units + 64 < cLine) : OpR X (compareOp .In) (rInU X.K false) := by
  intro pins s σ H x y v u Q I rx ry h
  cases y with
  | str j =>
    obtain ⟨i, rfl, q⟩ := h
    exact op_in_str pins s σ H _ _ v u Q I rx ry ⟨i, j, rfl, rfl, by simpa using q⟩
  | ref p =>
    rcases h with h | ⟨o, g, q⟩
    · exact op_in_seq pins s σ H _ _ v u Q I rx ry h
    · obtain rfl : u = Value.ref p := ry
      exact d_in (by omega) I g rx fun s3 I3 => ⟨.bl o.isSome, H, I3, rfl, by simpa using q⟩
  | _ => exact h.elim
noncomputable def cutS (x : Str) (lo hi : Option Int) : Str := ⟨((x.cps.toList.drop (HT.sIx x.length 0 lo)).take (HT.sIx x.length x.length hi - HT.sIx x.length 0 lo)).toArray⟩
noncomputable def rSlS : V → Option Int → Option Int → Hp → VK → Prop := fun x lo hi H Q => ∃ z, x = .str z ∧ z.length ≤ sizeLine ∧ Q (.str (cutS z lo hi)) H
end
end L2
set_option maxRecDepth 100000
namespace L2
open PySem PySem.Spec PyProof.Rows
section
variable {X : Cx}
theorem slice_cut (x : Str) (lo hi : Option Int) : Txt.slice x lo hi = cutS x lo hi := by
  have c1 : ∀ (o : Option Int) (d : Nat), (match o with | none => (d : Int) | some i => if (1 : Int) > 0 then max 0 (min (if i < 0 then i + (x.length : Int) else i) (x.length : Int)) else max (-1) (min (if i < 0 then i + (x.length : Int) else i) ((x.length : Int) - 1))) = ((HT.sIx x.length d o : Nat) : Int) := by
    intro o d
    cases o with
    | none => rfl
    | some i =>
      rw [← HT.clip_eq i x.length d]
      simp only [show ((1 : Int) > 0) = True by simp, if_true]
      split <;> omega
  have h2 : Builtin.Str.strSliceIndices lo hi 1 x.length = Builtin.Str.strSliceIndices (some ((HT.sIx x.length 0 lo : Nat) : Int)) (some ((HT.sIx x.length x.length hi : Nat) : Int)) 1 x.length := by
    have e1 := c1 lo 0
    have e2 := c1 hi x.length
    have e3 := c1 (some ((HT.sIx x.length 0 lo : Nat) : Int)) 0
    have e4 := c1 (some ((HT.sIx x.length x.length hi : Nat) : Int)) x.length
    have l1 := HT.sIx_le x.length 0 (Nat.zero_le _) lo
    have l2 := HT.sIx_le x.length x.length (Nat.le_refl _) hi
    rw [HT.sIx_nat, Nat.min_eq_left l1] at e3
    rw [HT.sIx_nat, Nat.min_eq_left l2] at e4
    unfold Builtin.Str.strSliceIndices
    dsimp only at e3 e4 ⊢
    rw [e3, e4]
    clear e3 e4 l1 l2
    refine congr (congr (congrArg sliceRange ?_) ?_) rfl
    · cases lo with
      | none => exact e1
      | some i => exact e1
    · cases hi with
      | none => exact e2
      | some i => exact e2
  have l1 := HT.sIx_le x.length 0 (Nat.zero_le _) lo
  have l2 := HT.sIx_le x.length x.length (Nat.le_refl _) hi
  unfold Txt.slice cutS
  rw [h2]
  generalize HT.sIx x.length 0 lo = a at *
  generalize HT.sIx x.length x.length hi = b at *
  have len : x.length = x.cps.toList.length := by simp [Str.length]
  by_cases hab : a ≤ b
  · rw [StrLaws.sliced_plain x hab l2, StrLaws.strSliceIndices_plain hab l2]
    split
    · rename_i hc
      have hc' : b - a = x.length := by simpa using hc
      have ha : a = 0 := by omega
      subst ha
      rw [List.drop_zero, List.take_of_length_le (by omega)]
    · rfl
  · have e : Builtin.Str.strSliceIndices (some (a : Int)) (some (b : Int)) 1 x.length = [] := by
      have h1 : ¬ ((a : Int) < 0) := by omega
      have h2 : ¬ ((b : Int) < 0) := by omega
      have e1 : max (0 : Int) (min (a : Int) (x.length : Int)) = a := by omega
      have e2 : max (0 : Int) (min (b : Int) (x.length : Int)) = b := by omega
      simp only [Builtin.Str.strSliceIndices, sliceRange, h1, h2, if_false, e1, e2, show ((1 : Int) > 0) = True from by simp, if_true]
      rw [if_neg (by omega)]
      rfl
    rw [e, show b - a = 0 by omega, List.take_zero]
    split
    · rename_i hc
      have hc' : 0 = x.length := by simpa using hc
      have : x.cps.toList = [] := List.eq_nil_of_length_eq_zero (by omega)
      obtain ⟨⟨l⟩⟩ := x
      simp at this
      subst this
      rfl
    · rfl
theorem sl_str : SlR X rSlS := by
  intro pins s σ H x v vl vu lo hi sl Q I rx hs pl pu h
  obtain ⟨z, rfl, hz, q⟩ := h
  obtain ⟨t, rfl⟩ := rx
  refine ⟨"str", _, F.slot_str_getitem.lookup, typeIs_str _ _ _, ?_⟩
  rw [← slice_cut] at q
  have part : ∀ {u : Value} {o : Option Int}, IsPart u o → ∃ l : Option (Int × Tok), u = partValue l ∧ l.map (·.1) = o := fun {u o} p => by
    cases p with
    | none => exact ⟨none, rfl, rfl⟩
    | int i t => exact ⟨some (i, t), rfl, rfl⟩
  obtain ⟨l, rfl, el⟩ := part pl
  obtain ⟨u, rfl, eu⟩ := part pu
  subst el eu
  refine wpAny_getItem_str_slice (l := l) (u := u) (st := none) hs rfl ?_
  exact post_val_or_str ⟨Nat.le_trans (Txt.slice_le z _ _) hz, fun t' k => ⟨.str _, H, I.tok _, ⟨t', rfl⟩, q⟩⟩
theorem getItem_tuple_all {prog : Program} {w : World} {A : Around} {E : Value → Shared → Prop} {s : Shared} {t sl : Addr} {items : Array Value} {vl vu : Value} {lo hi : Option Int} {Q : Value → Shared → Prop} (ht : IsTup s.heap t items) (hs : s.heap.IsSliceOf sl vl vu .none) (pl : IsPart vl lo) (pu : IsPart vu hi)
    (hw : HT.sIx items.size 0 lo = 0 ∧ HT.sIx items.size items.size hi = items.size) (h : Q (.ref t) s) : wpAny (model prog w) A (getItem (.ref t) (.ref sl)) Q E s := by
  obtain ⟨os, hos, hcs, hds⟩ := id hs
  have hTs : s.TypeIs (.ref sl) "slice" := ⟨os, hos, hcs⟩
  unfold getItem
  try with_reducible refine wpAny_holding ?_
  first | refine wpAny_bind (wpAny_pure ?_) | skip
  refine wpAny_bind (wpAny_sequenceKey ht.typeIs (by decide) ?_)
  refine wpAny_bind (wpAny_callSpecial?_slot (name := Str.ofString "__getitem__") ht.typeIs PyProof.Rows.slot_tuple_getitem
    (wpAny_call_entry PyProof.Rows.slot_tuple_getitem ht.typeIs PyProof.Rows.entry_tuple_getitem ?_ (PyProof.Rows.args_tuple_getitem _ _)))
  show wpAny _ _ (Builtin.Tuple.tupleItemsOf (.ref t) >>= _) _ _ s
  refine wpAny_bind (PyProof.Rows.tupleItemsOf_ ht ?_)
  refine wpAny_bind (wpAny_typeOf hTs ?_)
  rw [if_pos (by decide)]
  refine wpAny_bind (HT.sliceApplied_gen hs pl pu ?_)
  have hyes : ((((HT.sIx items.size 0 lo : Nat) : Int) == 0 && (1 : Int) == 1 && (HT.sIx items.size items.size hi - HT.sIx items.size 0 lo) == items.size) = true) := by
    rw [hw.1, hw.2]
    simp
  show wpAny _ _ (if (((HT.sIx items.size 0 lo : Nat) : Int) == 0 && (1 : Int) == 1 && (HT.sIx items.size items.size hi - HT.sIx items.size 0 lo) == items.size) = true then _ else _) _ _ s
  rw [if_pos hyes]
  refine wpAny_bind ?_
  show wpAny _ _ (typeOf (.ref t) >>= fun v => pure (v == .type "tuple")) _ _ s
  refine wpAny_bind (wpAny_typeOf ht.typeIs (wpAny_pure ?_))
  rw [if_pos (by decide)]
  refine wpAny_bind (wpAny_rule ?_)
  exact wpAny_pure ⟨_, rfl, wpAny_pure h⟩
noncomputable def rSlW (K : PySem.W.Frag) : V → Option Int → Option Int → Hp → VK → Prop := fun x lo hi H Q => ∃ a xs, x = .ref a ∧ SqT K H a xs ∧ (HT.sIx xs.length 0 lo = 0 ∧ HT.sIx xs.length xs.length hi = xs.length) ∧ Q (.ref a) H
theorem sl_all : SlR X (rSlW X.K) := by
  intro pins s σ H x v vl vu lo hi sl Q I rx hs pl pu h
  obtain ⟨a, xs, rfl, hx, hw, q⟩ := h
  cases rx
  obtain ⟨its, r, ht, hz⟩ := I.tuple hx
  have hlen : its.toArray.size = xs.length := by rw [List.size_toArray]; exact r.length.symm
  refine ⟨"tuple", _, PyProof.Rows.slot_tuple_getitem.lookup, ht.typeIs, ?_⟩
  exact getItem_tuple_all ht hs pl pu (by rw [hlen]; exact hw) ⟨.ref a, H, I, rfl, q⟩
noncomputable def rSlR (K : PySem.W.Frag) (a : Addr) (lo hi : Option Int) (H : Hp) (Q : VK) : Prop := rSlL K (.ref a) lo hi H Q ∨ rSlT K (.ref a) lo hi H Q ∨ rSlW K (.ref a) lo hi H Q
theorem rSlR.l {K : PySem.W.Frag} {a : Addr} {lo hi : Option Int} {H : Hp} {Q : VK} {xs : List V} (h1 : SqL K H a xs) (h : ∀ p, H p = none → Q (.ref p) (upd H p (.lst (cutV xs lo hi)))) : rSlR K a lo hi H Q := .inl ⟨a, xs, rfl, h1, h⟩
theorem rSlR.t {K : PySem.W.Frag} {a : Addr} {lo hi : Option Int} {H : Hp} {Q : VK} {xs : List V} (h1 : SqT K H a xs) (h2 : ¬ (HT.sIx xs.length 0 lo = 0 ∧ HT.sIx xs.length xs.length hi = xs.length)) (h : ∀ p, H p = none → Q (.ref p) (upd H p (.tup (cutV xs lo hi)))) : rSlR K a lo hi H Q := .inr (.inl ⟨a, xs, rfl, h1, h2, h⟩)
theorem rSlR.w {K : PySem.W.Frag} {a : Addr} {lo hi : Option Int} {H : Hp} {Q : VK} {xs : List V} (h1 : SqT K H a xs) (h2 : HT.sIx xs.length 0 lo = 0 ∧ HT.sIx xs.length xs.length hi = xs.length) (h : Q (.ref a) H) : rSlR K a lo hi H Q := .inr (.inr ⟨a, xs, rfl, h1, h2, h⟩)
noncomputable def rSlU (K : PySem.W.Frag) : V → Option Int → Option Int → Hp → VK → Prop
  | .str z, lo, hi, H, Q => z.length ≤ sizeLine ∧ Q (.str (cutS z lo hi)) H
  | .ref a, lo, hi, H, Q => rSlR K a lo hi H Q
  | _, _, _, _, _ => False
theorem p_sl : SlR X (rSlU X.K) := by
  intro pins s σ H x v vl vu lo hi sl Q I rx hs pl pu h
  cases x with
  | str z => exact sl_str pins s σ H _ v vl vu lo hi sl Q I rx hs pl pu ⟨z, rfl, h⟩
  | ref a =>
    rcases h with h | h | h
    · exact sl_list pins s σ H _ v vl vu lo hi sl Q I rx hs pl pu h
    · exact sl_tup pins s σ H _ v vl vu lo hi sl Q I rx hs pl pu h
    · exact sl_all pins s σ H _ v vl vu lo hi sl Q I rx hs pl pu h
  | _ => exact h.elim
noncomputable def LenR (K : PySem.W.Frag) (H : Hp) (p : Addr) (n : Nat) : Prop := (∃ xs, SqL K H p xs ∧ n = xs.length) ∨ (∃ xs, SqT K H p xs ∧ n = xs.length) ∨ ∃ kvs, Rd H p (.dK kvs) ∧ n = kvs.length
noncomputable def rLenU (K : PySem.W.Frag) : List V → Hp → VK → Prop
  | [.str z], H, Q => z.length ≤ sizeLine ∧ Q (.int z.length) H
  | [.ref p], H, Q => ∃ n : Nat, LenR K H p n ∧ Q (.int n) H
  | _, _, _ => False
theorem p_len : CallR X (.builtin "len") (rLenU X.K) := by
  intro pins s σ H xs us Q I r h
  match xs, h with
  | [.str z], h => exact call_len pins s σ H _ us Q I r ⟨.str z, z.length, rfl, ⟨h.1, rfl⟩, h.2⟩
  | [.ref p], ⟨n, l, q⟩ =>
    rcases l with ⟨xs, l, rfl⟩ | ⟨xs, l, rfl⟩ | ⟨kvs, l, rfl⟩
    · exact call_len pins s σ H _ us Q I r ⟨.ref p, _, rfl, .inl ⟨xs, l, rfl⟩, q⟩
    · exact call_len pins s σ H _ us Q I r ⟨.ref p, _, rfl, .inr ⟨xs, l, rfl⟩, q⟩
    · obtain ⟨u, rfl, ru⟩ := vals1 r
      cases ru
      exact d_len I l fun t s' I' => ⟨.int kvs.length, H, I', ⟨t, rfl⟩, q⟩
noncomputable def rListR (K : PySem.W.Frag) (calm : Bool) (p : Addr) (H : Hp) (Q : VK) : Prop := (∃ ys, (SqL K H p ys ∨ SqT K H p ys) ∧ ∀ l, H l = none → Q (.ref l) (upd H l (.lst ys))) ∨ (calm = true ∧ ∃ kvs, Rd H p (.dK kvs) ∧ ∀ l, H l = none → Q (.ref l) (upd H l (.lst (kvs.map fun kv => kV kv.1))))
theorem rListR.l {K : PySem.W.Frag} {calm : Bool} {p : Addr} {H : Hp} {Q : VK} {ys : List V} (h1 : SqL K H p ys ∨ SqT K H p ys) (h : ∀ l, H l = none → Q (.ref l) (upd H l (.lst ys))) : rListR K calm p H Q := .inl ⟨ys, h1, h⟩
theorem rListR.d {K : PySem.W.Frag} {p : Addr} {H : Hp} {Q : VK} {kvs : List (Key × V)} (h1 : Rd H p (.dK kvs)) (h : ∀ l, H l = none → Q (.ref l) (upd H l (.lst (kvs.map fun kv => kV kv.1)))) : rListR K true p H Q := .inr ⟨rfl, kvs, h1, h⟩
noncomputable def rListU (K : PySem.W.Frag) (calm : Bool) : List V → Hp → VK → Prop
  | [.ref p], H, Q => rListR K calm p H Q
  | _, _, _ => False
noncomputable def rAllB (calm : Bool) : List V → Hp → VK → Prop
  | [.ref p], H, Q => ∃ bs : List Bool, calm = true ∧ H p = some (.lst (bs.map V.bl)) ∧ Q (.bl (bs.all id)) H
  | _, _, _ => False
theorem p_all : CallR X (.builtin "all") (rAllB X.calm) := by
  intro pins s σ H xs us Q I r h
  match xs, h with
  | [.ref p], ⟨bs, hc, hp, q⟩ =>
    obtain ⟨u, rfl, rx⟩ := vals1 r
    cases rx
    obtain ⟨z, its, n, rv, hl, e⟩ := I.lstM hp
    have pl : s.heap.IsList p its.toArray := ⟨_, e, rfl, n, rfl⟩
    refine call_all_walk (wpAny_pyIter_list pl ?_)
    have hne : p ≠ s.heap.objs.size := Nat.ne_of_lt (Heap.lt_size e)
    have hk : ∀ b o, s.heap.get? b = some o → (s.heap.push { cls := .type "list_iterator", data := .fields #[.ref p, .int 0 0] }).get? b = some o := fun b o q => Heap.get?_push_of_some _ q
    refine ⟨_, _, _, _, _, _, fun i => (bs[i]?).getD true, rfl, Walks.list (show X.A.in1.handled = none from I.ok.hd hc) s.heap.objs.size p hne its.toArray, ⟨⟨_, Heap.get?_push_size _ rfl, rfl, rfl⟩, pl.at fun o q => hk p o q⟩, ?_, ?_⟩
    · intro i v s' Q' E' hv hq
      have hv' : its[i]? = some v := by simpa using hv
      have hb : ∃ b, bs[i]? = some b ∧ v = .bool b := by
        cases eb : (bs.map V.bl)[i]? with
        | none =>
          have := rv.none_of eb
          rw [hv'] at this
          cases this
        | some y =>
          obtain ⟨u, h1, h2⟩ := rv.get eb
          rw [hv'] at h1
          cases h1
          rw [List.getElem?_map] at eb
          cases e3 : bs[i]? with
          | none => rw [e3] at eb; cases eb
          | some b =>
            rw [e3] at eb
            cases eb
            exact ⟨b, rfl, h2⟩
      obtain ⟨b, e1, rfl⟩ := hb
      have hq : Q' ((bs[i]?).getD true) s' := hq
      rw [e1] at hq
      exact wpAny_truthy_bool hq
    · intro h' tk hkeep
      have e1 : (List.range its.toArray.size).all (fun i => (bs[i]?).getD true) = bs.all id := by
        have hl2 : its.toArray.size = bs.length := by simpa using hl.symm
        rw [hl2, Bool.eq_iff_iff, List.all_eq_true, List.all_eq_true]
        constructor
        · intro h b hb
          obtain ⟨i, hi, rfl⟩ := List.mem_iff_getElem.mp hb
          have := h i (List.mem_range.mpr hi)
          simpa [hi] using this
        · intro h i hi
          have hi' := List.mem_range.mp hi
          simpa [hi'] using h bs[i] (List.getElem_mem hi')
      refine ⟨.bl (bs.all id), H, I.kept (t' := tk) fun b o q => hkeep b o ?_ (hk b o q), by rw [e1]; rfl, q⟩
      intro hb
      have : b = s.heap.objs.size := by simpa using hb
      rw [this] at q
      exact absurd (Heap.lt_size q) (Nat.lt_irrefl _)
noncomputable def tyS (H : Hp) : V → Option String
  | .non => some "NoneType"
  | .bl _ => some "bool"
  | .int _ => some "int"
  | .str _ => some "str"
  | .ref a => match H a with
    | some (.lst _) => some "list"
    | some (.frz _ (.lst _)) => some "list"
    | some (.tup _) => some "tuple"
    | some (.dK _) => some "dict"
    | _ => none
  | _ => none
noncomputable def isB (T n : String) : Bool := T == n || (T == "bool" && n == "int")
noncomputable def isTys : List String := ["str", "int", "bool", "list", "tuple", "dict"]
noncomputable def rIsi : List V → Hp → VK → Prop
  | [x, .ty n], H, Q => ∃ T, tyS H x = some T ∧ isTys.contains n = true ∧ Q (.bl (isB T n)) H
  | _, _, _ => False
theorem tyS_of {K : PySem.W.Frag} {H : Hp} {x : V} {T : String} (h : tyS H x = some T) : TyOf K H x (.type T) ∧ ["NoneType", "bool", "int", "str", "list", "tuple", "dict"].contains T = true := by
  cases x with
  | non => cases h; exact ⟨.non, by decide⟩
  | bl b => cases h; exact ⟨.bl b, by decide⟩
  | int i => cases h; exact ⟨.int i, by decide⟩
  | str z => cases h; exact ⟨.str z, by decide⟩
  | ref a =>
    unfold tyS at h
    dsimp only at h
    cases e : H a with
    | none => rw [e] at h; cases h
    | some o =>
      rw [e] at h
      cases o with
      | lst xs => cases h; exact ⟨.lst e, by decide⟩
      | tup xs => cases h; exact ⟨.tup e, by decide⟩
      | dK kvs => cases h; exact ⟨.dK e, by decide⟩
      | frz ob u =>
        cases u with
        | lst xs => cases h; exact ⟨.frz e, by decide⟩
        | _ => cases h
      | _ => cases h
  | _ => cases h
theorem kit_tys (K : PySem.W.Frag) : ∀ T ∈ ["NoneType", "bool", "int", "str", "list", "tuple", "dict"], ∀ n ∈ isTys, PySem.W.kitOne K (.type T) (.type n) = some (isB T n) := by
  intro T hT n hn
  simp only [List.mem_cons, List.not_mem_nil, or_false, isTys] at hT hn
  rcases hT with rfl | rfl | rfl | rfl | rfl | rfl | rfl <;> rcases hn with rfl | rfl | rfl | rfl | rfl | rfl <;> rfl
theorem call_isi : CallR X (.builtin "isinstance") rIsi := by
  intro pins s σ H xs us Q I r h
  match xs, h with
  | [x, .ty n], ⟨T, h1, h2, q⟩ =>
    obtain ⟨u, c, rfl, ru, rc⟩ := vals2 r
    obtain rfl : c = Value.type n := rc
    obtain ⟨h3, h4⟩ := tyS_of (K := X.K) h1
    exact isinst_ok I ru h3 (kit_tys X.K T (by simpa using h4) n (by simpa using h2)) fun tk => ⟨.bl _, H, I.tok tk, rfl, q⟩
noncomputable def rOrd : List V → Hp → VK → Prop
  | [.str z], H, Q => z.length = 1 ∧ Q (.int (z.cps.getD 0 0 : Nat)) H
  | _, _, _ => False
theorem p_ord : CallR X (.builtin "ord") rOrd := by
  intro pins s σ H xs us Q I r h
  match xs, h with
  | [.str z], h => exact call_ord pins s σ H _ us Q I r ⟨z, rfl, h⟩
noncomputable def Its (x : Str) : It := ⟨fun i _ => i < x.cps.size, fun i H v H' => H' = H ∧ ∃ c, x.cps.toList[i]? = some c ∧ v = .str ⟨#[c]⟩, fun i _ => x.cps.size ≤ i⟩
theorem turn_str {P : Program} {w : World} {K : PySem.W.Frag} {tg : Expr} {ty : String} (hty : ty = "str_ascii_iterator" ∨ ty = "str_iterator") (it : Addr) (x : Str) (t : Tok) : Turn P w K tg (Its x) [it] it (fun i h => h.IsStrIter it ty x t i) where
  mem := by simp
  obj := fun i h st b hb => by
    have e : b = it := by simpa using hb
    subst e
    obtain ⟨o, e, c, d⟩ := st
    exact ⟨o, e, fun v z => by rw [d] at z; cases z⟩
  keep := fun i h h' st k => let ⟨o, e, r⟩ := st; ⟨o, k it (by simp) o e, r⟩
  item := by
    intro X hP hw hK hc i pins s σ H E I hf st hg
    subst hP hw hK
    obtain ⟨f0, f1, f2, f3, f4, f5⟩ := hf it (by simp)
    have hg' : i < x.cps.size := hg
    have go : ∀ h', h'.IsStrIter it ty x t (i + 1) → Heap.SameBut it s.heap h' → ∃ u, some (Value.str ⟨#[x.cps[i]]⟩ s.toks) = some u ∧
        wpAny (model X.prog X.w) X.A (letOwnedTupleGo tg (.ref it) u) (fun _ s2 => ∃ y H', Inv X pins σ H' s2 ∧ RelV y u ∧ (Its x).yld i H y H' ∧ s2.heap.IsStrIter it ty x t (i + 1) ∧ ∀ b ∈ [it], H' b = none) E { s with heap := h', toks := s.toks + 1 } := by
      intro h' st' sb
      have I1 : Inv X pins σ H { s with heap := h', toks := s.toks + 1 } := I.turned (t' := s.toks + 1) (fun b o hb e => (sb.2 b hb).trans e) f0 f1 f3 f4 f5
      obtain ⟨o, e, c, d⟩ := id st'
      refine ⟨_, rfl, go_of (s := { s with heap := h', toks := s.toks + 1 }) e c d (by rcases hty with rfl | rfl <;> decide) ⟨.str ⟨#[x.cps[i]]⟩, H, I1, ⟨_, rfl⟩, ⟨rfl, x.cps[i], ?_, rfl⟩, st', fun b hb => (hf b hb).1⟩⟩
      simp [hg']
    rcases hty with rfl | rfl
    · exact wpAny_pyNext_ascii_item st (c := x.cps[i]) (by simp [hg']) go
    · exact wpAny_pyNext_wide_item st (c := x.cps[i]) (by simp [hg']) go
  done := by
    intro X hP hw hK hc i pins s σ H E I hf st hg
    subst hP hw hK
    obtain ⟨f0, f1, f2, f3, f4, f5⟩ := hf it (by simp)
    have hg' : x.cps.size ≤ i := hg
    have fin : ∀ h', Heap.ExtBut it s.heap h' → (none : Option Value) = none ∧ Inv X pins σ H { s with heap := h' } := fun h' eb => ⟨rfl, I.turned (t' := s.toks) (fun b o hb e => eb b o hb e) f0 f1 f3 f4 f5⟩
    rcases hty with rfl | rfl
    · exact wpAny_pyNext_ascii_end (I.ok.hd hc) st (by simp [hg']) fin
    · exact wpAny_pyNext_wide_end (I.ok.hd hc) st (by simp [hg']) fin
  self := fun A i s Q E st h => by
    rcases hty with rfl | rfl
    · exact wpAny_pyIter_striter_ascii st h
    · exact wpAny_pyIter_striter_wide st h
noncomputable def iStr (tl : TE) : TI := fun σ H R => tl σ H fun x H1 => ∃ z, x = .str z ∧ R (Its z) H1
variable {tg : Expr}
theorem pi_str {l : Expr} {tl : TE} (hl : PE X l tl) : PI X tg l (iStr tl) := by
  intro pins s σ H R I h
  refine thn (hl pins s σ H _ I h) fun v s1 ⟨x, H1, I1, r1, q1⟩ => ?_
  obtain ⟨z, rfl, q⟩ := q1
  obtain ⟨t, rfl⟩ := r1
  have fin : ∀ (ty : String) (hty : ty = "str_ascii_iterator" ∨ ty = "str_iterator"), PIE X pins σ tg R (.ref s1.heap.objs.size) { s1 with heap := s1.heap.push { cls := .type ty, data := .fields #[.str z t, .int 0 0] } } := fun ty hty => by
    refine ⟨s1.heap.objs.size, [s1.heap.objs.size], _, _, H1, rfl, I1.kept (t' := s1.toks) fun b o e => Heap.get?_push_of_some _ e, turn_str hty s1.heap.objs.size z t, ⟨_, Heap.get?_push_size _ rfl, rfl, rfl⟩, fun b hb => ?_, q⟩
    have e : b = s1.heap.objs.size := by simpa using hb
    subst e
    exact I1.fpOk (Nat.le_refl _) (I1.hok.fresh (Nat.le_refl _))
  cases ha : z.cps.all (· < 128)
  · exact wpAny_pyIter_wide ha (fin _ (.inr rfl))
  · exact wpAny_pyIter_ascii ha (fin _ (.inl rfl))
end
end L2
set_option maxRecDepth 100000
namespace L2
open PySem PySem.Spec PyProof.Rows
noncomputable def isStar : Expr → Bool
  | .Starred _ _ => true
  | _ => false
noncomputable def noStars (es : List Expr) : Bool := es.all fun e => !isStar e
theorem star_cons {e : Expr} {es : List Expr} {env : Env} (h : isStar e = false) : starEach (e :: es) env = (false, eval e env) :: starEach es env := by
  cases e <;> first | rfl | cases h
theorem star_any {pos : Pos} {env : Env} : ∀ {es : List Expr}, noStars es = true → (backTo pos (starEach es env)).any (·.1) = false
  | [], _ => rfl
  | e :: es, h => by
    have h' : (!isStar e && noStars es) = true := h
    rw [Bool.and_eq_true] at h'
    rw [star_cons (by simpa using h'.1)]
    have ih := star_any (pos := pos) (env := env) h'.2
    unfold backTo at ih ⊢
    rw [List.map_cons, List.any_cons, ih]
    rfl
theorem star_all {pos : Pos} {env : Env} : ∀ {es : List Expr}, noStars es = true → (backTo pos (starEach es env)).all (fun x => !x.1) = true
  | [], _ => rfl
  | e :: es, h => by
    have h' : (!isStar e && noStars es) = true := h
    rw [Bool.and_eq_true] at h'
    rw [star_cons (by simpa using h'.1)]
    have ih := star_all (pos := pos) (env := env) h'.2
    unfold backTo at ih ⊢
    rw [List.map_cons, List.all_cons, ih]
    rfl
section
variable {X : Cx} {e : Expr} {es : List Expr} {te : TE} {t : TA} {x : Str} {p pos : Pos} {id T : String} {r : List V → Hp → VK → Prop}
theorem pa_c (ha : PE X e te) (hr : PA X es t) (h : isStar e = false := by rfl) : PA X (e :: es) (tCons te t) := pa_cons ha hr (star_cons h)
theorem pe_cB (hc : CallR X (.builtin id) r) (hg : Gl X x) (hm : X.mg x = none) (hv : bootBuiltins x = some (.builtin id)) (ha : PA X (e :: es) t) (h1 : isStar e = false := by rfl) (h2 : noStars es = true := by rfl) (hn : x ≠ "__name__" := by decide) (hdb : (x == ("__debug__" : Str)) = false := by decide) :
    PE X (.Call (.Name x p) (e :: es) [] pos) (tCB r t) := pe_callB hc hg hm hv ha hn hdb (star_cons h1) (star_any h2)
theorem pe_cT (hc : CallR X (.type T) r) (hg : Gl X x) (hm : X.mg x = none) (hv : bootBuiltins x = some (.type T)) (ha : PA X (e :: es) t) (h1 : isStar e = false := by rfl) (h2 : noStars es = true := by rfl) (hn : x ≠ "__name__" := by decide) (hdb : (x == ("__debug__" : Str)) = false := by decide) :
    PE X (.Call (.Name x p) (e :: es) [] pos) (tCB r t) := pe_callTy hc hg hm hv ha hn hdb (star_cons h1) (star_any h2)
variable {o : Expr} {to : TE} {name : Str} {apos cpos : Pos} {rm : V → List V → Hp → VK → Prop}
theorem pe_mB (pa : PlainAttrs T) (slot : Slot T name id) (hty : typeOf (.builtin id) = pure (.type "method_descriptor")) (hm : MtR X id rm) (ho : PE X o to) (ha : PA X (e :: es) t) (h1 : isStar e = false := by rfl) (h2 : noStars es = true := by rfl) (h3 : decide ((e :: es).length < 30) = true := by rfl)
    (hbase : attributeBase o name X.env (eval o X.env) = eval o X.env := by rfl) (hline : (apos.endLine == cpos.line) = true := by rfl) : PE X (.Call (.Attribute o name apos) (e :: es) [] cpos) (tBM X.K T rm to t) :=
  pe_bm pa slot hty hm ho ha hbase (by
    rw [star_all (show noStars (e :: es) = true by show (!isStar e && noStars es) = true; rw [h1, h2]; rfl)]
    have h3' : (e :: es).length < 30 := of_decide_eq_true h3
    simp only [List.isEmpty_nil, if_true, List.length_nil, Nat.add_zero, Bool.true_and]
    rw [decide_eq_true h3']
    rfl) hline (star_cons h1) (star_any h2)
variable {tg a b : Expr} {ta : TA}
theorem pi_r1 (hg : Gl X "range") (hm : X.mg "range" = none) (ha : PA X [a] ta) (h1 : isStar a = false := by rfl) : PI X tg (.Call (.Name "range" p) [a] [] pos) (iRng1 ta) := pi_range1 hg hm ha (by rw [star_cons h1]; rfl)
end
noncomputable def FO (P : Program) (w : World) (K : PySem.W.Frag) (mg : Str → Option Value) (base : Heap) (k : Nat) (x : Str) (ps : List Str) (dvs : List V) (sp : Sp) : Prop :=
  ∃ f fd, FnOk P w K mg base CX0 k f fd ps sp ∧ mg x = some (.ref f) ∧ PySem.W.keepIn K (.ref f) = true ∧ ∃ ds, Binds K fd ps ds ∧ Vals dvs ds
structure FunD (K : PySem.W.Frag) (x qual : Str) (st : Stmt) (f : Addr) (fd : FuncData) : Prop where
  ex : ∃ (oc : Value) (od : Option Addr) (dV kV doc pm : Value) (an : Option Addr) (cdv ct : Value) (osl : Array (Option Value)),
    fd = PySem.W.fnOf x qual (defArgs st) (defBody st) (defScope st) dV kV doc pm an cdv ct ∧ K.lookup f = some ⟨oc, od, .func fd, osl⟩ ∧ PySem.W.codeIn K cdv qual = true
section
variable {P : Program} {w : World} {K : PySem.W.Frag} {mg : Str → Option Value} {base : Heap}
theorem FunD.ok {x qual : Str} {st : Stmt} {f : Addr} {fd : FuncData} {N ps : List Str} {k : Nat} {sp : Sp} (F : FunD K x qual st f fd) (S : FnScope N ps (defScope st)) (len : ∀ vs H Q E, sp vs H Q E → vs.length = ps.length)
    (hbody : ∀ (cdv : Value) (A : Around) (outer : List Env) (s : Shared) (H : Hp) (vs : List V) (Q : VK) (E : XK), Room k (A.deeper (envOfC qual (defScope st) s.heap.objs.size f cdv)) → sp vs H Q E →
      ∃ t, PSs (cxOf CX0 P w K mg base N qual (defScope st) f cdv A outer s H E).nox (defBody st) t ∧ t { nx := fun _ H' => Q .non H', rt := Q } (start N vs) H) : FnOk P w K mg base CX0 (k + 1) f fd ps sp := by
  obtain ⟨oc, od, dV, kV, doc, pm, an, cdv, ct, osl, rfl, lk, hcd⟩ := F.ex
  refine fn_of lk hcd S len fun A outer s H vs Q E hr hsp => ?_
  obtain ⟨t, h, q⟩ := hbody cdv A outer s H vs Q E hr hsp
  exact ⟨t, h.nox, q⟩
theorem funD_mk {x qual : Str} {st : Stmt} {f : Addr} {oc : Value} {od an : Option Addr} {osl : Array (Option Value)} {dV kV doc pm cdv ct : Value} (l : K.lookup f = some ⟨oc, od, .func (PySem.W.fnOf x qual (defArgs st) (defBody st) (defScope st) dV kV doc pm an cdv ct), osl⟩)
    (c : PySem.W.codeIn K cdv qual = true) : FunD K x qual st f (PySem.W.fnOf x qual (defArgs st) (defBody st) (defScope st) dV kV doc pm an cdv ct) := ⟨oc, od, dV, kV, doc, pm, an, cdv, ct, osl, rfl, l, c⟩
end
section
variable {X : Cx} {k : Nat} {ps : List Str} {sp : Sp} {dvs : List V} {x : Str} {p pos : Pos} {e : Expr} {es : List Expr} {t : TA}
theorem pe_callF (G : FO X.prog X.w X.K X.mg X.base k x ps dvs sp) (hr : Room k X.A) (ha : PA X (e :: es) t) (hg : Gl X x := by rfl) (h1 : isStar e = false := by rfl) (h2 : noStars es = true := by rfl) (hdb : (x == ("__debug__" : Str)) = false := by decide) : PE X (.Call (.Name x p) (e :: es) [] pos) (tCall sp dvs E0 t) := by
  obtain ⟨f, fd, F, hm, hk, ds, hb, hd⟩ := G
  exact pe_call F hr hg hm hk hb hd pass0 ha hdb (star_cons h1) (star_any h2)
theorem pe_globI {i : Int} (h : ∃ t, X.mg x = some (.int i t)) (hg : Gl X x := by rfl) (hd : (x == ("__debug__" : Str)) = false := by decide) : PE X (.Name x p) (tC (.int i)) := by
  obtain ⟨t, h⟩ := h
  exact pe_glob hg h ⟨t, rfl⟩ hd
theorem pe_globR {a : Addr} (h : X.mg x = some (.ref a)) (hg : Gl X x := by rfl) (hd : (x == ("__debug__" : Str)) = false := by decide) : PE X (.Name x p) (tC (.ref a)) := pe_glob hg h rfl hd
end
section
variable {σ : St} {H : Hp} {Q : VK} {B : Bool → Hp → Prop} {ta tb tc te : TE} {t u : TS} {tt uu : TT} {D : Ends} {i : Nat} {v : V} {r r' : R2} {K : PySem.W.Frag} {taa : TA} {R : List V → Hp → Prop} {g : TG}
theorem ap_var : tVar i σ H Q = ∃ v, (σ[i]?).join = some v ∧ Q v H := by
  unfold tVar
  refine propext ⟨fun ⟨v, h, q⟩ => ⟨v, by rw [h]; rfl, q⟩, fun ⟨v, h, q⟩ => ⟨v, ?_, q⟩⟩
  cases e : σ[i]? with
  | none => rw [e] at h; cases h
  | some o => rw [e] at h; exact congrArg some h
theorem ap_c : tC v σ H Q = Q v H := rfl
theorem ap_op : tOp r ta tb σ H Q = ta σ H fun x H1 => tb σ H1 fun y H2 => r x y H2 Q := rfl
theorem ap_un {ru : V → Hp → VK → Prop} : tUn ru ta σ H Q = ta σ H fun x H1 => ru x H1 Q := rfl
theorem ap_rU {f : Int → V} {x : V} : rU f x H Q = ∃ i, x = .int i ∧ Q (f i) H := rfl
theorem ap_test : tTest ta σ H B = ta σ H fun x H' => ∃ k, x = .bl k ∧ B k H' := rfl
theorem ap_tB : tB ta σ H B = ta σ H fun x H' => ∃ k, x = .bl k ∧ B k H' := rfl
theorem ap_tTru : tTru K ta σ H B = ta σ H fun x H' => ∃ k, TruV K x H' k ∧ B k H' := rfl
theorem ap_notT : tNotT K ta σ H Q = ta σ H fun x H' => ∃ k, TruV K x H' k ∧ Q (.bl (!k)) H' := rfl
theorem ap_chain : tChain r r' ta tb tc σ H Q = ta σ H fun x H1 => tb σ H1 fun y H2 => r x y H2 fun z H3 => ∃ k, z = .bl k ∧ (if k = true then tc σ H3 fun w' H4 => r' y w' H4 Q else Q (.bl false) H3) := rfl
theorem ap_and : tAnd tt uu σ H B = tt σ H fun c H1 => if c = true then uu σ H1 B else B false H1 := rfl
theorem ap_or : tOr tt uu σ H B = tt σ H fun c H1 => if c = true then B true H1 else uu σ H1 B := rfl
theorem ap_not : tNot tt σ H B = tt σ H fun c H1 => B (!c) H1 := rfl
theorem ap_andV : tAndV ta tb σ H Q = ta σ H fun x H1 => ∃ c, x = .bl c ∧ if c = true then tb σ H1 Q else Q (.bl false) H1 := rfl
theorem ap_orV : tOrV ta tb σ H Q = ta σ H fun x H1 => ∃ c, x = .bl c ∧ if c = true then Q (.bl true) H1 else tb σ H1 Q := rfl
theorem ap_notV : tNotV ta σ H Q = ta σ H fun x H1 => ∃ c, x = .bl c ∧ Q (.bl (!c)) H1 := rfl
theorem ap_if : tIf tt ta tb σ H Q = tt σ H fun c H1 => if c = true then ta σ H1 Q else tb σ H1 Q := rfl
theorem ap_next : tNext D σ H = D.nx σ H := rfl
theorem ap_seq : tSeq t u D σ H = t { D with nx := u D } σ H := rfl
theorem ap_break : tBreak D σ H = D.bk σ H := rfl
theorem ap_cont : tCont D σ H = D.ct σ H := rfl
theorem ap_drop : tDrop te D σ H = te σ H fun _ H1 => D.nx σ H1 := rfl
theorem ap_ret : tRet te D σ H = te σ H D.rt := rfl
theorem ap_retN : tRetN D σ H = D.rt .non H := rfl
theorem ap_ifS : tIfS tt t u D σ H = tt σ H fun b H1 => if b = true then t D σ H1 else u D σ H1 := rfl
theorem ap_never : tNever D σ H = False := rfl
theorem ap_name {Z : St → Hp → Prop} : gName i v σ H Z = Z (σ.set i (some v)) H := rfl
theorem ap_gnil {vs : List V} {Z : St → Hp → Prop} : gNil vs σ H Z = (vs = [] ∧ Z σ H) := rfl
theorem ap_gcons {us : TGs} {vs : List V} {Z : St → Hp → Prop} : gCons g us vs σ H Z = ∃ v r, vs = v :: r ∧ g v σ H fun σ' H' => us r σ' H' Z := rfl
theorem ap_gtup {n : Nat} {us : TGs} {Z : St → Hp → Prop} : gTup K n us v σ H Z = ∃ a xs, v = .ref a ∧ SqT K H a xs ∧ xs.length = n ∧ us xs σ H Z := rfl
theorem ap_gsub {ts : TSet} {Z : St → Hp → Prop} : gSub ta tb ts v σ H Z = ta σ H fun o H1 => tb σ H1 fun i H2 => ts o i v H2 fun H3 => Z σ H3 := rfl
theorem ap_asg : tAsg te g D σ H = te σ H fun x H1 => g x σ H1 D.nx := rfl
theorem ap_aug {ti : TIp} : tAug i te ti D σ H = ∃ x, (σ[i]?).join = some x ∧ te σ H fun y H1 => ti x y H1 fun z H2 => D.nx (σ.set i (some z)) H2 := ap_var (Q := fun x H => te σ H fun y H1 => ti x y H1 fun z H2 => D.nx (σ.set i (some z)) H2)
theorem ap_ipI {f : Int → Int → Int} {x y : V} : ipI f x y H Q = ∃ i j, x = .int i ∧ y = .int j ∧ Q (.int (f i j)) H := rfl
theorem ap_cons : tCons te taa σ H R = te σ H fun x H1 => taa σ H1 fun xs H2 => R (x :: xs) H2 := rfl
theorem ap_nil : tNil σ H R = R [] H := rfl
theorem ap_call {sp : Sp} {dvs : List V} {E : XK} : tCall sp dvs E taa σ H Q = taa σ H fun vs H1 => sp (vs ++ dvs) H1 Q E := rfl
theorem ap_cb {rc : List V → Hp → VK → Prop} : tCB rc taa σ H Q = taa σ H fun vs H1 => rc vs H1 Q := rfl
theorem ap_tup : tTup taa σ H Q = taa σ H fun xs H1 => xs.length ≤ sizeLine ∧ ∀ p, H1 p = none → Q (.ref p) (upd H1 p (.tup xs)) := rfl
theorem ap_lst : tLst taa σ H Q = taa σ H fun xs H1 => xs.length ≤ sizeLine ∧ ∀ p, H1 p = none → Q (.ref p) (upd H1 p (.lst xs)) := rfl
theorem ap_sl {rs : V → Option Int → Option Int → Hp → VK → Prop} {tl th : TO} : tSl rs te tl th σ H Q = te σ H fun x H1 => tl σ H1 fun l H2 => th σ H2 fun u H3 => rs x l u H3 Q := rfl
theorem ap_nopart {O : Option Int → Hp → Prop} : tNoPart σ H O = O none H := rfl
theorem ap_part {O : Option Int → Hp → Prop} : tPart te σ H O = te σ H fun x H1 => ∃ i, x = .int i ∧ O (some i) H1 := rfl
theorem ap_bm {T : String} {rm : V → List V → Hp → VK → Prop} : tBM K T rm te taa σ H Q = te σ H fun x H1 => tyV K T x H1 ∧ taa σ H1 fun xs H2 => rm x xs H2 Q := rfl
theorem ap_bm0 {T : String} {rm : V → List V → Hp → VK → Prop} : tBM0 K T rm te σ H Q = te σ H fun x H1 => tyV K T x H1 ∧ rm x [] H1 Q := rfl
theorem ap_yes : tYes σ H B = B true H := rfl
theorem ap_dnew : tDNewK σ H Q = ∀ p, H p = none → Q (.ref p) (upd H p (.dK [])) := rfl
theorem ap_dget : tDGet ta tb σ H Q = ta σ H fun x H1 => tb σ H1 fun y H2 => ∃ a v, x = .ref a ∧ DGet H2 a y (some v) ∧ Q v H2 := rfl
theorem ap_dput : sDPut ta tb tc D σ H = tc σ H fun v H1 => ta σ H1 fun x H2 => tb σ H2 fun y H3 => ∃ a H4, x = .ref a ∧ DPut H3 a y v H4 ∧ D.nx σ H4 := rfl
theorem ap_daug {rd : V → V → Hp → VK → Prop} : sDAug ta tb tc rd D σ H = ta σ H fun x H1 => tb σ H1 fun y H2 => ∃ a v, x = .ref a ∧ DGet H2 a y (some v) ∧ tc σ H2 fun y2 H3 => rd v y2 H3 fun z H4 => ∃ H5, DPut H4 a y z H5 ∧ D.nx σ H5 := rfl
theorem ap_rSub {x y : V} : rI0 (fun i j => V.int (i - j)) x y H Q = ∃ i j, x = .int i ∧ y = .int j ∧ Q (.int (i - j)) H := rfl
theorem ap_rFdiv {x y : V} : rI CDiv (fun i j => V.int (i / j)) x y H Q = ∃ i j, x = .int i ∧ y = .int j ∧ (0 < j ∧ j < 1073741824) ∧ Q (.int (i / j)) H := rfl
theorem ap_rMod {x y : V} : rI (fun _ j => 0 < j) (fun i j => V.int (i % j)) x y H Q = ∃ i j, x = .int i ∧ y = .int j ∧ 0 < j ∧ Q (.int (i % j)) H := rfl
theorem tyV_str {z : Str} : tyV K "str" (.str z) H = True := by simp [tyV]
noncomputable def ForIt (J : It) (g : TG) (tb : TS) (D : Ends) (σ : St) (H1 : Hp) : Prop := ∃ W : Nat → Nat → St → Hp → Prop, (∃ m, W 0 m σ H1) ∧ ∀ i m σ H, W i m σ H →
  (J.stop i H ∧ D.nx σ H) ∨ (J.go i H ∧ ∃ N : St → Hp → Prop, (∀ σ' H', N σ' H' → ∃ m', m' < m ∧ W (i + 1) m' σ' H') ∧ ∀ x H', J.yld i H x H' → g x σ H' fun σ2 H2 => tb { D with nx := N, ct := N, bk := D.nx } σ2 H2)
theorem ap_for {wi : TI} {tbs : TS} : tFor wi g tbs D σ H = wi σ H fun J H1 => ForIt J g tbs D σ H1 := rfl
theorem ap_ilist {Z : It → Hp → Prop} : iList K te σ H Z = te σ H fun x H1 => ∃ a, x = .ref a ∧ (∃ xs, SqL K H1 a xs) ∧ Z (Itl K a) H1 := rfl
theorem ap_itup {Z : It → Hp → Prop} : iTup K te σ H Z = te σ H fun x H1 => ∃ a, x = .ref a ∧ (∃ xs, SqT K H1 a xs) ∧ Z (Itt K a) H1 := rfl
theorem ap_istr {Z : It → Hp → Prop} : iStr te σ H Z = te σ H fun x H1 => ∃ z, x = .str z ∧ Z (Its z) H1 := rfl
theorem ap_irng1 {Z : It → Hp → Prop} : iRng1 taa σ H Z = taa σ H fun vs H1 => ∃ j : Int, vs = [.int j] ∧ -(2 ^ 62) ≤ j ∧ j < 2 ^ 62 ∧ Z (Itr 0 j.toNat) H1 := rfl
theorem ap_irng2 {Z : It → Hp → Prop} : iRng2 taa σ H Z = taa σ H fun vs H1 => ∃ i j : Int, vs = [.int i, .int j] ∧ (-(2 ^ 62) ≤ i ∧ i < 2 ^ 62 ∧ -(2 ^ 62) ≤ j ∧ j < 2 ^ 62) ∧ Z (Itr i (j - i).toNat) H1 := rfl
noncomputable def CompIt (J : It) (k : Nat) (ixs : List Nat) (g : TG) (c : TT) (te : TE) (σ : St) (Q : VK) (H1 : Hp) : Prop := ∀ D, H1 D = none →
  ∃ (n : Nat) (W : Nat → List V → St → Hp → Prop), W 0 [] (compStart k ixs σ) (upd H1 D (.lst [])) ∧ ∀ i ys σ2 H2, W i ys σ2 H2 → H2 D = some (.lst ys) →
    (J.stop i H2 ∧ Q (.ref D) H2) ∨
    (i < n ∧ J.go i H2 ∧ ∀ x H', J.yld i H2 x H' → g x σ2 H' fun σ3 H3 => c σ3 H3 fun b H4 =>
      if b = true then te σ3 H4 fun y H5 => H5 D = some (.lst ys) ∧ ys.length < sizeLine ∧ W (i + 1) (ys ++ [y]) σ3 (upd H5 D (.lst (ys ++ [y])))
      else H4 D = some (.lst ys) ∧ W (i + 1) ys σ3 H4)
theorem ap_comp {wi : TI} {k : Nat} {ixs : List Nat} : tComp wi k ixs g tt te σ H Q = wi σ H fun J H1 => CompIt J k ixs g tt te σ Q H1 := rfl
end
theorem truV_bl {b k : Bool} {K : PySem.W.Frag} {H : Hp} : TruV K (.bl b) H k = (k = b) := rfl
theorem truV_int {i : Int} {k : Bool} {K : PySem.W.Frag} {H : Hp} : TruV K (.int i) H k = (k = (i != 0)) := rfl
theorem truV_str {z : Str} {k : Bool} {K : PySem.W.Frag} {H : Hp} : TruV K (.str z) H k = (z.length ≤ sizeLine ∧ k = ((z.length : Int) != 0)) := rfl
theorem truV_non {k : Bool} {K : PySem.W.Frag} {H : Hp} : TruV K .non H k = (k = false) := rfl
theorem start_eq {N : List Str} {vs : List V} : start N vs = vs.map some ++ List.replicate (N.length - vs.length) none := rfl
theorem compStart_eq {k : Nat} {ixs : List Nat} {σ : St} : compStart k ixs σ = List.replicate k none ++ ixs.map fun i => (σ[i]?).join := rfl
theorem ap_rIxI {K : PySem.W.Frag} {H : Hp} {Q : VK} {z : Str} {i : Int} : rIx K (.str z) (.int i) H Q = ∃ c, z.length ≤ sizeLine ∧ atI z.cps.toList i = some c ∧ Q (.str ⟨#[c]⟩) H := by
  simp only [rIx, rIxL, rIxT, rIxS]
  refine propext ⟨fun h => ?_, fun ⟨c, h⟩ => .inr (.inr ⟨z, i, c, rfl, rfl, h⟩)⟩
  rcases h with ⟨p, xs, j, v, e, _⟩ | ⟨p, xs, j, v, e, _⟩ | ⟨z', i', c, e1, e2, h⟩
  · cases e
  · cases e
  · cases e1; cases e2; exact ⟨c, h⟩
theorem ap_rIxR {K : PySem.W.Frag} {H : Hp} {Q : VK} {p : Addr} {i : Int} : rIx K (.ref p) (.int i) H Q = ∃ xs v, (SqL K H p xs ∨ SqT K H p xs) ∧ atI xs i = some v ∧ Q v H := by
  simp only [rIx, rIxL, rIxT, rIxS]
  refine propext ⟨fun h => ?_, fun ⟨xs, v, h, r⟩ => ?_⟩
  · rcases h with ⟨p', xs, j, v, e1, e2, h1, h2⟩ | ⟨p', xs, j, v, e1, e2, h1, h2⟩ | ⟨z', i', c, e1, e2, h⟩
    · cases e1; cases e2; exact ⟨xs, v, .inl h1, h2⟩
    · cases e1; cases e2; exact ⟨xs, v, .inr h1, h2⟩
    · cases e1
  · rcases h with h | h
    · exact .inl ⟨p, xs, i, v, rfl, rfl, h, r⟩
    · exact .inr (.inl ⟨p, xs, i, v, rfl, rfl, h, r⟩)
theorem atI_in {α : Type} {xs : List α} {i : Int} (h0 : 0 ≤ i) (h1 : i < xs.length) : ∃ v, atI xs i = some v ∧ v ∈ xs := by
  have hlt : i.toNat < xs.length := by omega
  refine ⟨xs[i.toNat], ?_, List.getElem_mem hlt⟩
  unfold atI ixN
  rw [if_pos h0, if_pos h1]
  simp [hlt]
theorem bt_len : bootBuiltins "len" = some (.builtin "len") := by decide +kernel
theorem bt_isinstance : bootBuiltins "isinstance" = some (.builtin "isinstance") := by decide +kernel
theorem bt_all : bootBuiltins "all" = some (.builtin "all") := by decide +kernel
theorem bt_ord : bootBuiltins "ord" = some (.builtin "ord") := by decide +kernel
theorem bt_max : bootBuiltins "max" = some (.builtin "max") := by decide +kernel
theorem bt_tuple : bootBuiltins "tuple" = some (.type "tuple") := by decide +kernel
theorem bt_str : bootBuiltins "str" = some (.type "str") := by decide +kernel
theorem bt_int : bootBuiltins "int" = some (.type "int") := by decide +kernel
theorem bt_bool : bootBuiltins "bool" = some (.type "bool") := by decide +kernel
section
variable {K : PySem.W.Frag} {H : Hp} {Q : VK} {i j : Int} {x y : Str} {u v : V} {b c : Bool} {p q : Addr} {lo hi : Option Int} {cm : Bool}
theorem ad_ii : rAddU K (.int i) (.int j) H Q = Q (.int (i + j)) H := rfl
theorem ad_ss : rAddU K (.str x) (.str y) H Q = (x.length + y.length ≤ sizeLine ∧ Q (.str (x ++ y)) H) := rfl
theorem ad_rr : rAddU K (.ref p) (.ref q) H Q = rAddR K p q H Q := rfl
theorem mu_ii : rMulU (.int i) (.int j) H Q = (CMul i j ∧ Q (.int (i * j)) H) := rfl
theorem mu_ri : rMulU (.ref p) (.int j) H Q = rRep (.ref p) (.int j) H Q := rfl
theorem eq_ii : rEqU K (.int i) (.int j) H Q = Q (.bl (decide (i = j))) H := rfl
theorem eq_ss : rEqU K (.str x) (.str y) H Q = Q (.bl (decide (x = y))) H := rfl
theorem eq_bb : rEqU K (.bl b) (.bl c) H Q = Q (.bl (decide (b = c))) H := rfl
theorem eq_rx : rEqU K (.ref p) v H Q = ∃ d e, Dn K H (.ref p) d ∧ Dn K H v e ∧ min d.depth e.depth ≤ 60 ∧ Q (.bl (PyData.eqv d e)) H := by cases v <;> rfl
theorem eq_xr : rEqU K v (.ref p) H Q = ∃ d e, Dn K H v d ∧ Dn K H (.ref p) e ∧ min d.depth e.depth ≤ 60 ∧ Q (.bl (PyData.eqv d e)) H := by cases v <;> rfl
theorem ne_ii : rNeU K (.int i) (.int j) H Q = Q (.bl (!decide (i = j))) H := rfl
theorem ne_ss : rNeU K (.str x) (.str y) H Q = Q (.bl (!decide (x = y))) H := rfl
theorem ne_bb : rNeU K (.bl b) (.bl c) H Q = Q (.bl (!decide (b = c))) H := rfl
theorem ne_rx : rNeU K (.ref p) v H Q = ∃ d e, Dn K H (.ref p) d ∧ Dn K H v e ∧ min d.depth e.depth ≤ 60 ∧ Q (.bl (!PyData.eqv d e)) H := by cases v <;> rfl
theorem ne_xr : rNeU K v (.ref p) H Q = ∃ d e, Dn K H v d ∧ Dn K H (.ref p) e ∧ min d.depth e.depth ≤ 60 ∧ Q (.bl (!PyData.eqv d e)) H := by cases v <;> rfl
theorem lt_ii : rLtU (.int i) (.int j) H Q = Q (.bl (decide (i < j))) H := rfl
theorem lt_ss : rLtU (.str x) (.str y) H Q = Q (.bl (decide (x.cps.toList < y.cps.toList))) H := rfl
theorem le_ii : rLeU (.int i) (.int j) H Q = Q (.bl (decide (i ≤ j))) H := rfl
theorem le_ss : rLeU (.str x) (.str y) H Q = Q (.bl (!decide (y.cps.toList < x.cps.toList))) H := rfl
theorem gt_ii : rGtU (.int i) (.int j) H Q = Q (.bl (decide (j < i))) H := rfl
theorem gt_ss : rGtU (.str x) (.str y) H Q = Q (.bl (decide (y.cps.toList < x.cps.toList))) H := rfl
theorem ge_ii : rGeU (.int i) (.int j) H Q = Q (.bl (decide (j ≤ i))) H := rfl
theorem ge_ss : rGeU (.str x) (.str y) H Q = Q (.bl (!decide (x.cps.toList < y.cps.toList))) H := rfl
theorem in_xs : rInU K b u (.str x) H Q = ∃ i, u = .str i ∧ Q (.bl (b.xor (!(Builtin.Str.occurrences x i 0 x.length 1).isEmpty))) H := rfl
theorem in_xr : rInU K b u (.ref p) H Q = rInR K b u p H Q := rfl
theorem sl_s : rSlU K (.str x) lo hi H Q = (x.length ≤ sizeLine ∧ Q (.str (cutS x lo hi)) H) := rfl
theorem sl_r : rSlU K (.ref p) lo hi H Q = rSlR K p lo hi H Q := rfl
theorem len_s : rLenU K [.str x] H Q = (x.length ≤ sizeLine ∧ Q (.int x.length) H) := rfl
theorem len_r : rLenU K [.ref p] H Q = ∃ n : Nat, LenR K H p n ∧ Q (.int n) H := rfl
theorem list_r : rListU K cm [.ref p] H Q = rListR K cm p H Q := rfl
theorem all_r : rAllB cm [.ref p] H Q = ∃ bs : List Bool, cm = true ∧ H p = some (.lst (bs.map V.bl)) ∧ Q (.bl (bs.all id)) H := rfl
theorem isi_t {n : String} : rIsi [u, .ty n] H Q = ∃ T, tyS H u = some T ∧ isTys.contains n = true ∧ Q (.bl (isB T n)) H := rfl
theorem ord_s : rOrd [.str x] H Q = (x.length = 1 ∧ Q (.int (x.cps.getD 0 0 : Nat)) H) := rfl
end
theorem forR {lo : Int} {n : Nat} {g : TG} {tb : TS} {D : Ends} {σ : St} {H : Hp} (Pv : Nat → St → Hp → Prop) (h0 : Pv 0 σ H)
    (hs : ∀ i σ H, i < n → Pv i σ H → g (.int (lo + i)) σ H fun σ2 H2 => tb { D with nx := Pv (i + 1), ct := Pv (i + 1), bk := D.nx } σ2 H2) (hd : ∀ σ H, Pv n σ H → D.nx σ H) : ForIt (Itr lo n) g tb D σ H := for_range Pv h0 hs hd
noncomputable def CW (n : Nat) (fr : St) (Pv : Nat → List V → Hp → Prop) (i : Nat) (ys : List V) (σ2 : St) (H2 : Hp) : Prop := i ≤ n ∧ ys.length ≤ i ∧ (∃ v, σ2 = v :: fr) ∧ Pv i ys H2
theorem CW.put {n : Nat} {fr : St} {Pv : Nat → List V → Hp → Prop} {i : Nat} {ys : List V} {y : V} {o : Option V} {H : Hp} (hi : i < n) (hy : ys.length ≤ i) (p : Pv (i + 1) (ys ++ [y]) H) : CW n fr Pv (i + 1) (ys ++ [y]) (o :: fr) H :=
  ⟨hi, by rw [List.length_append, List.length_singleton]; omega, ⟨_, rfl⟩, p⟩
theorem CW.skip {n : Nat} {fr : St} {Pv : Nat → List V → Hp → Prop} {i : Nat} {ys : List V} {o : Option V} {H : Hp} (hi : i < n) (hy : ys.length ≤ i) (p : Pv (i + 1) ys H) : CW n fr Pv (i + 1) ys (o :: fr) H := ⟨hi, Nat.le_succ_of_le hy, ⟨_, rfl⟩, p⟩
theorem compL {K : PySem.W.Frag} {a : Addr} {xs : List V} {ixs : List Nat} {c : TT} {te : TE} {σ : St} {Q : VK} {H1 : Hp} (fr : St) (hfr : compStart 1 ixs σ = none :: fr) (Pv : Addr → Nat → List V → Hp → Prop)
    (h0 : ∀ D, H1 D = none → Pv D 0 [] (upd H1 D (.lst []))) (hl : ∀ D i ys H, H1 D = none → i ≤ xs.length → Pv D i ys H → SqL K H a xs)
    (hs : ∀ D i x ys H, H1 D = none → i < xs.length → xs[i]? = some x → Pv D i ys H → H D = some (.lst ys) → ys.length ≤ i → c (some x :: fr) H fun b H4 =>
      if b = true then te (some x :: fr) H4 fun y H5 => H5 D = some (.lst ys) ∧ ys.length < sizeLine ∧ CW xs.length fr (Pv D) (i + 1) (ys ++ [y]) (some x :: fr) (upd H5 D (.lst (ys ++ [y])))
      else H4 D = some (.lst ys) ∧ CW xs.length fr (Pv D) (i + 1) ys (some x :: fr) H4)
    (hd : ∀ D ys H, H1 D = none → Pv D xs.length ys H → H D = some (.lst ys) → ys.length ≤ xs.length → Q (.ref D) H) : CompIt (Itl K a) 1 ixs (gName 0) c te σ Q H1 := by
  intro D hD
  refine ⟨xs.length, CW xs.length fr (Pv D), ⟨Nat.zero_le _, Nat.zero_le _, ⟨none, hfr⟩, h0 D hD⟩, ?_⟩
  rintro i ys σ2 H2 ⟨hi, hy, ⟨v, rfl⟩, p⟩ hDy
  have q := hl D i ys H2 hD hi p
  by_cases hlt : i < xs.length
  · refine .inr ⟨hlt, ⟨xs, xs[i], q, by simp [hlt]⟩, fun x H' y => ?_⟩
    obtain ⟨e, y⟩ := y
    subst e
    exact hs D i x ys _ hD hlt (y xs q) p hDy hy
  · have e : i = xs.length := by omega
    subst e
    exact .inl ⟨⟨xs, q, Nat.le_refl _⟩, hd D ys H2 hD p hDy hy⟩
theorem compS {z : Str} {ixs : List Nat} {c : TT} {te : TE} {σ : St} {Q : VK} {H1 : Hp} (fr : St) (hfr : compStart 1 ixs σ = none :: fr) (Pv : Addr → Nat → List V → Hp → Prop)
    (h0 : ∀ D, H1 D = none → Pv D 0 [] (upd H1 D (.lst [])))
    (hs : ∀ D i x ys H, H1 D = none → i < z.cps.size → z.cps.toList[i]? = some x → Pv D i ys H → H D = some (.lst ys) → ys.length ≤ i → c (some (.str ⟨#[x]⟩) :: fr) H fun b H4 =>
      if b = true then te (some (.str ⟨#[x]⟩) :: fr) H4 fun y H5 => H5 D = some (.lst ys) ∧ ys.length < sizeLine ∧ CW z.cps.size fr (Pv D) (i + 1) (ys ++ [y]) (some (.str ⟨#[x]⟩) :: fr) (upd H5 D (.lst (ys ++ [y])))
      else H4 D = some (.lst ys) ∧ CW z.cps.size fr (Pv D) (i + 1) ys (some (.str ⟨#[x]⟩) :: fr) H4)
    (hd : ∀ D ys H, H1 D = none → Pv D z.cps.size ys H → H D = some (.lst ys) → ys.length ≤ z.cps.size → Q (.ref D) H) : CompIt (Its z) 1 ixs (gName 0) c te σ Q H1 := by
  intro D hD
  refine ⟨z.cps.size, CW z.cps.size fr (Pv D), ⟨Nat.zero_le _, Nat.zero_le _, ⟨none, hfr⟩, h0 D hD⟩, ?_⟩
  rintro i ys σ2 H2 ⟨hi, hy, ⟨v, rfl⟩, p⟩ hDy
  by_cases hlt : i < z.cps.size
  · refine .inr ⟨hlt, hlt, fun x H' y => ?_⟩
    obtain ⟨e, c, hc, rfl⟩ := y
    subst e
    exact hs D i c ys _ hD hlt hc p hDy hy
  · have e : i = z.cps.size := by omega
    subst e
    exact .inl ⟨Nat.le_refl _, hd D ys H2 hD p hDy hy⟩
theorem upd_fresh {H : Hp} {p q : Addr} {o u : HO} (h : H p = some o) (n : H q = none) : upd H q u p = some o := by rw [upd_ne (ne_of_none h n)]; exact h
theorem Same.new {H : Hp} {q : Addr} {u : HO} (n : H q = none) : Same H (upd H q u) := fun _ _ h => upd_fresh h n
theorem Same.put {H0 H : Hp} {q : Addr} {u : HO} (s : Same H0 H) (n : H0 q = none) : Same H0 (upd H q u) := fun b o h => by rw [upd_ne (ne_of_none h n)]; exact s b o h
end L2
set_option maxRecDepth 100000
namespace L2
open PySem PySem.Spec PyProof.Rows
theorem cxK {CX : CXT} {P : Program} {w : World} {K : PySem.W.Frag} {mg : Str → Option Value} {base : Heap} {N : List Str} {q : Str} {sc : Scope} {f : Addr} {cd : Value} {A : Around} {o : List Env} {s : Shared} {H : Hp} {E : XK} : (cxOf CX P w K mg base N q sc f cd A o s H E).K = K := rfl
theorem cxKn {X : Cx} : X.nox.K = X.K := rfl
theorem cxKb {X : Cx} {sc : Scope} {N' : List Str} {C : Addr} {s₃ : Shared} {H₃ : Hp} {fp : List Addr} {pins : List (Addr × Obj)} : (blk X sc N' C s₃ H₃ fp pins).K = X.K := rfl
theorem cxC {CX : CXT} {P : Program} {w : World} {K : PySem.W.Frag} {mg : Str → Option Value} {base : Heap} {N : List Str} {q : Str} {sc : Scope} {f : Addr} {cd : Value} {A : Around} {o : List Env} {s : Shared} {H : Hp} {E : XK} : (cxOf CX P w K mg base N q sc f cd A o s H E).calm = true := rfl
theorem cxCn {X : Cx} : X.nox.calm = X.calm := rfl
theorem cxCb {X : Cx} {sc : Scope} {N' : List Str} {C : Addr} {s₃ : Shared} {H₃ : Hp} {fp : List Addr} {pins : List (Addr × Obj)} : (blk X sc N' C s₃ H₃ fp pins).calm = X.calm := rfl
theorem iteD {c A B : Prop} [Decidable c] (h1 : c → A) (h2 : ¬ c → B) : if decide c = true then A else B := by
  by_cases h : c
  · rw [decide_eq_true h, if_pos rfl]; exact h1 h
  · rw [decide_eq_false h, if_neg Bool.false_ne_true]; exact h2 h
theorem iteN {c A B : Prop} [Decidable c] (h1 : ¬ c → A) (h2 : c → B) : if (!decide c) = true then A else B := by
  by_cases h : c
  · rw [decide_eq_true h]; exact iteF (h2 h)
  · rw [decide_eq_false h]; exact iteT (h1 h)
theorem small100 {n : Nat} (h : n ≤ 1000000) : n < sizeLine := Nat.lt_of_le_of_lt h (by decide)
theorem small100' {n : Nat} (h : n ≤ 1000000) : n ≤ sizeLine := Nat.le_of_lt (small100 h)
noncomputable def signB (c : Nat) : Bool := decide (33 ≤ c) && decide (c ≤ 126) && decide (c ≠ 37)
noncomputable def pieceB (z : Str) : Bool := decide (1 ≤ z.length) && decide (z.length ≤ 2) && z.cps.toList.all signB
theorem pieceB_ok {z : Str} (h : pieceB z = true) : PyData.strOk z = true ∧ 1 ≤ z.length ∧ z.length ≤ 2 := by
  unfold pieceB at h
  simp only [Bool.and_eq_true, decide_eq_true_eq] at h
  refine ⟨?_, h.1.1, h.1.2⟩
  unfold PyData.strOk
  rw [Array.all_eq_true_iff_forall_mem]
  intro c hc
  have := List.all_eq_true.mp h.2 c (Array.mem_toList_iff.mpr hc)
  unfold signB at this
  simp only [Bool.and_eq_true, decide_eq_true_eq] at this
  simp only [decide_eq_true_eq]
  omega
theorem piece_one {c : Nat} (h : signB c = true) : pieceB ⟨#[c]⟩ = true := by
  unfold pieceB
  simp [Str.length, h]
theorem str_app (x y : Str) : (x ++ y).cps.toList = x.cps.toList ++ y.cps.toList := by
  show (x.cps ++ y.cps).toList = _
  simp
theorem str_len (x : Str) : x.length = x.cps.toList.length := by simp [Str.length]
theorem str_app_len (x y : Str) : (x ++ y).length = x.length + y.length := by rw [str_len, str_app, List.length_append, str_len, str_len]
theorem piece_two {c d : Nat} (h : signB c = true) (h' : signB d = true) : pieceB ((⟨#[c]⟩ : Str) ++ ⟨#[d]⟩) = true := by
  unfold pieceB
  rw [str_app_len, str_app]
  simp [Str.length, h, h']
noncomputable def SG : List Nat := [33, 34, 35, 36] ++ (List.range 89).map (· + 38)
theorem SG_sign : ∀ c ∈ SG, signB c = true := by decide +kernel
theorem SG_len : SG.length = 93 := by decide +kernel
structure IsRows (H : Hp) (a : Addr) (rs : List Addr) (zss : List (List Str)) : Prop where
  top : H a = some (.lst (rs.map V.ref))
  row : Paired (fun r (zs : List Str) => H r = some (.lst (zs.map V.str))) rs zss
theorem IsRows.same {H H' : Hp} {a : Addr} {rs : List Addr} {zss : List (List Str)} (R : IsRows H a rs zss) (s : Same H H') : IsRows H' a rs zss := ⟨s _ _ R.top, Paired.mapP R.row fun _ _ h => s _ _ h⟩
theorem Paired.at {α β : Type} {F : α → β → Prop} : ∀ {l₁ : List α} {l₂ : List β} {i : Nat} {a : α}, Paired F l₁ l₂ → l₁[i]? = some a → ∃ b, l₂[i]? = some b ∧ F a b
  | _, _, _, _, .nil, h => by simp at h
  | _, _, 0, _, .cons h t, e => by simp at e; subst e; exact ⟨_, rfl, h⟩
  | _, _, i + 1, _, .cons h t, e => by
    obtain ⟨b, h1, h2⟩ := Paired.at (i := i) t (by simpa using e)
    exact ⟨b, by simpa using h1, h2⟩
theorem depth_strs : ∀ zs : List Str, PyData.depthAll (zs.map PyData.str) = 0
  | [] => rfl
  | z :: zs => by rw [List.map_cons, PyData.depthAll, depth_strs zs, PyData.depth]; rfl
noncomputable def dd (acc : List Str) (z : Str) : List Str := if z ∈ acc then acc else acc ++ [z]
theorem inV_strs (z : Str) : ∀ acc : List Str, inV (.str z) (acc.map V.str) = decide (z ∈ acc)
  | [] => by simp [inV]
  | y :: acc => by
    have ih := inV_strs z acc
    unfold inV at ih ⊢
    rw [List.map_cons, List.any_cons, ih]
    show ((y == z) || decide (z ∈ acc)) = _
    by_cases e : y = z
    · subst e
      simp
    · have e1 : (y == z) = false := by simpa using e
      rw [e1, Bool.false_or]
      by_cases h : z ∈ acc
      · rw [decide_eq_true h, decide_eq_true (List.mem_cons_of_mem _ h)]
      · rw [decide_eq_false h, decide_eq_false]
        intro q
        rcases List.mem_cons.mp q with q | q
        · exact e q.symm
        · exact h q
theorem map_at {α β : Type} {f : α → β} {l : List α} {i : Nat} {y : β} (h : (l.map f)[i]? = some y) : ∃ x, l[i]? = some x ∧ y = f x := by
  rw [List.getElem?_map] at h
  cases e : l[i]? with
  | none => rw [e] at h; cases h
  | some x => rw [e] at h; exact ⟨x, rfl, (Option.some.inj h).symm⟩
noncomputable def SS : Str := Str.ofString "!\"#$&'()*+,-./0123456789:;<=>?@ABCDEFGHIJKLMNOPQRSTUVWXYZ[\\]^_`" ++ Str.ofString "abcdefghijklmnopqrstuvwxyz{|}~"
theorem SS_eq : SS.cps.toList = SG := by decide +kernel
theorem SS_len : SS.length ≤ sizeLine := by decide +kernel
theorem SS_lens : (Str.ofString "!\"#$&'()*+,-./0123456789:;<=>?@ABCDEFGHIJKLMNOPQRSTUVWXYZ[\\]^_`").length + (Str.ofString "abcdefghijklmnopqrstuvwxyz{|}~").length ≤ sizeLine := by decide +kernel
theorem SS_at {i : Int} (h0 : 0 ≤ i) (h1 : i < 93) : ∃ c, atI SS.cps.toList i = some c ∧ signB c = true := by
  rw [SS_eq]
  obtain ⟨c, h2, h3⟩ := atI_in (xs := SG) h0 (by rw [SG_len]; exact h1)
  exact ⟨c, h2, SG_sign c h3⟩
theorem drawn {xs : List V} {i : Int} (hx : ∀ x ∈ xs, ∃ n, x = V.int n) (h0 : 0 ≤ i) (h1 : i < xs.length) : ∃ n, atI xs i = some (V.int n) := by
  obtain ⟨v, h2, h3⟩ := atI_in h0 h1
  obtain ⟨n, rfl⟩ := hx v h3
  exact ⟨n, h2⟩
theorem cutS_len (x : Str) (lo hi : Option Int) : (cutS x lo hi).length ≤ x.length := by
  rw [str_len, str_len]
  unfold cutS
  simp only [List.length_take, List.length_drop]
  omega
theorem cutS_list (x : Str) (lo hi : Option Int) : (cutS x lo hi).cps.toList = (x.cps.toList.drop (HT.sIx x.length 0 lo)).take (HT.sIx x.length x.length hi - HT.sIx x.length 0 lo) := by
  unfold cutS
  simp
theorem tyS_lst {H : Hp} {p : Addr} {xs : List V} (h : H p = some (.lst xs)) : tyS H (.ref p) = some "list" := by unfold tyS; simp only [h]
theorem tyS_tup {H : Hp} {p : Addr} {xs : List V} (h : H p = some (.tup xs)) : tyS H (.ref p) = some "tuple" := by unfold tyS; simp only [h]
theorem tyS_dK {H : Hp} {p : Addr} {xs : List (Key × V)} (h : H p = some (.dK xs)) : tyS H (.ref p) = some "dict" := by unfold tyS; simp only [h]
theorem tyS_same {H H' : Hp} (S : Same H H') {x : V} {T : String} (h : tyS H x = some T) : tyS H' x = some T := by
  cases x with
  | ref a =>
    unfold tyS at h ⊢
    dsimp only at h ⊢
    cases e : H a with
    | none => rw [e] at h; cases h
    | some o => rw [S a o e]; rw [e] at h; exact h
  | _ => exact h
end L2
set_option maxRecDepth 100000
namespace L2
open PySem PySem.Spec PyProof.Rows
structure QE (X : Cx) (e : Expr) (t : TE) : Prop where
  out : PE X e t
structure QT (X : Cx) (e : Expr) (t : TT) : Prop where
  out : PT X e t
structure QW (X : Cx) (e : Expr) (t : TT) : Prop where
  out : PW X e t
structure QA (X : Cx) (es : List Expr) (t : TA) : Prop where
  out : PA X es t
structure QS (X : Cx) (st : Stmt) (t : TS) : Prop where
  out : PS X st t
structure QSs (X : Cx) (st : List Stmt) (t : TS) : Prop where
  out : PSs X st t
structure QG (X : Cx) (tg : Expr) (t : TG) : Prop where
  out : PG X tg t
structure QI (X : Cx) (tg iter : Expr) (wi : TI) : Prop where
  out : PI X tg iter wi
structure QO (X : Cx) (e : Option Expr) (t : TO) : Prop where
  out : PO X e t
structure QIfs (X : Cx) (ifs : List Expr) (t : TT) : Prop where
  out : PIfs X ifs t
structure QOp (X : Cx) (f : Value → Value → Sem Value) (r : R2) : Prop where
  out : OpR X f r
structure QCall (X : Cx) (f : Value) (r : List V → Hp → VK → Prop) : Prop where
  out : CallR X f r
structure QMt (X : Cx) (id : String) (r : V → List V → Hp → VK → Prop) : Prop where
  out : MtR X id r
section
variable {X : Cx} {a b c e o i value : Expr} {es : List Expr} {ta tb tc te to ti tv : TE} {tA tB' : TT} {t u : TS} {tl : TA} {pos p pos' tpos : Pos} {rest : List Expr} {r r' : R2} {x : Str}
theorem qe_int {i j} : QE X (.Constant (.int i) j pos) (tC (.int i)) := ⟨pe_int⟩
theorem qe_bl {b j} : QE X (.Constant (.bool b) j pos) (tC (.bl b)) := ⟨pe_bl⟩
theorem qe_non {j} : QE X (.Constant .none j pos) (tC .non) := ⟨pe_non⟩
theorem qe_str {x j} : QE X (.Constant (.str x) j pos) (tC (.str x)) := ⟨pe_str⟩
theorem qe_v {n : Nat} (hN : X.N[n]? = some x) (hv : Vis X.env.scope x) (hd : (x == ("__debug__" : Str)) = false) (hcd : (x == ("__classdict__" : Str)) = false) : QE X (.Name x pos) (tVar n) := ⟨pe_var hN hv hd hcd⟩
theorem qv (n : Nat) (hN : X.N[n]? = some x := by rfl) (hv : Vis X.env.scope x := by first | exact Or.inl rfl | exact Or.inr (Or.inl rfl) | exact Or.inr (Or.inr rfl)) (hd : (x == ("__debug__" : Str)) = false := by decide) (hcd : (x == ("__classdict__" : Str)) = false := by decide) : QE X (.Name x pos) (tVar n) := ⟨pe_var hN hv hd hcd⟩
theorem qe_globI {i : Int} (h : ∃ t, X.mg x = some (.int i t)) (hg : Gl X x := by rfl) (hd : (x == ("__debug__" : Str)) = false := by decide) : QE X (.Name x p) (tC (.int i)) := ⟨pe_globI h hg hd⟩
theorem qe_globR {a : Addr} (h : X.mg x = some (.ref a)) (hg : Gl X x := by rfl) (hd : (x == ("__debug__" : Str)) = false := by decide) : QE X (.Name x p) (tC (.ref a)) := ⟨pe_globR h hg hd⟩
theorem qe_ty {n : String} (hm : X.mg x = none) (hv : bootBuiltins x = some (.type n)) (hg : Gl X x := by rfl) (hn : x ≠ "__name__" := by decide) (hd : (x == ("__debug__" : Str)) = false := by decide) : QE X (.Name x p) (tC (.ty n)) := ⟨pe_bltn hg hm hv rfl hn hd⟩
theorem qe_op {op : Operator} (ho : QOp X (binaryOp op) r) (ha : QE X a ta) (hb : QE X b tb) : QE X (.BinOp a op b pos) (tOp r ta tb) := ⟨pe_op ho.out ha.out hb.out⟩
theorem qe_notT {K : PySem.W.Frag} (ha : QE X a ta) (hK : X.K = K := by rfl) : QE X (.UnaryOp .Not a pos) (tNotT K ta) := by subst hK; exact ⟨pe_notT ha.out⟩
theorem qe_one {op} (ha : QE X a ta) : QE X (.BoolOp op [a] pos) ta := ⟨pe_one ha.out⟩
theorem qe_and (ha : QE X a ta) (hb : QE X (.BoolOp .And (b :: rest) pos) tb) : QE X (.BoolOp .And (a :: b :: rest) pos) (tAndV ta tb) := ⟨pe_and ha.out hb.out⟩
theorem qe_cmpR {op : CmpOp} (ho : QOp X (compareOp op) r) (ha : QE X a ta) (hb : QE X b tb) (hm : behindInMarks op b = false := by first | exact nomark _ | rfl) : QE X (.Compare a [op] [b] pos) (tOp r ta tb) := ⟨pe_cmpR ho.out ha.out hb.out hm⟩
theorem qe_chain {op op' : CmpOp} (ho : QOp X (compareOp op) r) (ho' : QOp X (compareOp op') r') (ha : QE X a ta) (hb : QE X b tb) (hc : QE X c tc) (hm : lastMarks [op, op'] [b, c] = false := by with_unfolding_all rfl) : QE X (.Compare a [op, op'] [b, c] pos) (tChain r r' ta tb tc) := ⟨pe_chain ho.out ho'.out ha.out hb.out hc.out hm⟩
theorem qa_nil : QA X [] tNil := ⟨pa_nil⟩
theorem qa_c (ha : QE X e te) (hr : QA X es tl) (h : isStar e = false := by rfl) : QA X (e :: es) (tCons te tl) := ⟨pa_c ha.out hr.out h⟩
theorem qe_lst (h : QA X es tl) : QE X (.List es pos) (tLst tl) := ⟨pe_lst h.out⟩
theorem qe_tup {x1} (h : QA X es tl) : QE X (.Tuple es x1 pos) (tTup tl) := ⟨pe_tup h.out⟩
theorem qe_dnewK : QE X (.Dict [] [] pos) tDNewK := ⟨pe_dnewK⟩
theorem qo_none : QO X none tNoPart := ⟨po_none⟩
theorem qo_some (h : QE X e te) : QO X (some e) (tPart te) := ⟨po_some h.out⟩
theorem qe_slice {K : PySem.W.Frag} {lo hi : Option Expr} {tlo thi : TO} {p2 : Pos} (he : QE X e te) (hl : QO X lo tlo) (hu : QO X hi thi) (hK : X.K = K := by rfl) : QE X (.Subscript e (.Slice lo hi none p2) pos) (tSl (rSlU K) te tlo thi) := by subst hK; exact ⟨pe_slice p_sl he.out hl.out hu.out⟩
theorem qe_dget (hu : X.A.units + 1 < cLine) (ho : QE X o to) (hi : QE X i ti) (hs : NoSl i := by exact fun _ _ => rfl) : QE X (.Subscript o i pos) (tDGet to ti) := ⟨pe_dget hu ho.out hi.out hs⟩
theorem qe_ix {K : PySem.W.Frag} (ha : QE X a ta) (hb : QE X b tb) (hs : PlainIx b := by exact fun _ _ => rfl) (hK : X.K = K := by rfl) : QE X (.Subscript a b pos) (tOp (rIx K) ta tb) := by subst hK; exact ⟨pe_ix ix_seq ha.out hb.out hs⟩
theorem qe_cB {id : String} {rc : List V → Hp → VK → Prop} (hc : QCall X (.builtin id) rc) (hm : X.mg x = none) (hv : bootBuiltins x = some (.builtin id)) (ha : QA X (e :: es) tl) (hg : Gl X x := by rfl) (h1 : isStar e = false := by rfl) (h2 : noStars es = true := by rfl) (hn : x ≠ "__name__" := by decide) (hdb : (x == ("__debug__" : Str)) = false := by decide) :
    QE X (.Call (.Name x p) (e :: es) [] pos) (tCB rc tl) := ⟨pe_cB hc.out hg hm hv ha.out h1 h2 hn hdb⟩
theorem qe_cT {T : String} {rc : List V → Hp → VK → Prop} (hc : QCall X (.type T) rc) (hm : X.mg x = none) (hv : bootBuiltins x = some (.type T)) (ha : QA X (e :: es) tl) (hg : Gl X x := by rfl) (h1 : isStar e = false := by rfl) (h2 : noStars es = true := by rfl) (hn : x ≠ "__name__" := by decide) (hdb : (x == ("__debug__" : Str)) = false := by decide) :
    QE X (.Call (.Name x p) (e :: es) [] pos) (tCB rc tl) := ⟨pe_cT hc.out hg hm hv ha.out h1 h2 hn hdb⟩
theorem qe_mB {K : PySem.W.Frag} {T id : String} {name : Str} {apos cpos : Pos} {rm : V → List V → Hp → VK → Prop} (pa : PlainAttrs T) (slot : Slot T name id) (hty : typeOf (.builtin id) = pure (.type "method_descriptor")) (hm : QMt X id rm) (ho : QE X o to) (ha : QA X (e :: es) tl) (h1 : isStar e = false := by rfl) (h2 : noStars es = true := by rfl) (h3 : decide ((e :: es).length < 30) = true := by rfl) (hbase : attributeBase o name X.env (eval o X.env) = eval o X.env := by rfl) (hline : (apos.endLine == cpos.line) = true := by rfl) (hK : X.K = K := by rfl) : QE X (.Call (.Attribute o name apos) (e :: es) [] cpos) (tBM K T rm to tl) := by subst hK; exact ⟨pe_mB pa slot hty hm.out ho.out ha.out h1 h2 h3 hbase hline⟩
theorem qe_m0 {K : PySem.W.Frag} {T id : String} {name : Str} {apos cpos : Pos} {rm : V → List V → Hp → VK → Prop} (pa : PlainAttrs T) (slot : Slot T name id) (hty : typeOf (.builtin id) = pure (.type "method_descriptor")) (hm : QMt X id rm) (ho : QE X o to) (hbase : attributeBase o name X.env (eval o X.env) = eval o X.env := by rfl) (hline : (apos.endLine == cpos.line) = true := by rfl) (hK : X.K = K := by rfl) : QE X (.Call (.Attribute o name apos) [] [] cpos) (tBM0 K T rm to) := by subst hK; exact ⟨pe_bm0 pa slot hty hm.out ho.out hbase hline⟩
theorem qe_callF {k : Nat} {ps : List Str} {sp : Sp} {dvs : List V} (G : FO X.prog X.w X.K X.mg X.base k x ps dvs sp) (hr : Room k X.A) (ha : QA X (e :: es) tl) (hg : Gl X x := by rfl) (h1 : isStar e = false := by rfl) (h2 : noStars es = true := by rfl) (hdb : (x == ("__debug__" : Str)) = false := by decide) :
    QE X (.Call (.Name x p) (e :: es) [] pos) (tCall sp dvs E0 tl) := ⟨pe_callF G hr ha.out hg h1 h2 hdb⟩
theorem qt_cmpR {op : CmpOp} (ho : QOp X (compareOp op) r) (ha : QE X a ta) (hb : QE X b tb) (hm : behindInMarks op b = false := by first | exact nomark _ | rfl) : QT X (.Compare a [op] [b] pos) (tTest (tOp r ta tb)) := ⟨pt_cmpR ho.out ha.out hb.out hm⟩
theorem qt_not (ha : QT X a tA) : QT X (.UnaryOp .Not a pos) (tNot tA) := ⟨pt_not ha.out⟩
theorem qw_or1 (ha : QT X a tA) : QW X (.BoolOp .Or [a] pos) tA := ⟨pw_or1 ha.out⟩
theorem qw_or (ha : QT X a tA) (hb : QW X (.BoolOp .Or (b :: rest) pos) tB') : QW X (.BoolOp .Or (a :: b :: rest) pos) (tOr tA tB') := ⟨pw_or ha.out hb.out⟩
theorem QW.pt (h : QW X a tA) : QT X a tA := ⟨h.out.pt⟩
theorem qt_tru {K : PySem.W.Frag} (ha : QE X a ta) (he : ∀ whole, isTrue a X.env whole = (do let v ← whole; standAt a.pos; holding [v] (truthy v)) := by intro _; rfl) (hK : X.K = K := by rfl) : QT X a (tTru K ta) := by subst hK; exact ⟨pt_tru ha.out he⟩
variable {st : Stmt} {sts : List Stmt}
theorem qss_nil : QSs X [] tNext := ⟨pss_nil⟩
theorem qss_one (h : QS X st t) : QSs X [st] t := ⟨pss_one h.out⟩
theorem qss_cons (h : QS X st t) (h2 : QSs X sts u) : QSs X (st :: sts) (tSeq t u) := ⟨pss_cons h.out h2.out⟩
theorem qs_ret (he : QE X e te) : QS X (.Return (some e) pos) (tRet te) := ⟨ps_ret he.out⟩
theorem qs_set {n : Nat} (hN : X.N.Nodup) (hi : X.N[n]? = some x) (hx : Loc X.env.scope x) (he : QE X e te) (hs : swapsWith e (some (.Name x pos')) pos.line X.env = pure false := by rfl) (hf : X.fn x = true := by rfl) : QS X (.Assign [.Name x pos'] e pos) (tAsg te (gName n)) := ⟨ps_set hN hi hx he.out hs (.inl hf)⟩
theorem qs_expr (he : QE X e te) (hs : swapsWith e none pos.line X.env = pure false := by rfl) : QS X (.Expr e pos) (tDrop te) := ⟨ps_expr he.out hs⟩
theorem qs_if {sa sb : List Stmt} (hc : QT X c tA) (ha : QSs X sa t) (hb : QSs X sb u) : QS X (.If c sa sb pos) (tIfS tA t u) := ⟨ps_if hc.out ha.out hb.out⟩
theorem qs_for {tg iter : Expr} {body : List Stmt} {wi : TI} {g : TG} (hp : PassesOwn (model X.prog X.w) X.A X.env X.xe) (hi : QI X tg iter wi) (hg : QG X tg g) (hb : QSs X body t) (hc : X.calm = true := by rfl) (hs : ∀ x, foldedSetIterable iter X.env x = pure x := by intro _; rfl) : QS X (.For tg iter body [] pos) (tFor wi g t) := ⟨ps_for hp hc hi.out hg.out hb.out hs⟩
theorem qg_name {n : Nat} (hN : X.N.Nodup) (hi : X.N[n]? = some x) (hx : Loc X.env.scope x) (hf : X.fn x = true ∨ X.env.scope.names.lookup x = some .local := by first | exact .inl rfl | exact .inr rfl | assumption) : QG X (.Name x pos) (gName n) := ⟨pg_name hN hi hx hf⟩
variable {tg : Expr}
theorem qi_list {K : PySem.W.Frag} (h : QE X e te) (hK : X.K = K := by rfl) : QI X tg e (iList K te) := by subst hK; exact ⟨pi_list h.out⟩
theorem qi_str (h : QE X e te) : QI X tg e (iStr te) := ⟨pi_str h.out⟩
theorem qi_r1 (hm : X.mg "range" = none) (ha : QA X [a] tl) (hg : Gl X "range" := by rfl) (h1 : isStar a = false := by rfl) : QI X tg (.Call (.Name "range" p) [a] [] pos) (iRng1 tl) := ⟨pi_r1 hg hm ha.out h1⟩
theorem qifs_nil : QIfs X [] tYes := ⟨pifs_nil⟩
variable {sc : Scope} {N' : List Str} {k : Nat} {ixs : List Nat} {ifs : List Expr} {wi : TI} {g : TG} {elt : Expr}
theorem qe_comp (C : CompOk X.N X.env.scope.names sc N' k ixs) (hi : QI X tg e wi) (hg : ∀ C s₃ H₃ fp pins, QG (blk X sc N' C s₃ H₃ fp pins) tg g) (hc : ∀ C s₃ H₃ fp pins, QIfs (blk X sc N' C s₃ H₃ fp pins) ifs tA) (he : ∀ C s₃ H₃ fp pins, QE (blk X sc N' C s₃ H₃ fp pins) elt te)
    (hcalm : X.calm = true := by rfl) (hs : ∀ x, foldedSetIterable e X.env x = pure x := by intro _; rfl) : QE X (.ListComp elt [⟨tg, e, ifs, 0⟩] sc pos) (tComp wi k ixs g tA te) :=
  ⟨pe_comp C hcalm hi.out (fun _ _ _ _ _ => (hg _ _ _ _ _).out) (fun _ _ _ _ _ => (hc _ _ _ _ _).out) (fun _ _ _ _ _ => (he _ _ _ _ _).out) hs⟩
theorem q_add {K : PySem.W.Frag} (hK : X.K = K := by rfl) : QOp X (binaryOp .Add) (rAddU K) := by subst hK; exact ⟨p_add⟩
theorem q_sub : QOp X (binaryOp .Sub) (rI0 fun i j => .int (i - j)) := ⟨p_sub⟩
theorem q_mul : QOp X (binaryOp .Mult) rMulU := ⟨p_mul⟩
theorem q_fdiv : QOp X (binaryOp .FloorDiv) (rI CDiv fun i j => .int (i / j)) := ⟨p_fdiv⟩
theorem q_mod : QOp X (binaryOp .Mod) (rI (fun _ j => 0 < j) fun i j => .int (i % j)) := ⟨p_mod⟩
theorem q_eq {K : PySem.W.Frag} (hu : X.A.units + 64 < cLine) (hK : X.K = K := by rfl) : QOp X (compareOp .Eq) (rEqU K) := by subst hK; exact ⟨p_eq hu⟩
theorem q_ne {K : PySem.W.Frag} (hu : X.A.units + 64 < cLine) (hK : X.K = K := by rfl) : QOp X (compareOp .NotEq) (rNeU K) := by subst hK; exact ⟨p_ne hu⟩
theorem q_lt : QOp X (compareOp .Lt) rLtU := ⟨p_lt⟩
theorem q_le : QOp X (compareOp .LtE) rLeU := ⟨p_le⟩
theorem q_gt : QOp X (compareOp .Gt) rGtU := ⟨p_gt⟩
theorem q_ge : QOp X (compareOp .GtE) rGeU := ⟨p_ge⟩
theorem q_in {K : PySem.W.Frag} (hu : X.A.units + 64 < cLine) (hK : X.K = K := by rfl) : QOp X (compareOp .In) (rInU K false) := by subst hK; exact ⟨p_in hu⟩
theorem q_len {K : PySem.W.Frag} (hK : X.K = K := by rfl) : QCall X (.builtin "len") (rLenU K) := by subst hK; exact ⟨p_len⟩
theorem q_isi : QCall X (.builtin "isinstance") rIsi := ⟨call_isi⟩
theorem q_all {calm : Bool} (hcm : X.calm = calm := by rfl) : QCall X (.builtin "all") (rAllB calm) := by subst hcm; exact ⟨p_all⟩
theorem q_ord : QCall X (.builtin "ord") rOrd := ⟨p_ord⟩
end
end L2
set_option maxRecDepth 100000
namespace L2
open PySem PySem.Spec PyProof.Rows
noncomputable def ModD (P : Program) (w : World) (K : PySem.W.Frag) (a : Addr) (kvs : List (Key × V)) : Prop := (a == sysModules) = false ∧ ∀ h : Heap, K.In h → ∃ vs, KV kvs vs ∧ h.DictOf (mixKind P w) a vs
noncomputable abbrev ModE (w : World) : List DictEntry → List (Key × V) → Prop := Paired fun e kv => keyIs kv.1 e.key = true ∧ e.hash = keyH w kv.1 ∧ RelV kv.2 e.val
theorem ModE.pairs {P : Program} {w : World} : ∀ {es : List DictEntry} {kvs : List (Key × V)}, ModE w es kvs → ∃ vs : List (Key × Value), KV kvs vs ∧ Pairs (mixKind P w) es vs ∧ (∀ e ∈ es, ∃ k, (mixKind P w).is k e.key = true ∧ e.hash = (mixKind P w).hash k) ∧ vs.map (·.1) = kvs.map (·.1)
  | _, _, .nil => ⟨[], .nil, .nil, fun e h => (nomatch h), rfl⟩
  | e :: es, kv :: kvs, .cons ⟨h1, h2, h3⟩ t => by
    obtain ⟨vs, a1, a2, a3, a4⟩ := ModE.pairs (P := P) t
    refine ⟨(kv.1, e.val) :: vs, .cons ⟨rfl, h3⟩ a1, .cons h1 rfl a2, fun e' he => ?_, by rw [List.map_cons, List.map_cons, a4]⟩
    rcases List.mem_cons.mp he with z | z
    · rw [z]; exact ⟨kv.1, h1, h2⟩
    · exact a3 e' z
theorem modD_mk {P : Program} {w : World} {K : PySem.W.Frag} {a : Addr} {es : Array DictEntry} {ep : Nat} {kvs : List (Key × V)} (l : K.lookup a = some { cls := .type "dict", dict := none, data := .dict es ep, slots := #[] }) (hs : (a == sysModules) = false) (he : ModE w es.toList kvs) (hn : (kvs.map (·.1)).Nodup) : ModD P w K a kvs := by
  refine ⟨hs, fun h X => ?_⟩
  obtain ⟨vs, a1, a2, a3, a4⟩ := he.pairs (P := P)
  exact ⟨vs, a1, _, es, ep, X a _ l, ⟨rfl, rfl, rfl⟩, rfl, fun e h => a3 e (Array.mem_toList_iff.mpr h), a2, by rw [a4]; exact hn⟩
noncomputable def rInM (neg : Bool) (a : Addr) (kvs : List (Key × V)) : R2 := fun x y H Q => y = .ref a ∧ ∃ k, x = kV k ∧ Q (.bl (neg.xor (valV kvs k).isSome)) H
noncomputable def tDGetM (a : Addr) (kvs : List (Key × V)) (to ti : TE) : TE := fun σ H Q => to σ H fun x H1 => ti σ H1 fun y H2 => x = .ref a ∧ ∃ k v, y = kV k ∧ valV kvs k = some v ∧ Q v H2
section
variable {X : Cx} {a : Addr} {kvs : List (Key × V)} {o i : Expr} {to ti : TE} {pos : Pos}
theorem q_notinM (M : ModD X.prog X.w X.K a kvs) : QOp X (compareOp .NotIn) (rInM true a kvs) := ⟨by
  intro pins s σ H x y v u Q I rx ry h
  obtain ⟨rfl, k, rfl, q⟩ := h
  obtain rfl : u = Value.ref a := ry
  obtain ⟨hd, M⟩ := M
  obtain ⟨vs, rel, dd⟩ := M s.heap I.kIn
  refine wpAny_notIn_of (kV_is rx) hd dd.mapOf ?_
  rw [← (rel.val k).isSome_eq]
  exact ⟨.bl _, H, I.tok _, rfl, by simpa using q⟩⟩
theorem qe_dgetM (M : ModD X.prog X.w X.K a kvs) (ho : QE X o to) (hi : QE X i ti) (hs : NoSl i := by exact fun _ _ => rfl) : QE X (.Subscript o i pos) (tDGetM a kvs to ti) := ⟨by
  intro pins s σ H Q I h
  refine subD_of PySem.F.slot_dict_getitem.lookup hs (thn (ho.out pins s σ H _ I h) fun u s1 ⟨x, H1, I1, rx, q1⟩ => thn (hi.out pins s1 σ H1 _ I1 q1) fun iv s2 ⟨y, H2, I2, ry, ex, k, v, ey, l, q2⟩ => ?_)
  subst ex ey
  obtain rfl : u = Value.ref a := rx
  obtain ⟨hd, M⟩ := M
  obtain ⟨vs, rel, dd⟩ := M s2.heap I2.kIn
  obtain ⟨w', hw, rw'⟩ := RelO.some_of (v := v) (o := valueAt vs k) (by rw [← l]; exact rel.val k)
  exact ⟨dd.typeIs, wpAny_getItem_of (kV_is ry) dd.mapOf hw ⟨v, H2, I2.tok _, rw', q2⟩⟩⟩
end
theorem kV_str {z : Str} {k : Key} : (V.str z = kV k) = (k = Sum.inr z) := by
  cases k with
  | inl i => exact propext ⟨fun h => (by cases h), fun h => (by cases h)⟩
  | inr x => exact propext ⟨fun h => (by cases h; rfl), fun h => (by cases h; rfl)⟩
theorem ap_inM {neg : Bool} {a b : Addr} {kvs : List (Key × V)} {z : Str} {H : Hp} {Q : VK} : rInM neg a kvs (.str z) (.ref b) H Q = (V.ref b = V.ref a ∧ Q (.bl (neg.xor (valV kvs (Sum.inr z)).isSome)) H) := by
  unfold rInM
  simp only [kV_str, exists_eq_left]
theorem ap_dgetM {a : Addr} {kvs : List (Key × V)} {to ti : TE} {σ : St} {H : Hp} {Q : VK} : tDGetM a kvs to ti σ H Q = to σ H fun x H1 => ti σ H1 fun y H2 => x = .ref a ∧ ∃ k v, y = kV k ∧ valV kvs k = some v ∧ Q v H2 := rfl
noncomputable def WhileIt (c : TT) (tb : TS) (D : Ends) (σ : St) (H : Hp) : Prop := tWhile c tb D σ H
theorem ap_while {c : TT} {tb : TS} {D : Ends} {σ : St} {H : Hp} : tWhile c tb D σ H = WhileIt c tb D σ H := rfl
noncomputable def rTupR (K : PySem.W.Frag) (p : Addr) (H : Hp) (Q : VK) : Prop := ∃ ys, (SqL K H p ys ∧ ∀ l, H l = none → Q (.ref l) (upd H l (.tup ys))) ∨ (SqT K H p ys ∧ Q (.ref p) H)
theorem rTupR.l {K : PySem.W.Frag} {p : Addr} {H : Hp} {Q : VK} {ys : List V} (h1 : SqL K H p ys) (h : ∀ l, H l = none → Q (.ref l) (upd H l (.tup ys))) : rTupR K p H Q := ⟨ys, .inl ⟨h1, h⟩⟩
theorem rTupR.t {K : PySem.W.Frag} {p : Addr} {H : Hp} {Q : VK} {ys : List V} (h1 : SqT K H p ys) (h : Q (.ref p) H) : rTupR K p H Q := ⟨ys, .inr ⟨h1, h⟩⟩
noncomputable def rTupU (K : PySem.W.Frag) : List V → Hp → VK → Prop
  | [.ref p], H, Q => rTupR K p H Q
  | _, _, _ => False
theorem tup_r {K : PySem.W.Frag} {p : Addr} {H : Hp} {Q : VK} : rTupU K [.ref p] H Q = rTupR K p H Q := rfl
theorem q_tuple {X : Cx} {K : PySem.W.Frag} (hK : X.K = K := by rfl) : QCall X (.type "tuple") (rTupU K) := by
  subst hK
  refine ⟨fun pins s σ H xs us Q I r h => ?_⟩
  match xs, h with
  | [.ref p], ⟨ys, h⟩ => exact call_tuple_of pins s σ H _ us Q I r ⟨p, ys, rfl, h⟩
noncomputable def rMin : List V → Hp → VK → Prop := fun xs H Q => ∃ i j, xs = [.int i, .int j] ∧ Q (.int (if j < i then j else i)) H
noncomputable def rMax : List V → Hp → VK → Prop := fun xs H Q => ∃ i j, xs = [.int i, .int j] ∧ Q (.int (if j > i then j else i)) H
theorem min_ii {i j : Int} {H : Hp} {Q : VK} : rMin [.int i, .int j] H Q = Q (.int (if j < i then j else i)) H := propext ⟨fun ⟨_, _, e, q⟩ => (by cases e; exact q), fun q => ⟨_, _, rfl, q⟩⟩
theorem max_ii {i j : Int} {H : Hp} {Q : VK} : rMax [.int i, .int j] H Q = Q (.int (if j > i then j else i)) H := propext ⟨fun ⟨_, _, e, q⟩ => (by cases e; exact q), fun q => ⟨_, _, rfl, q⟩⟩
noncomputable def rCalm (calm : Bool) (r : List V → Hp → VK → Prop) : List V → Hp → VK → Prop := fun xs H Q => calm = true ∧ r xs H Q
theorem q_max {X : Cx} {calm : Bool} (hc : X.calm = calm := by rfl) : QCall X (.builtin "max") (rCalm calm rMax) := ⟨fun pins s σ H xs us Q I r h => call_max2 (hc.trans h.1) pins s σ H xs us Q I r h.2⟩
theorem ap_calm {r : List V → Hp → VK → Prop} {xs : List V} {H : Hp} {Q : VK} : rCalm true r xs H Q = r xs H Q := propext ⟨fun h => h.2, fun h => ⟨rfl, h⟩⟩
end L2
set_option maxRecDepth 100000
namespace L2
open PySem PySem.Spec PyProof.Rows
open PySem.Builtin PySem.Builtin.Str PySem.StrLaws
theorem cutV_from (xs : List V) (k : Nat) : cutV xs (some (k : Int)) none = xs.drop k := by
  unfold cutV
  have e1 : HT.sIx xs.length 0 (some (k : Int)) = min k xs.length := by unfold HT.sIx; simp; omega
  have e2 : HT.sIx xs.length xs.length none = xs.length := rfl
  rw [e1, e2, List.take_of_length_le (by rw [List.length_drop]; exact Nat.le_refl _)]
  by_cases h : k ≤ xs.length
  · rw [Nat.min_eq_left h]
  · rw [Nat.min_eq_right (by omega), List.drop_of_length_le (Nat.le_refl _), List.drop_of_length_le (by omega)]
theorem cutV_to (xs : List V) (k : Nat) : cutV xs none (some (k : Int)) = xs.take k := by
  unfold cutV
  have e1 : HT.sIx xs.length xs.length (some (k : Int)) = min k xs.length := by unfold HT.sIx; simp; omega
  have e2 : HT.sIx xs.length 0 none = 0 := rfl
  rw [e1, e2, List.drop_zero, Nat.sub_zero]
  by_cases h : k ≤ xs.length
  · rw [Nat.min_eq_left h]
  · rw [Nat.min_eq_right (by omega), List.take_of_length_le (Nat.le_refl _), List.take_of_length_le (by omega)]
theorem cutV_tail (x : V) (xs : List V) : cutV (x :: xs) (some 1) none = xs := cutV_from (x :: xs) 1
theorem atI_zero {α : Type} (x : α) (xs : List α) : atI (x :: xs) 0 = some x := by
  have e : ixN (x :: xs).length 0 = some 0 := by unfold ixN; rw [if_pos (Int.le_refl 0), if_pos (by rw [List.length_cons]; omega)]; rfl
  unfold atI
  rw [e]
  rfl
structure QPs (X : Cx) (pos : Pos) (keys : List (Option Expr)) (values : List Expr) (trs : List (TE × TE)) : Prop where
  out : PPs X pos keys values trs
theorem qps_nil {X : Cx} {pos : Pos} : QPs X pos [] [] [] := ⟨pps_nil⟩
theorem qps_cons {X : Cx} {pos : Pos} {k v : Expr} {ks : List (Option Expr)} {vs : List Expr} {tk tv : TE} {trs : List (TE × TE)} (hk : QE X k tk) (hv : QE X v tv) (hr : QPs X pos ks vs trs) : QPs X pos (some k :: ks) (v :: vs) ((tk, tv) :: trs) := ⟨pps_cons hk.out hv.out hr.out⟩
theorem qe_disp {X : Cx} {pos : Pos} {keys : List (Option Expr)} {values : List Expr} {trs : List (TE × TE)} (h : QPs X pos keys values trs) (hall : keys.all (·.isSome) = true := by rfl) (hl : keys.length = values.length := by rfl) (h0 : keys ≠ [] := by simp) (h15 : decide (keys.length ≤ 15) = true := by rfl) : QE X (.Dict keys values pos) (tDisp trs) := ⟨pe_disp h.out hall hl h0 (of_decide_eq_true h15)⟩
theorem ap_disp {trs : List (TE × TE)} {σ : St} {H : Hp} {Q : VK} : tDisp trs σ H Q = ∀ p, H p = none → tPairs trs σ (upd H p (.dK [])) fun ps H2 => H2 p = some (.dK []) ∧ ∃ kvs : List (Key × V), ps = kvs.map (fun kv => (kV kv.1, kv.2)) ∧ kvs.length ≤ 15 ∧ Q (.ref p) (upd H2 p (.dK (mergeK [] kvs))) := rfl
theorem ap_pnil {σ : St} {H : Hp} {Q : List (V × V) → Hp → Prop} : tPairs [] σ H Q = Q [] H := rfl
theorem ap_pcons {tk tv : TE} {r : List (TE × TE)} {σ : St} {H : Hp} {Q : List (V × V) → Hp → Prop} : tPairs ((tk, tv) :: r) σ H Q = tk σ H fun x H1 => tv σ H1 fun y H2 => tPairs r σ H2 fun ps H3 => Q ((x, y) :: ps) H3 := rfl
theorem ap_dget2 {td ty tx : TE} {σ : St} {H : Hp} {Q : VK} : tDGet2 td ty tx σ H Q = td σ H fun x H1 => ∃ a, x = .ref a ∧ IsD H1 a ∧ ty σ H1 fun y H2 => tx σ H2 fun z H3 => ∃ o, DGet H3 a y o ∧ Q (o.getD z) H3 := rfl
theorem vals_strsAre : ∀ {zs : List Str} {us : List Value}, Vals (zs.map V.str) us → StrsAre us zs
  | [], _, .nil => .nil
  | z :: zs, _ :: _, .cons ⟨t, h⟩ r => by subst h; exact .cons _ _ (vals_strsAre r)
theorem vals_of_numbered : ∀ l : List (Str × Tok), Vals ((l.map (·.1)).map V.str) (strValues l)
  | [] => .nil
  | (z, t) :: r => .cons ⟨t, rfl⟩ (vals_of_numbered r)
noncomputable def rJoin (K : PySem.W.Frag) : V → List V → Hp → VK → Prop := fun x vs H Q => ∃ (z : Str) (b : Addr) (zs : List Str), x = .str z ∧ vs = [.ref b] ∧ (SqL K H b (zs.map V.str) ∨ SqT K H b (zs.map V.str)) ∧ z.length ≤ 16 ∧ (zs.map (·.length)).sum + zs.length ≤ 1048576 ∧ Q (.str (Str.join z zs)) H
theorem q_join {X : Cx} {K : PySem.W.Frag} (hK : X.K = K := by rfl) : QMt X "str.join" (rJoin K) := ⟨by
  subst hK
  intro pins s σ H x vs v us Q I rx rv h
  obtain ⟨z, b, zs, rfl, rfl, hb, h1, h2, q⟩ := h
  obtain ⟨t, rfl⟩ := rx
  obtain ⟨u, rfl, ru⟩ := vals1 rv
  cases ru
  have e : Txt.join z zs = Str.join z zs := glued_eq_join z zs
  rcases hb with hb | hb
  · obtain ⟨its, r', pl, hz⟩ := I.list hb
    exact join_listW pl.isList (by simpa using vals_strsAre r') h1 h2 fun t' k => ⟨.str (Str.join z zs), H, I.tok k, ⟨t', by rw [e]⟩, q⟩
  · obtain ⟨its, r', pl, hz⟩ := I.tuple hb
    exact join_tupleW pl (by simpa using vals_strsAre r') h1 h2 fun t' k => ⟨.str (Str.join z zs), H, I.tok k, ⟨t', by rw [e]⟩, q⟩⟩
theorem split_call {prog : Program} {w : World} {A : Around} {E : Value → Shared → Prop} {s : Shared} {x y : Str} {t u : Tok} {Q : Value → Shared → Prop} (hy : (y.length == 0) = false) (hsz : x.length ≤ sizeLine) (hsz2 : (Txt.split x y).length ≤ sizeLine)
    (hq : ∀ (l : List (Str × Tok)) (k : Nat), l.map (·.1) = Txt.split x y → Q (.ref s.heap.objs.size) { s with heap := s.heap.push { cls := .type "list", data := .seq (strValues l).toArray }, toks := k }) :
    wpAny (model prog w) A (call (.builtin "str.split") [.str x t, .str y u]) Q E s := by
  cases h1 : (decide (x.length < y.length) || decide (strKind x < strKind y))
  · cases hf : (occurrences x y 0 x.length (x.length + 1)).isEmpty
    · have e : Txt.split x y = partsBetween x (occurrences x y 0 x.length (x.length + 1)) y.length := (if_neg (ne_true_of_eq_false h1)).trans (if_neg (ne_true_of_eq_false hf))
      refine call_meets F.slot_str_split (typeIs_str _ _ _) F.entry_str_split (F.args_str_split_2 _ _) (meets_str_split_sep x y t u h1 hy hf hsz (by rw [← e]; exact hsz2)) ?_
      show wants Q E _ { s with toks := _, heap := s.heap.push { cls := .type "list", data := .seq (strsFrom s.toks (partsBetween x (occurrences x y 0 x.length (x.length + 1)) y.length)).toArray } }
      rw [strsFrom_eq]
      exact hq (numbered s.toks _) _ ((numbered_texts _ _).trans e.symm)
    · exact call_meets F.slot_str_split (typeIs_str _ _ _) F.entry_str_split (F.args_str_split_2 _ _) (meets_str_split_not_found x y t u h1 hy hf)
        (hq [(x, t)] s.toks ((if_neg (ne_true_of_eq_false h1)).trans (if_pos hf)).symm)
  · exact call_meets F.slot_str_split (typeIs_str _ _ _) F.entry_str_split (F.args_str_split_2 _ _) (meets_str_split_cannot_occur x y t u h1)
      (hq [(x, t)] s.toks (if_pos h1).symm)
noncomputable def rSplit : V → List V → Hp → VK → Prop := fun x vs H Q => ∃ (z y : Str), x = .str z ∧ vs = [.str y] ∧ (y.length == 0) = false ∧ z.length ≤ sizeLine ∧ (Txt.split z y).length ≤ sizeLine ∧ ∀ p, H p = none → Q (.ref p) (upd H p (.lst ((Txt.split z y).map V.str)))
theorem q_split {X : Cx} : QMt X "str.split" rSplit := ⟨by
  intro pins s σ H x vs v us Q I rx rv h
  obtain ⟨z, y, rfl, rfl, h0, h1, h2, q⟩ := h
  obtain ⟨t, rfl⟩ := rx
  obtain ⟨u, rfl, ru⟩ := vals1 rv
  obtain ⟨t2, rfl⟩ := ru
  refine split_call h0 h1 h2 fun l k e => ⟨.ref _, _, I.lnew (ys := (Txt.split z y).map V.str) (t' := k) (by rw [← e]; exact vals_of_numbered l) (by rw [List.length_map]; exact h2), rfl, q _ I.fresh⟩⟩
theorem occ_all {s sub : Str} {hi limit : Nat} (h1 : sub.length = 1) : ∀ (n a : Nat) (st : Array Nat × Nat), st.snd ≤ a → st.fst.size + n ≤ limit →
    (forIn (List.range' a n) st (occBody s sub hi limit)).run.fst.toList = st.fst.toList ++ (List.range' a n).filter (fun i => decide (i + 1 ≤ hi) && subAt s sub i)
  | 0, a, st, _, _ => by simp
  | n + 1, a, st, h2, h3 => by
    rw [List.range'_succ, List.forIn_cons]
    unfold occBody
    by_cases hc : a + 1 ≤ hi ∧ subAt s sub a = true
    · rw [if_pos ⟨⟨⟨by omega, h2⟩, by omega⟩, hc.2⟩]
      have := occ_all (s := s) (hi := hi) (limit := limit) h1 n (a + 1) (st.fst.push a, a + sub.length) (by simp only; omega) (by rw [Array.size_push]; omega)
      refine this.trans ?_
      rw [List.filter_cons_of_pos (by rw [decide_eq_true hc.1, hc.2]; rfl), Array.toList_push, List.append_assoc]
      rfl
    · rw [if_neg (fun h => hc ⟨by omega, h.2⟩)]
      have := occ_all (s := s) (hi := hi) (limit := limit) h1 n (a + 1) (st.fst, st.snd) (by simp only; omega) (by simp only; omega)
      refine this.trans ?_
      rw [List.filter_cons_of_neg]
      intro h
      simp at h
      exact hc h
theorem sub_one {x : Str} {c i : Nat} : subAt x ⟨#[c]⟩ i = (x.cps.toList[i]? == some c) := by
  rw [subAt_eq]
  show ((x.cps.toList.drop i).take 1 == [c]) = _
  rw [Bool.eq_iff_iff, take1_drop, beq_iff_eq]
noncomputable def joinN (c : Nat) : List Str → List Nat
  | [] => []
  | [z] => z.cps.toList
  | z :: r => z.cps.toList ++ c :: joinN c r
theorem joinN_eq (c : Nat) : ∀ zs : List Str, (Str.join ⟨#[c]⟩ zs).cps.toList = joinN c zs
  | [] => rfl
  | [z] => rfl
  | z :: y :: r => by
    show (z ++ ⟨#[c]⟩ ++ Str.join ⟨#[c]⟩ (y :: r)).cps.toList = z.cps.toList ++ c :: joinN c (y :: r)
    rw [← joinN_eq c (y :: r)]
    simp only [Str.cps_append, Array.toList_append]
    simp
theorem parts_join {x : Str} {c : Nat} : ∀ (zs : List Str) (pre : List Nat), zs ≠ [] → (∀ z ∈ zs, c ∉ z.cps.toList) → x.cps.toList = pre ++ joinN c zs →
    partsFrom x 1 pre.length ((List.range' pre.length (x.length + 1 - pre.length)).filter (fun i => decide (i + 1 ≤ x.length) && subAt x ⟨#[c]⟩ i)) = zs
  | [], _, h, _, _ => absurd rfl h
  | [z], pre, _, h, e => by
    have hx : x.length = pre.length + z.length := by
      have := congrArg List.length e
      simpa [joinN, Str.length] using this
    have e0 : (List.range' pre.length (x.length + 1 - pre.length)).filter (fun i => decide (i + 1 ≤ x.length) && subAt x ⟨#[c]⟩ i) = [] := by
      rw [List.filter_eq_nil_iff]
      intro i hi hc
      simp only [List.mem_range'_1] at hi
      rw [sub_one, e, List.getElem?_append_right (by omega)] at hc
      simp only [Bool.and_eq_true, beq_iff_eq] at hc
      exact h z (List.mem_singleton.mpr rfl) (List.mem_of_getElem? hc.2)
    rw [e0]
    show [strSub x pre.length x.length] = [z]
    congr 1
    apply Str.ext'
    apply Array.toList_inj.mp
    rw [strSub_toList, e, List.drop_left]
    exact List.take_of_length_le (by show z.cps.toList.length ≤ _; simp [Str.length] at hx ⊢; omega)
  | z :: y :: r, pre, _, h, e => by
    have e' : x.cps.toList = pre ++ (z.cps.toList ++ c :: joinN c (y :: r)) := e
    have hx : x.length = pre.length + z.length + 1 + (joinN c (y :: r)).length := by
      have := congrArg List.length e'
      simp [Str.length] at this ⊢
      omega
    have hz : z.cps.toList.length = z.length := by simp [Str.length]
    have ih := parts_join (x := x) (c := c) (y :: r) (pre ++ z.cps.toList ++ [c]) (by simp) (fun w hw => h w (List.mem_cons_of_mem _ hw)) (by rw [e']; simp)
    have hl : (pre ++ z.cps.toList ++ [c]).length = pre.length + z.length + 1 := by simp [Str.length]; omega
    rw [hl] at ih
    have e1 : List.range' pre.length (x.length + 1 - pre.length) = List.range' pre.length z.length ++ (pre.length + z.length) :: List.range' (pre.length + z.length + 1) (x.length + 1 - (pre.length + z.length + 1)) := by
      rw [← List.range'_succ, List.range'_append_1]
      congr 1
      omega
    have e0 : (List.range' pre.length z.length).filter (fun i => decide (i + 1 ≤ x.length) && subAt x ⟨#[c]⟩ i) = [] := by
      rw [List.filter_eq_nil_iff]
      intro i hi hc
      simp only [List.mem_range'_1] at hi
      rw [sub_one, e', List.getElem?_append_right (by omega), List.getElem?_append_left (by omega)] at hc
      simp only [Bool.and_eq_true, beq_iff_eq] at hc
      exact h z List.mem_cons_self (List.mem_of_getElem? hc.2)
    rw [e1, List.filter_append, e0, List.nil_append, List.filter_cons_of_pos]
    · show strSub x pre.length (pre.length + z.length) :: partsFrom x 1 (pre.length + z.length + 1) _ = _
      rw [ih]
      congr 1
      apply Str.ext'
      apply Array.toList_inj.mp
      rw [strSub_toList, e', List.drop_left, ← hz]
      rw [show pre.length + z.cps.toList.length - pre.length = z.cps.toList.length by omega, List.take_left]
    · rw [sub_one, e', List.getElem?_append_right (by omega), List.getElem?_append_right (by omega)]
      rw [show pre.length + z.length - pre.length - z.cps.toList.length = 0 by omega, decide_eq_true (by omega)]
      simp
theorem split_join {c : Nat} (hc : c < 256) {zs : List Str} (h0 : zs ≠ []) (h : ∀ z ∈ zs, c ∉ z.cps.toList) : Txt.split (Str.join ⟨#[c]⟩ zs) ⟨#[c]⟩ = zs := by
  have h1 : occurrences (Str.join ⟨#[c]⟩ zs) ⟨#[c]⟩ 0 (Str.join ⟨#[c]⟩ zs).length ((Str.join ⟨#[c]⟩ zs).length + 1) = (List.range' 0 ((Str.join ⟨#[c]⟩ zs).length + 1 - 0)).filter (fun i => decide (i + 1 ≤ (Str.join ⟨#[c]⟩ zs).length) && subAt (Str.join ⟨#[c]⟩ zs) ⟨#[c]⟩ i) := by
    rw [occ_eq, occ_all rfl _ _ _ (Nat.le_refl 0) (by show 0 + _ ≤ _; omega)]
    rfl
  have h2 := parts_join (x := Str.join ⟨#[c]⟩ zs) (c := c) zs [] h0 h (by rw [joinN_eq]; rfl)
  rw [List.length_nil, ← h1] at h2
  have h3 : partsBetween (Str.join ⟨#[c]⟩ zs) (occurrences (Str.join ⟨#[c]⟩ zs) ⟨#[c]⟩ 0 (Str.join ⟨#[c]⟩ zs).length ((Str.join ⟨#[c]⟩ zs).length + 1)) 1 = zs := by rw [partsBetween_eq]; exact h2
  have key : ∀ x : Str, (occurrences x ⟨#[c]⟩ 0 x.length (x.length + 1)).isEmpty = true → partsBetween x (occurrences x ⟨#[c]⟩ 0 x.length (x.length + 1)) 1 = [x] := fun x hx => by
    rw [List.isEmpty_iff.mp hx]
    show [strSub x 0 x.length] = [x]
    rw [sub_whole]
  unfold Txt.split
  split
  · rename_i hk
    have hk2 : (Str.join ⟨#[c]⟩ zs).length = 0 := by
      have e1 : PySem.Builtin.Str.strKind (⟨#[c]⟩ : Str) = 1 := by unfold PySem.Builtin.Str.strKind; simp [hc]
      have e2 : 1 ≤ PySem.Builtin.Str.strKind (Str.join ⟨#[c]⟩ zs) := by unfold PySem.Builtin.Str.strKind; split <;> (try split) <;> omega
      rw [e1] at hk
      simp at hk
      have : (⟨#[c]⟩ : Str).length = 1 := rfl
      omega
    have hn : occurrences (Str.join ⟨#[c]⟩ zs) ⟨#[c]⟩ 0 (Str.join ⟨#[c]⟩ zs).length ((Str.join ⟨#[c]⟩ zs).length + 1) = [] := by
      rw [h1, hk2, List.filter_eq_nil_iff]
      intro i _ h
      simp at h
    rw [← key _ (by rw [hn]; rfl)]
    exact h3
  · split
    · rename_i h5
      rw [← key _ h5]
      exact h3
    · exact h3
end L2
set_option maxRecDepth 100000
namespace L2
open PySem PySem.Spec PyProof.Rows
section
variable {prog : Program} {w : World} {A : Around} {R : Result → Shared → Prop} {I : Addr} {fp wr : List Addr} {G : Array GenState → Array GenState → Prop} {n : Nat} {P : Nat → Value → Prop} {St : Nat → Shared → Prop}
variable {K : Type} [DecidableEq K] {knd : KeyKind prog w K}
end
section
variable {prog : Program} {w : World} {A : Around} {E : Value → Shared → Prop} {s : Shared} {K : Type} [DecidableEq K] {knd : KeyKind prog w K}
end
end L2
set_option maxRecDepth 100000
namespace L2
open PySem PySem.Spec PyProof.Rows
section
variable {X : Cx} {pins : List (Addr × Obj)} {σ : St} {H : Hp} {s : Shared} {h' : Heap}
end
noncomputable def Itz (l1 l2 : Addr) : It :=
  ⟨fun i H => ∃ xs ys x y, H l1 = some (.lst xs) ∧ H l2 = some (.lst ys) ∧ xs[i]? = some x ∧ ys[i]? = some y,
   fun i H v H' => ∃ t xs ys x y, H l1 = some (.lst xs) ∧ H l2 = some (.lst ys) ∧ xs[i]? = some x ∧ ys[i]? = some y ∧ H t = none ∧ v = .ref t ∧ H' = upd H t (.tup [x, y]),
   fun i H => ∃ xs ys, H l1 = some (.lst xs) ∧ H l2 = some (.lst ys) ∧ (xs.length ≤ i ∨ ys.length ≤ i)⟩
section
variable {X : Cx}
noncomputable def iZip (ta : TA) : TI := fun σ H R => ta σ H fun vs H1 => ∃ (l1 l2 : Addr) (xs ys : List V), vs = [.ref l1, .ref l2] ∧ H1 l1 = some (.lst xs) ∧ H1 l2 = some (.lst ys) ∧ R (Itz l1 l2) H1
end
theorem ap_izip {ta : TA} {σ : St} {H : Hp} {R : It → Hp → Prop} : iZip ta σ H R = ta σ H fun vs H1 => ∃ (l1 l2 : Addr) (xs ys : List V), vs = [.ref l1, .ref l2] ∧ H1 l1 = some (.lst xs) ∧ H1 l2 = some (.lst ys) ∧ R (Itz l1 l2) H1 := rfl
noncomputable def Itr3 (lo st : Int) (n : Nat) : It := ⟨fun i _ => i < n, fun i H x H' => H' = H ∧ x = .int (lo + i * st), fun i _ => n ≤ i⟩
noncomputable def tDSetD (td ty tx : TE) : TE := fun σ H Q => td σ H fun x H1 => ∃ a, x = .ref a ∧ IsD H1 a ∧ ty σ H1 fun y H2 => tx σ H2 fun z H3 => ∃ kvs k, H3 a = some (.dK kvs) ∧ kvs.length < sizeLine ∧ y = kV k ∧
  (∀ v, valV kvs k = some v → Q v H3) ∧ (valV kvs k = none → Q z (upd H3 a (.dK (putK kvs k z))))
section
variable {X : Cx} {o e f : Expr} {apos cpos : Pos} {td ty tx : TE} {pins : List (Addr × Obj)} {σ : St} {H : Hp} {s : Shared} {a : Addr} {A : Around} {E : Value → Shared → Prop}
theorem ap_dsetd : tDSetD td ty tx σ H Q = td σ H fun x H1 => ∃ a, x = .ref a ∧ IsD H1 a ∧ ty σ H1 fun y H2 => tx σ H2 fun z H3 => ∃ kvs k, H3 a = some (.dK kvs) ∧ kvs.length < sizeLine ∧ y = kV k ∧
  (∀ v, valV kvs k = some v → Q v H3) ∧ (valV kvs k = none → Q z (upd H3 a (.dK (putK kvs k z)))) := rfl
end
section
variable {X : Cx} {tg : Expr}
noncomputable def rsz (i j k : Int) : Nat := (if i < j then (j - i - 1) / k + 1 else 0).toNat
noncomputable def iRng3 (ta : TA) : TI := fun σ H R => ta σ H fun vs H1 => ∃ i j k : Int, vs = [.int i, .int j, .int k] ∧ (-(2 ^ 60) ≤ i ∧ i < 2 ^ 60 ∧ -(2 ^ 60) ≤ j ∧ j < 2 ^ 60 ∧ 0 < k ∧ k < 1000000) ∧ R (Itr3 i k (rsz i j k)) H1
end
theorem ap_irng3 {ta : TA} {σ : St} {H : Hp} {R : It → Hp → Prop} : iRng3 ta σ H R = ta σ H fun vs H1 => ∃ i j k : Int, vs = [.int i, .int j, .int k] ∧ (-(2 ^ 60) ≤ i ∧ i < 2 ^ 60 ∧ -(2 ^ 60) ≤ j ∧ j < 2 ^ 60 ∧ 0 < k ∧ k < 1000000) ∧ R (Itr3 i k (rsz i j k)) H1 := rfl
section
variable {X : Cx} {pins : List (Addr × Obj)} {σ : St} {H : Hp} {s : Shared} {a : Addr}
end
noncomputable def Itd (a : Addr) (o : Obj) (kvs : List (Key × V)) : It :=
  ⟨fun i H => H a = some (.frz o (.dK kvs)) ∧ i < kvs.length, fun i H x H' => H' = H ∧ ∃ k v, kvs[i]? = some (k, v) ∧ x = kV k, fun i H => H a = some (.frz o (.dK kvs)) ∧ kvs.length ≤ i⟩
noncomputable def Ends.thaw (D : Ends) (a : Addr) (kvs : List (Key × V)) : Ends where
  nx := fun σ H => (∃ o, H a = some (.frz o (.dK kvs))) ∧ D.nx σ (upd H a (.dK kvs))
  rt := fun v H => (∃ o, H a = some (.frz o (.dK kvs))) ∧ D.rt v (upd H a (.dK kvs))
noncomputable def tForD (tl : TE) (g : TG) (tb : TS) : TS := fun D σ H => tl σ H fun x H1 => ∃ a kvs, x = .ref a ∧ H1 a = some (.dK kvs) ∧ ∀ o, ForIt (Itd a o kvs) g tb (D.thaw a kvs) σ (upd H1 a (.frz o (.dK kvs)))
theorem ap_forD {tl : TE} {g : TG} {tb : TS} {D : Ends} {σ : St} {H : Hp} : tForD tl g tb D σ H = tl σ H fun x H1 => ∃ a kvs, x = .ref a ∧ H1 a = some (.dK kvs) ∧ ∀ o, ForIt (Itd a o kvs) g tb (D.thaw a kvs) σ (upd H1 a (.frz o (.dK kvs))) := rfl
end L2
set_option maxRecDepth 100000
namespace L2
open PySem PySem.Spec PyProof.Rows
section
variable {prog : Program} {w : World} {A : Around} {E : Value → Shared → Prop} {h : Heap} {g : Array GenState} {d : Drawn} {t : Nat} {os : OsState}
variable {nm q : Str} {C N : Addr} {bs bm bmB : List Value} {hdct : Bool} {sn : List Str} {sub : List Value} {ab : Bool} {col : Option Bool} {dd : Option Addr} {k0 k1 k2 k3 k5 : Option Value} {B Bn newId nid initId inN : String} {bmN : List Value}
theorem exc_make (Fn : ExcBaseFacts Bn newId inN bmN) (hBn : bmB.contains (.type Bn) = true) (F : ExcBaseFacts B nid initId bmB) (T : OwnTail h bmB bm) {mN : Str → Option Value} {rest : List Value} {f : Addr} {of : Obj} {Q : Value → Shared → Prop}
    (hC : h.get? C = some (excClassObj nm q C N bs bm hdct sn sub ab col dd k0 k1 k2 k3 k5 newId)) (hn : h.Ns N mN) (hni : mN "__init__" = some (.ref f)) (hfo : h.get? f = some of) (hfc : of.cls = .type "function") (hrest : rest.length ≤ sizeLine)
    (hq : codeAny (model prog w) (A.under (.builtin "type.__call__" ⟨.ref C :: rest, []⟩)) (.call (.ref f) ⟨.ref (h.objs.size + 1) :: rest, []⟩) (fun r s' => match r with | .ok (.ret v) => v = .none ∧ Q (.ref (h.objs.size + 1)) s' | .ok _ => False | .error e => E e s')
      ⟨(h.push { cls := .type "tuple", data := .seq rest.toArray }).push { cls := .ref C, data := .fields #[.ref h.objs.size, .none, .none, .none, .bool false, .none] }, g, d, t, os⟩) :
    wpAny (model prog w) A (call (.ref C) rest) Q E ⟨h, g, d, t, os⟩ := by
  have f1 := tc_lookup; have f2 := tc_bind (.ref C)
  have hT : (⟨h, g, d, t, os⟩ : Shared).TypeIs (.ref C) "type" := ⟨_, hC, rfl⟩
  refine wpAny_call (codeAny_of_tree ?_); show wpAny _ _ (callAny (.ref C) _) _ _ _
  repeat (any_goals (first | assumption | with_reducible refine wpAny_loadPart_at hC ?_ | wp_step))
  refine ⟨rfl, ?_⟩
  refine codeAny_call_builtin_at (Code.quiet_builtin _ (by decide +kernel)) entry_typeCall (wpAny_check_type_call_sub hC ?_)
  repeat (first | with_reducible refine wpAny_loadPart_at hC ?_ | with_reducible refine wpAny_madeBy_exc hC ?_ | wp_step)
  refine codeAny_call_builtin_code (Code.quiet_builtin _ Fn.quiet) (wpAny_check_new_subU Fn hBn T hC ?_)
  refine codeAny_exc_new_subU Fn hBn F T hC ?_ hrest
  show wpAny _ _ _ _ _ ⟨(h.push { cls := .type "tuple", data := .seq rest.toArray }).push { cls := .ref C, data := .fields #[.ref h.objs.size, .none, .none, .none, .bool false, .none] }, g, d, t, os⟩
  generalize hh1 : ((h.push { cls := .type "tuple", data := .seq rest.toArray }).push { cls := .ref C, data := .fields #[.ref h.objs.size, .none, .none, .none, .bool false, .none] }) = h1 at hq ⊢
  have keep : ∀ b o, h.get? b = some o → h1.get? b = some o := fun b o e => by rw [← hh1]; exact Heap.get?_push_of_some _ (Heap.get?_push_of_some _ e)
  have hC1 := keep _ _ hC
  have hn1 : h1.Ns N mN := let ⟨o, es, ep, e, r⟩ := hn; ⟨o, es, ep, keep _ _ e, r⟩
  have hget : h1.get? (h.objs.size + 1) = some { cls := .ref C, data := .fields #[.ref h.objs.size, .none, .none, .none, .bool false, .none] } := by rw [← hh1]; heap_get
  have hcC : (Value.ref C :: bm).contains (.ref C) = true := by simp
  have T1 := T.keeps (h' := h1) keep
  unfold isInstance
  repeat (first | with_reducible refine wpAny_loadPart_at hget ?_ | (with_reducible refine wpAny_isSubtype_exc hC1 ?_; rw [hcC]) | wp_step)
  show wpAny _ _ (typeLookup (.ref C) _) _ _ _
  refine wpAny_typeLookup_tail hC1 hn1 T1 F.mroIs F.init.lookup ?_
  rw [hni]
  show wpAny _ _ (holding _ _) _ _ _
  refine wpAny_holding (wpAny_bind (wpAny_bindSpecial_def (keep _ _ hfo) hfc ?_))
  refine wpAny_bind (wpAny_call (codeAny_mono hq fun r s' hr => ?_))
  match r, hr with
  | .error e, z => exact z
  | .ok (.ret v), ⟨e1, z⟩ =>
    subst e1
    refine wpAny_pure ?_
    show wpAny _ _ (ret _) _ _ _
    exact wpAny_pure z
end
end L2
set_option maxRecDepth 100000
namespace L2
open PySem PySem.Spec PyProof.Rows
section
variable {prog : Program} {w : World} {A : Around} {E : Value → Shared → Prop} {h : Heap} {g : Array GenState} {d : Drawn} {t : Nat} {os : OsState}
variable {nm q : Str} {C N : Addr} {bs bm bmB : List Value} {hdct : Bool} {sn : List Str} {sub : List Value} {ab : Bool} {col : Option Bool} {dd : Option Addr} {k0 k1 k2 k3 k5 : Option Value} {B newId nid initId : String}
noncomputable abbrev excObj (C t0 : Addr) (od : Option Addr) : Obj := { cls := .ref C, dict := od, data := .fields #[.ref t0, .none, .none, .none, .bool false, .none] }
theorem exc_init_call (F : ExcBaseFacts B nid initId bmB) (T : OwnTail h bmB bm) {e a0 : Addr} {v : Value} {od : Option Addr} {Q : Value → Shared → Prop}
    (hC : h.get? C = some (excClassObj nm q C N bs bm hdct sn sub ab col dd k0 k1 k2 k3 k5 newId)) (he : h.get? e = some (excObj C a0 od))
    (hq : ∀ h' a1, (∀ b o, b ≠ e → h.get? b = some o → h'.get? b = some o) → h'.get? e = some (excObj C a1 od) → Q .none ⟨h', g, d, t, os⟩) :
    wpAny (model prog w) A (call (.builtin initId) [.ref e, v]) Q E ⟨h, g, d, t, os⟩ := by
  refine wpAny_call (codeAny_call_builtin F.init.plain F.initEntry (wpAny_check_init_subU F T hC he rfl ?_))
  wp_walk
  refine hq _ h.objs.size (fun b o hb hbo => ?_) ?_
  · rw [Heap.get?_update_other _ _ (Ne.symm hb)]
    exact Heap.get?_push_of_some _ hbo
  · rw [Heap.get?_update_self _ (Heap.get?_push_of_some _ he) rfl]
    rfl
end
end L2
set_option maxRecDepth 100000
namespace L2
open PySem PySem.Spec PyProof.Rows
section
variable {M : Model} {A : Around} {E : Value → Shared → Prop} {env : Env}
theorem raise_obj {s : Shared} {x : Sem Value} {Q : Flow → Shared → Prop} (hh : A.handled = none)
    (h : wpAny M A x (fun v s₁ => ∃ (e C t N : Addr) (od : Option Addr) (nm q : Str) (bs bm : List Value) (hdct : Bool) (sn : List Str) (sub : List Value) (ab : Bool) (col : Option Bool) (dd : Option Addr) (k0 k1 k2 k3 k5 : Option Value) (newId : String), v = .ref e ∧
      s₁.heap.get? C = some (excClassObj nm q C N bs bm hdct sn sub ab col dd k0 k1 k2 k3 k5 newId) ∧ bm.contains (.type "BaseException") = true ∧ s₁.heap.get? e = some (excObj C t od) ∧ E (.ref e) s₁) E s) :
    wpAny M A (raiseStmt env (some x) none) Q E s := by
  unfold raiseStmt; refine wpAny_bind (wpAny_mono h (fun v s₁ z => ?_) fun _ _ y => y)
  obtain ⟨e, C, t, N, od, nm, q, bs, bm, hdct, sn, sub, ab, col, dd, k0, k1, k2, k3, k5, newId, rfl, hC, hbase, he, hE⟩ := z
  have hcB : (Value.ref C :: bm).contains (.type "BaseException") = true := by rw [List.contains_cons, hbase, Bool.or_true]
  obtain ⟨hp, g, d, tk, os⟩ := s₁
  repeat (first | with_reducible refine wpAny_loadPart_at he ?_ | with_reducible refine wpAny_loadPart_at hC ?_ | (with_reducible refine wpAny_isSubtype_exc hC ?_; rw [hcB]) | wp_step)
  exact wpAny_raiseNew_none hh hE
end
end L2
set_option maxRecDepth 100000
namespace L2
open PySem PySem.Spec PyProof.Rows PySem.W PySem.Builtin PySem.Builtin.ObjectAttr
noncomputable def overIn (bmB : List Value) : List Value → Bool
  | [] => bmB == []
  | v :: r => (v :: r) == bmB || match v with
    | .ref _ => overIn bmB r
    | _ => false
theorem over_refuse {B : String} {bmB : List Value} (SF : StoreFacts B bmB "object.__setattr__" "object") (self : Value) : ∀ {l : List Value}, overIn bmB l = true → refuseLoop self "__setattr__" l = pure ()
  | [], e => by rw [← SF.passes self, ← beq_iff_eq.mp e]
  | v :: r, e => by
    unfold overIn at e
    rcases Bool.or_eq_true_iff.mp e with z | z
    · rw [beq_iff_eq.mp z]; exact SF.passes self
    · cases v with
      | ref c => rw [refuseLoop_ref]; exact over_refuse SF self z
      | _ => cases z
theorem over_has {B : String} {bmB : List Value} (SF : StoreFacts B bmB "object.__setattr__" "object") : ∀ {l : List Value}, overIn bmB l = true → l.contains (.type "object") = true
  | [], e => by have := SF.hasOwner; rw [beq_iff_eq.mp e] at this; exact this
  | v :: r, e => by
    unfold overIn at e
    rcases Bool.or_eq_true_iff.mp e with z | z
    · rw [beq_iff_eq.mp z]; exact SF.hasOwner
    · cases v with
      | ref c => rw [List.contains_cons, over_has SF z, Bool.or_true]
      | _ => cases z
section
variable {prog : Program} {w : World} {A : Around} {E : Value → Shared → Prop} {h : Heap} {g : Array GenState} {d : Drawn} {t : Nat} {os : OsState} {K : Frag} {C e t0 : Addr} {cd : ClassData} {B : String} {bmB : List Value} {name : Str} {v : Value}
theorem exc_store {Q : Unit → Shared → Prop} (SF : StoreFacts B bmB "object.__setattr__" "object") (X : K.In h) (he : h.get? e = some (excObj C t0 none)) (hc : clsIn K C = some cd) (hd : cd.hasDict = true) (ho : overIn bmB cd.mro = true)
    (hs : findIn K (.ref C) "__setattr__" = some (some (.builtin "object.__setattr__"))) (ht : findIn K (.ref C) name = some none)
    (hq : ∀ h' dx tk, h.objs.size ≤ dx → dx ≠ e → h'.get? e = some (excObj C t0 (some dx)) → h'.Ns1 dx (fun y => if y = name then some v else none) → (∀ b o, b ≠ e → h.get? b = some o → h'.get? b = some o) → Q () ⟨h', g, d, tk, os⟩) :
    wpAny (model prog w) A (setAttr (.ref e) name v) Q E ⟨h, g, d, t, os⟩ := by
  have I : InstAt h e (excObj C t0 none) C none := ⟨he, rfl, rfl, trivial⟩
  refine set_plain (s := ⟨h, g, d, t, os⟩) X I hs ?_
  have ne : cd.mro.isEmpty = false := by
    cases q : cd.mro with
    | nil =>
      rw [q] at ho
      have := SF.hasOwner
      rw [beq_iff_eq.mp ho] at this
      cases this
    | cons _ _ => rfl
  have sb : Looks (model prog w) h (isInstance (.ref e) (.type "object")) true := I.type.andThen (looks_mroIn X (by unfold mroIn; rw [hc, Option.bind_some, if_neg (by rw [ne]; decide), over_has SF ho]))
  refine codeAny_call_builtin SF.slot.plain SF.entry (@check_slot (model prog w) _ _ ⟨h, g, d, t + 1, os⟩ "object.__setattr__" "object" "__setattr__" (.ref e) [.str name t, v] [] _ SF.kind SF.split sb (SF.args (.ref e) (.str name t) v) ?_)
  have hm : Looks (model prog w) h (mroOf (.ref C)) cd.mro := (looks_clsIn X hc).andThen .now
  rw [osa_eq, refuse_eq]
  refine wpAny_bind (wpAny_bind (I.type.here (s := ⟨h, g, d, t + 1, os⟩) (wpAny_bind (hm.here (s := ⟨h, g, d, t + 1, os⟩) ?_))))
  rw [over_refuse SF _ ho]
  refine wpAny_pure (wpAny_bind (I.type.here (s := ⟨h, g, d, t + 1, os⟩) (wpAny_bind ((looks_findIn X ht).here (s := ⟨h, g, d, t + 1, os⟩) (wpAny_bind (m := storeTaker? none) (wpAny_pure ?_))))))
  show wpAny _ _ (ownStreamTells (.ref e) (.ref C) >>= _) _ _ _
  refine wpAny_bind (m := ownStreamTells (.ref e) (.ref C)) (wpAny_pure ?_)
  show wpAny _ _ (ownDictForStores (.ref e) >>= _) _ _ _
  refine wpAny_bind ?_
  show wpAny _ _ (instanceDict e true) _ _ _
  unfold instanceDict
  refine wpAny_bind (wpAny_loadPart (s := ⟨h, g, d, t + 1, os⟩) he ?_)
  dsimp only
  refine wpAny_bind ((looks_clsIn X hc).here (s := ⟨h, g, d, t + 1, os⟩) ?_)
  rw [hd, if_neg (by decide), if_neg (by simp [typeHasDict])]
  have hx₁ : (h.push { cls := .type "dict", data := .dict #[] }).get? e = some (excObj C t0 none) := Heap.get?_push_of_some _ he
  have hxs : e ≠ h.objs.size := Nat.ne_of_lt (Heap.lt_size he)
  refine wpAny_bind (wpAny_alloc' (wpAny_bind (wpAny_update' hx₁ (wpAny_pure ?_))))
  have hgd : ((h.push { cls := .type "dict", data := .dict #[] }).update e fun o => { cls := o.cls, dict := some h.objs.size, data := o.data, slots := o.slots }).get? h.objs.size = some { cls := .type "dict", data := .dict #[] } := (Heap.get?_update_ne _ _ _ _ hxs.symm).trans (Heap.get?_push_at rfl rfl)
  have hge : ((h.push { cls := .type "dict", data := .dict #[] }).update e fun o => { cls := o.cls, dict := some h.objs.size, data := o.data, slots := o.slots }).get? e = some (excObj C t0 (some h.objs.size)) := Heap.get?_update_self _ hx₁ rfl
  have hgo : ∀ b o, b ≠ e → h.get? b = some o → ((h.push { cls := .type "dict", data := .dict #[] }).update e fun o => { cls := o.cls, dict := some h.objs.size, data := o.data, slots := o.slots }).get? b = some o := fun b o hb z => (Heap.get?_update_ne _ _ _ _ hb).trans (Heap.get?_push_of_some _ z)
  generalize ((h.push { cls := .type "dict", data := .dict #[] }).update e fun o => { cls := o.cls, dict := some h.objs.size, data := o.data, slots := o.slots }) = h2 at hgd hge hgo ⊢
  have hnd : h2.Ns h.objs.size (fun _ => none) := ⟨_, #[], _, hgd, rfl, fun e he => absurd he (by simp), fun _ => rfl⟩
  show wpAny _ _ (storeInDict h.objs.size (.str name t) name v) _ _ _
  unfold storeInDict newKeyGuard; refine wpAny_bind (wpAny_pure (wpAny_bind (wpAny_nsSet1 (Heap.Ns1.of_empty hnd) fun h' hn' hs' => ?_)))
  obtain ⟨oD, esD, epD, hoD, hdD, hcD⟩ := hn'.count (Within.cons name v Within.nil)
  refine wpAny_bind (wpAny_lookBehind hoD (by rw [hdD]; exact pastItsLine_dict (Nat.le_trans hcD (by rw [List.length_cons, List.length_nil, sizeLine_eq]; omega))) (wpAny_pure ?_))
  exact hq h' h.objs.size _ (Nat.le_refl _) hxs.symm ((hs'.2 e hxs).trans hge) hn' fun b o hb z => (hs'.2 b (Nat.ne_of_lt (Heap.lt_size z))).trans (hgo b o hb z)
end
end L2
set_option maxRecDepth 100000
namespace L2
open PySem PySem.Spec PyProof.Rows PySem.W
section
variable {M : Model} {A : Around} {E : Value → Shared → Prop} {s : Shared} {K : Frag} {C D e : Addr} {oe : Obj} {b : Bool}
theorem exc_match {Q : Bool → Shared → Prop} (X : K.In s.heap) (he : s.heap.get? e = some oe) (hc : oe.cls = .ref C) {cd : ClassData} (hD : clsIn K D = some cd) (hT : typeIn K (.ref D) = some (.type "type")) (hB : mroIn K D (.type "BaseException") = some true) (hm : mroIn K C (.ref D) = some b) (h : Q b s) :
    wpAny M A (excMatches (.ref e) (.ref D)) Q E s := by
  have t1 : Looks M s.heap (isInstance (.ref D) (.type "tuple")) false := (looks_typeIn X hT).andThen (Looks.of_pure tc_notTuple)
  have t2 : Looks M s.heap (isExcClass (.ref D)) true := by
    unfold isExcClass
    refine Looks.andThen (a := true) ?_ (by rw [if_pos rfl]; exact looks_mroIn X hB)
    show Looks M s.heap (isType (.ref D)) true
    unfold clsIn at hD
    split at hD
    · rename_i ho
      exact (Looks.ld (part := none) (X _ _ ho)).andThen .now
    · cases hD
  have t3 : Looks M s.heap (typeOf (.ref e)) (.ref C) := hc ▸ (Looks.ld he).andThen .now
  unfold excMatches
  refine wpAny_bind (t1.here ?_)
  rw [if_neg (by decide)]
  refine wpAny_bind (wpAny_pure (wpAny_bind ?_))
  rw [List.forIn_cons]
  refine wpAny_bind (wpAny_bind (t2.here (wpAny_pure ?_)))
  refine wpAny_pure (wpAny_bind (t3.here (wpAny_bind ?_)))
  rw [List.forIn_cons]
  refine wpAny_bind (wpAny_bind ((looks_mroIn X hm).here ?_))
  cases b with
  | true => exact wpAny_pure (wpAny_pure (wpAny_pure h))
  | false => exact wpAny_pure (wpAny_pure (wpAny_pure h))
end
end L2
set_option maxRecDepth 100000
namespace L2
open PySem PySem.Spec PyProof.Rows PySem.W PySem.Builtin PySem.Builtin.ObjectAttr
section
variable {prog : Program} {w : World} {A : Around} {E : Value → Shared → Prop} {K : Frag} {h : Heap} {g : Array GenState} {d : Drawn} {t : Nat} {os : OsState} {C e dx : Addr} {ox od : Obj} {name : Str} {v : Value} {expr : Bool} {Q : Value → Shared → Prop}
theorem exc_get (X : K.In h) (I : InstAt h e ox C (some od)) (hga : findIn K (.ref C) "__getattribute__" = some (some (.builtin "BaseException.__getattribute__"))) (hgt : findIn K (.ref C) "__getattr__" = some none) (hB : mroIn K C (.type "BaseException") = some true)
    (hf : findObj K C (some od) name = some (.value v)) (hh : handedIn v = true) (hq : Q v ⟨h, g, d, t + 1, os⟩) : wpAny (model prog w) A (getAttr (.ref e) name expr) Q E ⟨h, g, d, t, os⟩ := by
  have L0 := I.type (M := model prog w)
  have L1 := looks_findIn (M := model prog w) X hga
  have L2 := looks_findIn (M := model prog w) X hgt
  have L3 := looks_find (M := model prog w) X I hf
  have hx2 : (Value.builtin "BaseException.__getattribute__" == Value.builtin "object.__getattribute__") = false := by decide +kernel
  have hx1 : (onTheHeap (Value.ref C) && Value.builtin "BaseException.__getattribute__" == Value.builtin "object.__getattribute__") = false := by rw [hx2]; rfl
  have hx0 : (expr && onTheHeap (Value.builtin "BaseException.__getattribute__")) = false := by cases expr <;> rfl
  unfold getAttr getAttrBy
  refine wpAny_bind (wpAny_mkText (wpAny_holding (wpAny_bind (L0.at (wpAny_bind (L1.at ?_))))))
  dsimp only
  rw [hx1, if_neg (by decide)]
  show wpAny _ _ (getAttrByItsOwn _ _ _ _ _ _) _ _ _
  unfold getAttrByItsOwn; refine wpAny_bind ?_
  show wpAny _ _ (typeLookup (.ref C) "__getattr__") _ _ _
  refine L2.at (wpAny_bind (wpAny_attempt (wpAny_holding ?_)))
  unfold callGetattribute; rw [hx0, if_neg (by decide)]
  unfold boundAndCalled
  have FA : ExcAttrFacts "ValueError" := F.attr_ValueError
  rw [FA.ga.bind (.ref e)]
  refine wpAny_bind (wpAny_pure (wpAny_call ?_))
  have sb : Looks (model prog w) h (isInstance (.ref e) (.type "BaseException")) true := L0.andThen (looks_mroIn X hB)
  refine codeAny_call_builtin FA.ga.plain F.entry_bexc_ga (@check_slot (model prog w) _ _ ⟨h, g, d, t + 1, os⟩ "BaseException.__getattribute__" "BaseException" "__getattribute__" (.ref e) [.str name t] [] _ (by decide +kernel) (by decide +kernel) sb (F.args_bexc_ga _ _) ?_)
  unfold Builtin.«object.__getattribute__»
  have e0 : slotArgs "__getattribute__" 1 ⟨[Value.ref e] ++ [Value.str name t], []⟩ = pure (.ref e, [.str name t]) := rfl
  rw [e0]
  refine wpAny_bind (wpAny_pure ?_)
  show wpAny _ _ (attrName (.str name t) >>= _) _ _ _
  refine wpAny_bind (m := attrName (.str name t)) (wpAny_pure ?_)
  refine wpAny_bind (L0.at (wpAny_bind (L3.at (wpAny_pure ?_))))
  show wpAny _ _ (handedOut v) _ _ _
  rw [handedOut_of hh]; exact wpAny_pure hq
end
end L2
set_option maxRecDepth 100000
namespace L2
open PySem PySem.Spec PyProof.Rows PySem.W PySem.Builtin PySem.Builtin.ObjectAttr
section
variable {prog : Program} {w : World} {A : Around} {E : Value → Shared → Prop} {K : Frag} {h : Heap} {g : Array GenState} {d : Drawn} {t : Nat} {os : OsState} {C e dx : Addr} {ox od : Obj} {Q : Option Value → Shared → Prop}
theorem exc_class (X : K.In h) (I : InstAt h e ox C (some od)) (hga : findIn K (.ref C) "__getattribute__" = some (some (.builtin "BaseException.__getattribute__"))) (hgt : findIn K (.ref C) "__getattr__" = some none) (hB : mroIn K C (.type "BaseException") = some true)
    (hf : findObj K C (some od) "__class__" = some (.bind (.builtin "getset_descriptor.__get__") (.builtin "object.__class__"))) (hO : mroIn K C (.type "object") = some true) (hq : Q (some (.ref C)) ⟨h, g, d, t + 1, os⟩) : wpAny (model prog w) A (getAttr? (.ref e) "__class__") Q E ⟨h, g, d, t, os⟩ := by
  have L0 := I.type (M := model prog w)
  have L1 := looks_findIn (M := model prog w) X hga
  have L2 := looks_findIn (M := model prog w) X hgt
  have L3 := looks_find (M := model prog w) X I hf
  have hx2 : (Value.builtin "BaseException.__getattribute__" == Value.builtin "object.__getattribute__") = false := by decide +kernel
  have hx1 : (onTheHeap (Value.ref C) && Value.builtin "BaseException.__getattribute__" == Value.builtin "object.__getattribute__") = false := by rw [hx2]; rfl
  unfold getAttr? getAttrBy? getAttrBy
  refine wpAny_bind (wpAny_mkText (wpAny_bind (wpAny_attempt (wpAny_holding (wpAny_bind (L0.at (wpAny_bind (L1.at ?_))))))))
  dsimp only
  rw [hx1, if_neg (by decide)]
  show wpAny _ _ (getAttrByItsOwn _ _ _ _ _ _) _ _ _
  unfold getAttrByItsOwn; refine wpAny_bind ?_
  show wpAny _ _ (typeLookup (.ref C) "__getattr__") _ _ _
  refine L2.at (wpAny_bind (wpAny_attempt (wpAny_holding ?_)))
  unfold callGetattribute; rw [if_neg (by simp)]
  unfold boundAndCalled
  have FA : ExcAttrFacts "ValueError" := F.attr_ValueError
  rw [FA.ga.bind (.ref e)]
  refine wpAny_bind (wpAny_pure (wpAny_call ?_))
  have sb : Looks (model prog w) h (isInstance (.ref e) (.type "BaseException")) true := L0.andThen (looks_mroIn X hB)
  refine codeAny_call_builtin FA.ga.plain F.entry_bexc_ga (@check_slot (model prog w) _ _ ⟨h, g, d, t + 1, os⟩ "BaseException.__getattribute__" "BaseException" "__getattribute__" (.ref e) [.str "__class__" t] [] _ (by decide +kernel) (by decide +kernel) sb (F.args_bexc_ga _ _) ?_)
  unfold Builtin.«object.__getattribute__»
  have e0 : slotArgs "__getattribute__" 1 ⟨[Value.ref e] ++ [Value.str "__class__" t], []⟩ = pure (.ref e, [.str "__class__" t]) := rfl
  rw [e0]
  refine wpAny_bind (wpAny_pure ?_)
  show wpAny _ _ (attrName (.str "__class__" t) >>= _) _ _ _
  refine wpAny_bind (m := attrName (.str "__class__" t)) (wpAny_pure ?_)
  refine wpAny_bind (L0.at (wpAny_bind (L3.at ?_)))
  show wpAny _ _ (bindTo (.builtin "getset_descriptor.__get__") (.builtin "object.__class__") (.ref e) (.ref C)) _ _ _
  unfold bindTo
  refine wpAny_bind (wpAny_holding (wpAny_call (class_get (s := ⟨h, g, d, t + 1, os⟩) (ox := ox) (od := some od) X I hO ?_)))
  refine wpAny_pure ?_
  show wpAny _ _ (handedOut (.ref C)) _ _ _
  rw [handedOut_of rfl]
  exact wpAny_pure (wpAny_pure hq)
theorem kitx_exc (hdct : hasDictIn K C = true) (hga : findIn K (.ref C) "__getattribute__" = some (some (.builtin "BaseException.__getattribute__"))) (hgt : findIn K (.ref C) "__getattr__" = some none) (hB : mroIn K C (.type "BaseException") = some true)
    (ha : findIn K (.ref C) "__class__" = some (some (.builtin "object.__class__"))) (hn : specialIn K (.builtin "object.__class__") "__get__" = some (some (.builtin "getset_descriptor.__get__"))) (htk : takesIn K (.builtin "object.__class__") = some true) (hO : mroIn K C (.type "object") = some true) :
    KitX K (.ref e) (.ref C) (fun h => InstAt h e ox C (some od)) where
  ty := fun _ _ _ I => I.type
  it := fun _ _ X _ => by
    obtain ⟨cdD, hcD, _⟩ := any_some hdct
    unfold clsIn at hcD
    split at hcD
    · rename_i ho
      exact (Looks.ld (part := none) (X _ _ ho)).andThen .now
    · cases hcD
  ne := fun h tp dd its n sl X htp => by
    obtain ⟨cdD, hcD, _⟩ := any_some hdct
    refine Bool.eq_false_iff.mpr fun q => ?_
    have e1 : C = tp := Value.ref.inj (beq_iff_eq.mp q)
    subst e1
    unfold clsIn at hcD
    split at hcD
    · rename_i ho
      cases (X _ _ ho).symm.trans htp
    · cases hcD
  ca := fun {_ _ _ _ _ s} X I k => by
    obtain ⟨h, g, d, t, os⟩ := s
    exact exc_class X I hga hgt hB (findObj_data (by obtain ⟨cd, hc, _⟩ := any_some hdct; rw [hc]; rfl) ha hn htk) hO k
end
end L2
set_option maxRecDepth 100000
namespace L2
open PySem PySem.Spec PyProof.Rows PySem.W
noncomputable def Flies (h : Heap) (x C dx T : Addr) : Prop := ∃ (vs : Array Value) (oT : Obj) (ts : Array Value), h.get? x = some { cls := .ref C, dict := some dx, data := .fields vs } ∧ vs[1]? = some (.ref T) ∧ T ≠ x ∧ h.get? T = some oT ∧ oT.data = .fields ts ∧ ts[3]? = some .none
section
variable {M : Model} {A : Around} {E : Value → Shared → Prop} {s : Shared} {base : Heap} {env : Env} {outer : List Env} {L x C dx : Addr} {Q : Unit → Shared → Prop}
theorem not_frame {vs : Array Value} {o : Obj} {l : List Env} (hl : s.heap.FunFrames base l) (he : s.heap.get? x = some o) (hd : o.data = .fields vs) : x ∉ l.filterMap (·.frame) := fun hm => by
  obtain ⟨_, o', ho, hn⟩ := hl.mem hm
  rw [he] at ho; cases ho
  exact hn vs hd
theorem exc_entry {oe : Obj} {vs : Array Value} {head : Value} {hadNext : Bool} (hfr : A.frames = some (env :: outer)) (hl : s.heap.FunFrames base (env :: outer)) (hf : env.frame = some L)
    (he : s.heap.get? x = some { cls := .ref C, dict := some dx, data := .fields vs }) (hsz : 1 < vs.size)
    (h : ∀ h' T, s.heap.objs.size ≤ T → Flies h' x C dx T → (∀ b o, b ≠ x → b ∉ (env :: outer).filterMap (·.frame) → s.heap.get? b = some o → h'.get? b = some o) → (∀ b o, b ≠ x → s.heap.get? b = some o → ∃ sl, h'.get? b = some { o with slots := sl }) → Q () { s with heap := h' }) :
    wpAny M A (do let a ← frameOf env; let pl ← entryPlaceOf L hadNext; let b ← EntryCells.newEntry head a .none (rawInt L) .none pl; setField (.ref x) 1 b) (fun _ s' => wpAny M A (setFlight (.ref x) none) Q E s') E s := by
  have hxf := not_frame hl he rfl
  refine wpAny_bind (wpAny_frameOf_fun hfr hl hf fun h₁ hs₁ => wpAny_bind (wpAny_entryPlaceOf fun pl hpl => ?_))
  unfold EntryCells.newEntry newFields; refine wpAny_bind (wpAny_newObj_type ?_ (hpl.sizeOk5 _ _ _ _ _))
  have he₁ : h₁.get? x = some { cls := .ref C, dict := some dx, data := .fields vs } := (hs₁.2.1 x hxf).trans he
  generalize hoT : ({ cls := .type "traceback", dict := none, data := .fields ([head, .ref L, .none, rawInt L, .none] ++ (if pl.isEmpty then List.replicate 6 Value.none else pl)).toArray } : Obj) = oT
  have hTd : ∃ ts : Array Value, oT.data = .fields ts ∧ 3 < ts.size := ⟨_, by rw [← hoT], by simp only [List.size_toArray, List.length_append, List.length_cons, List.length_nil] <;> omega⟩
  obtain ⟨ts, hTd, hT3⟩ := hTd
  have hTf : oT.isFreed = false := by rw [← hoT]; rfl
  have hTe : h₁.objs.size ≠ x := Nat.ne_of_gt (Heap.lt_size he₁)
  have he₂ := Heap.get?_push_of_some (h := h₁) oT he₁
  have hT₂ : (h₁.push oT).get? h₁.objs.size = some oT := Heap.get?_push_size h₁ hTf
  refine wpAny_setField he₂ rfl hsz ?_
  have hd₃ := Obj.data_mapFields (o := { cls := .ref C, dict := some dx, data := .fields vs }) rfl (·.setIfInBounds 1 (Value.ref h₁.objs.size))
  have he₃ := Heap.get?_update_self (Obj.mapFields (·.setIfInBounds 1 (Value.ref h₁.objs.size))) he₂ (Obj.isFreed_of_fields hd₃)
  have hT₃ := (Heap.get?_update_other (h₁.push oT) (Obj.mapFields (·.setIfInBounds 1 (Value.ref h₁.objs.size))) (Ne.symm hTe)).trans hT₂
  unfold setFlight
  refine wpAny_bind (wpAny_field he₃ hd₃ (x := .ref h₁.objs.size) (by simp [hsz]) ?_)
  rw [if_pos (show (Value.ref h₁.objs.size != Value.none) = true from by simp)]
  refine wpAny_setField hT₃ hTd hT3 (h _ h₁.objs.size ?_ ?_ (fun b o hb hbf z => ?_) fun b o hb z => ?_)
  · rw [hs₁.1]; exact Nat.le_refl _
  · refine ⟨_, _, _, (by rw [Heap.get?_update_other _ _ hTe]; exact he₃), ?_, hTe, Heap.get?_update_self _ hT₃ (Obj.isFreed_of_fields (Obj.data_mapFields hTd _)), Obj.data_mapFields hTd _, ?_⟩
    · simp [hsz]
    · simp [hT3]
  · have hbT : h₁.objs.size ≠ b := Nat.ne_of_gt (by rw [hs₁.1]; exact Heap.lt_size z)
    rw [Heap.get?_update_other _ _ hbT, Heap.get?_update_other _ _ (Ne.symm hb)]
    exact Heap.get?_push_of_some _ ((hs₁.2.1 b hbf).trans z)
  · have hbT : h₁.objs.size ≠ b := Nat.ne_of_gt (by rw [hs₁.1]; exact Heap.lt_size z)
    obtain ⟨sl, z'⟩ := hs₁.2.2 b o z
    refine ⟨sl, ?_⟩
    rw [Heap.get?_update_other _ _ hbT, Heap.get?_update_other _ _ (Ne.symm hb)]
    exact Heap.get?_push_of_some _ z'
theorem exc_note1 {t0 : Addr} (hfr : A.frames = some (env :: outer)) (hl : s.heap.FunFrames base (env :: outer)) (hf : env.frame = some L) (he : s.heap.get? x = some (excObj C t0 (some dx)))
    (h : ∀ h' T, s.heap.objs.size ≤ T → Flies h' x C dx T → (∀ b o, b ≠ x → b ∉ (env :: outer).filterMap (·.frame) → s.heap.get? b = some o → h'.get? b = some o) → (∀ b o, b ≠ x → s.heap.get? b = some o → ∃ sl, h'.get? b = some { o with slots := sl }) → Q () { s with heap := h' }) :
    wpAny M A (noteFrame (.ref x) env) (fun _ s' => wpAny M A (setFlight (.ref x) none) Q E s') E s := by
  unfold noteFrame
  simp only [hf]
  refine wpAny_bind (wpAny_field he rfl (x := .none) rfl ?_)
  rw [if_neg (by decide)]
  exact exc_entry (oe := excObj C t0 (some dx)) hfr hl hf he (by simp) h
theorem exc_noteN {T : Addr} (hfr : A.frames = some (env :: outer)) (hl : s.heap.FunFrames base (env :: outer)) (hf : env.frame = some L) (fl : Flies s.heap x C dx T)
    (h : ∀ h' T', s.heap.objs.size ≤ T' → Flies h' x C dx T' → (∀ b o, b ≠ x → b ≠ T → b ∉ (env :: outer).filterMap (·.frame) → s.heap.get? b = some o → h'.get? b = some o) → (∀ b o, b ≠ x → b ≠ T → s.heap.get? b = some o → ∃ sl, h'.get? b = some { o with slots := sl }) → Q () { s with heap := h' }) :
    wpAny M A (noteFrame (.ref x) env) (fun _ s' => wpAny M A (setFlight (.ref x) none) Q E s') E s := by
  obtain ⟨vs, oT, ts, he, h1, hTx, hT, hTd, h3⟩ := fl
  unfold noteFrame
  simp only [hf]
  refine wpAny_bind (wpAny_field he rfl h1 ?_)
  rw [if_pos (show (Value.ref T != Value.none) = true from by simp)]
  refine wpAny_bind (wpAny_field hT hTd h3 ?_)
  rw [if_neg (show ¬ ((Value.none == rawInt L) = true) from by simp [rawInt])]
  refine wpAny_bind (wpAny_setField hT hTd (Array.getElem?_eq_some_iff.mp h3).1 ?_)
  have oth : ∀ b, b ≠ T → (s.heap.update T (Obj.mapFields (·.setIfInBounds 3 Value.none))).get? b = s.heap.get? b := fun b hb => Heap.get?_update_other _ _ (Ne.symm hb)
  have hTf : T ∉ (env :: outer).filterMap (·.frame) := not_frame hl hT hTd
  have hTn : ∀ b o, s.heap.get? b = some o → (∀ vs, o.data ≠ .fields vs) → b ≠ T := fun b o hb hn q => by rw [q, hT] at hb; cases hb; exact hn ts hTd
  refine exc_entry (oe := oT) hfr (hl.of_keeps fun b o hb hn => ⟨o, (oth b (hTn b o hb hn)).trans hb, rfl⟩) hf ((oth x (Ne.symm hTx)).trans he) (Array.getElem?_eq_some_iff.mp h1).1 fun h' T' n' fl' k1 k2 => h h' T' ?_ fl' (fun b o hb hbT hbf z => k1 b o hb hbf ((oth b hbT).trans z)) fun b o hb hbT z => k2 b o hb ((oth b hbT).trans z)
  exact Nat.le_trans (Nat.le_of_eq (Heap.size_update ..).symm) n'
theorem exc_land {T : Addr} (fl : Flies s.heap x C dx T) (h : ∀ h', Flies h' x C dx T → (∀ b o, b ≠ T → s.heap.get? b = some o → h'.get? b = some o) → Q () { s with heap := h' }) : wpAny M A (setFlight (.ref x) none) Q E s := by
  obtain ⟨vs, oT, ts, he, h1, hTx, hT, hTd, h3⟩ := fl
  have h3s : 3 < ts.size := (Array.getElem?_eq_some_iff.mp h3).1
  unfold setFlight
  refine wpAny_bind (wpAny_field he rfl h1 ?_)
  rw [if_pos (show (Value.ref T != Value.none) = true from by simp)]
  refine wpAny_setField hT hTd h3s (h _ ⟨vs, _, _, (Heap.get?_update_other _ _ hTx).trans he, h1, hTx, Heap.get?_update_self _ hT (Obj.isFreed_of_fields (Obj.data_mapFields hTd _)), Obj.data_mapFields hTd _, ?_⟩ fun b o hb z => (Heap.get?_update_other _ _ (Ne.symm hb)).trans z)
  simp [h3s]
end
end L2
set_option maxRecDepth 100000
namespace L2
open PySem PySem.Spec PyProof.Rows
noncomputable def xm (m : Nat) (x C : Addr) : HO := .ext fun h => m ≤ x ∧ ∃ t0, h.get? x = some (excObj C t0 none)
noncomputable def xo (m : Nat) (x C dx : Addr) : HO := .ext fun h => m ≤ x ∧ ∃ t0, h.get? x = some (excObj C t0 (some dx))
noncomputable def xc (x C dx : Addr) : HO := .ext fun h => ∃ o, h.get? x = some o ∧ o.cls = .ref C ∧ o.dict = some dx ∧ PySem.W.notCls o = true
theorem xm_ok {P : Program} {w : World} {H : Hp} {h : Heap} {m : Nat} {x C t0 : Addr} (hm : m ≤ x) (e : h.get? x = some (excObj C t0 none)) : ObjOk P w H h x (xm m x C) := ⟨⟨hm, t0, e⟩, ⟨_, e⟩, fun _ _ z k => ⟨z.1, z.2.elim fun t a => ⟨t, k _ a⟩⟩⟩
theorem xo_ok {P : Program} {w : World} {H : Hp} {h : Heap} {m : Nat} {x C dx t0 : Addr} (hm : m ≤ x) (e : h.get? x = some (excObj C t0 (some dx))) : ObjOk P w H h x (xo m x C dx) := ⟨⟨hm, t0, e⟩, ⟨_, e⟩, fun _ _ z k => ⟨z.1, z.2.elim fun t a => ⟨t, k _ a⟩⟩⟩
theorem xc_ok {P : Program} {w : World} {H : Hp} {h : Heap} {x C dx : Addr} {o : Obj} (e : h.get? x = some o) (h1 : o.cls = .ref C) (h2 : o.dict = some dx) (h3 : PySem.W.notCls o = true) : ObjOk P w H h x (xc x C dx) :=
  ⟨⟨o, e, h1, h2, h3⟩, ⟨_, e⟩, fun _ _ z k => z.elim fun t a => ⟨t, k _ a.1, a.2⟩⟩
theorem HOk.track {P : Program} {w : World} {H : Hp} {h : Heap} {a : Addr} {o : HO} (x : HOk P w H h) (hn : H a = none) (new : ObjOk P w (upd H a o) h a o) : HOk P w (upd H a o) h := fun b u e => by
  by_cases hb : b = a
  · subst hb; rw [upd_same] at e; cases e; exact new
  · rw [upd_ne hb] at e
    exact (x b u e).stay (fun c v _ q => q) (fun c q => by rw [upd_ne (ne_of_none q hn)]; exact q) fun c xs q => by rw [upd_ne (ne_of_none q hn)]; exact q
theorem ns_got {K : PySem.W.Frag} {h : Heap} {N : Addr} {m : Str → Option Value} {n : Str} {v : Value} (X : K.In h) (G : h.Ns N m) (e : PySem.W.nsIn K N n = some (some v)) : m n = some v := by
  obtain ⟨o, es, ep, ho, hd, _, hf⟩ := G; unfold PySem.W.nsIn at e
  split at e
  · rename_i es' n' q
    rw [X _ _ q] at ho; cases ho; cases hd
    split at e
    · rename_i y hy
      cases e
      rw [← hf]
      unfold nsFind findBy; rw [← Array.find?_toList, hy]
      rfl
    · exfalso
      split at e <;> cases e
  · cases e
noncomputable abbrev bmV : List Value := [.type "ValueError", .type "Exception", .type "BaseException", .type "object"]
structure ErrC (K : PySem.W.Frag) (C f : Addr) : Prop where
  ex : ∃ (nm q : Str) (N : Addr) (bs bm : List Value) (sn : List Str) (sub : List Value) (ab : Bool) (col : Option Bool) (dd : Option Addr) (k0 k1 k2 k3 k5 : Option Value),
    K.lookup C = some (excClassObj nm q C N bs bm true sn sub ab col dd k0 k1 k2 k3 k5 "ValueError.__new__") ∧ PySem.W.tailIn K bmV bm = true ∧ overIn bmV (.ref C :: bm) = true ∧ PySem.W.nsOkIn K N = true ∧ PySem.W.nsIn K N "__init__" = some (some (.ref f))
  fn : PySem.W.isFn K (.ref f) = true
  sa : PySem.W.findIn K (.ref C) "__setattr__" = some (some (.builtin "object.__setattr__"))
  ga : PySem.W.findIn K (.ref C) "__getattribute__" = some (some (.builtin "BaseException.__getattribute__"))
  gt : PySem.W.findIn K (.ref C) "__getattr__" = some none
  cl : PySem.W.findIn K (.ref C) "__class__" = some (some (.builtin "object.__class__"))
  bx : PySem.W.mroIn K C (.type "BaseException") = some true
  ob : PySem.W.mroIn K C (.type "object") = some true
  kp : PySem.W.keepIn K (.ref C) = true
theorem ErrC.cls {K : PySem.W.Frag} {C f : Addr} (M : ErrC K C f) : ∃ cd, PySem.W.clsIn K C = some cd ∧ cd.hasDict = true ∧ overIn bmV cd.mro = true := by
  obtain ⟨nm, q, N, bs, bm, sn, sub, ab, col, dd, k0, k1, k2, k3, k5, l, _, o, _, _⟩ := M.ex
  exact ⟨_, by unfold PySem.W.clsIn; rw [l], rfl, o⟩
section
variable {X : Cx} {k : Nat} {f C : Addr} {fd : FuncData} {ps : List Str} {sp : Sp} {x : Str} {p pos : Pos} {e : Expr} {es : List Expr} {t : TA}
noncomputable def tErr (m : Nat) (C : Addr) (sp : Sp) (t : TA) : TE := fun σ H Q => t σ H fun vs H1 => vs.length ≤ 1000 ∧ ∀ x, H1 x = none → sp (.ref x :: vs) (upd H1 x (xm m x C)) (fun v H2 => v = .non ∧ Q (.ref x) H2) E0
theorem run_err {pins : List (Addr × Obj)} {σ : St} {H : Hp} {s : Shared} {Q : VK} {us : List Value} {vs : List V} (M : ErrC X.K C f) (F : FnOk X.prog X.w X.K X.mg X.base CX0 k f fd ps sp) (hr : Room (k + 1) X.A) (hb : Binds X.K fd ps [])
    (I : Inv X pins σ H s) (r : Vals vs us) (hlen : vs.length ≤ 1000) (h : ∀ x, H x = none → sp (.ref x :: vs) (upd H x (xm X.s₀.heap.objs.size x C)) (fun v H2 => v = .non ∧ Q (.ref x) H2) E0) :
    wpAny (model X.prog X.w) X.A (call (.ref C) us) (EP X pins σ Q) X.xe s := by
  have hq := h (s.heap.objs.size + 1) (I.hok.fresh (Nat.le_succ _))
  obtain ⟨nm, q, N, bs, bm, sn, sub, ab, col, dd, k0, k1, k2, k3, k5, l, ht, ho, hok, hi⟩ := M.ex
  have hC := I.kIn _ _ l
  have hN : s.heap.Ns N (s.heap.nsMap N) := .of_isNs (PySem.W.isNs_of_in I.kIn hok)
  have hni := ns_got I.kIn hN hi
  have hf : ∃ o, s.heap.get? f = some o ∧ o.cls = .type "function" := by
    obtain ⟨o, ho, hc⟩ := Option.map_eq_some_iff.mp (beq_iff_eq.mp M.fn)
    exact ⟨o, I.kIn _ _ ho, hc⟩
  obtain ⟨of, hfo, hfc⟩ := hf
  have hl0 := r.length
  have r2 : Vals (V.ref (s.heap.objs.size + 1) :: vs) (Value.ref (s.heap.objs.size + 1) :: us) := .cons rfl r
  have hl : (Value.ref (s.heap.objs.size + 1) :: us ++ []).length = ps.length := by
    have e := r2.length
    rw [F.len _ _ _ _ hq] at e
    rw [List.append_nil]
    exact e.symm
  obtain ⟨h0, g, d, tk, os⟩ := s
  refine exc_make PySem.F.excBase_ValueError (by decide) PySem.F.excBase_ValueError (PySem.W.tail_of_in I.kIn ht) hC hN hni hfo hfc (by rw [← hl0]; exact Nat.le_trans hlen (by decide)) ?_
  have I2 : Inv X pins σ (upd H (h0.objs.size + 1) (xm X.s₀.heap.objs.size (h0.objs.size + 1) C)) ⟨(h0.push { cls := .type "tuple", data := .seq us.toArray }).push (excObj C h0.objs.size none), g, d, tk, os⟩ :=
    I.laid (t' := tk) (fun b u z => Heap.get?_push_of_some _ (Heap.get?_push_of_some _ z)) (Nat.le_succ _) (xm_ok (t0 := h0.objs.size) (Nat.le_succ_of_le I.sz) (by
      have := Heap.get?_push_size (h0.push { cls := .type "tuple", data := .seq us.toArray }) (o := excObj C h0.objs.size none) rfl
      rwa [Heap.size_push] at this))
  refine codeAny_mono (F.run _ X.stack _ _ ⟨Value.ref (h0.objs.size + 1) :: us, []⟩ (Value.ref (h0.objs.size + 1) :: us) _ _ E0 (hr.make C us []) (I2.env0.make C us []) (by have := hb _ (Value.ref (h0.objs.size + 1) :: us) I2.kIn hl; rwa [List.append_nil] at this) r2 hq) fun r s' hq' => ?_
  cases r with
  | error e => exact hq'.elim
  | ok fl =>
    cases fl with
    | ret u =>
      obtain ⟨v, H', I3, rv, ev, q3⟩ := I2.after hq'
      subst ev
      exact ⟨rv, ⟨V.ref (h0.objs.size + 1), H', I3, rfl, q3⟩⟩
    | next => exact False.elim hq'
    | brk => exact False.elim hq'
    | cont => exact False.elim hq'
theorem pe_err (M : ErrC X.K C f) (F : FnOk X.prog X.w X.K X.mg X.base CX0 k f fd ps sp) (hr : Room (k + 1) X.A) (hg : Gl X x) (hm : X.mg x = some (.ref C)) (hb : Binds X.K fd ps [])
    (ha : PA X (e :: es) t) (hdb : (x == ("__debug__" : Str)) = false := by decide) (he : starEach (e :: es) X.env = (false, eval e X.env) :: starEach es X.env := by rfl) (hpl : (backTo pos (starEach es X.env)).any (·.1) = false := by rfl) :
    PE X (.Call (.Name x p) (e :: es) [] pos) (tErr X.s₀.heap.objs.size C sp t) := by
  intro pins s σ H Q I h
  refine wpAny_Call_Name_kw (ld_glob I hg hm ?_ hdb); refine PySem.W.callWith_K (h₀ := X.base) I.ok.mod.kin M.kp (thn (ha pos pins s σ H _ I h) fun us s1 ⟨vs, H1, I1, r, q0, q⟩ => ⟨I1.kIn, run_err M F hr hb I1 r q0 q⟩) he hpl
end
theorem upd_self {H : Hp} {a : Addr} {o : HO} (h : H a = some o) : upd H a o = H := by
  funext b; unfold upd; split
  · rename_i e; rw [e, h]
  · rfl
structure LoreC (K : PySem.W.Frag) (L : Addr) : Prop where
  sp : PySem.W.specialIn K (.ref L) "__getattribute__" = some (some (.builtin "type.__getattribute__"))
  rd : PySem.W.readsIn K L (.type "type") = true
  fc : PySem.W.findCls K (.ref L) (.type "type") "__init__" = some (.val (.builtin "ValueError.__init__"))
noncomputable def tInit (K : PySem.W.Frag) (ta tb : TE) : TE := fun σ H Q => ta σ H fun x H1 => tb σ H1 fun _ H2 => ∃ a m C f, x = .ref a ∧ H2 a = some (xm m a C) ∧ ErrC K C f ∧ Q .non H2
section
variable {X : Cx} {L : Addr} {x : Str} {np ap cp : Pos} {a b : Expr} {ta tb : TE} {pl : Sem Bool}
theorem pe_init (N : LoreC X.K L) (hg : Gl X x) (hm : X.mg x = some (.ref L)) (ha : PE X a ta) (hb : PE X b tb) (hdb : (x == ("__debug__" : Str)) = false := by decide)
    (htr : backTo cp (starEach [a, b] X.env) = [(false, eval a X.env), (false, eval b X.env)] := by rfl)
    (ht : eval (.Call (.Attribute (.Name x np) "__init__" ap) [a, b] [] cp) X.env = (do
      let ov ← eval (.Name x np) X.env
      standAt ap.atName
      let (f, first) ← holding [ov] (getMethod ov "__init__" pl)
      callWith cp f first (backTo cp (starEach [a, b] X.env)) (backToKw cp (keywordEach [] X.env))) := by rfl) :
    PE X (.Call (.Attribute (.Name x np) "__init__" ap) [a, b] [] cp) (tInit X.K ta tb) := by
  intro pins s σ H Q I h
  refine PySem.W.methodCall_KW (pl := pl) (ld_glob I hg hm ?_ hdb) ht
  refine PySem.W.method_cls I.kIn N.sp (PySem.W.cls_value I.kIn N.rd N.fc rfl ?_)
  rw [htr]
  have I0 := I.tok (s.toks + 1)
  refine Calls.callWith_builtin rfl (Calls.evalArgs_plain (Calls.spliced_cons (thn (ha pins _ σ H _ I0 h) fun u s1 ⟨v, H1, I1, rv, q1⟩ => Calls.spliced_cons (thn (hb pins s1 σ H1 _ I1 q1) fun z s2 ⟨y, H2, I2, ry, e, m, C, f, ex, he, M, q2⟩ => Calls.spliced_nil ?_))))
  subst ex
  obtain rfl : u = Value.ref e := rv
  obtain ⟨nm, q, N', bs, bm, sn, sub, ab, col, dd, k0, k1, k2, k3, k5, l, htl, ho, hok, hi⟩ := M.ex
  obtain ⟨hmx, t0, hx⟩ := (I2.hok _ _ he).1
  obtain ⟨h2, g, d, tk, os⟩ := s2
  refine exc_init_call PySem.F.excBase_ValueError (PySem.W.tail_of_in I2.kIn htl) (I2.kIn _ _ l) hx fun h' t1 keep hx' => ?_
  have I3 := I2.write (x := e) (e := e) (t' := tk) (by rw [he]; exact True.intro) (.inl rfl) (fun b u hb z => keep b u hb z) ⟨_, hx'⟩ (xm_ok hmx hx')
  rw [upd_self he] at I3
  exact ⟨.non, H2, I3, rfl, q2⟩
end
end L2
set_option maxRecDepth 100000
namespace L2
open PySem PySem.Spec PyProof.Rows
noncomputable def tFmtI (te : TE) : TE := fun σ H Q => te σ H fun v H1 => ∃ i : Int, v = .int i ∧ i.natAbs < 10 ^ 9 ∧ ∀ z : Str, z.length ≤ 100 → Q (.str z) H1
noncomputable def tParts : List TE → TE
  | [], _, H, Q => ∀ z : Str, Q (.str z) H
  | t :: ts, σ, H, Q => t σ H fun v H1 => ∃ y : Str, v = .str y ∧ y.length ≤ 100000 ∧ tParts ts σ H1 Q
section
variable {X : Cx} {e : Expr} {te : TE} {pos : Pos}
theorem pe_fmtI (he : PE X e te) : PE X (.FormattedValue e (-1) none pos) (tFmtI te) := by
  intro pins s σ H Q I h
  refine wpAny_FormattedValue_plain (thn (he pins s σ H _ I h) fun u s1 ⟨v, H1, I1, rv, i, ev, hi, q⟩ => ?_)
  subst ev
  obtain ⟨t, rfl⟩ := rv
  have hl : i.natAbs.log2 < 1920 := by
    by_cases z : i.natAbs = 0
    · rw [z]; decide
    · exact Nat.lt_trans ((Nat.log2_lt z).mpr (Nat.lt_trans hi (by decide : 10 ^ 9 < 2 ^ 30))) (by decide)
  refine wpAny_formatField_int hl ⟨.str _, H1, (I1.tok _), ⟨_, rfl⟩, q _ ?_⟩
  have := int_text_length_le10 (k := 9) (by decide) hi
  show (Str.ofString (toString i)).length ≤ 100
  rw [PySem.ofString_length]
  omega
inductive PFs (X : Cx) : List Expr → List TE → Prop
  | nil : PFs X [] []
  | cons {e : Expr} {te : TE} {es : List Expr} {ts : List TE} : PE X e te → PFs X es ts → PFs X (e :: es) (te :: ts)
theorem joins_of {pins : List (Addr × Obj)} {σ : St} {Q : VK} : ∀ {es : List Expr} {ts : List TE} (acc : Str) (n : Nat) (s : Shared) (H : Hp), PFs X es ts → Inv X pins σ H s → acc.length + 100000 * es.length ≤ sizeLine → tParts ts σ H Q →
    Joins (model X.prog X.w) X.A X.xe (evalEach es X.env) acc (fun out s₁ => out.length ≤ sizeLine ∧ EP X pins σ Q (.str out s₁.toks) { s₁ with toks := s₁.toks + 1 }) s
  | [], _, acc, n, s, H, .nil, I, hl, h => ⟨by simpa using hl, .str acc, H, I.tok _, ⟨_, rfl⟩, h acc⟩
  | e :: es, _, acc, n, s, H, .cons he hr, I, hl, h => thn (he pins s σ H _ I h) fun u s1 ⟨v, H1, I1, rv, y, ev, hy, q⟩ => by
    subst ev
    obtain ⟨t, rfl⟩ := rv
    rw [List.length_cons] at hl
    have e1 : (acc ++ y).length = acc.length + y.length := strLen_append ..
    exact ⟨y, t, rfl, by omega, joins_of (acc ++ y) n s1 H1 hr I1 (by omega) q⟩
theorem pe_joined {e1 e2 : Expr} {es : List Expr} {ts : List TE} (h : PFs X (e1 :: e2 :: es) ts) (hn : es.length ≤ 2) : PE X (.JoinedStr (e1 :: e2 :: es) pos) (tParts ts) := by
  intro pins s σ H Q I hq
  refine wpAny_JoinedStr (joins_of Str.empty 0 s H h I ?_ hq)
  have : Str.empty.length = 0 := rfl
  rw [this, List.length_cons, List.length_cons, sizeLine_eq]
  omega
end
noncomputable def sXFld (K : PySem.W.Frag) (ta tv : TE) (f : Str) : TS := fun D σ H => tv σ H fun y H1 => ta σ H1 fun x H2 => ∃ a m C g, x = .ref a ∧ H2 a = some (xm m a C) ∧ ErrC K C g ∧ NoAttr K C f ∧ ∀ dx, H2 dx = none → dx ≠ a → D.nx σ (upd (upd H2 a (xo m a C dx)) dx (.xd [(f, y)]))
section
variable {X : Cx} {o value : Expr} {ta tv : TE} {f : Str} {ap pos : Pos}
theorem Inv.xstore {pins : List (Addr × Obj)} {σ : St} {H : Hp} {s : Shared} {h' : Heap} {m : Nat} {a C dx t0 : Addr} {y : V} {u : Value} {t' : Nat} (I : Inv X pins σ H s) (e : H a = some (xm m a C)) (hd : s.heap.objs.size ≤ dx) (ne : dx ≠ a)
    (hx : h'.get? a = some (excObj C t0 (some dx))) (hn : h'.Ns1 dx (fun z => if z = f then some u else none)) (k : ∀ b o, b ≠ a → s.heap.get? b = some o → h'.get? b = some o) (ry : RelV y u) :
    Inv X pins σ (upd (upd H a (xo m a C dx)) dx (.xd [(f, y)])) { s with heap := h', toks := t' } := by
  have hdn : H dx = none := I.hok.fresh hd
  have hmx : m ≤ a := (I.hok _ _ e).1.1
  have mu : Mut (H a) := by rw [e]; exact True.intro
  have hdn1 : upd H a (xo m a C dx) dx = none := by rw [upd_ne ne]; exact hdn
  have w1 : Un X.fs [] H (upd H a (xo m a C dx)) s.heap h' := Un.write mu (.inl rfl) k ⟨_, hx⟩
  have old : ∀ b o, s.heap.get? b = some o → b ≠ dx := fun b o z q => by rw [q] at z; exact absurd (Heap.lt_size z) (Nat.not_lt.mpr hd)
  refine I.un ⟨w1.keep, w1.slot, fun b o z n hb => ?_, w1.there, fun b xs z => ?_, fun b o v z => ?_, fun b ps z => ?_⟩ (HOk.track (I.hok.write mu (.inl rfl) k ⟨_, hx⟩ (xo_ok hmx hx)) hdn1 ⟨_, hn, fun g => ?_⟩)
  · rw [upd_ne (old b o z)]; exact w1.free b o z n hb
  · rw [upd_ne (ne_of_none (w1.tups b xs z) hdn1)]; exact w1.tups b xs z
  · rw [upd_ne (ne_of_none (w1.frzs b o v z) hdn1)]; exact w1.frzs b o v z
  · obtain ⟨more, q⟩ := w1.tbls b ps z
    exact ⟨more, by rw [upd_ne (ne_of_none q hdn1)]; exact q⟩
  · show RelO ([(f, y)].lookup g) (if g = f then some u else none)
    by_cases q : g = f
    · rw [if_pos q, q, List.lookup_cons_self]; exact ry
    · rw [if_neg q, List.lookup_cons, show (g == f) = false from beq_eq_false_iff_ne.mpr q]; exact True.intro
theorem ps_xfld (ha : PE X o ta) (hv : PE X value tv) (hs : swapsWith value (some (.Attribute o f ap)) pos.line X.env = pure false) : PS X (.Assign [.Attribute o f ap] value pos) (sXFld X.K ta tv f) := by
  intro pins s σ H D I h
  refine plainObj_wpAny_Assign_Attribute (thn (hv pins s σ H _ I h) fun u s1 ⟨y, H1, I1, ry, q⟩ => thn (ha pins s1 σ H1 _ I1 q) fun ov s2 ⟨x, H2, I2, rx, a, m, C, g, ex, he, M, n, q2⟩ => ?_) hs
  subst ex
  obtain rfl : ov = Value.ref a := rx
  obtain ⟨cd, hc, hd, ho⟩ := M.cls
  obtain ⟨_, t0, hx⟩ := (I2.hok _ _ he).1
  obtain ⟨h2, gg, d, tk, os⟩ := s2
  refine exc_store PySem.F.store_ValueError I2.kIn hx hc hd ho M.sa n fun h' dx tk' n1 n2 hx' hn keep => ?_
  have I3 := I2.xstore (t' := tk') he n1 n2 hx' hn keep ry
  exact ⟨σ, _, I3, q2 dx (I2.hok.fresh n1) n2⟩
end
end L2
set_option maxRecDepth 100000
namespace L2
open PySem PySem.Spec PyProof.Rows
noncomputable def del (H : Hp) (x : Addr) : Hp := fun b => if b = x then none else H b
theorem del_same {H : Hp} {x : Addr} : del H x x = none := by unfold del; rw [if_pos rfl]
theorem del_ne {H : Hp} {b x : Addr} (h : b ≠ x) : del H x b = H b := by unfold del; rw [if_neg h]
theorem del_some {H : Hp} {b x : Addr} {o : HO} (h : del H x b = some o) : b ≠ x ∧ H b = some o := by
  by_cases e : b = x
  · rw [e, del_same] at h; cases h
  · rw [del_ne e] at h; exact ⟨e, h⟩
noncomputable def CX1 (P : Program) (w : World) : CXT := fun outer H s E e s' => ∃ (x C dx T : Addr) (H' : Hp), e = .ref x ∧ s'.os = s.os ∧ AllBare s'.gens ∧ Un (frs outer) [] H H' s.heap s'.heap ∧ HOk P w H' s'.heap ∧ s.heap.objs.size ≤ x ∧ s.heap.objs.size ≤ T ∧ H' x = none ∧ H' T = none ∧ Flies s'.heap x C dx T ∧ E (.ref C) (some dx) H'
section
variable {P : Program} {w : World} {K : PySem.W.Frag} {mg : Str → Option Value} {base : Heap} {N : List Str} {qual : Str} {scope : Scope} {f : Addr} {cd : Value} {A : Around} {outer : List Env} {s s1 : Shared} {H H1 : Hp} {E : XK} {pins : List (Addr × Obj)} {σ : St} {x C dx : Addr}
theorem throws (I : Inv (cxOf (CX1 P w) P w K mg base N qual scope f cd A outer s H E) pins σ H1 s1) (e : H1 x = some (xo s.heap.objs.size x C dx)) (hE : E (.ref C) (some dx) (del H1 x)) :
    (cxOf (CX1 P w) P w K mg base N qual scope f cd A outer s H E).xe (.ref x) s1 := by
  obtain ⟨hm, t0, hx⟩ := (I.hok _ _ e).1
  have B : Un (frs outer) [] H H1 s.heap s1.heap := I.base
  have old : ∀ b o, s.heap.get? b = some o → b ≠ x := fun b o z q => by rw [q] at z; exact absurd (Heap.lt_size z) (Nat.not_lt.mpr hm)
  have hfr : ∀ b o, s.heap.get? b = some o → b ∉ frs outer → b ∉ frs ((envOfC qual scope s.heap.objs.size f cd) :: outer) := fun b o z n q => by
    have z1 : b ∈ (envOfC qual scope s.heap.objs.size f cd).locals :: frs outer := I.stkSub b q
    rcases List.mem_cons.mp z1 with r | r
    · have : b < (envOfC qual scope s.heap.objs.size f cd).locals := Nat.lt_of_lt_of_le (Heap.lt_size z) I.ok.above
      rw [r] at this; exact absurd this (Nat.lt_irrefl _)
    · exact n r
  show wpAny _ _ (leaving _ _) _ _ _
  unfold leaving
  refine wpAny_bind (exc_note1 (s := s1) I.ok.frames I.stack (L := s.heap.objs.size) rfl hx fun h' T nT fl k1 k2 => ?_)
  have szl : s.heap.objs.size ≤ s1.heap.objs.size := I.sz
  refine ⟨x, C, dx, T, del H1 x, rfl, I.os, I.bare, ⟨fun b o z n hb hb' => ?_, fun b o z n hb hb' => ?_, fun b o z n hb' => ?_, fun b o z hb' => ?_, fun b xs z => ?_, fun b o v z => ?_, fun b ps z => ?_⟩, fun b u q => ?_, hm, Nat.le_trans szl nT, del_same, ?_, fl, hE⟩
  · exact k1 b o (old b o z) (hfr b o z hb) (B.keep b o z n hb hb')
  · obtain ⟨sl, q⟩ := B.slot b o z n hb hb'
    obtain ⟨sl', q'⟩ := k2 b _ (old b o z) q
    exact ⟨sl', q'⟩
  · rw [del_ne (old b o z)]; exact B.free b o z n hb'
  · obtain ⟨o', q⟩ := B.there b o z hb'
    obtain ⟨sl', q'⟩ := k2 b o' (old b o z) q
    exact ⟨_, q'⟩
  · have q := B.tups b xs z
    rw [del_ne (fun r => by rw [r, e] at q; cases q)]; exact q
  · have q := B.frzs b o v z
    rw [del_ne (fun r => by rw [r, e] at q; cases q)]; exact q
  · obtain ⟨more, q⟩ := B.tbls b ps z
    exact ⟨more, by rw [del_ne (fun r => by rw [r, e] at q; cases q)]; exact q⟩
  · obtain ⟨n1, q1⟩ := del_some q
    refine (I.hok b u q1).stay (fun c v hc z => ?_) (fun c z => by rw [del_ne (fun r => by rw [r, e] at z; cases z)]; exact z) fun c xs z => by rw [del_ne (fun r => by rw [r, e] at z; cases z)]; exact z
    have hcH : ∃ o, H1 c = some o := by
      rcases hc with r | r
      · rw [r]; exact ⟨_, q1⟩
      · exact ⟨_, r⟩
    obtain ⟨oc, hcH⟩ := hcH
    refine k1 c v (fun r => ?_) (fun r => ?_) z
    · rcases hc with r' | r'
      · exact n1 (r'.symm.trans r)
      · rw [r, e] at r'; cases r'
    · have := I.stkFree c r
      rw [hcH] at this; cases this
  · rw [del_ne (fun r => by
      have hlt := Heap.lt_size hx
      rw [← r] at hlt
      exact absurd hlt (Nat.not_lt.mpr nT))]
    exact I.hok.fresh nT
end
noncomputable def tRaise (K : PySem.W.Frag) (m : Nat) (E : XK) (te : TE) : TS := fun _ σ H => te σ H fun v H1 => ∃ x C dx f, v = .ref x ∧ H1 x = some (xo m x C dx) ∧ ErrC K C f ∧ E (.ref C) (some dx) (del H1 x)
section
variable {X : Cx} {m : Nat} {E : XK} {e : Expr} {te : TE} {pos : Pos}
theorem ps_raise (hx : ∀ (pins : List (Addr × Obj)) (σ : St) (H : Hp) (s : Shared) (x C dx : Addr), Inv X pins σ H s → H x = some (xo m x C dx) → E (.ref C) (some dx) (del H x) → X.xe (.ref x) s) (hc : X.calm = true) (he : PE X e te) : PS X (.Raise (some e) none pos) (tRaise X.K m E te) := by
  intro pins s σ H D I h
  rw [arm_exec_Raise]
  refine wpAny_bind (wpAny_standAt (raise_obj (I.ok.hd hc) (wpAny_bind (thn (he pins s σ H _ I h) fun u s1 z => wpAny_bind (wpAny_standAt (wpAny_pure ?_))))))
  obtain ⟨v, H1, I1, rv, x, C, dx, f, ev, ex, M, hE⟩ := z
  subst ev
  obtain rfl : u = Value.ref x := rv
  obtain ⟨nm, q, N, bs, bm, sn, sub, ab, col, dd, k0, k1, k2, k3, k5, l, htl, ho, hok, hi⟩ := M.ex
  obtain ⟨_, t0, hx'⟩ := (I1.hok _ _ ex).1
  exact ⟨x, C, t0, N, some dx, nm, q, bs, bm, true, sn, sub, ab, col, dd, k0, k1, k2, k3, k5, _, rfl, I1.kIn _ _ l, (PySem.W.tail_of_in I1.kIn htl).hasType (by decide), hx', hx pins σ H1 s1 x C dx I1 ex hE⟩
end
section
variable {P : Program} {w : World} {K : PySem.W.Frag} {mg : Str → Option Value} {base : Heap}
theorem FunD.okX {x qual : Str} {st : Stmt} {f : Addr} {fd : FuncData} {N ps : List Str} {k : Nat} {sp : Sp} (F : FunD K x qual st f fd) (S : FnScope N ps (defScope st)) (len : ∀ vs H Q E, sp vs H Q E → vs.length = ps.length)
    (hbody : ∀ (cdv : Value) (A : Around) (outer : List Env) (s : Shared) (H : Hp) (vs : List V) (Q : VK) (E : XK), Room k (A.deeper (envOfC qual (defScope st) s.heap.objs.size f cdv)) → sp vs H Q E →
      ∃ t, PSs (cxOf (CX1 P w) P w K mg base N qual (defScope st) f cdv A outer s H E) (defBody st) t ∧ t { nx := fun _ H' => Q .non H', rt := Q } (start N vs) H) : FnOk P w K mg base (CX1 P w) (k + 1) f fd ps sp := by
  obtain ⟨oc, od, dV, kV, doc, pm, an, cdv, ct, osl, rfl, lk, hcd⟩ := F.ex
  exact fn_of lk hcd S len fun A outer s H vs Q E hr hsp => hbody cdv A outer s H vs Q E hr hsp
end
section
variable {P : Program} {w : World} {K : PySem.W.Frag} {mg : Str → Option Value} {base : Heap} {N : List Str} {qual : Str} {scope : Scope} {f : Addr} {cd : Value} {A : Around} {outer : List Env} {s s1 : Shared} {H H1 : Hp} {E : XK} {pins : List (Addr × Obj)} {σ : St}
end
end L2
set_option maxRecDepth 100000
namespace L2
open PySem PySem.Spec PyProof.Rows
noncomputable abbrev Cx.inExc (X : Cx) (x : Addr) (xe : Value → Shared → Prop) : Cx := { X with A := X.A.mark (some (.ref x)), calm := false, xe := xe }
section
variable {X : Cx} {pins : List (Addr × Obj)} {σ : St} {H : Hp} {s : Shared}
theorem Inv.inExc (I : Inv X pins σ H s) (x : Addr) (xe : Value → Shared → Prop) : Inv (X.inExc x xe) pins σ H s :=
  ⟨⟨I.ok.mod, I.ok.kind, I.ok.glob, I.ok.blt, I.ok.above, I.ok.inj, I.ok.has, I.ok.cab, (fun z => by cases z), I.ok.frames, I.ok.stk, I.ok.exf, I.ok.bs, I.ok.bsz, I.ok.noex, I.ok.exfs, I.ok.funs, I.ok.frf⟩, I.os, I.bare, I.base, I.loc, I.cell, I.free, I.freeC, I.pin, I.hok, I.len⟩
theorem Inv.outExc {x : Addr} {xe : Value → Shared → Prop} (hd : X.calm = true → X.A.handled = none) (I : Inv (X.inExc x xe) pins σ H s) : Inv X pins σ H s :=
  ⟨⟨I.ok.mod, I.ok.kind, I.ok.glob, I.ok.blt, I.ok.above, I.ok.inj, I.ok.has, I.ok.cab, hd, I.ok.frames, I.ok.stk, I.ok.exf, I.ok.bs, I.ok.bsz, I.ok.noex, I.ok.exfs, I.ok.funs, I.ok.frf⟩, I.os, I.bare, I.base, I.loc, I.cell, I.free, I.freeC, I.pin, I.hok, I.len⟩
theorem Inv.beyond {b : Addr} {s' : Shared} (I : Inv X pins σ H s) (h : s.heap.objs.size ≤ b) : (b ∈ X.ex ∨ X.s₀.heap.objs.size ≤ b) ∧ b ≠ X.env.locals ∧ (∀ x c, X.env.cells.lookup x = some c → c ≠ b) ∧ ∀ p ∈ X.pn ++ pins, p.1 ≠ b := by
  refine ⟨.inr (Nat.le_trans I.sz h), fun e => ?_, fun x c z e => ?_, fun p hp e => ?_⟩
  · have := I.lt
    rw [← e] at this; exact absurd this (Nat.not_lt.mpr h)
  · obtain ⟨v, o, ho, _⟩ := I.cell x c z
    have := Heap.lt_size ho
    rw [e] at this; exact absurd this (Nat.not_lt.mpr h)
  · have := Heap.lt_size (I.pin p hp).1
    rw [e] at this; exact absurd this (Nat.not_lt.mpr h)
theorem name_gone {M : Model} {A : Around} {E : Value → Shared → Prop} {i : Nat} {n : Str} {pos : Pos} {Q : Unit → Shared → Prop} (I : Inv X pins σ H s) (hN : X.N.Nodup) (hi : X.N[i]? = some n) (hk : X.env.kindOf n = some .local)
    (h : ∀ s', Inv X pins (σ.set i none) H s' → Q () s') : wpAny M A (do bindName X.env n .none; unbindBehindTheSuite X.env n pos) Q E s := by
  obtain ⟨m, hn, hl⟩ := I.loc
  have hcls : (X.env.scope.kind == .class || (X.env.scope.kind == .module && X.env.locals != X.env.globals)) = false := by rw [I.ok.kind]; rfl
  refine wpAny_nameGoes_keeps hk hn hcls fun h' v hn' hs => h _ ?_
  have cne := I.cne
  have k : ∀ b o, b ≠ X.env.locals → s.heap.get? b = some o → h'.get? b = some o := fun b o hb z => (hs.2 b hb).trans z
  have neL : ∀ b o, X.s₀.heap.get? b = some o → b ≠ X.env.locals := fun b o e => Nat.ne_of_lt (Nat.lt_of_lt_of_le (Heap.lt_size e) I.ok.above)
  have B := I.base
  refine ⟨I.ok, I.os, I.bare, ⟨fun b o z n hb hx => k b o (neL b o z) (B.keep b o z n hb hx), fun b o z n hb hx => ?_, B.free, fun b o z hx => ?_, B.tups, B.frzs, B.tbls⟩, ⟨_, hn', fun j y u h1 h2 h3 => ?_⟩, fun y c z => ?_, I.free, I.freeC, fun p hp => ?_, fun b u e => ?_, ?_⟩
  · obtain ⟨sl, q⟩ := B.slot b o z n hb hx
    exact ⟨sl, k b _ (neL b o z) q⟩
  · obtain ⟨o', q⟩ := B.there b o z hx
    exact ⟨o', k b o' (neL b o z) q⟩
  · have hij : i ≠ j := fun e => by
      subst e
      rw [List.getElem?_set_self (by rw [I.len]; exact (List.getElem?_eq_some_iff.mp hi).1)] at h2
      cases h2
    rw [List.getElem?_set_ne hij] at h2
    obtain ⟨u', r, lk⟩ := hl j y u h1 h2 h3
    have hyn : y ≠ n := fun e => hij (nodup_ix hN (by rw [hi, ← e]) h1)
    refine ⟨u', r, ?_⟩
    rcases lk with ⟨a, b⟩ | ⟨a, c, b, d⟩
    · exact .inl ⟨a, by show (if y = n then v else m y) = _; rw [if_neg hyn]; exact b⟩
    · obtain ⟨o, ho, hd⟩ := d
      exact .inr ⟨a, c, b, o, k c o (cne y c b) ho, hd⟩
  · obtain ⟨v', o, ho, hd⟩ := I.cell y c z
    exact ⟨v', o, k c o (cne y c z) ho, hd⟩
  · obtain ⟨a, b, c, d, e⟩ := I.pin p hp
    exact ⟨k _ _ c a, b, c, d, e⟩
  · refine (I.hok b u e).stay (fun c v' hc z => k c v' (fun r => ?_) z) (fun _ z => z) fun _ _ z => z
    have := I.free
    rcases hc with r' | r'
    · rw [← r, r', e] at this; cases this
    · rw [← r, r'] at this; cases this
  · rw [List.length_set]; exact I.len
end
end L2
set_option maxRecDepth 100000
namespace L2
open PySem PySem.Spec PyProof.Rows
section
variable {X : Cx} {pins : List (Addr × Obj)} {σ : St} {H : Hp} {s s' : Shared} {E : XK} {e : Value} {Dn n : Str} {dp hp : Pos} {i : Nat} {b₀ : Stmt} {suite : List Stmt} {ts : TS} {D : Ends} {DC : Addr} {cd : ClassData}
theorem Inv.held {H' : Hp} {h2 : Heap} {x C dx T T2 : Addr} (I1 : Inv X pins σ H' s') (hbx : (x ∈ X.ex ∨ X.s₀.heap.objs.size ≤ x) ∧ x ≠ X.env.locals ∧ (∀ y c, X.env.cells.lookup y = some c → c ≠ x) ∧ ∀ p ∈ X.pn ++ pins, p.1 ≠ x) (hbT : (T ∈ X.ex ∨ X.s₀.heap.objs.size ≤ T) ∧ T ≠ X.env.locals ∧ (∀ y c, X.env.cells.lookup y = some c → c ≠ T) ∧ ∀ p ∈ X.pn ++ pins, p.1 ≠ T)
    (hx : H' x = none) (hT : H' T = none) (fl2 : Flies h2 x C dx T2) (k1 : ∀ b o, b ≠ x → b ≠ T → b ∉ X.stack.filterMap (·.frame) → s'.heap.get? b = some o → h2.get? b = some o) (k2 : ∀ b o, b ≠ x → b ≠ T → s'.heap.get? b = some o → ∃ sl, h2.get? b = some { o with slots := sl }) :
    Inv X pins σ (upd H' x (xc x C dx)) { s' with heap := h2 } := by
  obtain ⟨vs, oT, tsl, he, h1, hTx, hT2, hTd, h3⟩ := fl2
  have fr : ∀ b, b ≠ X.env.locals → b ∉ X.fs → b ∉ X.stack.filterMap (·.frame) := fun b hL hf q => by
    rcases List.mem_cons.mp (I1.stkSub b q) with r | r
    · exact hL r
    · exact hf r
  refine I1.step (g' := s'.gens) (d' := s'.drawn) (t' := s'.toks) (ch := [x, T]) (fun b hb => ?_) (fun b o hL hf hc z _ => k1 b o (fun r => hc (by simp [r])) (fun r => hc (by simp [r])) (fr b hL hf) z) (fun b o hL hf hc z _ => k2 b o (fun r => hc (by simp [r])) (fun r => hc (by simp [r])) z) (fun b o hc z n => ?_) (fun b o hc z => ?_) (fun b xs z => ?_) (fun b o u z => ?_) (fun b ps z => ?_) (fun m hm => ?_) (HOk.track (fun b u q => ?_) hx (xc_ok he rfl rfl rfl)) I1.bare
  · rcases List.mem_cons.mp hb with r | r
    · rw [r]; exact hbx
    · rw [List.mem_singleton.mp r]; exact hbT
  · rw [upd_ne (fun r => hc (by simp [r]))]; exact n
  · obtain ⟨sl, q⟩ := k2 b o (fun r => hc (by simp [r])) (fun r => hc (by simp [r])) z
    exact ⟨_, q⟩
  · rw [upd_ne (ne_of_none z hx)]; exact z
  · rw [upd_ne (ne_of_none z hx)]; exact z
  · exact ⟨#[], by rw [upd_ne (ne_of_none z hx), z]; simp⟩
  · obtain ⟨o, es, ep, ho, r⟩ := hm
    obtain ⟨sl, q⟩ := k2 _ o (Ne.symm hbx.2.1) (Ne.symm hbT.2.1) ho
    exact ⟨_, es, ep, q, r⟩
  · refine (I1.hok b u q).stay (fun c v hc z => ?_) (fun c z => z) fun c xs z => z
    have hcH : ∃ o, H' c = some o := by
      rcases hc with r | r
      · rw [r]; exact ⟨_, q⟩
      · exact ⟨_, r⟩
    obtain ⟨oc, hcH⟩ := hcH
    refine k1 c v (ne_of_none hcH hx) (ne_of_none hcH hT) (fun r => ?_) z
    have := I1.stkFree c r
    rw [hcH] at this; cases this
theorem Inv.other {h2 : Heap} {T : Addr} (I : Inv X pins σ H s) (hb : (T ∈ X.ex ∨ X.s₀.heap.objs.size ≤ T) ∧ T ≠ X.env.locals ∧ (∀ y c, X.env.cells.lookup y = some c → c ≠ T) ∧ ∀ p ∈ X.pn ++ pins, p.1 ≠ T) (hT : H T = none) (k : ∀ b o, b ≠ T → s.heap.get? b = some o → h2.get? b = some o) : Inv X pins σ H { s with heap := h2 } :=
  I.turned (t' := s.toks) k hT hb.2.1 hb.1 hb.2.2.1 hb.2.2.2
theorem catch1 (hstk : X.stack = X.env :: X.outer) (hfm : X.env.frame = some X.env.locals) (I : Inv X pins σ H s) (c : CX1 X.prog X.w X.stack H s E e s')
    (hg : Gl X Dn) (hm : X.mg Dn = some (.ref DC)) (hDc : PySem.W.clsIn X.K DC = some cd) (hDt : PySem.W.typeIn X.K (.ref DC) = some (.type "type")) (hDb : PySem.W.mroIn X.K DC (.type "BaseException") = some true)
    (hN : X.N.Nodup) (hi : X.N[i]? = some n) (hk : X.env.kindOf n = some .local) (hs : ∀ x xe, PSs (X.inExc x xe) (b₀ :: suite) ts)
    (hE : ∀ C dx H', E (.ref C) (some dx) H' → PySem.W.mroIn X.K C (.ref DC) = some true ∧ ∀ x, H' x = none → ts { nx := fun σ' H'' => D.nx (σ'.set i none) H'', rt := fun _ _ => False } (σ.set i (some (.ref x))) (upd H' x (xc x C dx)))
    (hdb : (Dn == ("__debug__" : Str)) = false := by decide) :
    wpAny (model X.prog X.w) X.A (noteFrame e X.env) (fun _ s₂ => wpAny (model X.prog X.w) X.A (setFlight e none) (fun _ s₃ => wpAny (model X.prog X.w) X.A (handleBy e X.env [.ExceptHandler (some (.Name Dn dp)) (some n) (b₀ :: suite) hp]) (SP X pins D) X.xe s₃) X.xe s₂) X.xe s' := by
  obtain ⟨x, C, dx, T, H', ee, os', bare', un, hok, nx, nT, hx, hT, fl, hE'⟩ := c
  subst ee
  obtain ⟨hmat, hread⟩ := hE C dx H' hE'
  have I1 := I.call' (ch := []) os' un hok bare' (fun b z => absurd z (by simp))
  have bx := I.beyond (s' := s) nx
  have bT := I.beyond (s' := s) nT
  have hfr : X.A.frames = some (X.env :: X.outer) := by rw [← hstk]; exact I.ok.frames
  have hfl : s'.heap.FunFrames X.base (X.env :: X.outer) := by rw [← hstk]; exact I1.stack
  refine exc_noteN (s := s') hfr hfl hfm fl fun h2 T2 nT2 fl2 k1 k2 => ?_
  rw [← hstk] at k1
  have I2 := I1.held bx bT hx hT fl2 k1 k2
  have bT2 := I1.beyond (s' := s) nT2
  have hT2 : upd H' x (xc x C dx) T2 = none := by
    obtain ⟨_, _, _, _, _, hTx, _⟩ := fl2
    rw [upd_ne hTx]; exact I1.hok.fresh nT2
  refine wpAny_handleBy_cons (codeAny_handlers_test ?_) (by intro q; cases q)
  have I3 := I2.inExc x X.xe
  have hmatch : ∀ (s2 : Shared), s2 = { s' with heap := h2 } → True := fun _ _ => trivial
  refine ld_glob I3 hg hm ?_ hdb
  obtain ⟨vs, oT, tsl, he2, r2⟩ := id fl2
  refine exc_match (s := { s' with heap := h2 }) I2.kIn he2 rfl hDc hDt hDb hmat ?_
  refine codeAny_handlers_suite_as (exc_land (s := { s' with heap := h2 }) fl2 fun h3 fl3 k3 => ?_)
  have I4 := I2.other bT2 hT2 k3
  refine store_ok I4 hN hi (.inl hk) (v := .ref x) rfl (fun s5 I5 => ?_) (.inr hk)
  refine wpAny_mono (hs x _ pins s5 _ _ _ (I5.inExc x _) (hread x hx)) (fun f s6 q => ?_) fun _ _ z => z
  cases f with
  | next =>
    obtain ⟨σ6, H6, I6, q6⟩ := q
    exact name_gone (I6.outExc I.ok.hd) hN hi hk fun s7 I7 => ⟨_, H6, I7, q6⟩
  | ret u => obtain ⟨_, _, _, _, _, z⟩ := q; exact z.elim
  | brk => obtain ⟨_, _, _, z⟩ := q; exact z.elim
  | cont => obtain ⟨_, _, _, z⟩ := q; exact z.elim
end
end L2
set_option maxRecDepth 100000
namespace L2
open PySem PySem.Spec PyProof.Rows
section
variable {X : Cx} {pins : List (Addr × Obj)} {σ : St} {H : Hp} {s : Shared} {E : XK} {k : Nat} {f : Addr} {fd : FuncData} {ps : List Str} {sp : Sp} {g : Str} {gp cp : Pos} {e : Expr} {es : List Expr} {t : TA} {Q : VK} {XE : Value → Shared → Prop} {dvs : List V} {ds : List Value}
theorem call_at (F : FnOk X.prog X.w X.K X.mg X.base (CX1 X.prog X.w) k f fd ps sp) (hr : Room k X.A) (hg : Gl X g) (hm : X.mg g = some (.ref f)) (hk : PySem.W.keepIn X.K (.ref f) = true) (hb : Binds X.K fd ps ds) (hd : Vals dvs ds)
    (ha : PA (X.wish XE) (e :: es) t) (I : Inv X pins σ H s) (h : t σ H fun vs H1 => sp (vs ++ dvs) H1 Q E) (hx : ∀ H1 s1 e' s', Inv X pins σ H1 s1 → CX1 X.prog X.w X.stack H1 s1 E e' s' → XE e' s')
    (hdb : (g == ("__debug__" : Str)) = false := by decide) (he : starEach (e :: es) X.env = (false, eval e X.env) :: starEach es X.env := by rfl) (hpl : (backTo cp (starEach es X.env)).any (·.1) = false := by rfl) :
    wpAny (model X.prog X.w) X.A (eval (.Call (.Name g gp) (e :: es) [] cp) X.env) (EP X pins σ Q) XE s := by
  refine wpAny_Call_Name_kw (ld_glob I hg hm ?_ hdb)
  refine PySem.W.callWith_K (h₀ := X.base) I.ok.mod.kin hk (thn (ha cp pins s σ H _ (I.wish XE) h) fun us s1 z => ?_) he hpl
  obtain ⟨vs, H1, I1, r, q⟩ := z
  have I1 := I1.unwish
  refine ⟨I1.kIn, ?_⟩
  have r2 : Vals (vs ++ dvs) (us ++ ds) := r.append hd
  have hl : (us ++ ds).length = ps.length := by rw [← r2.length]; exact F.len _ _ _ _ q
  refine wpAny_call (codeAny_mono (F.run X.A X.stack s1 H1 ⟨us, []⟩ (us ++ ds) (vs ++ dvs) Q E hr I1.env0 (hb s1 us I1.kIn hl) r2 q) fun r s' hq => ?_)
  cases r with
  | error e' => exact hx H1 s1 e' s' I1 hq
  | ok fl =>
    cases fl with
    | ret u => exact I1.after hq
    | next => exact False.elim hq
    | brk => exact False.elim hq
    | cont => exact False.elim hq
end
noncomputable def tCatch (K : PySem.W.Frag) (DC : Addr) (i : Nat) (ts : TS) (D : Ends) (σ : St) : XK := fun cls dx H' => ∃ C d, cls = .ref C ∧ dx = some d ∧ PySem.W.mroIn K C (.ref DC) = some true ∧ ∀ x, H' x = none → ts { nx := fun σ' H'' => D.nx (σ'.set i none) H'', rt := fun _ _ => False } (σ.set i (some (.ref x))) (upd H' x (xc x C d))
noncomputable def tTryE (K : PySem.W.Frag) (sp : Sp) (dvs : List V) (t : TA) (DC : Addr) (i : Nat) (ts : TS) : TS := fun D σ H => t σ H fun vs H1 => sp (vs ++ dvs) H1 (fun _ H2 => D.nx σ H2) (tCatch K DC i ts D σ)
noncomputable def tTryA (K : PySem.W.Frag) (sp : Sp) (dvs : List V) (t : TA) (j : Nat) (DC : Addr) (i : Nat) (ts : TS) : TS := fun D σ H => t σ H fun vs H1 => sp (vs ++ dvs) H1 (fun v H2 => D.nx (σ.set j (some v)) H2) (tCatch K DC i ts D σ)
structure CatchC (K : PySem.W.Frag) (DC : Addr) : Prop where
  cl : ∃ cd, PySem.W.clsIn K DC = some cd
  ty : PySem.W.typeIn K (.ref DC) = some (.type "type")
  bx : PySem.W.mroIn K DC (.type "BaseException") = some true
section
variable {X : Cx} {k : Nat} {f DC : Addr} {fd : FuncData} {ps : List Str} {sp : Sp} {g Dn n y : Str} {gp cp ep dp hp pos yp : Pos} {e : Expr} {es : List Expr} {t : TA} {i j : Nat} {b₀ : Stmt} {suite : List Stmt} {ts : TS} {dvs : List V} {ds : List Value}
theorem ps_tryE (F : FnOk X.prog X.w X.K X.mg X.base (CX1 X.prog X.w) k f fd ps sp) (hr : Room k X.A) (hg : Gl X g) (hm : X.mg g = some (.ref f)) (hk : PySem.W.keepIn X.K (.ref f) = true) (hb : Binds X.K fd ps ds) (hd : Vals dvs ds) (ha : ∀ XE, PA (X.wish XE) (e :: es) t)
    (hstk : X.stack = X.env :: X.outer) (hfm : X.env.frame = some X.env.locals) (hgD : Gl X Dn) (hmD : X.mg Dn = some (.ref DC)) (CC : CatchC X.K DC) (hN : X.N.Nodup) (hi : X.N[i]? = some n) (hkn : X.env.kindOf n = some .local) (hs : ∀ x xe, PSs (X.inExc x xe) (b₀ :: suite) ts)
    (hdb : (g == ("__debug__" : Str)) = false := by decide) (hdD : (Dn == ("__debug__" : Str)) = false := by decide) (he : starEach (e :: es) X.env = (false, eval e X.env) :: starEach es X.env := by rfl) (hpl : (backTo cp (starEach es X.env)).any (·.1) = false := by rfl)
    (hsw : swapsWith (.Call (.Name g gp) (e :: es) [] cp) none ep.line X.env = pure false := by rfl) :
    PS X (.Try [.Expr (.Call (.Name g gp) (e :: es) [] cp) ep] [.ExceptHandler (some (.Name Dn dp)) (some n) (b₀ :: suite) hp] [] [] pos) (tTryE X.K sp dvs t DC i ts) := by
  intro pins s σ H D I h
  obtain ⟨cd, hcd⟩ := CC.cl
  refine wpAny_Try_except (wpAny_execs_cons (wpAny_Expr_any (wpAny_mono (call_at F hr hg hm hk hb hd (ha _) I h (fun H1 s1 e' s' I1 c => catch1 hstk hfm I1 c hgD hmD hcd CC.ty CC.bx hN hi hkn hs (fun C dx H' hE => ?_) hdD) hdb he hpl) (fun u s1 z => ?_) fun _ _ z => z) I.quiet hsw))
  · obtain ⟨C', d', e1, e2, h1, h2⟩ := hE
    cases e1; cases e2
    exact ⟨h1, h2⟩
  · obtain ⟨v, H1, I1, rv, q⟩ := z
    exact wpAny_execs_nil (wpAny_execs_nil ⟨σ, H1, I1, q⟩)
end
noncomputable def tXGet (K : PySem.W.Frag) (ta : TE) (f : Str) : TE := fun σ H Q => ta σ H fun x H1 => ∃ a C dx g fs v, x = .ref a ∧ H1 a = some (xc a C dx) ∧ H1 dx = some (.xd fs) ∧ ErrC K C g ∧ NoAttr K C f ∧ fs.lookup f = some v ∧ Q v H1
noncomputable def clsV : V → Option Value
  | .ref a => some (.ref a)
  | .ty t => some (.type t)
  | _ => none
noncomputable def rIsX (K : PySem.W.Frag) : List V → Hp → VK → Prop := fun xs H Q => ∃ a C dx g fs c cv b, xs = [.ref a, c] ∧ H a = some (xc a C dx) ∧ H dx = some (.xd fs) ∧ ErrC K C g ∧ clsV c = some cv ∧ PySem.W.kitOne K (.ref C) cv = some b ∧ Q (.bl b) H
section
variable {X : Cx} {e : Expr} {te : TE} {f : Str} {pos : Pos}
theorem exc_at {pins : List (Addr × Obj)} {σ : St} {H : Hp} {s : Shared} {a C dx : Addr} {fs : List (Str × V)} (I : Inv X pins σ H s) (h1 : H a = some (xc a C dx)) (h2 : H dx = some (.xd fs)) :
    ∃ (ox od : Obj) (mA : Str → Option Value), PySem.W.InstAt s.heap a ox C (some od) ∧ (∀ name, PySem.W.lookIn name od = some (mA name)) ∧ ∀ g, RelO (fs.lookup g) (mA g) := by
  obtain ⟨o, ho, hc, hd, hn⟩ := (I.hok _ _ h1).1
  obtain ⟨mA, ns, rel⟩ := I.hok _ _ h2
  obtain ⟨od, hod, hl⟩ := lookIn_ns ns
  refine ⟨o, od, mA, ⟨ho, hc, hn, ?_⟩, hl, rel⟩
  rw [hd]
  exact hod
theorem pe_xget (he : PE X e te) (hb : attributeBase e f X.env (eval e X.env) = eval e X.env) : PE X (.Attribute e f pos) (tXGet X.K te f) := by
  intro pins s σ H Q I h
  refine attr_of hb (thn (he pins s σ H _ I h) fun u s1 z => ?_)
  obtain ⟨x, H1, I1, rx, a, C, dx, g, fs, v, ex, h1, h2, M, n, l, q⟩ := z
  subst ex
  obtain rfl : u = Value.ref a := rx
  obtain ⟨ox, od, mA, J, hl, rel⟩ := exc_at I1 h1 h2
  obtain ⟨u, hu, ru⟩ := RelO.some_of (v := v) (o := mA f) (by rw [← l]; exact rel f)
  obtain ⟨cd, hc, hd, _⟩ := M.cls
  obtain ⟨hh, g', d, tk, os⟩ := s1
  refine exc_get I1.kIn J M.ga M.gt M.bx (PySem.W.findObj_own (by unfold PySem.W.hasDictIn; rw [hc]; exact hd) n rfl (by rw [hl, hu])) (handed_of ru) ?_
  exact ⟨v, H1, I1.tok _, ru, q⟩
theorem call_isX (hn : PySem.W.specialIn X.K (.builtin "object.__class__") "__get__" = some (some (.builtin "getset_descriptor.__get__"))) (ht : PySem.W.takesIn X.K (.builtin "object.__class__") = some true) : CallR X (.builtin "isinstance") (rIsX X.K) := by
  intro pins s σ H xs us Q I r h
  obtain ⟨a, C, dx, g, fs, c, cv, b, rfl, h1, h2, M, hcv, hk, q⟩ := h
  obtain ⟨u1, u2, rfl, r1, r2⟩ := vals2 r
  cases r1
  have e2 : u2 = cv := by
    cases c with
    | ref D => cases hcv; exact r2
    | ty t => cases hcv; exact r2
    | _ => cases hcv
  subst e2
  obtain ⟨ox, od, mA, J, hl, rel⟩ := exc_at I h1 h2
  obtain ⟨cd, hc, hd, _⟩ := M.cls
  exact PySem.W.kia_one (kitx_exc (ox := ox) (od := od) (by unfold PySem.W.hasDictIn; rw [hc]; exact hd) M.ga M.gt M.bx M.cl hn ht M.ob) I.kIn J hk (by intro z; cases z) fun tk => ⟨.bl b, H, I.tok _, rfl, q⟩
end
end L2
set_option maxRecDepth 100000
namespace L2
open PySem PySem.Spec PyProof.Rows
noncomputable def FOX (P : Program) (w : World) (K : PySem.W.Frag) (mg : Str → Option Value) (base : Heap) (k : Nat) (x : Str) (ps : List Str) (dvs : List V) (sp : Sp) : Prop :=
  ∃ f fd, FnOk P w K mg base (CX1 P w) k f fd ps sp ∧ mg x = some (.ref f) ∧ PySem.W.keepIn K (.ref f) = true ∧ ∃ ds, Binds K fd ps ds ∧ Vals dvs ds
noncomputable def EO (P : Program) (w : World) (K : PySem.W.Frag) (mg : Str → Option Value) (base : Heap) (k : Nat) (C : Addr) (x : Str) (ps : List Str) (sp : Sp) : Prop :=
  ∃ f fd, FnOk P w K mg base CX0 k f fd ps sp ∧ mg x = some (.ref C) ∧ ErrC K C f ∧ Binds K fd ps []
noncomputable def spErrI (K : PySem.W.Frag) (C : Addr) (fld : Str) : Sp := fun vs H Q _ => ∃ m x i f, vs = [.ref x, .int i] ∧ H x = some (xm m x C) ∧ ErrC K C f ∧ NoAttr K C fld ∧ i.natAbs < 10 ^ 9 ∧ ∀ dx, H dx = none → dx ≠ x → Q .non (upd (upd H x (xo m x C dx)) dx (.xd [(fld, .int i)]))
section
variable {X : Cx} {K : PySem.W.Frag} {k : Nat} {C : Addr} {ps : List Str} {sp : Sp} {x : Str} {p pos np ap cp ep dp hp yp gp : Pos} {e a b : Expr} {es : List Expr} {t : TA} {te ta tb tv : TE} {m : Nat} {E : XK}
theorem qe_err (G : EO X.prog X.w X.K X.mg X.base k C x ps sp) (hr : Room (k + 1) X.A) (ha : QA X (e :: es) t) (hg : Gl X x := by rfl) (hm : X.s₀.heap.objs.size = m := by rfl) (hdb : (x == ("__debug__" : Str)) = false := by decide)
    (he : starEach (e :: es) X.env = (false, eval e X.env) :: starEach es X.env := by rfl) (hpl : (backTo pos (starEach es X.env)).any (·.1) = false := by rfl) : QE X (.Call (.Name x p) (e :: es) [] pos) (tErr m C sp t) := by
  subst hm
  obtain ⟨f, fd, F, hmg, M, hb⟩ := G
  exact ⟨pe_err M F hr hg hmg hb ha.out hdb he hpl⟩
theorem qe_init {L : Addr} {pl : Sem Bool} (N : LoreC X.K L) (hm : X.mg x = some (.ref L)) (ha : QE X a ta) (hb : QE X b tb) (hK : X.K = K := by rfl) (hg : Gl X x := by rfl) (hdb : (x == ("__debug__" : Str)) = false := by decide)
    (htr : backTo cp (starEach [a, b] X.env) = [(false, eval a X.env), (false, eval b X.env)] := by rfl)
    (ht : eval (.Call (.Attribute (.Name x np) "__init__" ap) [a, b] [] cp) X.env = (do
      let ov ← eval (.Name x np) X.env
      standAt ap.atName
      let (f, first) ← holding [ov] (getMethod ov "__init__" pl)
      callWith cp f first (backTo cp (starEach [a, b] X.env)) (backToKw cp (keywordEach [] X.env))) := by rfl) : QE X (.Call (.Attribute (.Name x np) "__init__" ap) [a, b] [] cp) (tInit K ta tb) := by
  subst hK
  exact ⟨pe_init N hg hm ha.out hb.out hdb htr ht⟩
theorem qe_fmtI (he : QE X e te) : QE X (.FormattedValue e (-1) none pos) (tFmtI te) := ⟨pe_fmtI he.out⟩
theorem qe_joined3 {c : Expr} {t1 t2 t3 : TE} (h1 : QE X a t1) (h2 : QE X b t2) (h3 : QE X c t3) : QE X (.JoinedStr [a, b, c] pos) (tParts [t1, t2, t3]) := ⟨pe_joined (.cons h1.out (.cons h2.out (.cons h3.out .nil))) (by simp)⟩
theorem qs_xfld {f : Str} (ha : QE X a ta) (hv : QE X b tv) (hK : X.K = K := by rfl) (hs : swapsWith b (some (.Attribute a f ap)) pos.line X.env = pure false := by rfl) : QS X (.Assign [.Attribute a f ap] b pos) (sXFld K ta tv f) := by
  subst hK
  exact ⟨ps_xfld ha.out hv.out hs⟩
theorem qs_raise (hx : ∀ (pins : List (Addr × Obj)) (σ : St) (H : Hp) (s : Shared) (x C dx : Addr), Inv X pins σ H s → H x = some (xo m x C dx) → E (.ref C) (some dx) (del H x) → X.xe (.ref x) s) (he : QE X e te) (hK : X.K = K := by rfl) (hc : X.calm = true := by rfl) : QS X (.Raise (some e) none pos) (tRaise K m E te) := by
  subst hK
  exact ⟨ps_raise hx hc he.out⟩
theorem qe_callX {dvs : List V} (G : FOX X.prog X.w X.K X.mg X.base k x ps dvs sp) (hr : Room k X.A) (hx : Passes (CX1 X.prog X.w) X E) (ha : QA X (e :: es) t) (hg : Gl X x := by rfl) (hdb : (x == ("__debug__" : Str)) = false := by decide)
    (he : starEach (e :: es) X.env = (false, eval e X.env) :: starEach es X.env := by rfl) (hpl : (backTo pos (starEach es X.env)).any (·.1) = false := by rfl) : QE X (.Call (.Name x p) (e :: es) [] pos) (tCall sp dvs E t) := by
  obtain ⟨f, fd, F, hm, hk, ds, hb, hd⟩ := G
  exact ⟨pe_call F hr hg hm hk hb hd hx ha.out hdb he hpl⟩
theorem pass_none {P : Program} {w : World} : Passes (CX1 P w) X E0 := fun _ _ _ _ _ _ _ h => by
  obtain ⟨_, _, _, _, _, _, _, _, _, _, _, _, _, _, _, z⟩ := h
  exact z.elim
theorem qe_xget {f : Str} (he : QE X e te) (hK : X.K = K := by rfl) (hb : attributeBase e f X.env (eval e X.env) = eval e X.env := by rfl) : QE X (.Attribute e f pos) (tXGet K te f) := by
  subst hK
  exact ⟨pe_xget he.out hb⟩
theorem q_isX (hn : PySem.W.specialIn X.K (.builtin "object.__class__") "__get__" = some (some (.builtin "getset_descriptor.__get__"))) (ht : PySem.W.takesIn X.K (.builtin "object.__class__") = some true) (hK : X.K = K := by rfl) : QCall X (.builtin "isinstance") (rIsX K) := by
  subst hK
  exact ⟨call_isX hn ht⟩
variable {DC : Addr} {Dn n y : Str} {i j : Nat} {b₀ : Stmt} {suite : List Stmt} {ts : TS} {dvs : List V} {N : List Str} {S : Scope}
theorem qs_tryE (G : FOX X.prog X.w X.K X.mg X.base k x ps dvs sp) (hr : Room k X.A) (ha : ∀ XE, QA (X.wish XE) (e :: es) t) (hmD : X.mg Dn = some (.ref DC)) (CC : CatchC X.K DC) (hN : X.N.Nodup) (hi : X.N[i]? = some n) (hkn : X.env.kindOf n = some .local) (hs : ∀ x xe, QSs (X.inExc x xe) (b₀ :: suite) ts)
    (hK : X.K = K := by rfl) (hstk : X.stack = X.env :: X.outer := by rfl) (hfm : X.env.frame = some X.env.locals := by rfl) (hg : Gl X x := by rfl) (hgD : Gl X Dn := by rfl)
    (hdb : (x == ("__debug__" : Str)) = false := by decide) (hdD : (Dn == ("__debug__" : Str)) = false := by decide) (he : starEach (e :: es) X.env = (false, eval e X.env) :: starEach es X.env := by rfl) (hpl : (backTo cp (starEach es X.env)).any (·.1) = false := by rfl)
    (hsw : swapsWith (.Call (.Name x gp) (e :: es) [] cp) none ep.line X.env = pure false := by rfl) :
    QS X (.Try [.Expr (.Call (.Name x gp) (e :: es) [] cp) ep] [.ExceptHandler (some (.Name Dn dp)) (some n) (b₀ :: suite) hp] [] [] pos) (tTryE K sp dvs t DC i ts) := by
  subst hK
  obtain ⟨f, fd, F, hm, hk, ds, hb, hd⟩ := G
  exact ⟨ps_tryE F hr hg hm hk hb hd (fun XE => (ha XE).out) hstk hfm hgD hmD CC hN hi hkn (fun x xe => (hs x xe).out) hdb hdD he hpl hsw⟩
end
section
variable {σ : St} {H : Hp} {Q : VK} {D : Ends} {m : Nat} {C DC : Addr} {sp : Sp} {t : TA} {te ta tb tv : TE} {K : PySem.W.Frag} {E : XK} {f : Str} {i j : Nat} {ts : TS} {dvs : List V} {tl : List TE}
theorem ap_err : tErr m C sp t σ H Q = t σ H fun vs H1 => vs.length ≤ 1000 ∧ ∀ x, H1 x = none → sp (.ref x :: vs) (upd H1 x (xm m x C)) (fun v H2 => v = .non ∧ Q (.ref x) H2) E0 := rfl
theorem ap_raise : tRaise K m E te D σ H = te σ H fun v H1 => ∃ x C dx f, v = .ref x ∧ H1 x = some (xo m x C dx) ∧ ErrC K C f ∧ E (.ref C) (some dx) (del H1 x) := rfl
theorem ap_init : tInit K ta tb σ H Q = ta σ H fun x H1 => tb σ H1 fun _ H2 => ∃ a m C f, x = .ref a ∧ H2 a = some (xm m a C) ∧ ErrC K C f ∧ Q .non H2 := rfl
theorem ap_fmtI : tFmtI te σ H Q = te σ H fun v H1 => ∃ i : Int, v = .int i ∧ i.natAbs < 10 ^ 9 ∧ ∀ z : Str, z.length ≤ 100 → Q (.str z) H1 := rfl
theorem ap_parts0 : tParts [] σ H Q = ∀ z : Str, Q (.str z) H := rfl
theorem ap_parts : tParts (te :: tl) σ H Q = te σ H fun v H1 => ∃ y : Str, v = .str y ∧ y.length ≤ 100000 ∧ tParts tl σ H1 Q := rfl
theorem ap_xfld : sXFld K ta tv f D σ H = tv σ H fun y H1 => ta σ H1 fun x H2 => ∃ a m C g, x = .ref a ∧ H2 a = some (xm m a C) ∧ ErrC K C g ∧ NoAttr K C f ∧ ∀ dx, H2 dx = none → dx ≠ a → D.nx σ (upd (upd H2 a (xo m a C dx)) dx (.xd [(f, y)])) := rfl
theorem ap_xget : tXGet K ta f σ H Q = ta σ H fun x H1 => ∃ a C dx g fs v, x = .ref a ∧ H1 a = some (xc a C dx) ∧ H1 dx = some (.xd fs) ∧ ErrC K C g ∧ NoAttr K C f ∧ fs.lookup f = some v ∧ Q v H1 := rfl
theorem ap_tryE : tTryE K sp dvs t DC i ts D σ H = t σ H fun vs H1 => sp (vs ++ dvs) H1 (fun _ H2 => D.nx σ H2) (tCatch K DC i ts D σ) := rfl
theorem ap_tryA : tTryA K sp dvs t j DC i ts D σ H = t σ H fun vs H1 => sp (vs ++ dvs) H1 (fun v H2 => D.nx (σ.set j (some v)) H2) (tCatch K DC i ts D σ) := rfl
end
theorem bt_ValueError : bootBuiltins "ValueError" = some (.type "ValueError") := by decide +kernel
theorem nsOk_of {K : PySem.W.Frag} {N : Addr} {c : Value} {d : Option Addr} {es : Array DictEntry} {n : Nat} {sl : Array (Option Value)} (h : K.lookup N = some ⟨c, d, .dict es n, sl⟩) (ha : (es.toList.all fun e => match e.key with | .str _ _ => true | _ => false) = true) : PySem.W.nsOkIn K N = true := by
  unfold PySem.W.nsOkIn
  rw [h]
  show (es.all _) = true
  rw [← Array.all_toList]
  exact ha
theorem tail_one {K : PySem.W.Frag} {A : Addr} {bmB : List Value} {c : Value} {d : Option Addr} {cd : ClassData} {sl : Array (Option Value)} (h : K.lookup A = some ⟨c, d, .cls cd, sl⟩) (h1 : PySem.W.nsOkIn K cd.ns = true) (h2 : PySem.W.nsIn K cd.ns "__init__" = some none) : PySem.W.tailIn K bmB (.ref A :: bmB) = true := by
  unfold PySem.W.tailIn
  dsimp only
  rw [h]
  have h3 : PySem.W.tailIn K bmB bmB = true := by
    cases bmB with
    | nil => rfl
    | cons v r =>
      unfold PySem.W.tailIn
      rw [beq_self_eq_true]
      rfl
  simp only [h1, h2, h3, beq_self_eq_true, Bool.and_self, Bool.or_true]
end L2
set_option maxRecDepth 100000
namespace L2
open PySem PySem.Spec PyProof.Rows
open PySem.Builtin PySem.Builtin.Str PySem.StrLaws
end L2
set_option maxRecDepth 100000
namespace L2
open PySem PySem.Spec PyProof.Rows
open PySem.Builtin PySem.Builtin.Str PySem.StrLaws
theorem kitAny_no {K : PySem.W.Frag} {t : Value} : ∀ {cs : List Value}, (∀ c ∈ cs, PySem.W.kitOne K t c = some false) → PySem.W.kitAny K t cs = some false
  | [], _ => rfl
  | c :: r, h => by
    unfold PySem.W.kitAny
    rw [h c List.mem_cons_self]
    exact kitAny_no fun d hd => h d (List.mem_cons_of_mem _ hd)
noncomputable def clsA : List V → Option (List Value)
  | [] => some []
  | c :: r => (clsV c).bind fun v => (clsA r).map (v :: ·)
theorem clsA_all : ∀ {cs : List V} {us vs : List Value}, Vals cs us → clsA cs = some vs → us = vs
  | [], _, _, .nil, h => by cases h; rfl
  | c :: r, _, vs, .cons (b := u) r1 r2, h => by
    unfold clsA at h
    cases e : clsV c with
    | none => rw [e] at h; cases h
    | some v =>
      rw [e] at h
      cases e2 : clsA r with
      | none => rw [e2] at h; cases h
      | some ws =>
        rw [e2] at h
        cases h
        rw [clsA_all r2 e2]
        have : u = v := by
          cases c with
          | ref D => cases e; exact r1
          | ty t => cases e; exact r1
          | _ => cases e
        rw [this]
noncomputable def rIsXT (K : PySem.W.Frag) : List V → Hp → VK → Prop := fun xs H Q => ∃ a C dx g fs t cs cvs b, xs = [.ref a, .ref t] ∧ H a = some (xc a C dx) ∧ H dx = some (.xd fs) ∧ ErrC K C g ∧ SqT K H t cs ∧ clsA cs = some cvs ∧ PySem.W.kitAny K (.ref C) cvs = some b ∧ Q (.bl b) H
theorem call_isXT {X : Cx} (hn : PySem.W.specialIn X.K (.builtin "object.__class__") "__get__" = some (some (.builtin "getset_descriptor.__get__"))) (ht : PySem.W.takesIn X.K (.builtin "object.__class__") = some true) : CallR X (.builtin "isinstance") (rIsXT X.K) := by
  intro pins s σ H xs us Q I r h
  obtain ⟨a, C, dx, g, fs, t, cs, cvs, b, rfl, h1, h2, M, h3, hcv, hk, q⟩ := h
  obtain ⟨u1, u2, rfl, r1, r2⟩ := vals2 r
  cases r1
  cases r2
  obtain ⟨its, rv, ⟨o, e, ec, n, ed⟩, _⟩ := I.tuple h3
  have hits := clsA_all rv hcv
  subst hits
  obtain ⟨ox, od, mA, J, hl, rel⟩ := exc_at I h1 h2
  obtain ⟨cd, hc, hd, _⟩ := M.cls
  refine PySem.W.kia_tup (dd := o.dict) (n := n) (sl := o.slots) (kitx_exc (ox := ox) (od := od) (by unfold PySem.W.hasDictIn; rw [hc]; exact hd) M.ga M.gt M.bx M.cl hn ht M.ob) I.kIn J ?_ hk (by intro z; cases z) fun tk => ⟨.bl b, H, I.tok _, rfl, q⟩
  rw [e]
  obtain ⟨oc, odt, oda, osl⟩ := o
  cases ec
  cases ed
  rfl
theorem q_isXT {X : Cx} {K : PySem.W.Frag} (hn : PySem.W.specialIn X.K (.builtin "object.__class__") "__get__" = some (some (.builtin "getset_descriptor.__get__"))) (ht : PySem.W.takesIn X.K (.builtin "object.__class__") = some true) (hK : X.K = K := by rfl) : QCall X (.builtin "isinstance") (rIsXT K) := by
  subst hK
  exact ⟨call_isXT hn ht⟩
noncomputable def rUpper : V → List V → Hp → VK → Prop := fun x vs H Q => ∃ z : Str, x = .str z ∧ vs = [] ∧ tooLong (Txt.upper z).length = false ∧ Q (.str (Txt.upper z)) H
theorem q_upper {X : Cx} : QMt X "str.upper" rUpper := ⟨by
  intro pins s σ H x vs v us Q I rx rv h
  obtain ⟨z, rfl, rfl, h1, q⟩ := h
  obtain ⟨t, rfl⟩ := rx
  cases rv
  exact call_gives F.slot_str_upper (typeIs_str _ _ _) F.entry_str_upper (F.args_str_upper_1 _) (gives_str_upper z t h1) ⟨fit_le h1, ⟨.str _, H, I.tok _, ⟨_, rfl⟩, q⟩⟩⟩
end L2
open L2 in
local macro_rules | `(tactic| walk_at "rd") => `(tactic| simp only [↓ap_var, ↓ap_c, ↓ap_next, ↓ap_seq, ↓ap_break, ↓ap_cont, ↓ap_drop, ↓ap_ret, ↓ap_retN, ↓ap_ifS, ↓ap_asg, ↓ap_name, ↓ap_op, ↓ap_test, ↓ap_tB, ↓ap_not, ↓ap_and, ↓ap_or, ↓ap_andV, ↓ap_orV, ↓ap_notV, ↓ap_notT, ↓ap_if, ↓ap_chain, ↓ap_cb, ↓ap_cons, ↓ap_nil, ↓ap_call, ↓ap_tup, ↓ap_lst, ↓ap_sl, ↓ap_nopart, ↓ap_part, ↓ap_for, ↓ap_comp, ↓ap_ilist, ↓ap_itup, ↓ap_istr, ↓ap_irng1, ↓ap_irng2, ↓ap_bm, ↓ap_bm0, ↓ap_aug, ↓ap_gtup, ↓ap_gnil, ↓ap_gcons, ↓ap_gsub, ↓ap_un, ↓ap_rU, ↓ap_ipI, ↓ap_yes, ↓ap_dnew, ↓ap_dget, ↓ap_dput, ↓ap_daug, ↓ap_never, ↓ap_rSub, ↓ap_rFdiv, ↓ap_rMod, ↓ap_tTru, tyV_str, truV_bl, truV_int, truV_str, truV_non, ↓ad_ii, ↓ad_ss, ↓ad_rr, ↓mu_ii, ↓mu_ri, ↓eq_ii, ↓eq_ss, ↓eq_bb, ↓eq_rx, ↓eq_xr, ↓ne_ii, ↓ne_ss, ↓ne_bb, ↓ne_rx, ↓ne_xr, ↓L2.lt_ii, ↓L2.lt_ss, ↓le_ii, ↓le_ss, ↓gt_ii, ↓gt_ss, ↓ge_ii, ↓ge_ss, ↓in_xs, ↓in_xr, ↓sl_s, ↓sl_r, ↓len_s, ↓len_r, ↓list_r, ↓all_r, ↓isi_t, ↓ord_s, ↓ap_inM, ↓ap_dgetM, kV_str, ↓ap_while, ↓tup_r, ↓ap_calm, ↓min_ii, ↓max_ii, ↓ap_disp, ↓ap_pnil, ↓ap_pcons, ↓ap_dget2, ↓ap_rIxI, ↓ap_rIxR, ↓ap_err, ↓ap_raise, ↓ap_init, ↓ap_fmtI, ↓ap_parts0, ↓ap_parts, ↓ap_xfld, ↓ap_xget, ↓ap_tryE, ↓ap_tryA, ↓ap_izip, ↓ap_irng3, ↓ap_forD, ↓ap_dsetd, start_eq, compStart_eq, cxK, cxKn, cxKb, cxC, cxCn, cxCb, List.map_cons, List.map_nil, List.length_cons, List.length_nil, Nat.sub_self, Nat.reduceAdd, Nat.reduceSub, Nat.zero_add, Nat.add_one_sub_one, List.replicate_zero, List.replicate_succ, List.append_nil, List.nil_append, List.cons_append, List.getElem?_cons_zero, List.getElem?_cons_succ, List.set_cons_zero, List.set_cons_succ, Option.some.injEq, Option.join_some, Option.join_none, exists_eq_left', exists_eq_left, exists_eq', exists_eq, reduceCtorEq, false_and, and_false, exists_false, exists_const, false_or, or_false, true_and, and_true, V.str.injEq, V.int.injEq, V.bl.injEq, V.ref.injEq, V.ty.injEq, List.cons.injEq, exists_and_left, exists_and_right, and_assoc, if_true, if_false, Bool.false_eq_true, Bool.not_true, Bool.not_false, ite_true, ite_false, Int.reduceLT, Int.reduceLE, Nat.zero_le])
namespace K18
open PySem PySem.Spec PyProof.Rows L2
set_option maxRecDepth 100000
set_option maxHeartbeats 4000000
noncomputable def top (i : Nat) : Stmt := PySem.Challenge.pw_sortlore_k18_no_rule.main.body.getD i (.Pass ⟨0, 0, 0, 0⟩)
noncomputable abbrev s_NoRule___init__ : Stmt := inClass (top 4) 0
noncomputable abbrev s_is_sign : Stmt := top 15
noncomputable abbrev s_is_piece : Stmt := top 16
noncomputable abbrev s_is_rule : Stmt := top 20
noncomputable abbrev s_read_rule : Stmt := top 21
noncomputable abbrev s_l_cell_at : Stmt := top 23
noncomputable abbrev s_l_sign : Stmt := top 24
noncomputable abbrev s_l_piece : Stmt := top 25
noncomputable abbrev s_l_words : Stmt := top 26
noncomputable abbrev s_l_other_sign : Stmt := top 27
noncomputable abbrev s_l_word_spoiled : Stmt := top 28
noncomputable abbrev s_l_long : Stmt := top 29
noncomputable abbrev s_l_few : Stmt := top 30
noncomputable abbrev s_l_spoiled : Stmt := top 31
noncomputable abbrev s_l_only_no_rule : Stmt := top 32
noncomputable abbrev s_law : Stmt := top 33
noncomputable def visB (S : Scope) (x : Str) : Bool := decide (S.names.lookup x = some .local) || decide (S.names.lookup x = some .cell) || decide (S.names.lookup x = some .free)
theorem qvd {X : Cx} {pos : Pos} {N : List Str} {S : Scope} {x : Str} {n : Nat} (hN : X.N = N) (hs : X.env.scope = S) (h : (decide (N[n]? = some x) && visB S x && !(x == ("__debug__" : Str)) && !(x == ("__classdict__" : Str))) = true) : QE X (.Name x pos) (tVar n) := by
  subst hN hs
  simp only [visB, Bool.and_eq_true, Bool.or_eq_true, decide_eq_true_eq, Bool.not_eq_true'] at h
  exact qe_v h.1.1.1 (h.1.1.2.elim (fun z => z.elim .inl fun z => .inr (.inl z)) fun z => .inr (.inr z)) h.1.2 h.2
theorem len1 {α : Type} {F : List α → Prop} (h : ∀ a, F [a]) : ∀ us : List α, us.length = 1 → F us
  | [a], _ => h a
theorem len2 {α : Type} {F : List α → Prop} (h : ∀ a b, F [a, b]) : ∀ us : List α, us.length = 2 → F us
  | [a, b], _ => h a b
theorem len3 {α : Type} {F : List α → Prop} (h : ∀ a b c, F [a, b, c]) : ∀ us : List α, us.length = 3 → F us
  | [a, b, c], _ => h a b c
structure Txt (P : Program) (w : World) (K : PySem.W.Frag) (mg : Str → Option Value) (C_NoRule : Addr) : Prop where
  lore : ∃ L, mg "LoreError" = some (.ref L) ∧ LoreC K L
  na_NoRule : NoAttr K C_NoRule "at"
  er_NoRule : ∃ f, ErrC K C_NoRule f
  cn : PySem.W.specialIn K (.builtin "object.__class__") "__get__" = some (some (.builtin "getset_descriptor.__get__"))
  ct : PySem.W.takesIn K (.builtin "object.__class__") = some true
  c_LoreError : ∃ a, mg "LoreError" = some (.ref a) ∧ CatchC K a ∧ PySem.W.mroIn K C_NoRule (.ref a) = some true
  c_NoRule : ∃ a, mg "NoRule" = some (.ref a) ∧ CatchC K a ∧ PySem.W.mroIn K C_NoRule (.ref a) = some true
  x_Clash : ∃ a, mg "Clash" = some (.ref a) ∧ PySem.W.kitOne K (.ref C_NoRule) (.ref a) = some false
  x_NoDeed : ∃ a, mg "NoDeed" = some (.ref a) ∧ PySem.W.kitOne K (.ref C_NoRule) (.ref a) = some false
  x_NoLetter : ∃ a, mg "NoLetter" = some (.ref a) ∧ PySem.W.kitOne K (.ref C_NoRule) (.ref a) = some false
  x_NoName : ∃ a, mg "NoName" = some (.ref a) ∧ PySem.W.kitOne K (.ref C_NoRule) (.ref a) = some false
  x_NoSign : ∃ a, mg "NoSign" = some (.ref a) ∧ PySem.W.kitOne K (.ref C_NoRule) (.ref a) = some false
  x_NotPlain : ∃ a, mg "NotPlain" = some (.ref a) ∧ PySem.W.kitOne K (.ref C_NoRule) (.ref a) = some false
  x_NoText : ∃ a, mg "NoText" = some (.ref a) ∧ PySem.W.kitOne K (.ref C_NoRule) (.ref a) = some false
  x_Ring : ∃ a, mg "Ring" = some (.ref a) ∧ PySem.W.kitOne K (.ref C_NoRule) (.ref a) = some false
  x_Round : ∃ a, mg "Round" = some (.ref a) ∧ PySem.W.kitOne K (.ref C_NoRule) (.ref a) = some false
  x_Twice : ∃ a, mg "Twice" = some (.ref a) ∧ PySem.W.kitOne K (.ref C_NoRule) (.ref a) = some false
  x_NoRule : ∃ a, mg "NoRule" = some (.ref a) ∧ PySem.W.kitOne K (.ref C_NoRule) (.ref a) = some true
  y_ValueError : PySem.W.kitOne K (.ref C_NoRule) (.type "ValueError") = some true
  b_ValueError : mg "ValueError" = none
  b_all : mg "all" = none
  b_bool : mg "bool" = none
  b_int : mg "int" = none
  b_isinstance : mg "isinstance" = none
  b_len : mg "len" = none
  b_max : mg "max" = none
  b_ord : mg "ord" = none
  b_range : mg "range" = none
  b_str : mg "str" = none
  b_tuple : mg "tuple" = none
  g_PER_CENT : ∃ t, mg "PER_CENT" = some (.int 37 t)
  x_FEWEST : ∃ a, mg "FEWEST" = some (.ref a) ∧ ModD P w K a [((Sum.inr ("row" : Str) : Key), V.int 1), ((Sum.inr ("marks" : Str) : Key), V.int 1), ((Sum.inr ("great" : Str) : Key), V.int 2), ((Sum.inr ("as" : Str) : Key), V.int 2), ((Sum.inr ("over" : Str) : Key), V.int 1), ((Sum.inr ("forget" : Str) : Key), V.int 1)]
  x_BARE : ∃ a, mg "BARE" = some (.ref a) ∧ ∀ H : Hp, SqT K H a [V.str "figures", V.str "blanks", V.str "behind"]
noncomputable def pieceV : V → Bool
  | .str z => pieceB z
  | _ => false
noncomputable def spIsSign : Sp := fun vs H Q _ => ∃ c, vs = [.str ⟨#[c]⟩] ∧ Q (.bl (signB c)) H
noncomputable def spIsPiece : Sp := fun vs H Q _ => ∃ x T, vs = [x] ∧ tyS H x = some T ∧ (∀ z, x = .str z → z.length ≤ 1000) ∧ ∀ H', Same H H' → Q (.bl (pieceV x)) H'
noncomputable def spLaw (K : PySem.W.Frag) : Sp := fun vs H Q _ => ∃ (a : Addr) (ns : List Int), vs = [.ref a] ∧ SqL K H a (ns.map V.int) ∧ ns.length ≤ 63 ∧ ∀ H', Q (.bl true) H'
theorem no_str {H : Hp} {x : V} {T : String} (h : tyS H x = some T) (n : ∀ z, x ≠ .str z) : isB T "str" = false := by
  cases x with
  | non => cases h; rfl
  | bl b => cases h; rfl
  | int i => cases h; rfl
  | str z => exact absurd rfl (n z)
  | ref a =>
    unfold tyS at h
    dsimp only at h
    cases e : H a with
    | none => rw [e] at h; cases h
    | some o =>
      rw [e] at h
      cases o with
      | lst xs => cases h; rfl
      | tup xs => cases h; rfl
      | dK kvs => cases h; rfl
      | frz ob u =>
        cases u with
        | lst xs => cases h; rfl
        | _ => cases h
      | _ => cases h
  | _ => cases h
theorem pieceV_no {x : V} (n : ∀ z, x ≠ .str z) : pieceV x = false := by
  cases x with
  | str z => exact absurd rfl (n z)
  | _ => rfl
theorem lt_one {c d : Nat} : (([c] : List Nat) < [d]) ↔ c < d := by
  constructor
  · intro h
    cases h with
    | rel h => exact h
    | cons h => cases h
  · intro h
    exact List.Lex.rel h
noncomputable def Good (w : Str) (ps : List Str) : Prop := ps.length ≤ 1000 ∧ (∀ z ∈ ps, pieceB z = true) ∧ ((w ∈ (["figures", "blanks", "behind"] : List Str) ∧ ps = []) ∨ ∃ n : Int, (w, n) ∈ ([("row", 1), ("marks", 1), ("great", 2), ("as", 2), ("over", 1), ("forget", 1)] : List (Str × Int)) ∧ n ≤ ps.length)
noncomputable def spCellAt (K : PySem.W.Frag) : Sp := fun vs H Q _ => ∃ (a : Addr) (ns : List Int) (k : Int), vs = [.ref a, .int k] ∧ SqL K H a (ns.map V.int) ∧ 0 ≤ k ∧ ∀ n : Int, Q (.int n) H
theorem word_at {i : Int} (h0 : 0 ≤ i) (h1 : i < 9) : ∃ w : Str, atI [V.str "row", V.str "marks", V.str "great", V.str "as", V.str "over", V.str "forget", V.str "figures", V.str "blanks", V.str "behind"] i = some (V.str w) ∧
    ((6 ≤ i ∧ w ∈ (["figures", "blanks", "behind"] : List Str)) ∨ (i < 6 ∧ ∃ n : Int, (w, n) ∈ ([("row", 1), ("marks", 1), ("great", 2), ("as", 2), ("over", 1), ("forget", 1)] : List (Str × Int)) ∧ (n ≤ 1 ∨ (n ≤ 2 ∧ (i = 2 ∨ i = 3))))) := by
  have h : i = 0 ∨ i = 1 ∨ i = 2 ∨ i = 3 ∨ i = 4 ∨ i = 5 ∨ i = 6 ∨ i = 7 ∨ i = 8 := by omega
  rcases h with rfl | rfl | rfl | rfl | rfl | rfl | rfl | rfl | rfl
  · exact ⟨"row", rfl, .inr ⟨by decide, 1, by simp, .inl (by decide)⟩⟩
  · exact ⟨"marks", rfl, .inr ⟨by decide, 1, by simp, .inl (by decide)⟩⟩
  · exact ⟨"great", rfl, .inr ⟨by decide, 2, by simp, .inr ⟨by decide, .inl rfl⟩⟩⟩
  · exact ⟨"as", rfl, .inr ⟨by decide, 2, by simp, .inr ⟨by decide, .inr rfl⟩⟩⟩
  · exact ⟨"over", rfl, .inr ⟨by decide, 1, by simp, .inl (by decide)⟩⟩
  · exact ⟨"forget", rfl, .inr ⟨by decide, 1, by simp, .inl (by decide)⟩⟩
  · exact ⟨"figures", rfl, .inl ⟨by decide, by simp⟩⟩
  · exact ⟨"blanks", rfl, .inl ⟨by decide, by simp⟩⟩
  · exact ⟨"behind", rfl, .inl ⟨by decide, by simp⟩⟩
theorem piece_noblank {z : Str} (h : pieceB z = true) : 32 ∉ z.cps.toList := by
  intro hm
  unfold pieceB at h
  simp only [Bool.and_eq_true, List.all_eq_true] at h
  exact absurd (h.2 32 hm) (by decide)
theorem Good.word {w : Str} {ps : List Str} (h : Good w ps) : 32 ∉ w.cps.toList ∧ w.length ≤ 7 ∧ PyData.strOk w = true := by
  rcases h.2.2 with ⟨hw, _⟩ | ⟨n, hw, _⟩
  · simp only [List.mem_cons, List.not_mem_nil, or_false] at hw
    rcases hw with rfl | rfl | rfl <;> decide +kernel
  · simp only [List.mem_cons, List.not_mem_nil, or_false, Prod.mk.injEq] at hw
    rcases hw with ⟨rfl, _⟩ | ⟨rfl, _⟩ | ⟨rfl, _⟩ | ⟨rfl, _⟩ | ⟨rfl, _⟩ | ⟨rfl, _⟩ <;> decide +kernel
theorem Good.noblank {w : Str} {ps : List Str} (h : Good w ps) : ∀ z ∈ w :: ps, 32 ∉ z.cps.toList := fun z hz => by
  rcases List.mem_cons.mp hz with rfl | hz
  · exact h.word.1
  · exact piece_noblank (h.2.1 z hz)
theorem pieces_sum : ∀ {ps : List Str}, (∀ z ∈ ps, pieceB z = true) → (ps.map (·.length)).sum ≤ 2 * ps.length
  | [], _ => Nat.le_refl _
  | z :: ps, h => by
    have h1 := pieces_sum (ps := ps) fun y hy => h y (List.mem_cons_of_mem _ hy)
    have h2 := (pieceB_ok (h z List.mem_cons_self)).2.2
    rw [List.map_cons, List.sum_cons, List.length_cons]
    omega
theorem Good.sum {w : Str} {ps : List Str} (h : Good w ps) : ((w :: ps).map (·.length)).sum ≤ 7 + 2 * ps.length := by
  have h1 := pieces_sum h.2.1
  have h2 := h.word.2.1
  rw [List.map_cons, List.sum_cons]
  omega
theorem Good.split {w : Str} {ps : List Str} (h : Good w ps) : Txt.split (Str.join " " (w :: ps)) " " = w :: ps := by
  have e : (" " : Str) = ⟨#[32]⟩ := by decide +kernel
  rw [e]
  exact split_join (by decide) (by simp) h.noblank
theorem raised {H : Hp} {x dx C : Addr} {m : Nat} {fld : Str} {v : V} (nx : H x = none) (nd : upd H x (xm m x C) dx = none) (ne : dx ≠ x) :
    upd (upd (upd H x (xm m x C)) x (xo m x C dx)) dx (.xd [(fld, v)]) x = some (xo m x C dx) ∧ Same H (del (upd (upd (upd H x (xm m x C)) x (xo m x C dx)) dx (.xd [(fld, v)])) x) ∧ del (upd (upd (upd H x (xm m x C)) x (xo m x C dx)) dx (.xd [(fld, v)])) x dx = some (.xd [(fld, v)]) := by
  rw [upd_ne ne] at nd
  refine ⟨by rw [upd_ne ne.symm, upd_same], fun b o h => ?_, by rw [del_ne ne, upd_same]⟩
  have h1 : b ≠ x := ne_of_none h nx
  rw [del_ne h1, upd_ne (ne_of_none h nd), upd_ne h1, upd_ne h1]
  exact h
noncomputable def one (c : Nat) : Str := ⟨#[c]⟩
noncomputable def bareL : List Str := ["figures", "blanks", "behind"]
noncomputable def fewL : List (Str × Int) := [("row", 1), ("marks", 1), ("great", 2), ("as", 2), ("over", 1), ("forget", 1)]
noncomputable def W9 : List Str := ["row", "marks", "great", "as", "over", "forget", "figures", "blanks", "behind"]
noncomputable def ruleB (w : Str) (ps : List Str) : Bool := if w ∈ bareL then ps.isEmpty else match fewL.lookup w with
  | none => false
  | some n => decide (n ≤ ps.length) && ps.all pieceB
noncomputable def spIsRule18 (K : PySem.W.Frag) : Sp := fun vs H Q _ => ∃ (a : Addr) (w : Str) (ps : List Str), vs = [.ref a] ∧ SqL K H a ((w :: ps).map V.str) ∧ ps.length ≤ 1000 ∧ (∀ z ∈ ps, z.length ≤ 1000) ∧ ∀ H', Same H H' → Q (.bl (ruleB w ps)) H'
noncomputable def Reads (z w : Str) (ps : List Str) : Prop := z.length ≤ 100000 ∧ Txt.split z " " = w :: ps ∧ ps.length ≤ 1000 ∧ ∀ y ∈ ps, y.length ≤ 1000
noncomputable def spRead18 (CN : Addr) : Sp := fun vs H Q E => ∃ (x : V) (T : String), vs = [x] ∧ tyS H x = some T ∧
  (∀ z, x = .str z → ∃ w ps, Reads z w ps ∧ (ruleB w ps = true → ∀ p H', Same H H' → H' p = some (.tup ((w :: ps).map V.str)) → Q (.ref p) H') ∧ (ruleB w ps = false → ∀ dx H', Same H H' → H' dx = some (.xd [("at", .int 0)]) → E (.ref CN) (some dx) H')) ∧
  ((∀ z, x ≠ .str z) → ∀ dx H', Same H H' → H' dx = some (.xd [("at", .int 0)]) → E (.ref CN) (some dx) H')
noncomputable def Bad (x : V) (H : Hp) : Prop := (∃ T, tyS H x = some T) ∧ ∀ z, x = .str z → ∃ w ps, Reads z w ps ∧ ruleB w ps = false
noncomputable def spSign18 : Sp := fun vs H Q _ => ∃ n : Int, vs = [.int n] ∧ ∀ c, signB c = true → atI SG (n % 93) = some c → Q (.str (one c)) H
noncomputable def spPiece18 : Sp := fun vs H Q _ => ∃ n : Int, vs = [.int n] ∧ ∀ z, pieceB z = true → Q (.str z) H
noncomputable def WordsOk (w : Str) (ps : List Str) : Prop := w ∈ W9 ∧ ps.length ≤ 60 ∧ (∀ z ∈ ps, pieceB z = true) ∧ (w ∈ bareL → ps = []) ∧ (w ∉ bareL → 2 ≤ ps.length)
noncomputable def spWords (K : PySem.W.Frag) : Sp := fun vs H Q _ => ∃ (a : Addr) (ns : List Int), vs = [.ref a] ∧ SqL K H a (ns.map V.int) ∧ ns.length ≤ 63 ∧ ∀ (l : Addr) (w : Str) (ps : List Str) (H' : Hp), Same H H' → H' l = some (.lst ((w :: ps).map V.str)) → WordsOk w ps → Q (.ref l) H'
noncomputable def spOther : Sp := fun vs H Q _ => ∃ (d : Nat) (n : Int), vs = [.str (one d), .int n] ∧ ∀ c, (c = 32 ∨ (signB c = true ∧ c ≠ d)) → Q (.str (one c)) H
noncomputable def spWSp (K : PySem.W.Frag) : Sp := fun vs H Q _ => ∃ (a : Addr) (w : Str) (ps : List Str) (n : Int), vs = [.ref a, .int n] ∧ H a = some (.lst ((w :: ps).map V.str)) ∧ WordsOk w ps ∧ ∀ (l : Addr) (w' : Str) (H' : Hp), Same H H' → H' l = some (.lst ((w' :: ps).map V.str)) → ((∃ at' , at' < w.length ∧ w'.cps.toList = w.cps.toList.take at' ++ w.cps.toList.drop (at' + 1)) ∨ (∃ at' c, at' < w.length ∧ w.cps.toList[at']? ≠ some c ∧ (c = 32 ∨ signB c = true) ∧ w'.cps.toList = w.cps.toList.take at' ++ c :: w.cps.toList.drop (at' + 1))) → Q (.ref l) H'
noncomputable def spList (K : PySem.W.Frag) (C : Str → List Str → List Str → Prop) : Sp := fun vs H Q _ => ∃ (a : Addr) (w : Str) (ps : List Str) (n : Int), vs = [.ref a, .int n] ∧ H a = some (.lst ((w :: ps).map V.str)) ∧ WordsOk w ps ∧ ∀ (l : Addr) (ps' : List Str) (H' : Hp), Same H H' → H' l = some (.lst ((w :: ps').map V.str)) → C w ps ps' → Q (.ref l) H'
noncomputable def BadPs (w : Str) (_ : List Str) (ps' : List Str) : Prop := ps'.length ≤ 70 ∧ (∀ z ∈ ps', z.length ≤ 10 ∧ 32 ∉ z.cps.toList) ∧ ruleB w ps' = false
noncomputable def spSpoiled (K : PySem.W.Frag) : Sp := fun vs H Q _ => ∃ (a : Addr) (w : Str) (ps : List Str) (way n : Int), vs = [.ref a, .int way, .int n] ∧ H a = some (.lst ((w :: ps).map V.str)) ∧ WordsOk w ps ∧ 0 ≤ way ∧ way < 10 ∧ ∀ (x : V) (H' : Hp), Same H H' → Bad x H' → Q x H'
theorem W9_iff (w : Str) : w ∈ W9 ↔ w ∈ bareL ∨ ∃ n, (w, n) ∈ fewL := by
  simp only [W9, bareL, fewL, List.mem_cons, List.not_mem_nil, or_false, Prod.mk.injEq]
  constructor
  · rintro (h | h | h | h | h | h | h | h | h)
    · exact .inr ⟨1, .inl ⟨h, rfl⟩⟩
    · exact .inr ⟨1, .inr (.inl ⟨h, rfl⟩)⟩
    · exact .inr ⟨2, .inr (.inr (.inl ⟨h, rfl⟩))⟩
    · exact .inr ⟨2, .inr (.inr (.inr (.inl ⟨h, rfl⟩)))⟩
    · exact .inr ⟨1, .inr (.inr (.inr (.inr (.inl ⟨h, rfl⟩))))⟩
    · exact .inr ⟨1, .inr (.inr (.inr (.inr (.inr ⟨h, rfl⟩))))⟩
    · exact .inl (.inl h)
    · exact .inl (.inr (.inl h))
    · exact .inl (.inr (.inr h))
  · rintro ((h | h | h) | ⟨n, ⟨h, _⟩ | ⟨h, _⟩ | ⟨h, _⟩ | ⟨h, _⟩ | ⟨h, _⟩ | ⟨h, _⟩⟩) <;> simp [h]
theorem lookup_mem {w : Str} {n : Int} : ∀ {l : List (Str × Int)}, l.lookup w = some n → (w, n) ∈ l
  | [], h => by cases h
  | (a, b) :: r, h => by
    rw [List.lookup_cons] at h
    cases e : w == a with
    | true =>
      rw [e] at h
      cases h
      rw [beq_iff_eq.mp e]
      exact List.mem_cons_self
    | false =>
      rw [e] at h
      exact List.mem_cons_of_mem _ (lookup_mem h)
theorem ruleB_noword {w : Str} {ps : List Str} (h : w ∉ W9) : ruleB w ps = false := by
  unfold ruleB
  rw [if_neg fun e => h ((W9_iff w).mpr (.inl e))]
  cases e : fewL.lookup w with
  | none => rfl
  | some n => exact absurd ((W9_iff w).mpr (.inr ⟨n, lookup_mem e⟩)) h
theorem ruleB_piece {w z : Str} {ps : List Str} (hz : z ∈ ps) (h : pieceB z = false) : ruleB w ps = false := by
  unfold ruleB
  have e1 : ps.isEmpty = false := by
    cases ps with
    | nil => cases hz
    | cons a r => rfl
  have e2 : ps.all pieceB = false := List.all_eq_false.mpr ⟨z, hz, by rw [h]; decide⟩
  rw [e1]
  split
  · rfl
  · split
    · rfl
    · rw [e2, Bool.and_false]
theorem ruleB_bare {w : Str} {ps : List Str} (hw : w ∈ bareL) (h : ps ≠ []) : ruleB w ps = false := by
  unfold ruleB
  rw [if_pos hw]
  cases ps with
  | nil => exact absurd rfl h
  | cons a r => rfl
theorem ruleB_few {w : Str} {ps : List Str} {n : Int} (hw : w ∉ bareL) (h : fewL.lookup w = some n) (hl : (ps.length : Int) < n) : ruleB w ps = false := by
  unfold ruleB
  rw [if_neg hw, h]
  dsimp only
  rw [decide_eq_false (by omega)]
  rfl
theorem few_of {w : Str} (h : w ∈ W9) (hb : w ∉ bareL) : ∃ n, fewL.lookup w = some n ∧ 1 ≤ n ∧ n ≤ 2 := by
  simp only [W9, List.mem_cons, List.not_mem_nil, or_false] at h
  rcases h with rfl | rfl | rfl | rfl | rfl | rfl | rfl | rfl | rfl
  · exact ⟨1, by decide +kernel, by decide, by decide⟩
  · exact ⟨1, by decide +kernel, by decide, by decide⟩
  · exact ⟨2, by decide +kernel, by decide, by decide⟩
  · exact ⟨2, by decide +kernel, by decide, by decide⟩
  · exact ⟨1, by decide +kernel, by decide, by decide⟩
  · exact ⟨1, by decide +kernel, by decide, by decide⟩
  · exact absurd (by simp [bareL]) hb
  · exact absurd (by simp [bareL]) hb
  · exact absurd (by simp [bareL]) hb
theorem WordsOk.rule {w : Str} {ps : List Str} (h : WordsOk w ps) : ruleB w ps = true := by
  unfold ruleB
  by_cases hb : w ∈ bareL
  · rw [if_pos hb, h.2.2.2.1 hb]; rfl
  · obtain ⟨n, e, e1, e2⟩ := few_of h.1 hb
    rw [if_neg hb, e]
    dsimp only
    rw [decide_eq_true (by have := h.2.2.2.2 hb; omega), Bool.true_and, List.all_eq_true]
    exact h.2.2.1
theorem word_facts {w : Str} (h : w ∈ W9) : 32 ∉ w.cps.toList ∧ w.length ≤ 7 ∧ 1 ≤ w.length := by
  simp only [W9, List.mem_cons, List.not_mem_nil, or_false] at h
  rcases h with rfl | rfl | rfl | rfl | rfl | rfl | rfl | rfl | rfl <;> decide +kernel
noncomputable def W9L : List (List Nat) := W9.map (·.cps.toList)
theorem w9_del : ∀ u ∈ W9L, ∀ i ∈ List.range 8, i < u.length → ∀ v ∈ W9L, u.take i ++ u.drop (i + 1) ≠ v := by decide +kernel
theorem w9_take : ∀ u ∈ W9L, ∀ i ∈ List.range 8, i < u.length → ∀ v ∈ W9L, u.take i ≠ v := by decide +kernel
theorem w9_set : ∀ u ∈ W9L, ∀ i ∈ List.range 8, i < u.length → ∀ v ∈ W9L, v.take i = u.take i → v.drop (i + 1) = u.drop (i + 1) → v.length = u.length → v = u := by decide +kernel
theorem inL {w : Str} (h : w ∈ W9) : w.cps.toList ∈ W9L := List.mem_map.mpr ⟨w, h, rfl⟩
theorem sum_le {b : Nat} : ∀ {zs : List Str}, (∀ z ∈ zs, z.length ≤ b) → (zs.map (·.length)).sum ≤ b * zs.length
  | [], _ => Nat.zero_le _
  | z :: zs, h => by
    have h1 := sum_le (zs := zs) fun y hy => h y (List.mem_cons_of_mem _ hy)
    have h2 := h z List.mem_cons_self
    rw [List.map_cons, List.sum_cons, List.length_cons, Nat.mul_succ]
    omega
theorem blank_eq : (" " : Str) = ⟨#[32]⟩ := by decide +kernel
theorem reads_join {w : Str} {ps : List Str} (h : ∀ z ∈ w :: ps, 32 ∉ z.cps.toList) (hl : ps.length ≤ 100) (hz : ∀ z ∈ w :: ps, z.length ≤ 20) : Reads (Str.join " " (w :: ps)) w ps := by
  refine ⟨?_, ?_, by omega, fun y hy => ?_⟩
  · have h1 := PySem.StrLaws.join_length_le " " (w :: ps)
    have h2 := sum_le hz
    rw [show (" " : Str).length = 1 from rfl, List.length_cons] at h1
    rw [List.length_cons] at h2
    omega
  · rw [blank_eq]
    exact split_join (by decide) (by simp) h
  · have := hz y (List.mem_cons_of_mem _ hy)
    omega
theorem join_blank {w' u v : Str} {ps : List Str} (h : w'.cps.toList = u.cps.toList ++ 32 :: v.cps.toList) : Str.join " " (w' :: ps) = Str.join " " (u :: v :: ps) := by
  apply Str.ext'
  apply Array.toList_inj.mp
  rw [blank_eq, joinN_eq, joinN_eq]
  cases ps with
  | nil => exact h
  | cons p r =>
    show w'.cps.toList ++ 32 :: joinN 32 (p :: r) = u.cps.toList ++ 32 :: (v.cps.toList ++ 32 :: joinN 32 (p :: r))
    rw [h, List.append_assoc]
    rfl
theorem tyS_same {H H' : Hp} {x : V} {T : String} (S : Same H H') (h : tyS H x = some T) : tyS H' x = some T := by
  cases x with
  | ref a =>
    unfold tyS at h ⊢
    dsimp only at h ⊢
    cases e : H a with
    | none => rw [e] at h; cases h
    | some o => rw [S a o e]; rw [e] at h; exact h
  | _ => exact h
theorem Bad.same {H H' : Hp} {x : V} (h : Bad x H) (S : Same H H') : Bad x H' := ⟨h.1.elim fun T e => ⟨T, tyS_same S e⟩, h.2⟩
theorem atI_pos {α : Type} {xs : List α} {i : Int} (h0 : 0 ≤ i) (h1 : i < xs.length) : atI xs i = xs[i.toNat]? := by
  unfold atI ixN
  rw [if_pos h0, if_pos h1]
  rfl
theorem SG_len : SG.length = 93 := by decide +kernel
theorem sg_next : ∀ i ∈ List.range 93, SG[i]? ≠ SG[(i + 1) % 93]? := by decide +kernel
theorem sg_other {n : Int} {c : Nat} (h1 : atI SG (n % 93) = some c) (h2 : atI SG ((n + 1) % 93) = some c) : False := by
  rw [atI_pos (by omega) (by rw [SG_len]; omega)] at h1 h2
  refine sg_next (n % 93).toNat (List.mem_range.mpr (by omega)) ?_
  rw [h1, ← h2]
  congr 1
  omega
theorem val_few (w : Str) : valV [((Sum.inr ("row" : Str) : Key), V.int 1), (Sum.inr ("marks" : Str), V.int 1), (Sum.inr ("great" : Str), V.int 2), (Sum.inr ("as" : Str), V.int 2), (Sum.inr ("over" : Str), V.int 1), (Sum.inr ("forget" : Str), V.int 1)] (Sum.inr w) = (fewL.lookup w).map V.int := by
  by_cases h1 : w = "row"
  · subst h1; rfl
  by_cases h2 : w = "marks"
  · subst h2; rfl
  by_cases h3 : w = "great"
  · subst h3; rfl
  by_cases h4 : w = "as"
  · subst h4; rfl
  by_cases h5 : w = "over"
  · subst h5; rfl
  by_cases h6 : w = "forget"
  · subst h6; rfl
  have e : fewL.lookup w = none := by
    cases e : fewL.lookup w with
    | none => rfl
    | some n =>
      have := lookup_mem e
      simp [fewL, h1, h2, h3, h4, h5, h6] at this
  rw [e]
  unfold valV
  simp [List.find?, Ne.symm h1, Ne.symm h2, Ne.symm h3, Ne.symm h4, Ne.symm h5, Ne.symm h6]
theorem lenL (z : Str) : z.cps.toList.length = z.length := by simp [Str.length]
theorem cutS_from {z : Str} {k : Nat} (h : k ≤ z.length) : (cutS z (some (k : Int)) none).cps.toList = z.cps.toList.drop k := by
  rw [cutS_list]
  have e1 : HT.sIx z.length 0 (some (k : Int)) = k := by rw [HT.sIx_nat]; omega
  have e2 : HT.sIx z.length z.length none = z.length := rfl
  rw [e1, e2, List.take_of_length_le (by rw [List.length_drop, lenL]; exact Nat.le_refl _)]
theorem cutS_to {z : Str} {k : Nat} (h : k ≤ z.length) : (cutS z none (some (k : Int))).cps.toList = z.cps.toList.take k := by
  rw [cutS_list]
  have e1 : HT.sIx z.length z.length (some (k : Int)) = k := by rw [HT.sIx_nat]; omega
  have e2 : HT.sIx z.length 0 none = 0 := rfl
  rw [e1, e2, List.drop_zero, Nat.sub_zero]
theorem few_notbare {w : Str} {n : Int} (h : (w, n) ∈ fewL) : w ∉ bareL := by
  simp only [fewL, List.mem_cons, List.not_mem_nil, or_false, Prod.mk.injEq] at h
  rcases h with ⟨rfl, _⟩ | ⟨rfl, _⟩ | ⟨rfl, _⟩ | ⟨rfl, _⟩ | ⟨rfl, _⟩ | ⟨rfl, _⟩ <;> decide +kernel
theorem word_ok {w : Str} (h : w ∈ W9) : PyData.strOk w = true := by
  simp only [W9, List.mem_cons, List.not_mem_nil, or_false] at h
  rcases h with rfl | rfl | rfl | rfl | rfl | rfl | rfl | rfl | rfl <;> decide +kernel
theorem upper_facts {w : Str} (h : w ∈ W9) : Txt.upper w ∉ W9 ∧ (Txt.upper w).length ≤ 7 ∧ 32 ∉ (Txt.upper w).cps.toList ∧ PySem.Builtin.Str.tooLong (Txt.upper w).length = false := by
  simp only [W9, List.mem_cons, List.not_mem_nil, or_false] at h
  rcases h with rfl | rfl | rfl | rfl | rfl | rfl | rfl | rfl | rfl <;> decide +kernel
theorem piece_len {z : Str} (h : pieceB z = true) : 1 ≤ z.length ∧ z.length ≤ 2 := (pieceB_ok h).2
theorem bad_of {z w : Str} {ps : List Str} {H : Hp} (h : Reads z w ps) (hr : ruleB w ps = false) : Bad (.str z) H := ⟨⟨"str", rfl⟩, fun y e => by cases e; exact ⟨w, ps, h, hr⟩⟩
theorem long_no {z : Str} (h : 3 ≤ z.length) : pieceB z = false := by
  cases e : pieceB z with
  | false => rfl
  | true => have := piece_len e; omega
theorem WordsOk.all {w : Str} {ps : List Str} (h : WordsOk w ps) : ∀ z ∈ w :: ps, 32 ∉ z.cps.toList ∧ z.length ≤ 7 := fun z hz => by
  rcases List.mem_cons.mp hz with rfl | hz
  · exact ⟨(word_facts h.1).1, (word_facts h.1).2.1⟩
  · exact ⟨piece_noblank (h.2.2.1 z hz), by have := piece_len (h.2.2.1 z hz); omega⟩
noncomputable def spOnly18 : Sp := fun vs H Q _ => ∃ (x : V), vs = [x] ∧ Bad x H ∧ ∀ H', Same H H' → Q (.bl true) H'
section
variable {P : Program} {w : World} {K : PySem.W.Frag} {mg : Str → Option Value} {base : Heap} {C_NoRule : Addr}
theorem sc_NoRule___init__ : FnScope ["self", "at"] ["self", "at"] (defScope s_NoRule___init__) := ⟨rfl, rfl, rfl, by decide +kernel, rfl, by decide +kernel, by decide +kernel⟩
theorem v_NoRule___init___0 {X : Cx} {pos : Pos} (hN : X.N = (["self", "at"] : List Str)) (hs : X.env.scope = defScope s_NoRule___init__) : QE X (.Name "self" pos) (tVar 0) := qvd hN hs (by decide +kernel)
theorem v_NoRule___init___1 {X : Cx} {pos : Pos} (hN : X.N = (["self", "at"] : List Str)) (hs : X.env.scope = defScope s_NoRule___init__) : QE X (.Name "at" pos) (tVar 1) := qvd hN hs (by decide +kernel)
theorem ok_NoRule___init__ {f : Addr} {fd : FuncData} (F : FunD K "__init__" "NoRule.__init__" s_NoRule___init__ f fd) (T : Txt P w K mg C_NoRule) : FnOk P w K mg base CX0 1 f fd ["self", "at"] (spErrI K C_NoRule "at") := by
  refine F.ok sc_NoRule___init__ (fun vs H Q E h => ?_) (fun cdv A outer s H vs Q E hr h => ?_)
  · (obtain ⟨m, x, i, f, rfl, _⟩ := h; rfl)
  · have hu1 := hu_of hr
    have hu := hr.units
    obtain ⟨aL, mL, NL⟩ := T.lore
    refine ⟨_, QSs.out (qss_cons (qs_expr (qe_init NL mL (v_NoRule___init___0 rfl rfl) (qe_joined3 qe_str (qe_fmtI (v_NoRule___init___1 rfl rfl)) qe_str) (K := K)))
      (qss_one (qs_xfld (v_NoRule___init___0 rfl rfl) (v_NoRule___init___1 rfl rfl) (K := K)))), ?_⟩
    obtain ⟨m, x, i, f, rfl, hx, M, n, hi, q⟩ := h
    walk_at "rd"
    exact ⟨by decide, hi, fun z hz => ⟨by omega, by decide, fun z2 => ⟨m, C_NoRule, hx, ⟨f, M⟩, m, C_NoRule, hx, ⟨f, M⟩, n, q⟩⟩⟩
theorem sc_is_sign : FnScope ["sign"] ["sign"] (defScope s_is_sign) := ⟨rfl, rfl, rfl, by decide +kernel, rfl, by decide +kernel, by decide +kernel⟩
theorem v_is_sign_0 {X : Cx} {pos : Pos} (hN : X.N = (["sign"] : List Str)) (hs : X.env.scope = defScope s_is_sign) : QE X (.Name "sign" pos) (tVar 0) := qvd hN hs (by decide +kernel)
theorem ok_is_sign {f : Addr} {fd : FuncData} (F : FunD K "is_sign" "is_sign" s_is_sign f fd) (T : Txt P w K mg C_NoRule) : FnOk P w K mg base CX0 1 f fd ["sign"] spIsSign := by
  refine F.ok sc_is_sign (fun vs H Q E h => ?_) (fun cdv A outer s H vs Q E hr h => ?_)
  · (obtain ⟨c, rfl, _⟩ := h; rfl)
  · have hu1 := hu_of hr
    have hu := hr.units
    refine ⟨_, QSs.out (qss_one (qs_ret (qe_and (qe_chain q_le q_le qe_str (v_is_sign_0 rfl rfl) qe_str) (qe_one (qe_cmpR (q_ne (K := K) hu) (qe_cB q_ord T.b_ord bt_ord (qa_c (v_is_sign_0 rfl rfl) qa_nil)) (qe_globI T.g_PER_CENT)))))), ?_⟩
    obtain ⟨c, rfl, q⟩ := h
    walk_at "rd"
    have e1 : (Str.ofString "!").cps.toList = [33] := by decide +kernel
    have e2 : (Str.ofString "~").cps.toList = [126] := by decide +kernel
    rw [e1, e2]
    simp only [lt_one]
    refine iteN (fun h1 => iteN (fun h2 => ⟨rfl, ?_⟩) fun h2 => ?_) fun h1 => ?_
    · have e : signB c = !decide ((c : Int) = 37) := by
        unfold signB
        rw [decide_eq_true (by omega : 33 ≤ c), decide_eq_true (by omega : c ≤ 126)]
        by_cases h3 : c = 37
        · subst h3; rfl
        · rw [decide_eq_true h3, decide_eq_false (by omega : ¬ (c : Int) = 37)]; rfl
      rw [e] at q
      exact q
    · have e : signB c = false := by unfold signB; rw [decide_eq_false (by omega : ¬ c ≤ 126)]; simp
      rw [e] at q
      exact q
    · have e : signB c = false := by unfold signB; rw [decide_eq_false (by omega : ¬ 33 ≤ c)]; rfl
      rw [e] at q
      exact q
theorem sc_is_piece : FnScope ["thing"] ["thing"] (defScope s_is_piece) := ⟨rfl, rfl, rfl, by decide +kernel, rfl, by decide +kernel, by decide +kernel⟩
theorem v_is_piece_0 {X : Cx} {pos : Pos} (hN : X.N = (["thing"] : List Str)) (hs : X.env.scope = defScope s_is_piece) : QE X (.Name "thing" pos) (tVar 0) := qvd hN hs (by decide +kernel)
theorem ok_is_piece {f : Addr} {fd : FuncData} (F : FunD K "is_piece" "is_piece" s_is_piece f fd) (T : Txt P w K mg C_NoRule) (G_is_sign : FO P w K mg base 1 "is_sign" ["sign"] [] spIsSign) : FnOk P w K mg base CX0 2 f fd ["thing"] spIsPiece := by
  refine F.ok sc_is_piece (fun vs H Q E h => ?_) (fun cdv A outer s H vs Q E hr h => ?_)
  · (obtain ⟨x, T, rfl, _⟩ := h; rfl)
  · have hu1 := hu_of hr
    have hu := hr.units
    refine ⟨_, QSs.out (qss_cons (qs_if (qt_not (qt_tru (K := K) (qe_cB q_isi T.b_isinstance bt_isinstance (qa_c (v_is_piece_0 rfl rfl) (qa_c (qe_ty T.b_str bt_str) qa_nil))))) (qss_one (qs_ret qe_bl)) qss_nil)
      (qss_one (qs_ret (qe_and (qe_chain q_le q_le qe_int (qe_cB (q_len (K := K)) T.b_len bt_len (qa_c (v_is_piece_0 rfl rfl) qa_nil)) qe_int) (qe_one (qe_cB (q_all (calm := true)) T.b_all bt_all (qa_c (qe_comp  (⟨rfl, by decide +kernel, by decide +kernel, by decide +kernel, by decide +kernel, rfl, by decide +kernel, by decide +kernel⟩ : CompOk ["thing"] (defScope s_is_piece).names _ ["sign"] 1 []) (qi_str (v_is_piece_0 rfl rfl)) (fun _ _ _ _ _ => qg_name (n := 0) (show List.Nodup (["sign"] : List Str) by decide +kernel) rfl (Or.inl rfl)) (fun _ _ _ _ _ => qifs_nil) (fun _ _ _ _ _ => (qe_callF G_is_sign (hr.mono (by decide)) (qa_c (qv 0) qa_nil)))) qa_nil))))))), ?_⟩
    obtain ⟨x, T', rfl, ht, hz, q⟩ := h
    by_cases hx : ∃ z, x = .str z
    · obtain ⟨z, rfl⟩ := hx
      have hz := hz z rfl
      have len : z.length = z.cps.toList.length := by simp [Str.length]
      walk_at "rd"
      refine ⟨"str", rfl, rfl, ?_⟩
      rw [show (!isB "str" "str") = false from rfl]
      refine iteF ⟨small100' (by omega), iteD (fun h1 => iteD (fun h2 => ?_) fun h2 => ?_) fun h1 => ?_⟩
      · refine compS [] rfl (fun D i ys H4 => ys = ((z.cps.toList.take i).map signB).map V.bl ∧ Same H H4) (fun D nD => ⟨rfl, Same.new nD⟩) ?_ ?_
        · rintro D i x ys H4 nD hi hx ⟨rfl, S⟩ hD hy
          walk_at "rd"
          refine ⟨x, rfl, hD, ?_, CW.put hi hy ⟨?_, S.put nD⟩⟩
          · rw [List.length_map, List.length_map, List.length_take]
            exact small100 (by omega)
          · rw [List.take_add_one, hx]
            simp
        · rintro D ys H4 nD ⟨rfl, S⟩ hD hy
          refine ⟨_, rfl, hD, ?_⟩
          have e : pieceV (.str z) = ((z.cps.toList.take z.cps.size).map signB).all id := by
            show pieceB z = _
            unfold pieceB
            rw [decide_eq_true (by omega : 1 ≤ z.length), decide_eq_true (by omega : z.length ≤ 2), List.take_of_length_le (by simp)]
            simp
          rw [e] at q
          exact q H4 S
      · have e : pieceV (.str z) = false := by
          show pieceB z = _
          unfold pieceB
          rw [decide_eq_false (by omega : ¬ z.length ≤ 2)]
          simp
        rw [e] at q
        exact q H (Same.refl H)
      · have e : pieceV (.str z) = false := by
          show pieceB z = _
          unfold pieceB
          rw [decide_eq_false (by omega : ¬ 1 ≤ z.length)]
          simp
        rw [e] at q
        exact q H (Same.refl H)
    · walk_at "rd"
      refine ⟨T', ht, rfl, ?_⟩
      rw [no_str ht fun z e => hx ⟨z, e⟩]
      rw [show pieceV x = false from pieceV_no fun z e => hx ⟨z, e⟩] at q
      exact iteT (q H (Same.refl H))
theorem sc_is_rule : FnScope ["words", "pieces"] ["words"] (defScope s_is_rule) := ⟨rfl, rfl, rfl, by decide +kernel, rfl, by decide +kernel, by decide +kernel⟩
theorem v_is_rule_0 {X : Cx} {pos : Pos} (hN : X.N = (["words", "pieces"] : List Str)) (hs : X.env.scope = defScope s_is_rule) : QE X (.Name "words" pos) (tVar 0) := qvd hN hs (by decide +kernel)
theorem v_is_rule_1 {X : Cx} {pos : Pos} (hN : X.N = (["words", "pieces"] : List Str)) (hs : X.env.scope = defScope s_is_rule) : QE X (.Name "pieces" pos) (tVar 1) := qvd hN hs (by decide +kernel)
theorem l_is_rule_1 : Loc (defScope s_is_rule) "pieces" := by unfold L2.Loc; decide +kernel
theorem ok_is_rule {f : Addr} {fd : FuncData} (F : FunD K "is_rule" "is_rule" s_is_rule f fd) (T : Txt P w K mg C_NoRule) (G_is_piece : FO P w K mg base 2 "is_piece" ["thing"] [] spIsPiece) : FnOk P w K mg base CX0 3 f fd ["words"] (spIsRule18 K) := by
  refine F.ok sc_is_rule (fun vs H Q E h => ?_) (fun cdv A outer s H vs Q E hr h => ?_)
  · (obtain ⟨a, w, ps, rfl, _⟩ := h; rfl)
  · have hu1 := hu_of hr
    have hu := hr.units
    obtain ⟨a_BARE, m_BARE, M_BARE⟩ := T.x_BARE
    obtain ⟨a_FEWEST, m_FEWEST, M_FEWEST⟩ := T.x_FEWEST
    refine ⟨_, QSs.out (qss_cons (qs_set (n := 1) sc_is_rule.nd rfl l_is_rule_1 (qe_slice (K := K) (v_is_rule_0 rfl rfl) (qo_some qe_int) qo_none))
      (qss_cons (qs_if (qt_cmpR (q_in (K := K) hu) (qe_ix (K := K) (v_is_rule_0 rfl rfl) qe_int) (qe_globR m_BARE)) (qss_one (qs_ret (qe_notT (K := K) (v_is_rule_1 rfl rfl)))) qss_nil)
      (qss_cons (qs_if (qt_cmpR (q_notinM M_FEWEST) (qe_ix (K := K) (v_is_rule_0 rfl rfl) qe_int) (qe_globR m_FEWEST)) (qss_one (qs_ret qe_bl)) qss_nil)
      (qss_one (qs_ret (qe_and (qe_cmpR q_ge (qe_cB (q_len (K := K)) T.b_len bt_len (qa_c (v_is_rule_1 rfl rfl) qa_nil)) (qe_dgetM M_FEWEST (qe_globR m_FEWEST) (qe_ix (K := K) (v_is_rule_0 rfl rfl) qe_int))) (qe_one (qe_cB (q_all (calm := true)) T.b_all bt_all (qa_c (qe_comp  (⟨rfl, by decide +kernel, by decide +kernel, by decide +kernel, by decide +kernel, rfl, by decide +kernel, by decide +kernel⟩ : CompOk ["words", "pieces"] (defScope s_is_rule).names _ ["piece"] 1 []) (qi_list (K := K) (v_is_rule_1 rfl rfl)) (fun _ _ _ _ _ => qg_name (n := 0) (show List.Nodup (["piece"] : List Str) by decide +kernel) rfl (Or.inl rfl)) (fun _ _ _ _ _ => qifs_nil) (fun _ _ _ _ _ => (qe_callF G_is_piece (hr.mono (by decide)) (qa_c (qv 0) qa_nil)))) qa_nil))))))))), ?_⟩
    obtain ⟨a, w, ps, rfl, hS, hps, hall, q⟩ := h
    walk_at "rd"
    refine rSlR.l hS fun p np => ?_
    have ecut : cutV ((w :: ps).map V.str) (some 1) none = ps.map V.str := by
      rw [List.map_cons]
      exact cutV_tail _ _
    rw [ecut]
    have S1 : Same H (upd H p (.lst (ps.map V.str))) := Same.new np
    have hp : upd H p (.lst (ps.map V.str)) p = some (.lst (ps.map V.str)) := upd_same
    generalize upd H p (.lst (ps.map V.str)) = H1 at S1 hp
    refine ⟨_, .inl (S1.seq hS), V.str w, atI_zero _ _, rInR.l (.inr (M_BARE _)) rfl rfl ⟨_, rfl, ?_⟩⟩
    rw [show [V.str "figures", V.str "blanks", V.str "behind"] = bareL.map V.str from rfl, inV_strs, Bool.false_xor]
    unfold ruleB at q
    refine iteD (fun hw => ?_) fun hw => ?_
    · rw [if_pos hw] at q
      exact ⟨!(ps.map V.str).isEmpty, .inl ⟨_, .of hp, rfl⟩, by rw [Bool.not_not, List.isEmpty_map]; exact q _ S1⟩
    rw [if_neg hw] at q
    refine ⟨_, .inl (S1.seq hS), V.str w, atI_zero _ _, ?_⟩
    walk_at "rd"
    rw [val_few]
    cases e : fewL.lookup w with
    | none =>
      rw [e] at q
      exact iteT (q _ S1)
    | some n =>
      rw [e] at q
      dsimp only at q
      refine iteF ⟨ps.length, .inl ⟨_, .of hp, by rw [List.length_map]⟩, _, .inl (S1.seq hS), V.str w, atI_zero _ _, _, kV_str.mpr rfl, _, by rw [val_few, e]; rfl, ?_⟩
      walk_at "rd"
      refine iteD (fun hn => ⟨⟨_, .of hp⟩, compL (xs := ps.map V.str) [] rfl (fun D i ys H4 => ys = ((ps.take i).map pieceB).map V.bl ∧ Same H1 H4) (fun D nD => ⟨rfl, Same.new nD⟩) (by rintro D i ys H4 nD _ ⟨_, S⟩; exact .of (S _ _ hp)) ?_ ?_⟩) fun hn => ?_
      · rintro D i x ys H4 nD hi hx ⟨rfl, S⟩ hD hy
        obtain ⟨z, hz, rfl⟩ := map_at hx
        have hzp := hall z (List.mem_of_getElem? hz)
        walk_at "rd"
        refine ⟨V.str z, "str", rfl, rfl, fun z' e' => ?_, fun H5 S5 => ?_⟩
        · cases e'
          exact hzp
        · rw [List.length_map] at hi
          refine ⟨S5 _ _ hD, by rw [List.length_map, List.length_map, List.length_take]; exact small100 (by omega), CW.put (by rw [List.length_map]; exact hi) hy ⟨?_, (S.trans S5).put nD⟩⟩
          rw [List.take_add_one, hz]
          simp [pieceV]
      · rintro D ys H4 nD ⟨rfl, S⟩ hD hy
        walk_at "rd"
        rw [List.length_map, List.take_length] at hD
        refine ⟨ps.map pieceB, hD, ?_⟩
        rw [decide_eq_true hn, Bool.true_and] at q
        rw [show (ps.map pieceB).all id = ps.all pieceB by rw [List.all_map]; rfl]
        exact q _ (S1.trans S)
      · rw [decide_eq_false hn, Bool.false_and] at q
        exact q _ S1
theorem sc_read_rule : FnScope ["line", "words"] ["line"] (defScope s_read_rule) := ⟨rfl, rfl, rfl, by decide +kernel, rfl, by decide +kernel, by decide +kernel⟩
theorem v_read_rule_0 {X : Cx} {pos : Pos} (hN : X.N = (["line", "words"] : List Str)) (hs : X.env.scope = defScope s_read_rule) : QE X (.Name "line" pos) (tVar 0) := qvd hN hs (by decide +kernel)
theorem v_read_rule_1 {X : Cx} {pos : Pos} (hN : X.N = (["line", "words"] : List Str)) (hs : X.env.scope = defScope s_read_rule) : QE X (.Name "words" pos) (tVar 1) := qvd hN hs (by decide +kernel)
theorem l_read_rule_1 : Loc (defScope s_read_rule) "words" := by unfold L2.Loc; decide +kernel
theorem ok_read_rule {f : Addr} {fd : FuncData} (F : FunD K "read_rule" "read_rule" s_read_rule f fd) (T : Txt P w K mg C_NoRule) (G_NoRule___init__ : EO P w K mg base 1 C_NoRule "NoRule" ["self", "at"] (spErrI K C_NoRule "at")) (G_is_rule : FO P w K mg base 3 "is_rule" ["words"] [] (spIsRule18 K)) : FnOk P w K mg base (CX1 P w) 4 f fd ["line"] (spRead18 C_NoRule) := by
  refine F.okX sc_read_rule (fun vs H Q E h => ?_) (fun cdv A outer s H vs Q E hr h => ?_)
  · (obtain ⟨x, T', rfl, _⟩ := h; rfl)
  · have hu1 := hu_of hr
    have hu := hr.units
    refine ⟨_, QSs.out (qss_cons (qs_if (qt_not (qt_tru (K := K) (qe_cB q_isi T.b_isinstance bt_isinstance (qa_c (v_read_rule_0 rfl rfl) (qa_c (qe_ty T.b_str bt_str) qa_nil))))) (qss_one (qs_raise (fun _ _ _ _ _ _ _ I h1 h2 => throws I h1 h2) (qe_err G_NoRule___init__ (hr.mono (by decide)) (qa_c qe_int qa_nil)) (K := K))) qss_nil)
      (qss_cons (qs_set (n := 1) sc_read_rule.nd rfl l_read_rule_1 (qe_mB (K := K) PySem.F.plainAttrs_str PySem.F.slot_str_split PySem.F.type_str_split q_split (v_read_rule_0 rfl rfl) (qa_c qe_str qa_nil)))
      (qss_cons (qs_if (qt_not (qt_tru (K := K) (qe_callF G_is_rule (hr.mono (by decide)) (qa_c (v_read_rule_1 rfl rfl) qa_nil)))) (qss_one (qs_raise (fun _ _ _ _ _ _ _ I h1 h2 => throws I h1 h2) (qe_err G_NoRule___init__ (hr.mono (by decide)) (qa_c qe_int qa_nil)) (K := K))) qss_nil)
      (qss_one (qs_ret (qe_cT (q_tuple (K := K)) T.b_tuple bt_tuple (qa_c (v_read_rule_1 rfl rfl) qa_nil))))))), ?_⟩
    obtain ⟨x, T', rfl, ht, q1, q2⟩ := h
    obtain ⟨fN, MN⟩ := T.er_NoRule
    walk_at "rd"
    have fin : ∀ (H2 : Hp), Same H H2 → (∀ dx H', Same H H' → H' dx = some (.xd [("at", .int 0)]) → E (.ref C_NoRule) (some dx) H') → ∀ (x : Addr), H2 x = none → spErrI K C_NoRule "at" [V.ref x, V.int 0] (upd H2 x (xm s.heap.objs.size x C_NoRule)) (fun v H3 => v = V.non ∧ ∃ x_1 x_2, H3 x = some (xo s.heap.objs.size x x_1 x_2) ∧ (∃ x, ErrC K x_1 x) ∧ E (Value.ref x_1) (some x_2) (del H3 x)) E0 := fun H2 S2 hE x nx =>
      ⟨s.heap.objs.size, x, 0, fN, rfl, upd_same, MN, T.na_NoRule, by decide, fun dx nd ne => ⟨rfl, C_NoRule, dx, (raised nx nd ne).1, ⟨fN, MN⟩, hE dx _ (S2.trans (raised nx nd ne).2.1) (raised nx nd ne).2.2⟩⟩
    by_cases hx : ∃ z, x = .str z
    · obtain ⟨z, rfl⟩ := hx
      obtain ⟨w', ps, ⟨hzl, hsp, hps, hpz⟩, qt, qf⟩ := q1 z rfl
      have hl : (w' :: ps).length ≤ 1001 := by rw [List.length_cons]; exact Nat.succ_le_succ hps
      refine ⟨"str", rfl, rfl, iteF ?_⟩
      walk_at "rd"
      refine ⟨z, " ", rfl, rfl, by decide, small100' (by omega), by rw [hsp]; exact small100' (by omega), fun p np => ?_⟩
      rw [hsp]
      have S1 : Same H (upd H p (.lst ((w' :: ps).map V.str))) := Same.new np
      have hp : upd H p (.lst ((w' :: ps).map V.str)) p = some (.lst ((w' :: ps).map V.str)) := upd_same
      refine ⟨p, w', ps, rfl, .of hp, hps, hpz, fun H2 S2 => ?_⟩
      cases e : ruleB w' ps with
      | true =>
        refine ⟨true, rfl, iteF ?_⟩
        walk_at "rd"
        exact rTupR.l (.of (S2 _ _ hp)) fun l nl => qt e l _ (fun b o h => upd_fresh (S2 b o (S1 b o h)) nl) upd_same
      | false => exact ⟨false, rfl, iteT ⟨by decide, fin H2 (S1.trans S2) (qf e)⟩⟩
    · refine ⟨T', ht, rfl, ?_⟩
      rw [no_str ht fun z e => hx ⟨z, e⟩]
      exact iteT ⟨by decide, fin H (fun _ _ h => h) (q2 fun z e => hx ⟨z, e⟩)⟩
theorem sc_l_cell_at : FnScope ["_law_script", "_law_k"] ["_law_script", "_law_k"] (defScope s_l_cell_at) := ⟨rfl, rfl, rfl, by decide +kernel, rfl, by decide +kernel, by decide +kernel⟩
theorem v_l_cell_at_0 {X : Cx} {pos : Pos} (hN : X.N = (["_law_script", "_law_k"] : List Str)) (hs : X.env.scope = defScope s_l_cell_at) : QE X (.Name "_law_script" pos) (tVar 0) := qvd hN hs (by decide +kernel)
theorem v_l_cell_at_1 {X : Cx} {pos : Pos} (hN : X.N = (["_law_script", "_law_k"] : List Str)) (hs : X.env.scope = defScope s_l_cell_at) : QE X (.Name "_law_k" pos) (tVar 1) := qvd hN hs (by decide +kernel)
theorem ok_l_cell_at {f : Addr} {fd : FuncData} (F : FunD K "_law_cell_at" "_law_cell_at" s_l_cell_at f fd) (T : Txt P w K mg C_NoRule) : FnOk P w K mg base CX0 1 f fd ["_law_script", "_law_k"] (spCellAt K) := by
  refine F.ok sc_l_cell_at (fun vs H Q E h => ?_) (fun cdv A outer s H vs Q E hr h => ?_)
  · (obtain ⟨a, ns, k, rfl, _⟩ := h; rfl)
  · have hu1 := hu_of hr
    have hu := hr.units
    refine ⟨_, QSs.out (qss_cons (qs_if (qt_cmpR q_lt (v_l_cell_at_1 rfl rfl) (qe_cB (q_len (K := K)) T.b_len bt_len (qa_c (v_l_cell_at_0 rfl rfl) qa_nil))) (qss_one (qs_ret (qe_ix (K := K) (v_l_cell_at_0 rfl rfl) (v_l_cell_at_1 rfl rfl)))) qss_nil)
      (qss_one (qs_ret qe_int))), ?_⟩
    obtain ⟨a, ns, k, rfl, hS, hk, q⟩ := h
    walk_at "rd"
    refine ⟨ns.length, .inl ⟨_, hS, by rw [List.length_map]⟩, iteD (fun hlt => ?_) fun _ => q 0⟩
    have h1 : k < ((ns.map V.int).length : Int) := by rw [List.length_map]; exact hlt
    obtain ⟨v, h2, h3⟩ := atI_in hk h1
    obtain ⟨n, _, rfl⟩ := List.mem_map.mp h3
    exact ⟨_, .inl hS, _, h2, q n⟩
theorem sc_l_sign : FnScope ["_law_number", "_law_signs"] ["_law_number"] (defScope s_l_sign) := ⟨rfl, rfl, rfl, by decide +kernel, rfl, by decide +kernel, by decide +kernel⟩
theorem v_l_sign_0 {X : Cx} {pos : Pos} (hN : X.N = (["_law_number", "_law_signs"] : List Str)) (hs : X.env.scope = defScope s_l_sign) : QE X (.Name "_law_number" pos) (tVar 0) := qvd hN hs (by decide +kernel)
theorem v_l_sign_1 {X : Cx} {pos : Pos} (hN : X.N = (["_law_number", "_law_signs"] : List Str)) (hs : X.env.scope = defScope s_l_sign) : QE X (.Name "_law_signs" pos) (tVar 1) := qvd hN hs (by decide +kernel)
theorem l_l_sign_1 : Loc (defScope s_l_sign) "_law_signs" := by unfold L2.Loc; decide +kernel
theorem ok_l_sign {f : Addr} {fd : FuncData} (F : FunD K "_law_sign" "_law_sign" s_l_sign f fd) (T : Txt P w K mg C_NoRule) : FnOk P w K mg base CX0 1 f fd ["_law_number"] spSign18 := by
  refine F.ok sc_l_sign (fun vs H Q E h => ?_) (fun cdv A outer s H vs Q E hr h => ?_)
  · (obtain ⟨n, rfl, _⟩ := h; rfl)
  · have hu1 := hu_of hr
    have hu := hr.units
    refine ⟨_, QSs.out (qss_cons (qs_set (n := 1) sc_l_sign.nd rfl l_l_sign_1 qe_str)
      (qss_cons (qs_set (n := 1) sc_l_sign.nd rfl l_l_sign_1 (qe_op (q_add (K := K)) (v_l_sign_1 rfl rfl) qe_str))
      (qss_one (qs_ret (qe_ix (K := K) (v_l_sign_1 rfl rfl) (qe_op q_mod (v_l_sign_0 rfl rfl) qe_int)))))), ?_⟩
    obtain ⟨n, rfl, q⟩ := h
    walk_at "rd"
    obtain ⟨c, h1, h2⟩ := SS_at (i := n % 93) (by omega) (by omega)
    have h3 := h1
    rw [SS_eq] at h3
    exact ⟨SS_lens, SS_len, c, h1, q c h2 h3⟩
theorem sc_l_piece : FnScope ["_law_cell", "_law_number"] ["_law_cell"] (defScope s_l_piece) := ⟨rfl, rfl, rfl, by decide +kernel, rfl, by decide +kernel, by decide +kernel⟩
theorem v_l_piece_0 {X : Cx} {pos : Pos} (hN : X.N = (["_law_cell", "_law_number"] : List Str)) (hs : X.env.scope = defScope s_l_piece) : QE X (.Name "_law_cell" pos) (tVar 0) := qvd hN hs (by decide +kernel)
theorem v_l_piece_1 {X : Cx} {pos : Pos} (hN : X.N = (["_law_cell", "_law_number"] : List Str)) (hs : X.env.scope = defScope s_l_piece) : QE X (.Name "_law_number" pos) (tVar 1) := qvd hN hs (by decide +kernel)
theorem l_l_piece_1 : Loc (defScope s_l_piece) "_law_number" := by unfold L2.Loc; decide +kernel
theorem ok_l_piece {f : Addr} {fd : FuncData} (F : FunD K "_law_piece" "_law_piece" s_l_piece f fd) (T : Txt P w K mg C_NoRule) (G_l_sign : FO P w K mg base 1 "_law_sign" ["_law_number"] [] spSign18) : FnOk P w K mg base CX0 2 f fd ["_law_cell"] spPiece18 := by
  refine F.ok sc_l_piece (fun vs H Q E h => ?_) (fun cdv A outer s H vs Q E hr h => ?_)
  · (obtain ⟨n, rfl, _⟩ := h; rfl)
  · have hu1 := hu_of hr
    have hu := hr.units
    refine ⟨_, QSs.out (qss_cons (qs_set (n := 1) sc_l_piece.nd rfl l_l_piece_1 (qe_op q_mod (qe_op q_mul (v_l_piece_0 rfl rfl) qe_int) qe_int))
      (qss_cons (qs_if (qt_cmpR (q_eq (K := K) hu) (qe_op q_mod (v_l_piece_1 rfl rfl) qe_int) qe_int) (qss_one (qs_ret (qe_op (q_add (K := K)) (qe_callF G_l_sign (hr.mono (by decide)) (qa_c (qe_op q_fdiv (v_l_piece_1 rfl rfl) qe_int) qa_nil)) (qe_callF G_l_sign (hr.mono (by decide)) (qa_c (qe_op q_fdiv (v_l_piece_1 rfl rfl) qe_int) qa_nil))))) qss_nil)
      (qss_one (qs_ret (qe_callF G_l_sign (hr.mono (by decide)) (qa_c (qe_op q_fdiv (v_l_piece_1 rfl rfl) qe_int) qa_nil)))))), ?_⟩
    obtain ⟨n, rfl, q⟩ := h
    walk_at "rd"
    refine ⟨.inr ⟨by decide, by decide⟩, iteD (fun _ => ⟨_, rfl, fun c1 h1 _ => ⟨_, rfl, fun c2 h2 _ => ?_⟩⟩) fun _ => ⟨_, rfl, fun c1 h1 _ => q _ (piece_one h1)⟩⟩
    walk_at "rd"
    exact ⟨by show 1 + 1 ≤ sizeLine; decide, q _ (piece_two h1 h2)⟩
theorem sc_l_words : FnScope ["_law_script", "_law_words_here", "_law_place", "_law_first"] ["_law_script"] (defScope s_l_words) := ⟨rfl, rfl, rfl, by decide +kernel, rfl, by decide +kernel, by decide +kernel⟩
theorem v_l_words_0 {X : Cx} {pos : Pos} (hN : X.N = (["_law_script", "_law_words_here", "_law_place", "_law_first"] : List Str)) (hs : X.env.scope = defScope s_l_words) : QE X (.Name "_law_script" pos) (tVar 0) := qvd hN hs (by decide +kernel)
theorem v_l_words_1 {X : Cx} {pos : Pos} (hN : X.N = (["_law_script", "_law_words_here", "_law_place", "_law_first"] : List Str)) (hs : X.env.scope = defScope s_l_words) : QE X (.Name "_law_words_here" pos) (tVar 1) := qvd hN hs (by decide +kernel)
theorem v_l_words_2 {X : Cx} {pos : Pos} (hN : X.N = (["_law_script", "_law_words_here", "_law_place", "_law_first"] : List Str)) (hs : X.env.scope = defScope s_l_words) : QE X (.Name "_law_place" pos) (tVar 2) := qvd hN hs (by decide +kernel)
theorem v_l_words_3 {X : Cx} {pos : Pos} (hN : X.N = (["_law_script", "_law_words_here", "_law_place", "_law_first"] : List Str)) (hs : X.env.scope = defScope s_l_words) : QE X (.Name "_law_first" pos) (tVar 3) := qvd hN hs (by decide +kernel)
theorem l_l_words_1 : Loc (defScope s_l_words) "_law_words_here" := by unfold L2.Loc; decide +kernel
theorem l_l_words_2 : Loc (defScope s_l_words) "_law_place" := by unfold L2.Loc; decide +kernel
theorem l_l_words_3 : Loc (defScope s_l_words) "_law_first" := by unfold L2.Loc; decide +kernel
theorem ok_l_words {f : Addr} {fd : FuncData} (F : FunD K "_law_words" "_law_words" s_l_words f fd) (T : Txt P w K mg C_NoRule) (G_l_cell_at : FO P w K mg base 1 "_law_cell_at" ["_law_script", "_law_k"] [] (spCellAt K)) (G_l_piece : FO P w K mg base 2 "_law_piece" ["_law_cell"] [] spPiece18) : FnOk P w K mg base CX0 3 f fd ["_law_script"] (spWords K) := by
  refine F.ok sc_l_words (fun vs H Q E h => ?_) (fun cdv A outer s H vs Q E hr h => ?_)
  · (obtain ⟨a, ns, rfl, _⟩ := h; rfl)
  · have hu1 := hu_of hr
    have hu := hr.units
    refine ⟨_, QSs.out (qss_cons (qs_set (n := 1) sc_l_words.nd rfl l_l_words_1 (qe_lst (qa_c qe_str (qa_c qe_str (qa_c qe_str (qa_c qe_str (qa_c qe_str (qa_c qe_str (qa_c qe_str (qa_c qe_str (qa_c qe_str qa_nil)))))))))))
      (qss_cons (qs_set (n := 2) sc_l_words.nd rfl l_l_words_2 (qe_op q_mod (qe_callF G_l_cell_at (hr.mono (by decide)) (qa_c (v_l_words_0 rfl rfl) (qa_c qe_int qa_nil))) qe_int))
      (qss_cons (qs_if (qt_cmpR q_gt (v_l_words_2 rfl rfl) qe_int) (qss_one (qs_ret (qe_lst (qa_c (qe_ix (K := K) (v_l_words_1 rfl rfl) (v_l_words_2 rfl rfl)) qa_nil)))) qss_nil)
      (qss_cons (qs_set (n := 3) sc_l_words.nd rfl l_l_words_3 (qe_lst (qa_c (qe_callF G_l_piece (hr.mono (by decide)) (qa_c (qe_callF G_l_cell_at (hr.mono (by decide)) (qa_c (v_l_words_0 rfl rfl) (qa_c qe_int qa_nil))) qa_nil)) (qa_c (qe_callF G_l_piece (hr.mono (by decide)) (qa_c (qe_op (q_add (K := K)) (qe_callF G_l_cell_at (hr.mono (by decide)) (qa_c (v_l_words_0 rfl rfl) (qa_c qe_int qa_nil))) qe_int) qa_nil)) qa_nil))))
      (qss_one (qs_ret (qe_op (q_add (K := K)) (qe_op (q_add (K := K)) (qe_lst (qa_c (qe_ix (K := K) (v_l_words_1 rfl rfl) (v_l_words_2 rfl rfl)) qa_nil)) (v_l_words_3 rfl rfl)) (qe_comp  (⟨rfl, by decide +kernel, by decide +kernel, by decide +kernel, by decide +kernel, rfl, by decide +kernel, by decide +kernel⟩ : CompOk ["_law_script", "_law_words_here", "_law_place", "_law_first"] (defScope s_l_words).names _ ["_law_cell"] 1 []) (qi_list (K := K) (qe_slice (K := K) (v_l_words_0 rfl rfl) (qo_some qe_int) (qo_some qe_int))) (fun _ _ _ _ _ => qg_name (n := 0) (show List.Nodup (["_law_cell"] : List Str) by decide +kernel) rfl (Or.inl rfl)) (fun _ _ _ _ _ => qifs_nil) (fun _ _ _ _ _ => (qe_callF G_l_piece (hr.mono (by decide)) (qa_c (qv 0) qa_nil))))))))))), ?_⟩
    obtain ⟨a, ns, rfl, hS, hlen, q⟩ := h
    walk_at "rd"
    refine ⟨by decide, fun p np => ⟨a, ns, 0, rfl, (Same.new np).seq hS, by decide, fun c => ⟨c, rfl, ?_⟩⟩⟩
    obtain ⟨w, hw, hwc⟩ := word_at (i := c % 9) (by omega) (by omega)
    have hw9 : w ∈ W9 := (W9_iff w).mpr (by
      rcases hwc with ⟨_, h⟩ | ⟨_, n, h, _⟩
      · exact .inl h
      · exact .inr ⟨n, h⟩)
    have S1 : Same H (upd H p (HO.lst [V.str "row", V.str "marks", V.str "great", V.str "as", V.str "over", V.str "forget", V.str "figures", V.str "blanks", V.str "behind"])) := Same.new np
    have h1 : upd H p (HO.lst [V.str "row", V.str "marks", V.str "great", V.str "as", V.str "over", V.str "forget", V.str "figures", V.str "blanks", V.str "behind"]) p = some (HO.lst [V.str "row", V.str "marks", V.str "great", V.str "as", V.str "over", V.str "forget", V.str "figures", V.str "blanks", V.str "behind"]) := upd_same
    generalize upd H p (HO.lst [V.str "row", V.str "marks", V.str "great", V.str "as", V.str "over", V.str "forget", V.str "figures", V.str "blanks", V.str "behind"]) = H1 at S1 h1
    refine iteD (fun h5 => ⟨_, .inl (.of h1), _, hw, by decide, fun p1 n1 => q p1 w [] _ (S1.trans (Same.new n1)) upd_same ⟨hw9, by decide, by simp, fun _ => rfl, fun hb => ?_⟩⟩) fun h5 => ?_
    · rcases hwc with ⟨_, h⟩ | ⟨h, _⟩
      · exact absurd h hb
      · omega
    have hnb : w ∉ bareL := by
      rcases hwc with ⟨h, _⟩ | ⟨_, n, h, _⟩
      · omega
      · exact few_notbare h
    refine ⟨a, ns, 1, rfl, S1.seq hS, by decide, fun c1 => ⟨c1, rfl, fun z1 hz1 => ⟨a, ns, 2, rfl, S1.seq hS, by decide, fun c2 => ?_⟩⟩⟩
    walk_at "rd"
    refine ⟨c2 + 1, rfl, fun z2 hz2 => ⟨by decide, fun p1 n1 => ⟨_, .inl (.of (upd_fresh h1 n1)), _, hw, by decide, fun p2 n2 => rAddR.l upd_same (upd_fresh upd_same n2) (by show 1 + 2 ≤ sizeLine; decide) fun p3 n3 => ?_⟩⟩⟩
    have S4 : Same H (upd (upd (upd H1 p1 (HO.lst [V.str z1, V.str z2])) p2 (HO.lst [V.str w])) p3 (HO.lst ([V.str w] ++ [V.str z1, V.str z2]))) := fun b o h => upd_fresh (upd_fresh (upd_fresh (S1 b o h) n1) n2) n3
    have h4 : upd (upd (upd H1 p1 (HO.lst [V.str z1, V.str z2])) p2 (HO.lst [V.str w])) p3 (HO.lst ([V.str w] ++ [V.str z1, V.str z2])) p3 = some (HO.lst [V.str w, V.str z1, V.str z2]) := upd_same
    generalize upd (upd (upd H1 p1 (HO.lst [V.str z1, V.str z2])) p2 (HO.lst [V.str w])) p3 (HO.lst ([V.str w] ++ [V.str z1, V.str z2])) = H4 at S4 h4
    refine rSlR.l (S4.seq hS) fun l nl => ?_
    have S5 : Same H4 (upd H4 l (HO.lst (cutV (ns.map V.int) (some 5) (some 55)))) := Same.new nl
    have h5' : upd H4 l (HO.lst (cutV (ns.map V.int) (some 5) (some 55))) l = some (HO.lst (cutV (ns.map V.int) (some 5) (some 55))) := upd_same
    generalize upd H4 l (HO.lst (cutV (ns.map V.int) (some 5) (some 55))) = H5 at S5 h5'
    have hcut : (cutV (ns.map V.int) (some 5) (some 55)).length ≤ 50 := by
      unfold cutV
      rw [List.length_take]
      have e1 : HT.sIx (ns.map V.int).length (ns.map V.int).length (some ((55 : Nat) : Int)) ≤ 55 := by rw [HT.sIx_nat]; omega
      have e2 : HT.sIx (ns.map V.int).length 0 (some ((5 : Nat) : Int)) = min 5 (ns.map V.int).length := by rw [HT.sIx_nat]
      have e3 : HT.sIx (ns.map V.int).length (ns.map V.int).length (some ((55 : Nat) : Int)) ≤ (ns.map V.int).length := by rw [HT.sIx_nat]; omega
      have e4 : ((55 : Nat) : Int) = 55 := rfl
      have e5 : ((5 : Nat) : Int) = 5 := rfl
      rw [e4] at e1 e3
      rw [e5] at e2
      omega
    refine ⟨l, rfl, ⟨_, .of h5'⟩, compL (xs := cutV (ns.map V.int) (some 5) (some 55)) [] rfl (fun D i ys H6 => ∃ zs : List Str, ys = zs.map V.str ∧ zs.length = i ∧ (∀ z ∈ zs, pieceB z = true) ∧ Same H5 H6) (fun D nD => ⟨[], rfl, rfl, by simp, Same.new nD⟩) (by rintro D i ys H6 nD _ ⟨_, _, _, _, S⟩; exact .of (S _ _ h5')) ?_ ?_⟩
    · rintro D i x ys H6 nD hi hx ⟨zs, rfl, hzl, hz, S⟩ hD hy
      obtain ⟨n, rfl⟩ : ∃ n, x = V.int n := by
        have hm : x ∈ ns.map V.int := by
          have := List.mem_of_getElem? hx
          unfold cutV at this
          exact List.mem_of_mem_drop (List.mem_of_mem_take this)
        obtain ⟨n, _, rfl⟩ := List.mem_map.mp hm
        exact ⟨n, rfl⟩
      walk_at "rd"
      refine ⟨n, rfl, fun z hzp => ⟨hD, by rw [List.length_map]; exact small100 (by omega), CW.put hi hy ⟨zs ++ [z], by rw [List.map_append]; rfl, by rw [List.length_append, hzl]; rfl, fun y hy2 => ?_, S.put nD⟩⟩⟩
      rcases List.mem_append.mp hy2 with h | h
      · exact hz y h
      · rw [List.mem_singleton.mp h]; exact hzp
    rintro D ys H6 nD ⟨zs, rfl, hzl, hz, S⟩ hD hy
    walk_at "rd"
    refine rAddR.l (S _ _ (S5 _ _ h4)) hD (by rw [List.length_map]; exact small100' (by simp only [List.length_cons, List.length_nil]; omega)) fun p4 n4 => q p4 w (z1 :: z2 :: zs) _ (fun b o h => upd_fresh (S b o (S5 b o (S4 b o h))) n4) upd_same ⟨hw9, by simp only [List.length_cons]; omega, fun y hy2 => ?_, fun hb => absurd hb hnb, fun _ => by simp only [List.length_cons]; omega⟩
    rcases List.mem_cons.mp hy2 with rfl | hy2
    · exact hz1
    rcases List.mem_cons.mp hy2 with rfl | hy2
    · exact hz2
    exact hz y hy2
theorem sc_l_other_sign : FnScope ["_law_sign_here", "_law_number", "_law_other"] ["_law_sign_here", "_law_number"] (defScope s_l_other_sign) := ⟨rfl, rfl, rfl, by decide +kernel, rfl, by decide +kernel, by decide +kernel⟩
theorem v_l_other_sign_0 {X : Cx} {pos : Pos} (hN : X.N = (["_law_sign_here", "_law_number", "_law_other"] : List Str)) (hs : X.env.scope = defScope s_l_other_sign) : QE X (.Name "_law_sign_here" pos) (tVar 0) := qvd hN hs (by decide +kernel)
theorem v_l_other_sign_1 {X : Cx} {pos : Pos} (hN : X.N = (["_law_sign_here", "_law_number", "_law_other"] : List Str)) (hs : X.env.scope = defScope s_l_other_sign) : QE X (.Name "_law_number" pos) (tVar 1) := qvd hN hs (by decide +kernel)
theorem v_l_other_sign_2 {X : Cx} {pos : Pos} (hN : X.N = (["_law_sign_here", "_law_number", "_law_other"] : List Str)) (hs : X.env.scope = defScope s_l_other_sign) : QE X (.Name "_law_other" pos) (tVar 2) := qvd hN hs (by decide +kernel)
theorem l_l_other_sign_2 : Loc (defScope s_l_other_sign) "_law_other" := by unfold L2.Loc; decide +kernel
theorem ok_l_other_sign {f : Addr} {fd : FuncData} (F : FunD K "_law_other_sign" "_law_other_sign" s_l_other_sign f fd) (T : Txt P w K mg C_NoRule) (G_l_sign : FO P w K mg base 1 "_law_sign" ["_law_number"] [] spSign18) : FnOk P w K mg base CX0 2 f fd ["_law_sign_here", "_law_number"] spOther := by
  refine F.ok sc_l_other_sign (fun vs H Q E h => ?_) (fun cdv A outer s H vs Q E hr h => ?_)
  · (obtain ⟨d, n, rfl, _⟩ := h; rfl)
  · have hu1 := hu_of hr
    have hu := hr.units
    refine ⟨_, QSs.out (qss_cons (qs_set (n := 2) sc_l_other_sign.nd rfl l_l_other_sign_2 (qe_callF G_l_sign (hr.mono (by decide)) (qa_c (v_l_other_sign_1 rfl rfl) qa_nil)))
      (qss_cons (qs_if (qt_cmpR (q_eq (K := K) hu) (qe_op q_mod (qe_op q_fdiv (v_l_other_sign_1 rfl rfl) qe_int) qe_int) qe_int) (qss_one (qs_ret qe_str)) qss_nil)
      (qss_cons (qs_if (qt_cmpR (q_eq (K := K) hu) (v_l_other_sign_2 rfl rfl) (v_l_other_sign_0 rfl rfl)) (qss_one (qs_ret (qe_callF G_l_sign (hr.mono (by decide)) (qa_c (qe_op (q_add (K := K)) (v_l_other_sign_1 rfl rfl) qe_int) qa_nil)))) qss_nil)
      (qss_one (qs_ret (v_l_other_sign_2 rfl rfl)))))), ?_⟩
    obtain ⟨d, n, rfl, q⟩ := h
    walk_at "rd"
    refine ⟨n, rfl, fun c h1 h2 => iteD (fun _ => ?_) fun _ => ?_⟩
    · rw [show Str.ofString " " = one 32 by decide +kernel]
      exact q 32 (.inl rfl)
    walk_at "rd"
    refine iteD (fun e => ⟨n + 1, rfl, fun c' h1' h2' => q c' (.inr ⟨h1', fun e2 => ?_⟩)⟩) fun e => q c (.inr ⟨h1, fun e2 => e (by rw [e2])⟩)
    have e3 : c = d := by
      have := congrArg (fun z : Str => z.cps.toList) e
      simpa [one] using this
    rw [e2, ← e3] at h2'
    exact sg_other h2 h2'
theorem sc_l_word_spoiled : FnScope ["_law_words_here", "_law_number", "_law_word", "_law_at"] ["_law_words_here", "_law_number"] (defScope s_l_word_spoiled) := ⟨rfl, rfl, rfl, by decide +kernel, rfl, by decide +kernel, by decide +kernel⟩
theorem v_l_word_spoiled_0 {X : Cx} {pos : Pos} (hN : X.N = (["_law_words_here", "_law_number", "_law_word", "_law_at"] : List Str)) (hs : X.env.scope = defScope s_l_word_spoiled) : QE X (.Name "_law_words_here" pos) (tVar 0) := qvd hN hs (by decide +kernel)
theorem v_l_word_spoiled_1 {X : Cx} {pos : Pos} (hN : X.N = (["_law_words_here", "_law_number", "_law_word", "_law_at"] : List Str)) (hs : X.env.scope = defScope s_l_word_spoiled) : QE X (.Name "_law_number" pos) (tVar 1) := qvd hN hs (by decide +kernel)
theorem v_l_word_spoiled_2 {X : Cx} {pos : Pos} (hN : X.N = (["_law_words_here", "_law_number", "_law_word", "_law_at"] : List Str)) (hs : X.env.scope = defScope s_l_word_spoiled) : QE X (.Name "_law_word" pos) (tVar 2) := qvd hN hs (by decide +kernel)
theorem v_l_word_spoiled_3 {X : Cx} {pos : Pos} (hN : X.N = (["_law_words_here", "_law_number", "_law_word", "_law_at"] : List Str)) (hs : X.env.scope = defScope s_l_word_spoiled) : QE X (.Name "_law_at" pos) (tVar 3) := qvd hN hs (by decide +kernel)
theorem l_l_word_spoiled_2 : Loc (defScope s_l_word_spoiled) "_law_word" := by unfold L2.Loc; decide +kernel
theorem l_l_word_spoiled_3 : Loc (defScope s_l_word_spoiled) "_law_at" := by unfold L2.Loc; decide +kernel
theorem ok_l_word_spoiled {f : Addr} {fd : FuncData} (F : FunD K "_law_word_spoiled" "_law_word_spoiled" s_l_word_spoiled f fd) (T : Txt P w K mg C_NoRule) (G_l_other_sign : FO P w K mg base 2 "_law_other_sign" ["_law_sign_here", "_law_number"] [] spOther) : FnOk P w K mg base CX0 3 f fd ["_law_words_here", "_law_number"] (spWSp K) := by
  refine F.ok sc_l_word_spoiled (fun vs H Q E h => ?_) (fun cdv A outer s H vs Q E hr h => ?_)
  · (obtain ⟨a, w, ps, n, rfl, _⟩ := h; rfl)
  · have hu1 := hu_of hr
    have hu := hr.units
    refine ⟨_, QSs.out (qss_cons (qs_set (n := 2) sc_l_word_spoiled.nd rfl l_l_word_spoiled_2 (qe_ix (K := K) (v_l_word_spoiled_0 rfl rfl) qe_int))
      (qss_cons (qs_set (n := 3) sc_l_word_spoiled.nd rfl l_l_word_spoiled_3 (qe_op q_mod (qe_op q_fdiv (v_l_word_spoiled_1 rfl rfl) qe_int) (qe_cB (q_len (K := K)) T.b_len bt_len (qa_c (v_l_word_spoiled_2 rfl rfl) qa_nil))))
      (qss_cons (qs_if (qt_cmpR (q_eq (K := K) hu) (qe_op q_mod (v_l_word_spoiled_1 rfl rfl) qe_int) qe_int) (qss_one (qs_ret (qe_op (q_add (K := K)) (qe_lst (qa_c (qe_op (q_add (K := K)) (qe_slice (K := K) (v_l_word_spoiled_2 rfl rfl) qo_none (qo_some (v_l_word_spoiled_3 rfl rfl))) (qe_slice (K := K) (v_l_word_spoiled_2 rfl rfl) (qo_some (qe_op (q_add (K := K)) (v_l_word_spoiled_3 rfl rfl) qe_int)) qo_none)) qa_nil)) (qe_slice (K := K) (v_l_word_spoiled_0 rfl rfl) (qo_some qe_int) qo_none)))) qss_nil)
      (qss_one (qs_ret (qe_op (q_add (K := K)) (qe_lst (qa_c (qe_op (q_add (K := K)) (qe_op (q_add (K := K)) (qe_slice (K := K) (v_l_word_spoiled_2 rfl rfl) qo_none (qo_some (v_l_word_spoiled_3 rfl rfl))) (qe_callF G_l_other_sign (hr.mono (by decide)) (qa_c (qe_ix (K := K) (v_l_word_spoiled_2 rfl rfl) (v_l_word_spoiled_3 rfl rfl)) (qa_c (qe_op q_fdiv (v_l_word_spoiled_1 rfl rfl) qe_int) qa_nil)))) (qe_slice (K := K) (v_l_word_spoiled_2 rfl rfl) (qo_some (qe_op (q_add (K := K)) (v_l_word_spoiled_3 rfl rfl) qe_int)) qo_none)) qa_nil)) (qe_slice (K := K) (v_l_word_spoiled_0 rfl rfl) (qo_some qe_int) qo_none))))))), ?_⟩
    obtain ⟨a, w, ps, n, rfl, ha, hW, q⟩ := h
    have hwf := word_facts hW.1
    have wz : w.length ≤ sizeLine := small100' (by omega)
    have psl : ps.length ≤ 60 := hW.2.1
    walk_at "rd"
    refine ⟨_, .inl (.of ha), V.str w, atI_zero _ _, ?_⟩
    walk_at "rd"
    obtain ⟨i, hi, hi1⟩ : ∃ i : Nat, n / 2 % (w.length : Int) = i ∧ i < w.length := ⟨(n / 2 % (w.length : Int)).toNat, by
      have := Int.emod_nonneg (n / 2) (show (w.length : Int) ≠ 0 by omega)
      omega, by
      have := Int.emod_lt_of_pos (n / 2) (show 0 < (w.length : Int) by omega)
      omega⟩
    rw [hi]
    have eT : (cutS w none (some (i : Int))).cps.toList = w.cps.toList.take i := cutS_to (by omega)
    have eD : (cutS w (some ((i : Int) + 1)) none).cps.toList = w.cps.toList.drop (i + 1) := cutS_from (k := i + 1) (by omega)
    have lT : (cutS w none (some (i : Int))).length ≤ 7 := Nat.le_trans (cutS_len _ _ _) hwf.2.1
    have lD : (cutS w (some ((i : Int) + 1)) none).length ≤ 7 := Nat.le_trans (cutS_len _ _ _) hwf.2.1
    have ecut : cutV ((w :: ps).map V.str) (some 1) none = ps.map V.str := by
      rw [List.map_cons]
      exact cutV_tail _ _
    have fin : ∀ (w' : Str), ((∃ at', at' < w.length ∧ w'.cps.toList = w.cps.toList.take at' ++ w.cps.toList.drop (at' + 1)) ∨ (∃ at' c, at' < w.length ∧ w.cps.toList[at']? ≠ some c ∧ (c = 32 ∨ signB c = true) ∧ w'.cps.toList = w.cps.toList.take at' ++ c :: w.cps.toList.drop (at' + 1))) → 1 ≤ sizeLine ∧ ∀ p, H p = none → rSlR K a (some 1) none (upd H p (HO.lst [V.str w'])) fun y H2 => rAddU K (V.ref p) y H2 Q := fun w' hw' => ⟨by decide, fun p np => rSlR.l (.of (upd_fresh ha np)) fun l nl => by
      rw [ecut]
      exact rAddR.l (upd_fresh upd_same nl) upd_same (by rw [List.length_map]; exact small100' (by simp only [List.length_cons, List.length_nil]; omega)) fun l2 nl2 => q l2 w' _ (fun b o h => upd_fresh (upd_fresh (upd_fresh h np) nl) nl2) upd_same hw'⟩
    refine ⟨wz, by omega, iteD (fun _ => ?_) fun _ => ?_⟩
    · exact ⟨wz, wz, small100' (by omega), fin _ (.inl ⟨i, hi1, by rw [Str.cps_append, Array.toList_append, eT, eD]⟩)⟩
    · have hc : w.cps.toList[i]? = some (w.cps.toList[i]'(by rw [lenL]; exact hi1)) := List.getElem?_eq_getElem _
      generalize w.cps.toList[i]'(by rw [lenL]; exact hi1) = d at hc
      refine ⟨wz, wz, d, atI_nat hc, d, _, rfl, fun c hcc => ?_⟩
      walk_at "rd"
      refine ⟨small100' (by show _ + 1 ≤ _; omega), wz, small100' (by rw [Str.length_append]; show _ + 1 + _ ≤ _; omega), fin _ (.inr ⟨i, c, hi1, fun e => ?_, ?_, ?_⟩)⟩
      · rw [hc] at e
        have e := Option.some.inj e
        rcases hcc with rfl | ⟨_, h⟩
        · exact hwf.1 (e ▸ List.mem_of_getElem? hc)
        · exact h e.symm
      · rcases hcc with h | ⟨h, _⟩
        · exact .inl h
        · exact .inr h
      · rw [Str.cps_append, Str.cps_append, Array.toList_append, Array.toList_append, eT, eD, List.append_assoc]
        rfl
theorem sc_l_long : FnScope ["_law_words_here", "_law_number", "_law_at", "_law_piece_here", "_law_k"] ["_law_words_here", "_law_number"] (defScope s_l_long) := ⟨rfl, rfl, rfl, by decide +kernel, rfl, by decide +kernel, by decide +kernel⟩
theorem v_l_long_0 {X : Cx} {pos : Pos} (hN : X.N = (["_law_words_here", "_law_number", "_law_at", "_law_piece_here", "_law_k"] : List Str)) (hs : X.env.scope = defScope s_l_long) : QE X (.Name "_law_words_here" pos) (tVar 0) := qvd hN hs (by decide +kernel)
theorem v_l_long_1 {X : Cx} {pos : Pos} (hN : X.N = (["_law_words_here", "_law_number", "_law_at", "_law_piece_here", "_law_k"] : List Str)) (hs : X.env.scope = defScope s_l_long) : QE X (.Name "_law_number" pos) (tVar 1) := qvd hN hs (by decide +kernel)
theorem v_l_long_2 {X : Cx} {pos : Pos} (hN : X.N = (["_law_words_here", "_law_number", "_law_at", "_law_piece_here", "_law_k"] : List Str)) (hs : X.env.scope = defScope s_l_long) : QE X (.Name "_law_at" pos) (tVar 2) := qvd hN hs (by decide +kernel)
theorem v_l_long_3 {X : Cx} {pos : Pos} (hN : X.N = (["_law_words_here", "_law_number", "_law_at", "_law_piece_here", "_law_k"] : List Str)) (hs : X.env.scope = defScope s_l_long) : QE X (.Name "_law_piece_here" pos) (tVar 3) := qvd hN hs (by decide +kernel)
theorem v_l_long_4 {X : Cx} {pos : Pos} (hN : X.N = (["_law_words_here", "_law_number", "_law_at", "_law_piece_here", "_law_k"] : List Str)) (hs : X.env.scope = defScope s_l_long) : QE X (.Name "_law_k" pos) (tVar 4) := qvd hN hs (by decide +kernel)
theorem l_l_long_2 : Loc (defScope s_l_long) "_law_at" := by unfold L2.Loc; decide +kernel
theorem l_l_long_3 : Loc (defScope s_l_long) "_law_piece_here" := by unfold L2.Loc; decide +kernel
theorem l_l_long_4 : Loc (defScope s_l_long) "_law_k" := by unfold L2.Loc; decide +kernel
theorem ok_l_long {f : Addr} {fd : FuncData} (F : FunD K "_law_long" "_law_long" s_l_long f fd) (T : Txt P w K mg C_NoRule) (G_l_sign : FO P w K mg base 1 "_law_sign" ["_law_number"] [] spSign18) : FnOk P w K mg base CX0 2 f fd ["_law_words_here", "_law_number"] (spList K BadPs) := by
  refine F.ok sc_l_long (fun vs H Q E h => ?_) (fun cdv A outer s H vs Q E hr h => ?_)
  · (obtain ⟨a, w, ps, n, rfl, _⟩ := h; rfl)
  · have hu1 := hu_of hr
    have hu := hr.units
    refine ⟨_, QSs.out (qss_cons (qs_if (qt_cmpR (q_eq (K := K) hu) (qe_cB (q_len (K := K)) T.b_len bt_len (qa_c (v_l_long_0 rfl rfl) qa_nil)) qe_int) (qss_one (qs_ret (qe_op (q_add (K := K)) (v_l_long_0 rfl rfl) (qe_lst (qa_c (qe_callF G_l_sign (hr.mono (by decide)) (qa_c (v_l_long_1 rfl rfl) qa_nil)) qa_nil))))) qss_nil)
      (qss_cons (qs_set (n := 2) sc_l_long.nd rfl l_l_long_2 (qe_op (q_add (K := K)) qe_int (qe_op q_mod (v_l_long_1 rfl rfl) (qe_op q_sub (qe_cB (q_len (K := K)) T.b_len bt_len (qa_c (v_l_long_0 rfl rfl) qa_nil)) qe_int))))
      (qss_cons (qs_set (n := 3) sc_l_long.nd rfl l_l_long_3 (qe_ix (K := K) (v_l_long_0 rfl rfl) (v_l_long_2 rfl rfl)))
      (qss_cons (qs_for PassesOwn.never (qi_r1 T.b_range (qa_c (qe_op (q_add (K := K)) (qe_op q_sub qe_int (qe_cB (q_len (K := K)) T.b_len bt_len (qa_c (v_l_long_3 rfl rfl) qa_nil))) (qe_op q_mod (qe_op q_fdiv (v_l_long_1 rfl rfl) qe_int) qe_int)) qa_nil)) (qg_name (n := 4) sc_l_long.nd rfl l_l_long_4 (.inl rfl)) (qss_one (qs_set (n := 3) sc_l_long.nd rfl l_l_long_3 (qe_op (q_add (K := K)) (v_l_long_3 rfl rfl) (qe_callF G_l_sign (hr.mono (by decide)) (qa_c (qe_op (q_add (K := K)) (qe_op q_fdiv (v_l_long_1 rfl rfl) qe_int) (qe_op q_mul qe_int (v_l_long_4 rfl rfl))) qa_nil))))))
      (qss_one (qs_ret (qe_op (q_add (K := K)) (qe_op (q_add (K := K)) (qe_slice (K := K) (v_l_long_0 rfl rfl) qo_none (qo_some (v_l_long_2 rfl rfl))) (qe_lst (qa_c (v_l_long_3 rfl rfl) qa_nil))) (qe_slice (K := K) (v_l_long_0 rfl rfl) (qo_some (qe_op (q_add (K := K)) (v_l_long_2 rfl rfl) qe_int)) qo_none)))))))), ?_⟩
    obtain ⟨a, w, ps, n, rfl, ha, hW, q⟩ := h
    have psl : ps.length ≤ 60 := hW.2.1
    have L : LenR K H a (w :: ps).length := .inl ⟨_, .of ha, by rw [List.length_map]⟩
    walk_at "rd"
    refine ⟨(w :: ps).length, L, iteD (fun h1 => ?_) fun h1 => ?_⟩
    · have h0 : ps = [] := List.length_eq_zero_iff.mp (by rw [List.length_cons] at h1; omega)
      subst h0
      have hb : w ∈ bareL := Decidable.byContradiction fun hb => by have := hW.2.2.2.2 hb; simp at this
      exact ⟨n, rfl, fun c hc _ => ⟨by decide, fun p np => rAddR.l (upd_fresh ha np) upd_same (by show 1 + 1 ≤ sizeLine; decide) fun p2 np2 => q p2 [one c] _ (fun b o h => upd_fresh (upd_fresh h np) np2) upd_same ⟨by show 1 ≤ 70; decide, fun y hy => by rw [List.mem_singleton.mp hy]; exact ⟨by show 1 ≤ 10; decide, piece_noblank (piece_one hc)⟩, ruleB_bare hb (by simp)⟩⟩⟩
    have hpos : 1 ≤ ps.length := by rw [List.length_cons] at h1; omega
    obtain ⟨j, hj, hj1⟩ : ∃ j : Nat, 1 + n % (((w :: ps).length : Int) - 1) = ((j + 1 : Nat) : Int) ∧ j < ps.length := ⟨(n % (((w :: ps).length : Int) - 1)).toNat, by
      have := Int.emod_nonneg n (show ((w :: ps).length : Int) - 1 ≠ 0 by rw [List.length_cons]; omega)
      omega, by
      have := Int.emod_lt_of_pos n (show 0 < ((w :: ps).length : Int) - 1 by rw [List.length_cons]; omega)
      rw [List.length_cons] at this ⊢
      omega⟩
    refine ⟨(w :: ps).length, L, by rw [List.length_cons]; omega, ?_⟩
    rw [hj]
    have hat : atI ((w :: ps).map V.str) ((j + 1 : Nat) : Int) = some (V.str ps[j]) := atI_nat (by rw [List.getElem?_map, List.getElem?_cons_succ, List.getElem?_eq_getElem hj1]; rfl)
    have hyp := hW.2.2.1 ps[j] (List.getElem_mem hj1)
    generalize ps[j] = y at hat hyp
    have hyl := piece_len hyp
    refine ⟨_, .inl (.of ha), _, hat, ?_⟩
    walk_at "rd"
    refine ⟨small100' (by omega), by omega, by omega, forR (fun k σ H5 => ∃ (z : Str) (u : Option V), σ = [some (.ref a), some (.int n), some (.int ((j + 1 : Nat) : Int)), some (.str z), u] ∧ H5 = H ∧ z.length = y.length + k ∧ 32 ∉ z.cps.toList) ⟨y, none, rfl, rfl, rfl, piece_noblank hyp⟩ ?_ ?_⟩
    · rintro k σ H5 hk ⟨z, u, rfl, rfl, hzl, hzb⟩
      walk_at "rd"
      refine ⟨.inr ⟨by omega, by omega⟩, _, rfl, fun c hc _ => ?_⟩
      walk_at "rd"
      refine ⟨small100' (by show _ + 1 ≤ _; omega), ?_⟩
      have hap : (z ++ one c).length = y.length + (k + 1) := by rw [Str.length_append, hzl]; rfl
      have hbl : 32 ∉ (z ++ one c).cps.toList := fun h => by
        rw [Str.cps_append, Array.toList_append] at h
        rcases List.mem_append.mp h with h | h
        · exact hzb h
        · exact piece_noblank (piece_one hc) h
      first | exact ⟨hap, hbl⟩ | exact ⟨rfl, hap, hbl⟩
    · rintro σ H5 ⟨z, u, rfl, rfl, hzl, hzb⟩
      have hz3 : 3 ≤ z.length ∧ z.length ≤ 6 := by rw [hzl]; omega
      walk_at "rd"
      refine rSlR.l (.of ha) fun p1 n1 => ?_
      rw [cutV_to, ← List.map_take, List.take_succ_cons]
      refine ⟨by decide, fun p2 n2 => ?_⟩
      have hlt : ((w :: ps.take j).map V.str).length ≤ 61 := by rw [List.length_map, List.length_cons, List.length_take]; omega
      refine rAddR.l (upd_fresh upd_same n2) upd_same (small100' (by show _ + 1 ≤ _; omega)) fun p3 n3 => rSlR.l (.of (upd_fresh (upd_fresh (upd_fresh ha n1) n2) n3)) fun p4 n4 => ?_
      rw [show ((j + 1 : Nat) : Int) + 1 = ((j + 2 : Nat) : Int) by omega, cutV_from, ← List.map_drop, List.drop_succ_cons]
      refine rAddR.l (upd_fresh upd_same n4) upd_same (small100' (by rw [List.length_append, List.length_map (as := ps.drop (j + 1)), List.length_drop]; show _ + 1 + _ ≤ _; omega)) fun p5 n5 => q p5 (ps.take j ++ [z] ++ ps.drop (j + 1)) _ (fun b o h => upd_fresh (upd_fresh (upd_fresh (upd_fresh (upd_fresh h n1) n2) n3) n4) n5) (by rw [upd_same]; simp) ⟨by simp only [List.length_append, List.length_take, List.length_drop, List.length_singleton]; omega, fun v hv => ?_, ruleB_piece (z := z) (by simp) (long_no hz3.1)⟩
      have hpp : ∀ v ∈ ps, v.length ≤ 10 ∧ 32 ∉ v.cps.toList := fun v hv => ⟨by have := piece_len (hW.2.2.1 v hv); omega, piece_noblank (hW.2.2.1 v hv)⟩
      rcases List.mem_append.mp hv with hv | hv
      · rcases List.mem_append.mp hv with hv | hv
        · exact hpp v (List.mem_of_mem_take hv)
        · rw [List.mem_singleton.mp hv]
          exact ⟨by omega, hzb⟩
      · exact hpp v (List.mem_of_mem_drop hv)
theorem sc_l_few : FnScope ["_law_words_here", "_law_number", "_law_least"] ["_law_words_here", "_law_number"] (defScope s_l_few) := ⟨rfl, rfl, rfl, by decide +kernel, rfl, by decide +kernel, by decide +kernel⟩
theorem v_l_few_0 {X : Cx} {pos : Pos} (hN : X.N = (["_law_words_here", "_law_number", "_law_least"] : List Str)) (hs : X.env.scope = defScope s_l_few) : QE X (.Name "_law_words_here" pos) (tVar 0) := qvd hN hs (by decide +kernel)
theorem v_l_few_1 {X : Cx} {pos : Pos} (hN : X.N = (["_law_words_here", "_law_number", "_law_least"] : List Str)) (hs : X.env.scope = defScope s_l_few) : QE X (.Name "_law_number" pos) (tVar 1) := qvd hN hs (by decide +kernel)
theorem v_l_few_2 {X : Cx} {pos : Pos} (hN : X.N = (["_law_words_here", "_law_number", "_law_least"] : List Str)) (hs : X.env.scope = defScope s_l_few) : QE X (.Name "_law_least" pos) (tVar 2) := qvd hN hs (by decide +kernel)
theorem l_l_few_2 : Loc (defScope s_l_few) "_law_least" := by unfold L2.Loc; decide +kernel
theorem ok_l_few {f : Addr} {fd : FuncData} (F : FunD K "_law_few" "_law_few" s_l_few f fd) (T : Txt P w K mg C_NoRule) (G_l_piece : FO P w K mg base 2 "_law_piece" ["_law_cell"] [] spPiece18) : FnOk P w K mg base CX0 3 f fd ["_law_words_here", "_law_number"] (spList K BadPs) := by
  refine F.ok sc_l_few (fun vs H Q E h => ?_) (fun cdv A outer s H vs Q E hr h => ?_)
  · (obtain ⟨a, w, ps, n, rfl, _⟩ := h; rfl)
  · have hu1 := hu_of hr
    have hu := hr.units
    refine ⟨_, QSs.out (qss_cons (qs_if (qt_cmpR (q_eq (K := K) hu) (qe_cB (q_len (K := K)) T.b_len bt_len (qa_c (v_l_few_0 rfl rfl) qa_nil)) qe_int) (qss_one (qs_ret (qe_op (q_add (K := K)) (v_l_few_0 rfl rfl) (qe_op q_mul (qe_lst (qa_c (qe_callF G_l_piece (hr.mono (by decide)) (qa_c (v_l_few_1 rfl rfl) qa_nil)) qa_nil)) (qe_op (q_add (K := K)) qe_int (qe_op q_mod (v_l_few_1 rfl rfl) qe_int)))))) qss_nil)
      (qss_cons (qs_set (n := 2) sc_l_few.nd rfl l_l_few_2 (qe_dget hu1 (qe_disp (qps_cons qe_str qe_int (qps_cons qe_str qe_int (qps_cons qe_str qe_int (qps_cons qe_str qe_int (qps_cons qe_str qe_int (qps_cons qe_str qe_int qps_nil))))))) (qe_ix (K := K) (v_l_few_0 rfl rfl) qe_int)))
      (qss_one (qs_ret (qe_slice (K := K) (v_l_few_0 rfl rfl) qo_none (qo_some (qe_cB (q_max (calm := true)) T.b_max bt_max (qa_c qe_int (qa_c (qe_op q_sub (v_l_few_2 rfl rfl) (qe_op q_mod (v_l_few_1 rfl rfl) qe_int)) qa_nil))))))))), ?_⟩
    obtain ⟨a, w, ps, n, rfl, ha, hW, q⟩ := h
    have psl : ps.length ≤ 60 := hW.2.1
    walk_at "rd"
    refine ⟨(w :: ps).length, .inl ⟨_, .of ha, by rw [List.length_map]⟩, iteD (fun h1 => ?_) fun h1 => ?_⟩
    · have h0 : ps = [] := List.length_eq_zero_iff.mp (by rw [List.length_cons] at h1; omega)
      subst h0
      have hb : w ∈ bareL := Decidable.byContradiction fun hb => by have := hW.2.2.2.2 hb; simp at this
      refine ⟨n, rfl, fun z hz => ⟨by decide, fun p np => ⟨p, 1 + n % 2, _, rfl, rfl, upd_same, by omega, by omega, small100' (by simp only [List.length_cons, List.length_nil]; omega), fun p2 np2 => ?_⟩⟩⟩
      have er : (List.replicate (1 + n % 2).toNat [V.str z]).flatten = (List.replicate (1 + n % 2).toNat z).map V.str := by rw [List.flatten_replicate_singleton, List.map_replicate]
      rw [er]
      refine rAddR.l (upd_fresh (upd_fresh ha np) np2) upd_same (by rw [List.length_map, List.length_map, List.length_replicate]; exact small100' (by simp only [List.length_cons, List.length_nil]; omega)) fun p3 np3 => q p3 (List.replicate (1 + n % 2).toNat z) _ (fun b o h => upd_fresh (upd_fresh (upd_fresh h np) np2) np3) (by rw [upd_same]; simp) ⟨by rw [List.length_replicate]; omega, fun y hy => ?_, ruleB_bare hb fun e => ?_⟩
      · rw [(List.mem_replicate.mp hy).2]
        exact ⟨by have := piece_len hz; omega, piece_noblank hz⟩
      · have := congrArg List.length e
        rw [List.length_replicate, List.length_nil] at this
        omega
    · have hb : w ∉ bareL := fun hb => h1 (by rw [hW.2.2.2.1 hb]; rfl)
      obtain ⟨m, e, m1, m2⟩ := few_of hW.1 hb
      refine fun p np => ⟨upd_same, [(Sum.inr ("row" : Str), V.int 1), (Sum.inr ("marks" : Str), V.int 1), (Sum.inr ("great" : Str), V.int 2), (Sum.inr ("as" : Str), V.int 2), (Sum.inr ("over" : Str), V.int 1), (Sum.inr ("forget" : Str), V.int 1)], rfl, by decide, ?_⟩
      rw [show mergeK [] [((Sum.inr ("row" : Str) : Key), V.int 1), (Sum.inr ("marks" : Str), V.int 1), (Sum.inr ("great" : Str), V.int 2), (Sum.inr ("as" : Str), V.int 2), (Sum.inr ("over" : Str), V.int 1), (Sum.inr ("forget" : Str), V.int 1)] = [(Sum.inr ("row" : Str), V.int 1), (Sum.inr ("marks" : Str), V.int 1), (Sum.inr ("great" : Str), V.int 2), (Sum.inr ("as" : Str), V.int 2), (Sum.inr ("over" : Str), V.int 1), (Sum.inr ("forget" : Str), V.int 1)] from rfl]
      generalize hk : [((Sum.inr ("row" : Str) : Key), V.int 1), (Sum.inr ("marks" : Str), V.int 1), (Sum.inr ("great" : Str), V.int 2), (Sum.inr ("as" : Str), V.int 2), (Sum.inr ("over" : Str), V.int 1), (Sum.inr ("forget" : Str), V.int 1)] = kvs
      have ha9 : upd (upd H p (HO.dK [])) p (HO.dK kvs) a = some (.lst ((w :: ps).map V.str)) := by rw [upd_ne (ne_of_none ha np), upd_ne (ne_of_none ha np)]; exact ha
      have hg : DGet (upd (upd H p (HO.dK [])) p (HO.dK kvs)) p (V.str w) (some (V.int m)) := by
        have := DGet.k (k := Sum.inr w) (show upd (upd H p (HO.dK [])) p (HO.dK kvs) p = some (HO.dK kvs) from upd_same)
        rw [← hk, val_few, e] at this
        rw [← hk]
        exact this
      have S9 : Same H (upd (upd H p (HO.dK [])) p (HO.dK kvs)) := fun b o h => by rw [upd_ne (ne_of_none h np), upd_ne (ne_of_none h np)]; exact h
      generalize upd (upd H p (HO.dK [])) p (HO.dK kvs) = H9 at ha9 hg S9
      refine ⟨_, .inl (.of ha9), V.str w, atI_zero _ _, _, hg, m, rfl, rSlR.l (.of ha9) fun l nl => ?_⟩
      obtain ⟨t, ht, ht1⟩ : ∃ t : Nat, (if m - n % 2 > 1 then m - n % 2 else 1) = ((t + 1 : Nat) : Int) ∧ ((t : Int) < m) := by
        split
        · exact ⟨(m - n % 2 - 1).toNat, by omega, by omega⟩
        · exact ⟨0, by omega, by omega⟩
      rw [ht, cutV_to, ← List.map_take, List.take_succ_cons]
      refine q l (ps.take t) _ (S9.trans (Same.new nl)) upd_same ⟨by rw [List.length_take]; omega, fun y hy => ?_, ruleB_few hb e (by rw [List.length_take]; omega)⟩
      have hyp := hW.2.2.1 y (List.mem_of_mem_take hy)
      exact ⟨by have := piece_len hyp; omega, piece_noblank hyp⟩
theorem sc_l_spoiled : FnScope ["_law_words_here", "_law_way", "_law_number", "_law_at"] ["_law_words_here", "_law_way", "_law_number"] (defScope s_l_spoiled) := ⟨rfl, rfl, rfl, by decide +kernel, rfl, by decide +kernel, by decide +kernel⟩
theorem v_l_spoiled_0 {X : Cx} {pos : Pos} (hN : X.N = (["_law_words_here", "_law_way", "_law_number", "_law_at"] : List Str)) (hs : X.env.scope = defScope s_l_spoiled) : QE X (.Name "_law_words_here" pos) (tVar 0) := qvd hN hs (by decide +kernel)
theorem v_l_spoiled_1 {X : Cx} {pos : Pos} (hN : X.N = (["_law_words_here", "_law_way", "_law_number", "_law_at"] : List Str)) (hs : X.env.scope = defScope s_l_spoiled) : QE X (.Name "_law_way" pos) (tVar 1) := qvd hN hs (by decide +kernel)
theorem v_l_spoiled_2 {X : Cx} {pos : Pos} (hN : X.N = (["_law_words_here", "_law_way", "_law_number", "_law_at"] : List Str)) (hs : X.env.scope = defScope s_l_spoiled) : QE X (.Name "_law_number" pos) (tVar 2) := qvd hN hs (by decide +kernel)
theorem v_l_spoiled_3 {X : Cx} {pos : Pos} (hN : X.N = (["_law_words_here", "_law_way", "_law_number", "_law_at"] : List Str)) (hs : X.env.scope = defScope s_l_spoiled) : QE X (.Name "_law_at" pos) (tVar 3) := qvd hN hs (by decide +kernel)
theorem l_l_spoiled_3 : Loc (defScope s_l_spoiled) "_law_at" := by unfold L2.Loc; decide +kernel
theorem ok_l_spoiled {f : Addr} {fd : FuncData} (F : FunD K "_law_spoiled" "_law_spoiled" s_l_spoiled f fd) (T : Txt P w K mg C_NoRule) (G_l_word_spoiled : FO P w K mg base 3 "_law_word_spoiled" ["_law_words_here", "_law_number"] [] (spWSp K)) (G_l_long : FO P w K mg base 2 "_law_long" ["_law_words_here", "_law_number"] [] (spList K BadPs)) (G_l_few : FO P w K mg base 3 "_law_few" ["_law_words_here", "_law_number"] [] (spList K BadPs)) : FnOk P w K mg base CX0 4 f fd ["_law_words_here", "_law_way", "_law_number"] (spSpoiled K) := by
  refine F.ok sc_l_spoiled (fun vs H Q E h => ?_) (fun cdv A outer s H vs Q E hr h => ?_)
  · (obtain ⟨a, w, ps, way, n, rfl, _⟩ := h; rfl)
  · have hu1 := hu_of hr
    have hu := hr.units
    refine ⟨_, QSs.out (qss_cons (qs_if (qt_cmpR q_lt (v_l_spoiled_1 rfl rfl) qe_int) (qss_one (qs_ret (qe_mB (K := K) PySem.F.plainAttrs_str PySem.F.slot_str_join PySem.F.type_str_join (q_join (K := K)) qe_str (qa_c (qe_callF G_l_word_spoiled (hr.mono (by decide)) (qa_c (v_l_spoiled_0 rfl rfl) (qa_c (v_l_spoiled_2 rfl rfl) qa_nil))) qa_nil)))) qss_nil)
      (qss_cons (qs_if (qt_cmpR q_lt (v_l_spoiled_1 rfl rfl) qe_int) (qss_cons (qs_set (n := 3) sc_l_spoiled.nd rfl l_l_spoiled_3 (qe_op q_mod (v_l_spoiled_2 rfl rfl) (qe_op (q_add (K := K)) (qe_cB (q_len (K := K)) T.b_len bt_len (qa_c (v_l_spoiled_0 rfl rfl) qa_nil)) qe_int)))
      (qss_one (qs_ret (qe_mB (K := K) PySem.F.plainAttrs_str PySem.F.slot_str_join PySem.F.type_str_join (q_join (K := K)) qe_str (qa_c (qe_op (q_add (K := K)) (qe_op (q_add (K := K)) (qe_slice (K := K) (v_l_spoiled_0 rfl rfl) qo_none (qo_some (v_l_spoiled_3 rfl rfl))) (qe_lst (qa_c qe_str qa_nil))) (qe_slice (K := K) (v_l_spoiled_0 rfl rfl) (qo_some (v_l_spoiled_3 rfl rfl)) qo_none)) qa_nil))))) qss_nil)
      (qss_cons (qs_if (qt_cmpR q_lt (v_l_spoiled_1 rfl rfl) qe_int) (qss_one (qs_ret (qe_mB (K := K) PySem.F.plainAttrs_str PySem.F.slot_str_join PySem.F.type_str_join (q_join (K := K)) qe_str (qa_c (qe_callF G_l_long (hr.mono (by decide)) (qa_c (v_l_spoiled_0 rfl rfl) (qa_c (v_l_spoiled_2 rfl rfl) qa_nil))) qa_nil)))) qss_nil)
      (qss_cons (qs_if (qt_cmpR (q_eq (K := K) hu) (v_l_spoiled_1 rfl rfl) qe_int) (qss_one (qs_ret (qe_mB (K := K) PySem.F.plainAttrs_str PySem.F.slot_str_join PySem.F.type_str_join (q_join (K := K)) qe_str (qa_c (qe_callF G_l_few (hr.mono (by decide)) (qa_c (v_l_spoiled_0 rfl rfl) (qa_c (v_l_spoiled_2 rfl rfl) qa_nil))) qa_nil)))) qss_nil)
      (qss_cons (qs_if (qt_cmpR (q_eq (K := K) hu) (v_l_spoiled_1 rfl rfl) qe_int) (qss_one (qs_ret (qe_mB (K := K) PySem.F.plainAttrs_str PySem.F.slot_str_join PySem.F.type_str_join (q_join (K := K)) qe_str (qa_c (qe_op (q_add (K := K)) (qe_lst (qa_c (qe_m0 (K := K) PySem.F.plainAttrs_str PySem.F.slot_str_upper PySem.F.type_str_upper q_upper (qe_ix (K := K) (v_l_spoiled_0 rfl rfl) qe_int)) qa_nil)) (qe_slice (K := K) (v_l_spoiled_0 rfl rfl) (qo_some qe_int) qo_none)) qa_nil)))) qss_nil)
      (qss_cons (qs_if (qt_cmpR (q_eq (K := K) hu) (v_l_spoiled_1 rfl rfl) qe_int) (qss_one (qs_ret (qe_ix (K := K) (qe_lst (qa_c qe_str (qa_c qe_str qa_nil))) (qe_op q_mod (v_l_spoiled_2 rfl rfl) qe_int)))) qss_nil)
      (qss_one (qs_ret (qe_ix (K := K) (qe_lst (qa_c qe_non (qa_c qe_bl (qa_c qe_int (qa_c qe_int (qa_c (qe_tup (qa_c qe_str (qa_c qe_str qa_nil))) (qa_c (qe_lst (qa_c qe_str qa_nil)) (qa_c qe_dnewK qa_nil)))))))) (qe_op q_mod (v_l_spoiled_2 rfl rfl) qe_int)))))))))), ?_⟩
    obtain ⟨a, w, ps, way, n, rfl, ha, hW, hw0, hw1, q⟩ := h
    have psl : ps.length ≤ 60 := hW.2.1
    have hwf := word_facts hW.1
    have hall := hW.all
    have ecut : cutV ((w :: ps).map V.str) (some 1) none = ps.map V.str := by
      rw [List.map_cons]
      exact cutV_tail _ _
    have two20 : ∀ u : Str, 32 ∉ u.cps.toList ∧ u.length ≤ 20 → ∀ z ∈ u :: ps, 32 ∉ z.cps.toList ∧ z.length ≤ 20 := fun u hu z hz => by
      rcases List.mem_cons.mp hz with r | hz
      · rw [r]; exact hu
      · exact ⟨(hall z (List.mem_cons_of_mem _ hz)).1, by have := (hall z (List.mem_cons_of_mem _ hz)).2; omega⟩
    have jn : ∀ (l : Addr) (H1 : Hp) (zs : List Str), H1 l = some (.lst (zs.map V.str)) → zs.length ≤ 100 → (∀ z ∈ zs, z.length ≤ 20) → Q (.str (Str.join " " zs)) H1 → rJoin K (V.str (Str.ofString " ")) [V.ref l] H1 Q := fun l H1 zs h1 h2 h3 h4 => ⟨" ", l, zs, rfl, rfl, .inl (.of h1), by decide, by have := sum_le h3; omega, h4⟩
    have lst : ∀ (l : Addr) (ps' : List Str) (H1 : Hp), Same H H1 → H1 l = some (.lst ((w :: ps').map V.str)) → BadPs w ps ps' → rJoin K (V.str (Str.ofString " ")) [V.ref l] H1 Q := fun l ps' H1 S1 hl hb => by
      have h20 : ∀ z ∈ w :: ps', z.length ≤ 20 := fun z hz => by
        rcases List.mem_cons.mp hz with rfl | hz
        · omega
        · have := (hb.2.1 z hz).1; omega
      refine jn l H1 (w :: ps') hl (by rw [List.length_cons]; have := hb.1; omega) h20 (q _ H1 S1 (bad_of (reads_join (fun z hz => ?_) (by have := hb.1; omega) h20) hb.2.2))
      rcases List.mem_cons.mp hz with rfl | hz
      · exact hwf.1
      · exact (hb.2.1 z hz).2
    walk_at "rd"
    refine iteD (fun _ => ⟨a, w, ps, n, rfl, ha, hW, fun l w' H1 S1 hl hc => ?_⟩) fun _ => iteD (fun _ => ⟨(w :: ps).length, .inl ⟨_, .of ha, by rw [List.length_map]⟩, by omega, ?_⟩) fun _ => iteD (fun _ => ⟨a, w, ps, n, rfl, ha, hW, lst⟩) fun _ => iteD (fun _ => ⟨a, w, ps, n, rfl, ha, hW, lst⟩) fun _ => iteD (fun _ => ⟨_, .inl (.of ha), V.str w, atI_zero _ _, ?_⟩) fun _ => iteD (fun _ => ⟨by decide, fun p np => ⟨_, .inl (.of upd_same), ?_⟩⟩) fun _ => ⟨by decide, fun p1 n1 => ⟨by decide, fun p2 n2 => fun p3 n3 => ⟨by decide, fun p4 n4 => ⟨_, .inl (.of upd_same), ?_⟩⟩⟩⟩
    · rcases hc with ⟨i, hi, e⟩ | ⟨i, c, hi, hne, hcc, e⟩
      · have hl7 : w'.length ≤ 20 := by rw [← lenL, e, List.length_append, List.length_take, List.length_drop, lenL]; omega
        have hb : 32 ∉ w'.cps.toList := fun h => by
          rw [e] at h
          rcases List.mem_append.mp h with h | h
          · exact hwf.1 (List.mem_of_mem_take h)
          · exact hwf.1 (List.mem_of_mem_drop h)
        have hno : w' ∉ W9 := fun h => w9_del _ (inL hW.1) i (List.mem_range.mpr (by omega)) (by rw [lenL]; exact hi) _ (inL h) e.symm
        have h20 := two20 w' ⟨hb, hl7⟩
        exact jn l H1 (w' :: ps) hl (by rw [List.length_cons]; omega) (fun z hz => (h20 z hz).2) (q _ H1 S1 (bad_of (reads_join (fun z hz => (h20 z hz).1) (by omega) fun z hz => (h20 z hz).2) (ruleB_noword hno)))
      · have hll : w'.cps.toList.length = w.cps.toList.length := by
          rw [e, List.length_append, List.length_take, List.length_cons, List.length_drop, lenL]
          omega
        have hl7 : w'.length ≤ 20 := by rw [← lenL, hll, lenL]; omega
        by_cases hc32 : c = 32
        · subst hc32
          have jb := join_blank (w' := w') (u := ⟨(w.cps.toList.take i).toArray⟩) (v := ⟨(w.cps.toList.drop (i + 1)).toArray⟩) (ps := ps) e
          have hno : (⟨(w.cps.toList.take i).toArray⟩ : Str) ∉ W9 := fun h => w9_take _ (inL hW.1) i (List.mem_range.mpr (by omega)) (by rw [lenL]; exact hi) _ (inL h) rfl
          have hu : 32 ∉ (⟨(w.cps.toList.take i).toArray⟩ : Str).cps.toList ∧ (⟨(w.cps.toList.take i).toArray⟩ : Str).length ≤ 20 := ⟨fun h => hwf.1 (List.mem_of_mem_take h), by rw [← lenL]; show (w.cps.toList.take i).length ≤ 20; rw [List.length_take, lenL]; omega⟩
          have hv : 32 ∉ (⟨(w.cps.toList.drop (i + 1)).toArray⟩ : Str).cps.toList ∧ (⟨(w.cps.toList.drop (i + 1)).toArray⟩ : Str).length ≤ 20 := ⟨fun h => hwf.1 (List.mem_of_mem_drop h), by rw [← lenL]; show (w.cps.toList.drop (i + 1)).length ≤ 20; rw [List.length_drop, lenL]; omega⟩
          have h20 : ∀ z ∈ (⟨(w.cps.toList.take i).toArray⟩ : Str) :: (⟨(w.cps.toList.drop (i + 1)).toArray⟩ : Str) :: ps, 32 ∉ z.cps.toList ∧ z.length ≤ 20 := fun z hz => by
            rcases List.mem_cons.mp hz with r | hz
            · rw [r]; exact hu
            · exact two20 _ hv z hz
          refine jn l H1 (w' :: ps) hl (by rw [List.length_cons]; omega) (fun z hz => ?_) (q _ H1 S1 ?_)
          · rcases List.mem_cons.mp hz with r | hz
            · rw [r]; exact hl7
            · have := (hall z (List.mem_cons_of_mem _ hz)).2; omega
          · rw [jb]
            exact bad_of (reads_join (fun z hz => (h20 z hz).1) (by rw [List.length_cons]; omega) fun z hz => (h20 z hz).2) (ruleB_noword hno)
        · have hb : 32 ∉ w'.cps.toList := fun h => by
            rw [e] at h
            rcases List.mem_append.mp h with h | h
            · exact hwf.1 (List.mem_of_mem_take h)
            · rcases List.mem_cons.mp h with h | h
              · exact hc32 h.symm
              · exact hwf.1 (List.mem_of_mem_drop h)
          have lti : (w.cps.toList.take i).length = i := by rw [List.length_take, lenL]; omega
          have hno : w' ∉ W9 := fun h => by
            have h1 := w9_set _ (inL hW.1) i (List.mem_range.mpr (by omega)) (by rw [lenL]; exact hi) _ (inL h) (by rw [e, List.take_left' lti]) (by
              rw [e, List.drop_append, List.drop_of_length_le (by omega), lti, show i + 1 - i = 1 by omega, List.nil_append]
              rfl) hll
            rw [e] at h1
            have h2 := congrArg (fun l : List Nat => l[i]?) h1
            rw [List.getElem?_append_right (by omega), lti, Nat.sub_self] at h2
            exact hne h2.symm
          have h20 := two20 w' ⟨hb, hl7⟩
          exact jn l H1 (w' :: ps) hl (by rw [List.length_cons]; omega) (fun z hz => (h20 z hz).2) (q _ H1 S1 (bad_of (reads_join (fun z hz => (h20 z hz).1) (by omega) fun z hz => (h20 z hz).2) (ruleB_noword hno)))
    · obtain ⟨t, ht, ht1⟩ : ∃ t : Nat, n % (((w :: ps).length : Int) + 1) = (t : Int) ∧ t ≤ (w :: ps).length := ⟨(n % (((w :: ps).length : Int) + 1)).toNat, by
        have := Int.emod_nonneg n (show ((w :: ps).length : Int) + 1 ≠ 0 by omega)
        omega, by
        have := Int.emod_lt_of_pos n (show 0 < ((w :: ps).length : Int) + 1 by omega)
        omega⟩
      rw [ht]
      refine rSlR.l (.of ha) fun p1 n1 => ?_
      rw [cutV_to, ← List.map_take]
      refine ⟨by decide, fun p2 n2 => ?_⟩
      have hlt : (((w :: ps).take t).map V.str).length ≤ 61 := by rw [List.length_map, List.length_take, List.length_cons]; omega
      refine rAddR.l (upd_fresh upd_same n2) upd_same (small100' (by show _ + 1 ≤ _; omega)) fun p3 n3 => rSlR.l (.of (upd_fresh (upd_fresh (upd_fresh ha n1) n2) n3)) fun p4 n4 => ?_
      rw [cutV_from, ← List.map_drop]
      refine rAddR.l (upd_fresh upd_same n4) upd_same (small100' (by simp only [List.length_append, List.length_map, List.length_drop, List.length_take, List.length_cons, List.length_nil]; omega)) fun p5 n5 => ?_
      have hem : 32 ∉ (Str.ofString "").cps.toList ∧ (Str.ofString "").length ≤ 20 := by decide +kernel
      have h20 : ∀ z ∈ (w :: ps).take t ++ [Str.ofString ""] ++ (w :: ps).drop t, 32 ∉ z.cps.toList ∧ z.length ≤ 20 := fun z hz => by
        have hp : ∀ z ∈ w :: ps, 32 ∉ z.cps.toList ∧ z.length ≤ 20 := fun z hz => ⟨(hall z hz).1, by have := (hall z hz).2; omega⟩
        rcases List.mem_append.mp hz with hz | hz
        · rcases List.mem_append.mp hz with hz | hz
          · exact hp z (List.mem_of_mem_take hz)
          · rw [List.mem_singleton.mp hz]; exact hem
        · exact hp z (List.mem_of_mem_drop hz)
      refine jn p5 _ ((w :: ps).take t ++ [Str.ofString ""] ++ (w :: ps).drop t) (by rw [upd_same, List.map_append, List.map_append]; rfl) (by simp only [List.length_append, List.length_take, List.length_drop, List.length_cons, List.length_nil]; omega) (fun z hz => (h20 z hz).2) (q _ _ (fun b o h => upd_fresh (upd_fresh (upd_fresh (upd_fresh (upd_fresh h n1) n2) n3) n4) n5) ?_)
      cases t with
      | zero => exact bad_of (w := Str.ofString "") (ps := w :: ps) (reads_join (w := Str.ofString "") (ps := w :: ps) (fun z hz => (h20 z hz).1) (by rw [List.length_cons]; omega) fun z hz => (h20 z hz).2) (ruleB_noword (by decide +kernel))
      | succ t => exact bad_of (w := w) (ps := ps.take t ++ [Str.ofString ""] ++ ps.drop t) (reads_join (w := w) (ps := ps.take t ++ [Str.ofString ""] ++ ps.drop t) (fun z hz => (h20 z hz).1) (by simp only [List.length_append, List.length_take, List.length_drop, List.length_cons, List.length_nil]; omega) fun z hz => (h20 z hz).2) (ruleB_piece (z := Str.ofString "") (by simp) (by decide +kernel))
    · have uf := upper_facts hW.1
      have h20 := two20 (Txt.upper w) ⟨uf.2.2.1, by omega⟩
      walk_at "rd"
      refine ⟨w, rfl, rfl, uf.2.2.2, by decide, fun p np => rSlR.l (.of (upd_fresh ha np)) fun l nl => ?_⟩
      rw [ecut]
      exact rAddR.l (upd_fresh upd_same nl) upd_same (by rw [List.length_map]; exact small100' (by show 1 + _ ≤ _; omega)) fun l2 nl2 => jn l2 _ (Txt.upper w :: ps) upd_same (by rw [List.length_cons]; omega) (fun z hz => (h20 z hz).2) (q _ _ (fun b o h => upd_fresh (upd_fresh (upd_fresh h np) nl) nl2) (bad_of (reads_join (fun z hz => (h20 z hz).1) (by omega) fun z hz => (h20 z hz).2) (ruleB_noword uf.1)))
    · have h2 : n % 2 = 0 ∨ n % 2 = 1 := by omega
      rcases h2 with h2 | h2
      · rw [h2]
        exact ⟨_, rfl, q _ _ (Same.new np) (bad_of (w := Str.ofString "") (ps := []) (reads_join (w := Str.ofString "") (ps := []) (by decide +kernel) (by decide) (by decide +kernel)) (ruleB_noword (by decide +kernel)))⟩
      · rw [h2]
        refine ⟨_, rfl, q _ _ (Same.new np) ?_⟩
        rw [show Str.ofString " " = Str.join " " [Str.ofString "", Str.ofString ""] by decide +kernel]
        exact bad_of (reads_join (by decide +kernel) (by decide) (by decide +kernel)) (ruleB_noword (by decide +kernel))
    · obtain ⟨x, hx, hm⟩ := atI_in (xs := [V.non, V.bl true, V.int 0, V.int 7, V.ref p1, V.ref p2, V.ref p3]) (i := n % 7) (by omega) (by simp only [List.length_cons, List.length_nil]; omega)
      refine ⟨x, hx, q _ _ (fun b o h => upd_fresh (upd_fresh (upd_fresh (upd_fresh h n1) n2) n3) n4) ?_⟩
      simp only [List.mem_cons, List.not_mem_nil, or_false] at hm
      rcases hm with rfl | rfl | rfl | rfl | rfl | rfl | rfl
      · exact ⟨⟨_, rfl⟩, fun z e => by cases e⟩
      · exact ⟨⟨_, rfl⟩, fun z e => by cases e⟩
      · exact ⟨⟨_, rfl⟩, fun z e => by cases e⟩
      · exact ⟨⟨_, rfl⟩, fun z e => by cases e⟩
      · exact ⟨⟨_, tyS_tup (upd_fresh (upd_fresh (upd_fresh upd_same n2) n3) n4)⟩, fun z e => by cases e⟩
      · exact ⟨⟨_, tyS_lst (upd_fresh (upd_fresh upd_same n3) n4)⟩, fun z e => by cases e⟩
      · exact ⟨⟨_, tyS_dK (upd_fresh upd_same n4)⟩, fun z e => by cases e⟩
theorem sc_l_only_no_rule : FnScope ["_law_line", "_law_kinds", "e"] ["_law_line"] (defScope s_l_only_no_rule) := ⟨rfl, rfl, rfl, by decide +kernel, rfl, by decide +kernel, by decide +kernel⟩
theorem v_l_only_no_rule_0 {X : Cx} {pos : Pos} (hN : X.N = (["_law_line", "_law_kinds", "e"] : List Str)) (hs : X.env.scope = defScope s_l_only_no_rule) : QE X (.Name "_law_line" pos) (tVar 0) := qvd hN hs (by decide +kernel)
theorem v_l_only_no_rule_1 {X : Cx} {pos : Pos} (hN : X.N = (["_law_line", "_law_kinds", "e"] : List Str)) (hs : X.env.scope = defScope s_l_only_no_rule) : QE X (.Name "_law_kinds" pos) (tVar 1) := qvd hN hs (by decide +kernel)
theorem v_l_only_no_rule_2 {X : Cx} {pos : Pos} (hN : X.N = (["_law_line", "_law_kinds", "e"] : List Str)) (hs : X.env.scope = defScope s_l_only_no_rule) : QE X (.Name "e" pos) (tVar 2) := qvd hN hs (by decide +kernel)
theorem l_l_only_no_rule_1 : Loc (defScope s_l_only_no_rule) "_law_kinds" := by unfold L2.Loc; decide +kernel
theorem k_l_only_no_rule_2 : (defScope s_l_only_no_rule).names.lookup ("e" : Str) = some .local := by decide +kernel
theorem ok_l_only_no_rule {f : Addr} {fd : FuncData} (F : FunD K "_law_only_no_rule" "_law_only_no_rule" s_l_only_no_rule f fd) (T : Txt P w K mg C_NoRule) (G_read_rule : FOX P w K mg base 4 "read_rule" ["line"] [] (spRead18 C_NoRule)) : FnOk P w K mg base CX0 5 f fd ["_law_line"] spOnly18 := by
  refine F.ok sc_l_only_no_rule (fun vs H Q E h => ?_) (fun cdv A outer s H vs Q E hr h => ?_)
  · (obtain ⟨x, rfl, _⟩ := h; rfl)
  · have hu1 := hu_of hr
    have hu := hr.units
    obtain ⟨a_Clash, m_Clash, M_Clash⟩ := T.x_Clash
    obtain ⟨a_NoDeed, m_NoDeed, M_NoDeed⟩ := T.x_NoDeed
    obtain ⟨a_NoLetter, m_NoLetter, M_NoLetter⟩ := T.x_NoLetter
    obtain ⟨a_NoName, m_NoName, M_NoName⟩ := T.x_NoName
    obtain ⟨a_NoRule, m_NoRule, M_NoRule⟩ := T.x_NoRule
    obtain ⟨a_NoSign, m_NoSign, M_NoSign⟩ := T.x_NoSign
    obtain ⟨a_NoText, m_NoText, M_NoText⟩ := T.x_NoText
    obtain ⟨a_NotPlain, m_NotPlain, M_NotPlain⟩ := T.x_NotPlain
    obtain ⟨a_Ring, m_Ring, M_Ring⟩ := T.x_Ring
    obtain ⟨a_Round, m_Round, M_Round⟩ := T.x_Round
    obtain ⟨a_Twice, m_Twice, M_Twice⟩ := T.x_Twice
    obtain ⟨d_LoreError, md_LoreError, CC_LoreError, mr_LoreError⟩ := T.c_LoreError
    refine ⟨_, QSs.out (qss_cons (qs_set (n := 1) sc_l_only_no_rule.nd rfl l_l_only_no_rule_1 (qe_tup (qa_c qe_bl (qa_c qe_bl (qa_c qe_bl qa_nil)))))
      (qss_cons (qs_tryE G_read_rule (hr.mono (by decide)) (fun _ => (qa_c (v_l_only_no_rule_0 rfl rfl) qa_nil)) md_LoreError CC_LoreError sc_l_only_no_rule.nd (i := 2) rfl k_l_only_no_rule_2 (fun _ _ => (qss_one (qs_set (n := 1) sc_l_only_no_rule.nd rfl l_l_only_no_rule_1 (qe_tup (qa_c (qe_cB (q_isX T.cn T.ct (K := K)) T.b_isinstance bt_isinstance (qa_c (v_l_only_no_rule_2 rfl rfl) (qa_c (qe_globR m_NoRule) qa_nil))) (qa_c (qe_cB (q_isX T.cn T.ct (K := K)) T.b_isinstance bt_isinstance (qa_c (v_l_only_no_rule_2 rfl rfl) (qa_c (qe_ty T.b_ValueError bt_ValueError) qa_nil))) (qa_c (qe_cB (q_isXT T.cn T.ct (K := K)) T.b_isinstance bt_isinstance (qa_c (v_l_only_no_rule_2 rfl rfl) (qa_c (qe_tup (qa_c (qe_globR m_Clash) (qa_c (qe_globR m_NoDeed) (qa_c (qe_globR m_NoLetter) (qa_c (qe_globR m_NoName) (qa_c (qe_globR m_NoSign) (qa_c (qe_globR m_NotPlain) (qa_c (qe_globR m_NoText) (qa_c (qe_globR m_Ring) (qa_c (qe_globR m_Round) (qa_c (qe_globR m_Twice) qa_nil))))))))))) qa_nil))) qa_nil))))))) (K := K))
      (qss_one (qs_ret (qe_cmpR (q_eq (K := K) hu) (v_l_only_no_rule_1 rfl rfl) (qe_tup (qa_c qe_bl (qa_c qe_bl (qa_c qe_bl qa_nil))))))))), ?_⟩
    obtain ⟨x, rfl, hb, q⟩ := h
    obtain ⟨fN, MN⟩ := T.er_NoRule
    walk_at "rd"
    refine ⟨by decide, fun p np => ?_⟩
    obtain ⟨T0, hT0⟩ := hb.1
    have S0 : Same H (upd H p (HO.tup [V.bl false, V.bl false, V.bl true])) := Same.new np
    generalize upd H p (HO.tup [V.bl false, V.bl false, V.bl true]) = H0 at S0
    refine ⟨x, T0, rfl, tyS_same S0 hT0, fun z e => ?_, fun _ dx H1 S1 hdx => ⟨C_NoRule, dx, rfl, rfl, mr_LoreError, fun y ny => ?_⟩⟩
    · obtain ⟨w', ps, hr, hf⟩ := hb.2 z e
      refine ⟨w', ps, hr, fun ht => absurd (hf.symm.trans ht) (by decide), fun _ dx H1 S1 hdx => ⟨C_NoRule, dx, rfl, rfl, mr_LoreError, fun y ny => ?_⟩⟩
      walk_at "rd"
      refine ⟨y, C_NoRule, dx, fN, _, .ref a_NoRule, .ref a_NoRule, true, rfl, upd_same, upd_fresh hdx ny, MN, rfl, M_NoRule, ⟨y, C_NoRule, dx, fN, _, .ty "ValueError", .type "ValueError", true, rfl, upd_same, upd_fresh hdx ny, MN, rfl, T.y_ValueError, ⟨by decide, fun t nt => ?_⟩⟩⟩
      refine ⟨y, C_NoRule, dx, fN, _, t, _, _, false, rfl, upd_fresh upd_same nt, upd_fresh (upd_fresh hdx ny) nt, MN, .of upd_same, rfl, kitAny_no ?_, ⟨by decide, fun p1 n1 => ⟨by decide, fun p2 n2 => ?_⟩⟩⟩
      · intro c hc
        simp only [List.mem_cons, List.not_mem_nil, or_false] at hc
        rcases hc with rfl | rfl | rfl | rfl | rfl | rfl | rfl | rfl | rfl | rfl <;> assumption
      · refine ⟨_, .tup (.of (upd_fresh upd_same n2)) (.cons (.bl _) (.cons (.bl _) (.cons (.bl _) .nil))), _, .tup (.of upd_same) (.cons (.bl _) (.cons (.bl _) (.cons (.bl _) .nil))), by simp [PyData.depth, PyData.depthAll], ?_⟩
        rw [show (PyData.tuple [PyData.bool true, PyData.bool true, PyData.bool false]).eqv (PyData.tuple [PyData.bool true, PyData.bool true, PyData.bool false]) = true by simp [PyData.eqv, PyData.eqvAll]]
        exact q _ (fun b o h => upd_fresh (upd_fresh (upd_fresh (upd_fresh (S1 b o (S0 b o h)) ny) nt) n1) n2)
    · walk_at "rd"
      refine ⟨y, C_NoRule, dx, fN, _, .ref a_NoRule, .ref a_NoRule, true, rfl, upd_same, upd_fresh hdx ny, MN, rfl, M_NoRule, ⟨y, C_NoRule, dx, fN, _, .ty "ValueError", .type "ValueError", true, rfl, upd_same, upd_fresh hdx ny, MN, rfl, T.y_ValueError, ⟨by decide, fun t nt => ?_⟩⟩⟩
      refine ⟨y, C_NoRule, dx, fN, _, t, _, _, false, rfl, upd_fresh upd_same nt, upd_fresh (upd_fresh hdx ny) nt, MN, .of upd_same, rfl, kitAny_no ?_, ⟨by decide, fun p1 n1 => ⟨by decide, fun p2 n2 => ?_⟩⟩⟩
      · intro c hc
        simp only [List.mem_cons, List.not_mem_nil, or_false] at hc
        rcases hc with rfl | rfl | rfl | rfl | rfl | rfl | rfl | rfl | rfl | rfl <;> assumption
      · refine ⟨_, .tup (.of (upd_fresh upd_same n2)) (.cons (.bl _) (.cons (.bl _) (.cons (.bl _) .nil))), _, .tup (.of upd_same) (.cons (.bl _) (.cons (.bl _) (.cons (.bl _) .nil))), by simp [PyData.depth, PyData.depthAll], ?_⟩
        rw [show (PyData.tuple [PyData.bool true, PyData.bool true, PyData.bool false]).eqv (PyData.tuple [PyData.bool true, PyData.bool true, PyData.bool false]) = true by simp [PyData.eqv, PyData.eqvAll]]
        exact q _ (fun b o h => upd_fresh (upd_fresh (upd_fresh (upd_fresh (S1 b o (S0 b o h)) ny) nt) n1) n2)
theorem sc_law : FnScope ["_law_script", "_law_words_here", "_law_number", "_law_line", "_law_at", "e"] ["_law_script"] (defScope s_law) := ⟨rfl, rfl, rfl, by decide +kernel, rfl, by decide +kernel, by decide +kernel⟩
theorem v_law_0 {X : Cx} {pos : Pos} (hN : X.N = (["_law_script", "_law_words_here", "_law_number", "_law_line", "_law_at", "e"] : List Str)) (hs : X.env.scope = defScope s_law) : QE X (.Name "_law_script" pos) (tVar 0) := qvd hN hs (by decide +kernel)
theorem v_law_1 {X : Cx} {pos : Pos} (hN : X.N = (["_law_script", "_law_words_here", "_law_number", "_law_line", "_law_at", "e"] : List Str)) (hs : X.env.scope = defScope s_law) : QE X (.Name "_law_words_here" pos) (tVar 1) := qvd hN hs (by decide +kernel)
theorem v_law_2 {X : Cx} {pos : Pos} (hN : X.N = (["_law_script", "_law_words_here", "_law_number", "_law_line", "_law_at", "e"] : List Str)) (hs : X.env.scope = defScope s_law) : QE X (.Name "_law_number" pos) (tVar 2) := qvd hN hs (by decide +kernel)
theorem v_law_3 {X : Cx} {pos : Pos} (hN : X.N = (["_law_script", "_law_words_here", "_law_number", "_law_line", "_law_at", "e"] : List Str)) (hs : X.env.scope = defScope s_law) : QE X (.Name "_law_line" pos) (tVar 3) := qvd hN hs (by decide +kernel)
theorem v_law_4 {X : Cx} {pos : Pos} (hN : X.N = (["_law_script", "_law_words_here", "_law_number", "_law_line", "_law_at", "e"] : List Str)) (hs : X.env.scope = defScope s_law) : QE X (.Name "_law_at" pos) (tVar 4) := qvd hN hs (by decide +kernel)
theorem v_law_5 {X : Cx} {pos : Pos} (hN : X.N = (["_law_script", "_law_words_here", "_law_number", "_law_line", "_law_at", "e"] : List Str)) (hs : X.env.scope = defScope s_law) : QE X (.Name "e" pos) (tVar 5) := qvd hN hs (by decide +kernel)
theorem l_law_1 : Loc (defScope s_law) "_law_words_here" := by unfold L2.Loc; decide +kernel
theorem l_law_2 : Loc (defScope s_law) "_law_number" := by unfold L2.Loc; decide +kernel
theorem l_law_3 : Loc (defScope s_law) "_law_line" := by unfold L2.Loc; decide +kernel
theorem l_law_4 : Loc (defScope s_law) "_law_at" := by unfold L2.Loc; decide +kernel
theorem k_law_5 : (defScope s_law).names.lookup ("e" : Str) = some .local := by decide +kernel
theorem ok_law {f : Addr} {fd : FuncData} (F : FunD K "law" "law" s_law f fd) (T : Txt P w K mg C_NoRule) (G_read_rule : FOX P w K mg base 4 "read_rule" ["line"] [] (spRead18 C_NoRule)) (G_l_cell_at : FO P w K mg base 1 "_law_cell_at" ["_law_script", "_law_k"] [] (spCellAt K)) (G_l_words : FO P w K mg base 3 "_law_words" ["_law_script"] [] (spWords K)) (G_l_spoiled : FO P w K mg base 4 "_law_spoiled" ["_law_words_here", "_law_way", "_law_number"] [] (spSpoiled K)) (G_l_only_no_rule : FO P w K mg base 5 "_law_only_no_rule" ["_law_line"] [] spOnly18) : FnOk P w K mg base CX0 6 f fd ["_law_script"] (spLaw K) := by
  refine F.ok sc_law (fun vs H Q E h => ?_) (fun cdv A outer s H vs Q E hr h => ?_)
  · (obtain ⟨a, ns, rfl, _⟩ := h; rfl)
  · have hu1 := hu_of hr
    have hu := hr.units
    obtain ⟨d_NoRule, md_NoRule, CC_NoRule, mr_NoRule⟩ := T.c_NoRule
    refine ⟨_, QSs.out (qss_cons (qs_set (n := 1) sc_law.nd rfl l_law_1 (qe_callF G_l_words (hr.mono (by decide)) (qa_c (v_law_0 rfl rfl) qa_nil)))
      (qss_cons (qs_set (n := 2) sc_law.nd rfl l_law_2 (qe_op q_mod (qe_op q_mul (qe_callF G_l_cell_at (hr.mono (by decide)) (qa_c (v_law_0 rfl rfl) (qa_c qe_int qa_nil))) qe_int) qe_int))
      (qss_cons (qs_set (n := 3) sc_law.nd rfl l_law_3 (qe_callF G_l_spoiled (hr.mono (by decide)) (qa_c (v_law_1 rfl rfl) (qa_c (qe_op q_mod (qe_callF G_l_cell_at (hr.mono (by decide)) (qa_c (v_law_0 rfl rfl) (qa_c qe_int qa_nil))) qe_int) (qa_c (v_law_2 rfl rfl) qa_nil)))))
      (qss_cons (qs_set (n := 4) sc_law.nd rfl l_law_4 qe_non)
      (qss_cons (qs_tryE G_read_rule (hr.mono (by decide)) (fun _ => (qa_c (v_law_3 rfl rfl) qa_nil)) md_NoRule CC_NoRule sc_law.nd (i := 5) rfl k_law_5 (fun _ _ => (qss_one (qs_set (n := 4) sc_law.nd rfl l_law_4 (qe_xget (v_law_5 rfl rfl) (K := K))))) (K := K))
      (qss_cons (qs_if (QW.pt (qw_or (qt_not (qt_tru (K := K) (qe_cB q_isi T.b_isinstance bt_isinstance (qa_c (v_law_4 rfl rfl) (qa_c (qe_ty T.b_int bt_int) qa_nil))))) (qw_or (qt_tru (K := K) (qe_cB q_isi T.b_isinstance bt_isinstance (qa_c (v_law_4 rfl rfl) (qa_c (qe_ty T.b_bool bt_bool) qa_nil)))) (qw_or1 (qt_cmpR (q_ne (K := K) hu) (v_law_4 rfl rfl) qe_int))))) (qss_one (qs_ret qe_bl)) qss_nil)
      (qss_one (qs_ret (qe_and (qe_callF G_l_only_no_rule (hr.mono (by decide)) (qa_c (v_law_3 rfl rfl) qa_nil)) (qe_one (qe_cmpR (q_eq (K := K) hu) (qe_callX G_read_rule (hr.mono (by decide)) pass_none (qa_c (qe_mB (K := K) PySem.F.plainAttrs_str PySem.F.slot_str_join PySem.F.type_str_join (q_join (K := K)) qe_str (qa_c (v_law_1 rfl rfl) qa_nil)) qa_nil)) (qe_cT (q_tuple (K := K)) T.b_tuple bt_tuple (qa_c (v_law_1 rfl rfl) qa_nil))))))))))))), ?_⟩
    obtain ⟨a, ns, rfl, hS, hlen, q⟩ := h
    obtain ⟨fN, MN⟩ := T.er_NoRule
    walk_at "rd"
    refine ⟨a, ns, rfl, hS, hlen, fun wl w' ps H1 S1 hwl hW => ⟨a, ns, 4, rfl, S1.seq hS, by decide, fun c => ?_⟩⟩
    walk_at "rd"
    refine ⟨.inr ⟨by decide, by decide⟩, a, ns, 3, rfl, S1.seq hS, by decide, fun c3 => ⟨c3, rfl, wl, w', ps, _, _, rfl, hwl, hW, by omega, by omega, fun x H2 S2 hb => ?_⟩⟩
    obtain ⟨T0, hT0⟩ := hb.1
    have hwl2 := S2 _ _ hwl
    have psl : ps.length ≤ 60 := hW.2.1
    have h7 : ∀ z ∈ w' :: ps, z.length ≤ 7 := fun z hz => (hW.all z hz).2
    have hok : ∀ z ∈ w' :: ps, PyData.strOk z = true := fun z hz => by
      rcases List.mem_cons.mp hz with rfl | hz
      · exact word_ok hW.1
      · exact (pieceB_ok (hW.2.2.1 z hz)).1
    refine ⟨x, T0, rfl, hT0, fun z e => ?_, fun _ dx H3 S3 hdx => ⟨C_NoRule, dx, rfl, rfl, mr_NoRule, fun y ny => ?_⟩⟩
    · obtain ⟨w2, ps2, hr, hf⟩ := hb.2 z e
      refine ⟨w2, ps2, hr, fun ht => absurd (hf.symm.trans ht) (by decide), fun _ dx H3 S3 hdx => ⟨C_NoRule, dx, rfl, rfl, mr_NoRule, fun y ny => ?_⟩⟩
      clear hr hf
      walk_at "rd"
      refine ⟨C_NoRule, dx, upd_same, fN, _, upd_fresh hdx ny, MN, T.na_NoRule, V.int 0, rfl, "int", rfl, rfl, iteF ⟨"int", rfl, rfl, iteF ?_⟩⟩
      walk_at "rd"
      have S4' : Same H2 (upd H3 y (xc y C_NoRule dx)) := S3.trans (Same.new ny)
      refine iteF ⟨x, rfl, hb.same S4', fun H4 S4 => ?_⟩
      have hwl4 := S4 _ _ (S4' _ _ hwl2)
      refine ⟨true, rfl, iteT ⟨" ", wl, w' :: ps, rfl, rfl, .inl (.of hwl4), by decide, ?_, ?_⟩⟩
      · have := sum_le h7
        rw [List.length_cons] at this ⊢
        omega
      refine ⟨V.str (Str.join " " (w' :: ps)), "str", rfl, rfl, fun z' e' => ?_, fun h => absurd rfl (h _)⟩
      cases e'
      refine ⟨w', ps, reads_join (fun z hz => (hW.all z hz).1) (by omega) (fun z hz => by have := h7 z hz; omega), fun _ p H5 S5 hp => ?_, fun h => absurd (hW.rule.symm.trans h) (by decide)⟩
      refine rTupR.l (.of (S5 _ _ hwl4)) fun l nl => ?_
      walk_at "rd"
      refine ⟨_, .tup (.of (upd_fresh hp nl)) (DnAll.strs hok), _, .tup (.of upd_same) (DnAll.strs hok), by rw [PyData.depth, depth_strs]; omega, ?_⟩
      rw [show (PyData.tuple ((w' :: ps).map PyData.str)).eqv (PyData.tuple ((w' :: ps).map PyData.str)) = true by rw [PyData.eqv, eqvAll_strs, decide_eq_true rfl]]
      exact q _
    · walk_at "rd"
      refine ⟨C_NoRule, dx, upd_same, fN, _, upd_fresh hdx ny, MN, T.na_NoRule, V.int 0, rfl, "int", rfl, rfl, iteF ⟨"int", rfl, rfl, iteF ?_⟩⟩
      walk_at "rd"
      have S4' : Same H2 (upd H3 y (xc y C_NoRule dx)) := S3.trans (Same.new ny)
      refine iteF ⟨x, rfl, hb.same S4', fun H4 S4 => ?_⟩
      have hwl4 := S4 _ _ (S4' _ _ hwl2)
      refine ⟨true, rfl, iteT ⟨" ", wl, w' :: ps, rfl, rfl, .inl (.of hwl4), by decide, ?_, ?_⟩⟩
      · have := sum_le h7
        rw [List.length_cons] at this ⊢
        omega
      refine ⟨V.str (Str.join " " (w' :: ps)), "str", rfl, rfl, fun z e => ?_, fun h => absurd rfl (h _)⟩
      cases e
      refine ⟨w', ps, reads_join (fun z hz => (hW.all z hz).1) (by omega) (fun z hz => by have := h7 z hz; omega), fun _ p H5 S5 hp => ?_, fun h => absurd (hW.rule.symm.trans h) (by decide)⟩
      refine rTupR.l (.of (S5 _ _ hwl4)) fun l nl => ?_
      walk_at "rd"
      refine ⟨_, .tup (.of (upd_fresh hp nl)) (DnAll.strs hok), _, .tup (.of upd_same) (DnAll.strs hok), by rw [PyData.depth, depth_strs]; omega, ?_⟩
      rw [show (PyData.tuple ((w' :: ps).map PyData.str)).eqv (PyData.tuple ((w' :: ps).map PyData.str)) = true by rw [PyData.eqv, eqvAll_strs, decide_eq_true rfl]]
      exact q _
end
theorem all_mk {l : PySem.W.OpenLaw} {w : World} {K : PySem.W.Frag} {h : Heap} {mg : Str → Option Value} {fa C_NoRule : Addr} (X : K.In h) (G : h.Ns mainGlobals mg) (hfa : mg "law" = some (.ref fa))
    {f0 : Addr} {od0 an0 : Option Addr} {sl0 : Array (Option Value)} {oc0 kV0 dc0 pm0 cd0 ct0 : Value}
    (i0 : PySem.W.isFn K (.ref f0) = true)
    (l0 : K.lookup f0 = some ⟨oc0, od0, .func (PySem.W.fnOf "__init__" "NoRule.__init__" (defArgs s_NoRule___init__) (defBody s_NoRule___init__) (defScope s_NoRule___init__) .none kV0 dc0 pm0 an0 cd0 ct0), sl0⟩) (c0 : PySem.W.codeIn K cd0 "NoRule.__init__" = true) (k0 : PySem.W.keepIn K (.ref f0) = true)
    {f1 : Addr} {od1 an1 : Option Addr} {sl1 : Array (Option Value)} {oc1 kV1 dc1 pm1 cd1 ct1 : Value}
    (a1 : PySem.W.nsIn K mainGlobals "is_sign" = some (some (.ref f1)))
    (l1 : K.lookup f1 = some ⟨oc1, od1, .func (PySem.W.fnOf "is_sign" "is_sign" (defArgs s_is_sign) (defBody s_is_sign) (defScope s_is_sign) .none kV1 dc1 pm1 an1 cd1 ct1), sl1⟩) (c1 : PySem.W.codeIn K cd1 "is_sign" = true) (k1 : PySem.W.keepIn K (.ref f1) = true)
    {f2 : Addr} {od2 an2 : Option Addr} {sl2 : Array (Option Value)} {oc2 kV2 dc2 pm2 cd2 ct2 : Value}
    (a2 : PySem.W.nsIn K mainGlobals "is_piece" = some (some (.ref f2)))
    (l2 : K.lookup f2 = some ⟨oc2, od2, .func (PySem.W.fnOf "is_piece" "is_piece" (defArgs s_is_piece) (defBody s_is_piece) (defScope s_is_piece) .none kV2 dc2 pm2 an2 cd2 ct2), sl2⟩) (c2 : PySem.W.codeIn K cd2 "is_piece" = true) (k2 : PySem.W.keepIn K (.ref f2) = true)
    {f3 : Addr} {od3 an3 : Option Addr} {sl3 : Array (Option Value)} {oc3 kV3 dc3 pm3 cd3 ct3 : Value}
    (a3 : PySem.W.nsIn K mainGlobals "is_rule" = some (some (.ref f3)))
    (l3 : K.lookup f3 = some ⟨oc3, od3, .func (PySem.W.fnOf "is_rule" "is_rule" (defArgs s_is_rule) (defBody s_is_rule) (defScope s_is_rule) .none kV3 dc3 pm3 an3 cd3 ct3), sl3⟩) (c3 : PySem.W.codeIn K cd3 "is_rule" = true) (k3 : PySem.W.keepIn K (.ref f3) = true)
    {f4 : Addr} {od4 an4 : Option Addr} {sl4 : Array (Option Value)} {oc4 kV4 dc4 pm4 cd4 ct4 : Value}
    (a4 : PySem.W.nsIn K mainGlobals "read_rule" = some (some (.ref f4)))
    (l4 : K.lookup f4 = some ⟨oc4, od4, .func (PySem.W.fnOf "read_rule" "read_rule" (defArgs s_read_rule) (defBody s_read_rule) (defScope s_read_rule) .none kV4 dc4 pm4 an4 cd4 ct4), sl4⟩) (c4 : PySem.W.codeIn K cd4 "read_rule" = true) (k4 : PySem.W.keepIn K (.ref f4) = true)
    {f5 : Addr} {od5 an5 : Option Addr} {sl5 : Array (Option Value)} {oc5 kV5 dc5 pm5 cd5 ct5 : Value}
    (a5 : PySem.W.nsIn K mainGlobals "_law_cell_at" = some (some (.ref f5)))
    (l5 : K.lookup f5 = some ⟨oc5, od5, .func (PySem.W.fnOf "_law_cell_at" "_law_cell_at" (defArgs s_l_cell_at) (defBody s_l_cell_at) (defScope s_l_cell_at) .none kV5 dc5 pm5 an5 cd5 ct5), sl5⟩) (c5 : PySem.W.codeIn K cd5 "_law_cell_at" = true) (k5 : PySem.W.keepIn K (.ref f5) = true)
    {f6 : Addr} {od6 an6 : Option Addr} {sl6 : Array (Option Value)} {oc6 kV6 dc6 pm6 cd6 ct6 : Value}
    (a6 : PySem.W.nsIn K mainGlobals "_law_sign" = some (some (.ref f6)))
    (l6 : K.lookup f6 = some ⟨oc6, od6, .func (PySem.W.fnOf "_law_sign" "_law_sign" (defArgs s_l_sign) (defBody s_l_sign) (defScope s_l_sign) .none kV6 dc6 pm6 an6 cd6 ct6), sl6⟩) (c6 : PySem.W.codeIn K cd6 "_law_sign" = true) (k6 : PySem.W.keepIn K (.ref f6) = true)
    {f7 : Addr} {od7 an7 : Option Addr} {sl7 : Array (Option Value)} {oc7 kV7 dc7 pm7 cd7 ct7 : Value}
    (a7 : PySem.W.nsIn K mainGlobals "_law_piece" = some (some (.ref f7)))
    (l7 : K.lookup f7 = some ⟨oc7, od7, .func (PySem.W.fnOf "_law_piece" "_law_piece" (defArgs s_l_piece) (defBody s_l_piece) (defScope s_l_piece) .none kV7 dc7 pm7 an7 cd7 ct7), sl7⟩) (c7 : PySem.W.codeIn K cd7 "_law_piece" = true) (k7 : PySem.W.keepIn K (.ref f7) = true)
    {f8 : Addr} {od8 an8 : Option Addr} {sl8 : Array (Option Value)} {oc8 kV8 dc8 pm8 cd8 ct8 : Value}
    (a8 : PySem.W.nsIn K mainGlobals "_law_words" = some (some (.ref f8)))
    (l8 : K.lookup f8 = some ⟨oc8, od8, .func (PySem.W.fnOf "_law_words" "_law_words" (defArgs s_l_words) (defBody s_l_words) (defScope s_l_words) .none kV8 dc8 pm8 an8 cd8 ct8), sl8⟩) (c8 : PySem.W.codeIn K cd8 "_law_words" = true) (k8 : PySem.W.keepIn K (.ref f8) = true)
    {f9 : Addr} {od9 an9 : Option Addr} {sl9 : Array (Option Value)} {oc9 kV9 dc9 pm9 cd9 ct9 : Value}
    (a9 : PySem.W.nsIn K mainGlobals "_law_other_sign" = some (some (.ref f9)))
    (l9 : K.lookup f9 = some ⟨oc9, od9, .func (PySem.W.fnOf "_law_other_sign" "_law_other_sign" (defArgs s_l_other_sign) (defBody s_l_other_sign) (defScope s_l_other_sign) .none kV9 dc9 pm9 an9 cd9 ct9), sl9⟩) (c9 : PySem.W.codeIn K cd9 "_law_other_sign" = true) (k9 : PySem.W.keepIn K (.ref f9) = true)
    {f10 : Addr} {od10 an10 : Option Addr} {sl10 : Array (Option Value)} {oc10 kV10 dc10 pm10 cd10 ct10 : Value}
    (a10 : PySem.W.nsIn K mainGlobals "_law_word_spoiled" = some (some (.ref f10)))
    (l10 : K.lookup f10 = some ⟨oc10, od10, .func (PySem.W.fnOf "_law_word_spoiled" "_law_word_spoiled" (defArgs s_l_word_spoiled) (defBody s_l_word_spoiled) (defScope s_l_word_spoiled) .none kV10 dc10 pm10 an10 cd10 ct10), sl10⟩) (c10 : PySem.W.codeIn K cd10 "_law_word_spoiled" = true) (k10 : PySem.W.keepIn K (.ref f10) = true)
    {f11 : Addr} {od11 an11 : Option Addr} {sl11 : Array (Option Value)} {oc11 kV11 dc11 pm11 cd11 ct11 : Value}
    (a11 : PySem.W.nsIn K mainGlobals "_law_long" = some (some (.ref f11)))
    (l11 : K.lookup f11 = some ⟨oc11, od11, .func (PySem.W.fnOf "_law_long" "_law_long" (defArgs s_l_long) (defBody s_l_long) (defScope s_l_long) .none kV11 dc11 pm11 an11 cd11 ct11), sl11⟩) (c11 : PySem.W.codeIn K cd11 "_law_long" = true) (k11 : PySem.W.keepIn K (.ref f11) = true)
    {f12 : Addr} {od12 an12 : Option Addr} {sl12 : Array (Option Value)} {oc12 kV12 dc12 pm12 cd12 ct12 : Value}
    (a12 : PySem.W.nsIn K mainGlobals "_law_few" = some (some (.ref f12)))
    (l12 : K.lookup f12 = some ⟨oc12, od12, .func (PySem.W.fnOf "_law_few" "_law_few" (defArgs s_l_few) (defBody s_l_few) (defScope s_l_few) .none kV12 dc12 pm12 an12 cd12 ct12), sl12⟩) (c12 : PySem.W.codeIn K cd12 "_law_few" = true) (k12 : PySem.W.keepIn K (.ref f12) = true)
    {f13 : Addr} {od13 an13 : Option Addr} {sl13 : Array (Option Value)} {oc13 kV13 dc13 pm13 cd13 ct13 : Value}
    (a13 : PySem.W.nsIn K mainGlobals "_law_spoiled" = some (some (.ref f13)))
    (l13 : K.lookup f13 = some ⟨oc13, od13, .func (PySem.W.fnOf "_law_spoiled" "_law_spoiled" (defArgs s_l_spoiled) (defBody s_l_spoiled) (defScope s_l_spoiled) .none kV13 dc13 pm13 an13 cd13 ct13), sl13⟩) (c13 : PySem.W.codeIn K cd13 "_law_spoiled" = true) (k13 : PySem.W.keepIn K (.ref f13) = true)
    {f14 : Addr} {od14 an14 : Option Addr} {sl14 : Array (Option Value)} {oc14 kV14 dc14 pm14 cd14 ct14 : Value}
    (a14 : PySem.W.nsIn K mainGlobals "_law_only_no_rule" = some (some (.ref f14)))
    (l14 : K.lookup f14 = some ⟨oc14, od14, .func (PySem.W.fnOf "_law_only_no_rule" "_law_only_no_rule" (defArgs s_l_only_no_rule) (defBody s_l_only_no_rule) (defScope s_l_only_no_rule) .none kV14 dc14 pm14 an14 cd14 ct14), sl14⟩) (c14 : PySem.W.codeIn K cd14 "_law_only_no_rule" = true) (k14 : PySem.W.keepIn K (.ref f14) = true)
    {f15 : Addr} {od15 an15 : Option Addr} {sl15 : Array (Option Value)} {oc15 kV15 dc15 pm15 cd15 ct15 : Value}
    (a15 : PySem.W.nsIn K mainGlobals "law" = some (some (.ref f15)))
    (l15 : K.lookup f15 = some ⟨oc15, od15, .func (PySem.W.fnOf "law" "law" (defArgs s_law) (defBody s_law) (defScope s_law) .none kV15 dc15 pm15 an15 cd15 ct15), sl15⟩) (c15 : PySem.W.codeIn K cd15 "law" = true) (k15 : PySem.W.keepIn K (.ref f15) = true)
    {N_NoRule : Addr} {nm_NoRule q_NoRule : Str} {bs_NoRule bm_NoRule sub_NoRule : List Value} {sn_NoRule : List Str} {ab_NoRule : Bool} {col_NoRule : Option Bool} {dd_NoRule : Option Addr} {k0_NoRule k1_NoRule k2_NoRule k3_NoRule k5_NoRule : Option Value}
    (aE_NoRule : PySem.W.nsIn K mainGlobals "NoRule" = some (some (.ref C_NoRule))) (lE_NoRule : K.lookup C_NoRule = some (excClassObj nm_NoRule q_NoRule C_NoRule N_NoRule bs_NoRule bm_NoRule true sn_NoRule sub_NoRule ab_NoRule col_NoRule dd_NoRule k0_NoRule k1_NoRule k2_NoRule k3_NoRule k5_NoRule "ValueError.__new__"))
    (t1_NoRule : PySem.W.tailIn K bmV bm_NoRule = true) (t2_NoRule : overIn bmV (.ref C_NoRule :: bm_NoRule) = true) (t3_NoRule : PySem.W.nsOkIn K N_NoRule = true) (t4_NoRule : PySem.W.nsIn K N_NoRule "__init__" = some (some (.ref f0)))
    (sa_NoRule : PySem.W.findIn K (.ref C_NoRule) "__setattr__" = some (some (.builtin "object.__setattr__")))
    (ga_NoRule : PySem.W.findIn K (.ref C_NoRule) "__getattribute__" = some (some (.builtin "BaseException.__getattribute__")))
    (gt_NoRule : PySem.W.findIn K (.ref C_NoRule) "__getattr__" = some (none))
    (cl_NoRule : PySem.W.findIn K (.ref C_NoRule) "__class__" = some (some (.builtin "object.__class__")))
    (bx_NoRule : PySem.W.mroIn K C_NoRule (.type "BaseException") = some true) (ob_NoRule : PySem.W.mroIn K C_NoRule (.type "object") = some true) (kp_NoRule : PySem.W.keepIn K (.ref C_NoRule) = true) (nE_NoRule : PySem.W.findIn K (.ref C_NoRule) "at" = some none)
    {aL : Addr} (eL : PySem.W.nsIn K mainGlobals "LoreError" = some (some (.ref aL))) (eL1 : PySem.W.specialIn K (.ref aL) "__getattribute__" = some (some (.builtin "type.__getattribute__"))) (eL2 : PySem.W.readsIn K aL (.type "type") = true) (eL3 : PySem.W.findCls K (.ref aL) (.type "type") "__init__" = some (.val (.builtin "ValueError.__init__")))
    (ecn : PySem.W.specialIn K (.builtin "object.__class__") "__get__" = some (some (.builtin "getset_descriptor.__get__"))) (ect : PySem.W.takesIn K (.builtin "object.__class__") = some true)
    {d_LoreError : Addr} {cd_LoreError : ClassData} (aD_LoreError : PySem.W.nsIn K mainGlobals "LoreError" = some (some (.ref d_LoreError))) (D1_LoreError : PySem.W.clsIn K d_LoreError = some cd_LoreError) (D2_LoreError : PySem.W.typeIn K (.ref d_LoreError) = some (.type "type")) (D3_LoreError : PySem.W.mroIn K d_LoreError (.type "BaseException") = some true) (D4_LoreError : PySem.W.mroIn K C_NoRule (.ref d_LoreError) = some true)
    {d_NoRule : Addr} {cd_NoRule : ClassData} (aD_NoRule : PySem.W.nsIn K mainGlobals "NoRule" = some (some (.ref d_NoRule))) (D1_NoRule : PySem.W.clsIn K d_NoRule = some cd_NoRule) (D2_NoRule : PySem.W.typeIn K (.ref d_NoRule) = some (.type "type")) (D3_NoRule : PySem.W.mroIn K d_NoRule (.type "BaseException") = some true) (D4_NoRule : PySem.W.mroIn K C_NoRule (.ref d_NoRule) = some true)
    {x_Clash : Addr} (aX_Clash : PySem.W.nsIn K mainGlobals "Clash" = some (some (.ref x_Clash))) (X1_Clash : PySem.W.kitOne K (.ref C_NoRule) (.ref x_Clash) = some false)
    {x_NoDeed : Addr} (aX_NoDeed : PySem.W.nsIn K mainGlobals "NoDeed" = some (some (.ref x_NoDeed))) (X1_NoDeed : PySem.W.kitOne K (.ref C_NoRule) (.ref x_NoDeed) = some false)
    {x_NoLetter : Addr} (aX_NoLetter : PySem.W.nsIn K mainGlobals "NoLetter" = some (some (.ref x_NoLetter))) (X1_NoLetter : PySem.W.kitOne K (.ref C_NoRule) (.ref x_NoLetter) = some false)
    {x_NoName : Addr} (aX_NoName : PySem.W.nsIn K mainGlobals "NoName" = some (some (.ref x_NoName))) (X1_NoName : PySem.W.kitOne K (.ref C_NoRule) (.ref x_NoName) = some false)
    {x_NoSign : Addr} (aX_NoSign : PySem.W.nsIn K mainGlobals "NoSign" = some (some (.ref x_NoSign))) (X1_NoSign : PySem.W.kitOne K (.ref C_NoRule) (.ref x_NoSign) = some false)
    {x_NotPlain : Addr} (aX_NotPlain : PySem.W.nsIn K mainGlobals "NotPlain" = some (some (.ref x_NotPlain))) (X1_NotPlain : PySem.W.kitOne K (.ref C_NoRule) (.ref x_NotPlain) = some false)
    {x_NoText : Addr} (aX_NoText : PySem.W.nsIn K mainGlobals "NoText" = some (some (.ref x_NoText))) (X1_NoText : PySem.W.kitOne K (.ref C_NoRule) (.ref x_NoText) = some false)
    {x_Ring : Addr} (aX_Ring : PySem.W.nsIn K mainGlobals "Ring" = some (some (.ref x_Ring))) (X1_Ring : PySem.W.kitOne K (.ref C_NoRule) (.ref x_Ring) = some false)
    {x_Round : Addr} (aX_Round : PySem.W.nsIn K mainGlobals "Round" = some (some (.ref x_Round))) (X1_Round : PySem.W.kitOne K (.ref C_NoRule) (.ref x_Round) = some false)
    {x_Twice : Addr} (aX_Twice : PySem.W.nsIn K mainGlobals "Twice" = some (some (.ref x_Twice))) (X1_Twice : PySem.W.kitOne K (.ref C_NoRule) (.ref x_Twice) = some false)
    {x_NoRule : Addr} (aX_NoRule : PySem.W.nsIn K mainGlobals "NoRule" = some (some (.ref x_NoRule))) (X1_NoRule : PySem.W.kitOne K (.ref C_NoRule) (.ref x_NoRule) = some true)
    (Y1_ValueError : PySem.W.kitOne K (.ref C_NoRule) (.type "ValueError") = some true)
    (z_ValueError : PySem.W.nsIn K mainGlobals "ValueError" = some none)
    (z_all : PySem.W.nsIn K mainGlobals "all" = some none)
    (z_bool : PySem.W.nsIn K mainGlobals "bool" = some none)
    (z_int : PySem.W.nsIn K mainGlobals "int" = some none)
    (z_isinstance : PySem.W.nsIn K mainGlobals "isinstance" = some none)
    (z_len : PySem.W.nsIn K mainGlobals "len" = some none)
    (z_max : PySem.W.nsIn K mainGlobals "max" = some none)
    (z_ord : PySem.W.nsIn K mainGlobals "ord" = some none)
    (z_range : PySem.W.nsIn K mainGlobals "range" = some none)
    (z_str : PySem.W.nsIn K mainGlobals "str" = some none)
    (z_tuple : PySem.W.nsIn K mainGlobals "tuple" = some none)
    {a_FEWEST : Addr} {ep_FEWEST : Nat} {h_FEWEST_0 : Int} {t_FEWEST_0 u_FEWEST_0 : Tok} {h_FEWEST_1 : Int} {t_FEWEST_1 u_FEWEST_1 : Tok} {h_FEWEST_2 : Int} {t_FEWEST_2 u_FEWEST_2 : Tok} {h_FEWEST_3 : Int} {t_FEWEST_3 u_FEWEST_3 : Tok} {h_FEWEST_4 : Int} {t_FEWEST_4 u_FEWEST_4 : Tok} {h_FEWEST_5 : Int} {t_FEWEST_5 u_FEWEST_5 : Tok}
    (y_FEWEST : PySem.W.nsIn K mainGlobals "FEWEST" = some (some (.ref a_FEWEST))) (d_FEWEST : K.lookup a_FEWEST = some { cls := .type "dict", dict := none, data := .dict #[⟨h_FEWEST_0, .str "row" t_FEWEST_0, .int 1 u_FEWEST_0⟩, ⟨h_FEWEST_1, .str "marks" t_FEWEST_1, .int 1 u_FEWEST_1⟩, ⟨h_FEWEST_2, .str "great" t_FEWEST_2, .int 2 u_FEWEST_2⟩, ⟨h_FEWEST_3, .str "as" t_FEWEST_3, .int 2 u_FEWEST_3⟩, ⟨h_FEWEST_4, .str "over" t_FEWEST_4, .int 1 u_FEWEST_4⟩, ⟨h_FEWEST_5, .str "forget" t_FEWEST_5, .int 1 u_FEWEST_5⟩] ep_FEWEST, slots := #[] }) (s_FEWEST : (a_FEWEST == sysModules) = false)
    (e_FEWEST_0 : h_FEWEST_0 = keyH w (Sum.inr ("row" : Str)))
    (e_FEWEST_1 : h_FEWEST_1 = keyH w (Sum.inr ("marks" : Str)))
    (e_FEWEST_2 : h_FEWEST_2 = keyH w (Sum.inr ("great" : Str)))
    (e_FEWEST_3 : h_FEWEST_3 = keyH w (Sum.inr ("as" : Str)))
    (e_FEWEST_4 : h_FEWEST_4 = keyH w (Sum.inr ("over" : Str)))
    (e_FEWEST_5 : h_FEWEST_5 = keyH w (Sum.inr ("forget" : Str)))
    {a_BARE : Addr} {n_BARE : Nat} {od_BARE : Option Addr} {sl_BARE : Array (Option Value)} {t_BARE_0 : Tok} {t_BARE_1 : Tok} {t_BARE_2 : Tok}
    (y_BARE : PySem.W.nsIn K mainGlobals "BARE" = some (some (.ref a_BARE))) (d_BARE : K.lookup a_BARE = some ⟨.type "tuple", od_BARE, .seq #[.str "figures" t_BARE_0, .str "blanks" t_BARE_1, .str "behind" t_BARE_2] n_BARE, sl_BARE⟩)
    {tPER : Tok}
    (y_PER : PySem.W.nsIn K mainGlobals "PER_CENT" = some (some (.int 37 tPER)))
    : ∃ fd : FuncData, (∀ (s : Shared) (v : Value), BindsTo s fd ⟨[v], []⟩ [("_law_script", v)]) ∧ ∀ base : Heap, K.In base → base.Ns mainGlobals mg → FnOk l.prog w K mg base CX0 6 fa fd ["_law_script"] (spLaw K) := by
  have e := hfa.symm.trans (PySem.W.mg_of X G a15)
  cases e
  have M_NoRule : ErrC K C_NoRule f0 := ⟨⟨_, _, _, _, _, _, _, _, _, _, _, _, _, _, _, lE_NoRule, t1_NoRule, t2_NoRule, t3_NoRule, t4_NoRule⟩, i0, sa_NoRule, ga_NoRule, gt_NoRule, cl_NoRule, bx_NoRule, ob_NoRule, kp_NoRule⟩
  have T : Txt l.prog w K mg C_NoRule := ⟨⟨aL, PySem.W.mg_of X G eL, ⟨eL1, eL2, eL3⟩⟩, nE_NoRule, ⟨_, M_NoRule⟩, ecn, ect, ⟨d_LoreError, PySem.W.mg_of X G aD_LoreError, ⟨⟨_, D1_LoreError⟩, D2_LoreError, D3_LoreError⟩, D4_LoreError⟩, ⟨d_NoRule, PySem.W.mg_of X G aD_NoRule, ⟨⟨_, D1_NoRule⟩, D2_NoRule, D3_NoRule⟩, D4_NoRule⟩, ⟨x_Clash, PySem.W.mg_of X G aX_Clash, X1_Clash⟩, ⟨x_NoDeed, PySem.W.mg_of X G aX_NoDeed, X1_NoDeed⟩, ⟨x_NoLetter, PySem.W.mg_of X G aX_NoLetter, X1_NoLetter⟩, ⟨x_NoName, PySem.W.mg_of X G aX_NoName, X1_NoName⟩, ⟨x_NoSign, PySem.W.mg_of X G aX_NoSign, X1_NoSign⟩, ⟨x_NotPlain, PySem.W.mg_of X G aX_NotPlain, X1_NotPlain⟩, ⟨x_NoText, PySem.W.mg_of X G aX_NoText, X1_NoText⟩, ⟨x_Ring, PySem.W.mg_of X G aX_Ring, X1_Ring⟩, ⟨x_Round, PySem.W.mg_of X G aX_Round, X1_Round⟩, ⟨x_Twice, PySem.W.mg_of X G aX_Twice, X1_Twice⟩, ⟨x_NoRule, PySem.W.mg_of X G aX_NoRule, X1_NoRule⟩, Y1_ValueError, PySem.W.mg_none_of X G z_ValueError, PySem.W.mg_none_of X G z_all, PySem.W.mg_none_of X G z_bool, PySem.W.mg_none_of X G z_int, PySem.W.mg_none_of X G z_isinstance, PySem.W.mg_none_of X G z_len, PySem.W.mg_none_of X G z_max, PySem.W.mg_none_of X G z_ord, PySem.W.mg_none_of X G z_range, PySem.W.mg_none_of X G z_str, PySem.W.mg_none_of X G z_tuple, ⟨_, PySem.W.mg_of X G y_PER⟩, ⟨_, PySem.W.mg_of X G y_FEWEST, modD_mk d_FEWEST s_FEWEST (.cons ⟨keyIs_str _ _, e_FEWEST_0, ⟨_, rfl⟩⟩ ( .cons ⟨keyIs_str _ _, e_FEWEST_1, ⟨_, rfl⟩⟩ ( .cons ⟨keyIs_str _ _, e_FEWEST_2, ⟨_, rfl⟩⟩ ( .cons ⟨keyIs_str _ _, e_FEWEST_3, ⟨_, rfl⟩⟩ ( .cons ⟨keyIs_str _ _, e_FEWEST_4, ⟨_, rfl⟩⟩ ( .cons ⟨keyIs_str _ _, e_FEWEST_5, ⟨_, rfl⟩⟩ ( .nil))))))) (by decide +kernel)⟩, ⟨_, PySem.W.mg_of X G y_BARE, fun H => .inr ⟨_, _, _, d_BARE, rfl, rfl, (by show 3 ≤ sizeLine; decide), .cons ⟨_, rfl⟩ ( .cons ⟨_, rfl⟩ ( .cons ⟨_, rfl⟩ ( .nil)))⟩⟩⟩
  have F0 := funD_mk (st := s_NoRule___init__) l0 c0
  have F1 := funD_mk (st := s_is_sign) l1 c1
  have F2 := funD_mk (st := s_is_piece) l2 c2
  have F3 := funD_mk (st := s_is_rule) l3 c3
  have F4 := funD_mk (st := s_read_rule) l4 c4
  have F5 := funD_mk (st := s_l_cell_at) l5 c5
  have F6 := funD_mk (st := s_l_sign) l6 c6
  have F7 := funD_mk (st := s_l_piece) l7 c7
  have F8 := funD_mk (st := s_l_words) l8 c8
  have F9 := funD_mk (st := s_l_other_sign) l9 c9
  have F10 := funD_mk (st := s_l_word_spoiled) l10 c10
  have F11 := funD_mk (st := s_l_long) l11 c11
  have F12 := funD_mk (st := s_l_few) l12 c12
  have F13 := funD_mk (st := s_l_spoiled) l13 c13
  have F14 := funD_mk (st := s_l_only_no_rule) l14 c14
  have F15 := funD_mk (st := s_law) l15 c15
  refine ⟨PySem.W.fnOf "law" "law" (defArgs s_law) (defBody s_law) (defScope s_law) .none kV15 dc15 pm15 an15 cd15 ct15, fun s v => .of_eq rfl, fun base hb hn => ?_⟩
  have G_NoRule___init__ : EO l.prog w K mg base 1 C_NoRule "NoRule" ["self", "at"] (spErrI K C_NoRule "at") := ⟨_, _, ok_NoRule___init__ F0 T, PySem.W.mg_of X G aE_NoRule, M_NoRule, .all (len2 fun _ _ => rfl)⟩
  have G_is_sign : FO l.prog w K mg base 1 "is_sign" ["sign"] [] spIsSign := ⟨_, _, ok_is_sign F1 T, PySem.W.mg_of X G a1, k1, [], .all (len1 fun _ => rfl), .nil⟩
  have G_is_piece : FO l.prog w K mg base 2 "is_piece" ["thing"] [] spIsPiece := ⟨_, _, ok_is_piece F2 T G_is_sign, PySem.W.mg_of X G a2, k2, [], .all (len1 fun _ => rfl), .nil⟩
  have G_is_rule : FO l.prog w K mg base 3 "is_rule" ["words"] [] (spIsRule18 K) := ⟨_, _, ok_is_rule F3 T G_is_piece, PySem.W.mg_of X G a3, k3, [], .all (len1 fun _ => rfl), .nil⟩
  have G_read_rule : FOX l.prog w K mg base 4 "read_rule" ["line"] [] (spRead18 C_NoRule) := ⟨_, _, ok_read_rule F4 T G_NoRule___init__ G_is_rule, PySem.W.mg_of X G a4, k4, [], .all (len1 fun _ => rfl), .nil⟩
  have G_l_cell_at : FO l.prog w K mg base 1 "_law_cell_at" ["_law_script", "_law_k"] [] (spCellAt K) := ⟨_, _, ok_l_cell_at F5 T, PySem.W.mg_of X G a5, k5, [], .all (len2 fun _ _ => rfl), .nil⟩
  have G_l_sign : FO l.prog w K mg base 1 "_law_sign" ["_law_number"] [] spSign18 := ⟨_, _, ok_l_sign F6 T, PySem.W.mg_of X G a6, k6, [], .all (len1 fun _ => rfl), .nil⟩
  have G_l_piece : FO l.prog w K mg base 2 "_law_piece" ["_law_cell"] [] spPiece18 := ⟨_, _, ok_l_piece F7 T G_l_sign, PySem.W.mg_of X G a7, k7, [], .all (len1 fun _ => rfl), .nil⟩
  have G_l_words : FO l.prog w K mg base 3 "_law_words" ["_law_script"] [] (spWords K) := ⟨_, _, ok_l_words F8 T G_l_cell_at G_l_piece, PySem.W.mg_of X G a8, k8, [], .all (len1 fun _ => rfl), .nil⟩
  have G_l_other_sign : FO l.prog w K mg base 2 "_law_other_sign" ["_law_sign_here", "_law_number"] [] spOther := ⟨_, _, ok_l_other_sign F9 T G_l_sign, PySem.W.mg_of X G a9, k9, [], .all (len2 fun _ _ => rfl), .nil⟩
  have G_l_word_spoiled : FO l.prog w K mg base 3 "_law_word_spoiled" ["_law_words_here", "_law_number"] [] (spWSp K) := ⟨_, _, ok_l_word_spoiled F10 T G_l_other_sign, PySem.W.mg_of X G a10, k10, [], .all (len2 fun _ _ => rfl), .nil⟩
  have G_l_long : FO l.prog w K mg base 2 "_law_long" ["_law_words_here", "_law_number"] [] (spList K BadPs) := ⟨_, _, ok_l_long F11 T G_l_sign, PySem.W.mg_of X G a11, k11, [], .all (len2 fun _ _ => rfl), .nil⟩
  have G_l_few : FO l.prog w K mg base 3 "_law_few" ["_law_words_here", "_law_number"] [] (spList K BadPs) := ⟨_, _, ok_l_few F12 T G_l_piece, PySem.W.mg_of X G a12, k12, [], .all (len2 fun _ _ => rfl), .nil⟩
  have G_l_spoiled : FO l.prog w K mg base 4 "_law_spoiled" ["_law_words_here", "_law_way", "_law_number"] [] (spSpoiled K) := ⟨_, _, ok_l_spoiled F13 T G_l_word_spoiled G_l_long G_l_few, PySem.W.mg_of X G a13, k13, [], .all (len3 fun _ _ _ => rfl), .nil⟩
  have G_l_only_no_rule : FO l.prog w K mg base 5 "_law_only_no_rule" ["_law_line"] [] spOnly18 := ⟨_, _, ok_l_only_no_rule F14 T G_read_rule, PySem.W.mg_of X G a14, k14, [], .all (len1 fun _ => rfl), .nil⟩
  exact ok_law F15 T G_read_rule G_l_cell_at G_l_words G_l_spoiled G_l_only_no_rule
theorem walk {l : PySem.W.OpenLaw} {q : Program} {loose : List Str} {XP : (Str → Option Value) → Heap → Prop} {YP : World → Heap → Prop} {d : DefRec} {K : Params → PySem.W.Frag} (hn : l.most = some 63) (hdf : d.params.defaults = [])
    (hY : ∀ (w : World) (h : Heap), YP w h → (K w.params).In h)
    (F : ∀ (w : World) (mg : Str → Option Value) (fa : Addr) (h : Heap), (K w.params).In h → h.Ns mainGlobals mg → mg d.name = some (.ref fa) →
      ∃ fd : FuncData, (∀ (s : Shared) (u : Value), BindsTo s fd ⟨[u], []⟩ [("_law_script", u)]) ∧ ∀ base : Heap, (K w.params).In base → base.Ns mainGlobals mg → FnOk l.prog w (K w.params) mg base CX0 6 fa fd ["_law_script"] (spLaw (K w.params))) :
    PySem.W.WalkO q loose XP YP l.row.toRowW d [] (fun f vs => PySem.call f vs) :=
  L2.walk_of (n := 63) (k := 6) (x := "_law_script") (CX := fun _ => CX0) (sp := fun w => spLaw (K w.params)) hn (by decide) hdf ⟨rfl, by decide, by decide⟩ hY F (fun _ _ a ns hl _ hS => ⟨a, ns, rfl, hS, hl, fun _ => rfl⟩) fun _ _ _ _ _ z => z
end K18
open PySem PySem.W PyProof.Rows
set_option maxRecDepth 100000 in
set_option maxHeartbeats 0 in
theorem PySem.Challenge.cw_sortlore_k18_no_rule_holds : PySem.Challenge.rw_sortlore_k18_no_rule.Holds := by
  w_on; o_law; k_head; (case hw => w_witness2)
  k_fill
  refine K18.walk (l := PySem.Challenge.rw_sortlore_k18_no_rule) rfl rfl (fun w h Y => PySem.W.kIn_of Y) ?F
  case F =>
    intro w mg fa h KX G hmg
    refine' K18.all_mk KX G hmg ?i0 ?l0 ?c0 ?k0 ?a1 ?l1 ?c1 ?k1 ?a2 ?l2 ?c2 ?k2 ?a3 ?l3 ?c3 ?k3 ?a4 ?l4 ?c4 ?k4 ?a5 ?l5 ?c5 ?k5 ?a6 ?l6 ?c6 ?k6 ?a7 ?l7 ?c7 ?k7 ?a8 ?l8 ?c8 ?k8 ?a9 ?l9 ?c9 ?k9 ?a10 ?l10 ?c10 ?k10 ?a11 ?l11 ?c11 ?k11 ?a12 ?l12 ?c12 ?k12 ?a13 ?l13 ?c13 ?k13 ?a14 ?l14 ?c14 ?k14 ?a15 ?l15 ?c15 ?k15 ?aE_NoRule ?lE_NoRule ?t1_NoRule ?t2_NoRule ?t3_NoRule ?t4_NoRule ?sa_NoRule ?ga_NoRule ?gt_NoRule ?cl_NoRule ?bx_NoRule ?ob_NoRule ?kp_NoRule ?nE_NoRule ?eL ?eL1 ?eL2 ?eL3 ?ecn ?ect ?aD_LoreError ?D1_LoreError ?D2_LoreError ?D3_LoreError ?D4_LoreError ?aD_NoRule ?D1_NoRule ?D2_NoRule ?D3_NoRule ?D4_NoRule ?aX_Clash ?X1_Clash ?aX_NoDeed ?X1_NoDeed ?aX_NoLetter ?X1_NoLetter ?aX_NoName ?X1_NoName ?aX_NoSign ?X1_NoSign ?aX_NotPlain ?X1_NotPlain ?aX_NoText ?X1_NoText ?aX_Ring ?X1_Ring ?aX_Round ?X1_Round ?aX_Twice ?X1_Twice ?aX_NoRule ?X1_NoRule ?Y1_ValueError ?z_ValueError ?z_all ?z_bool ?z_int ?z_isinstance ?z_len ?z_max ?z_ord ?z_range ?z_str ?z_tuple ?y_FEWEST ?d_FEWEST ?s_FEWEST ?e_FEWEST_0 ?e_FEWEST_1 ?e_FEWEST_2 ?e_FEWEST_3 ?e_FEWEST_4 ?e_FEWEST_5 ?y_BARE ?d_BARE ?y_PER
    (case aE_NoRule => k_is)
    (case lE_NoRule => k_is)
    (case t4_NoRule => k_is)
    (case i0 => k_is)
    (case l0 => k_is)
    (case c0 => k_is)
    (case k0 => k_is)
    (case a1 => k_is)
    (case l1 => k_is)
    (case c1 => k_is)
    (case k1 => k_is)
    (case a2 => k_is)
    (case l2 => k_is)
    (case c2 => k_is)
    (case k2 => k_is)
    (case a3 => k_is)
    (case l3 => k_is)
    (case c3 => k_is)
    (case k3 => k_is)
    (case a4 => k_is)
    (case l4 => k_is)
    (case c4 => k_is)
    (case k4 => k_is)
    (case a5 => k_is)
    (case l5 => k_is)
    (case c5 => k_is)
    (case k5 => k_is)
    (case a6 => k_is)
    (case l6 => k_is)
    (case c6 => k_is)
    (case k6 => k_is)
    (case a7 => k_is)
    (case l7 => k_is)
    (case c7 => k_is)
    (case k7 => k_is)
    (case a8 => k_is)
    (case l8 => k_is)
    (case c8 => k_is)
    (case k8 => k_is)
    (case a9 => k_is)
    (case l9 => k_is)
    (case c9 => k_is)
    (case k9 => k_is)
    (case a10 => k_is)
    (case l10 => k_is)
    (case c10 => k_is)
    (case k10 => k_is)
    (case a11 => k_is)
    (case l11 => k_is)
    (case c11 => k_is)
    (case k11 => k_is)
    (case a12 => k_is)
    (case l12 => k_is)
    (case c12 => k_is)
    (case k12 => k_is)
    (case a13 => k_is)
    (case l13 => k_is)
    (case c13 => k_is)
    (case k13 => k_is)
    (case a14 => k_is)
    (case l14 => k_is)
    (case c14 => k_is)
    (case k14 => k_is)
    (case a15 => k_is)
    (case l15 => k_is)
    (case c15 => k_is)
    (case k15 => k_is)
    (case t1_NoRule => refine' L2.tail_one ?tl1 ?tl2 ?tl3; (case tl1 => k_is); (case tl3 => k_is); (case tl2 => refine' L2.nsOk_of ?nk1 ?nk2; (case nk1 => k_is); (case nk2 => rfl)))
    (case t2_NoRule => rfl)
    (case t3_NoRule => refine' L2.nsOk_of ?nk1 ?nk2; (case nk1 => k_is); (case nk2 => rfl))
    (case sa_NoRule => k_is)
    (case ga_NoRule => k_is)
    (case gt_NoRule => k_is)
    (case cl_NoRule => k_is)
    (case bx_NoRule => k_is)
    (case ob_NoRule => k_is)
    (case kp_NoRule => k_is)
    (case nE_NoRule => k_is)
    (case eL => k_is)
    (case eL1 => k_is)
    (case eL2 => k_is)
    (case eL3 => k_is)
    (case ecn => k_is)
    (case ect => k_is)
    (case aD_LoreError => k_is)
    (case D1_LoreError => k_is)
    (case D2_LoreError => k_is)
    (case D3_LoreError => k_is)
    (case D4_LoreError => k_is)
    (case aD_NoRule => k_is)
    (case D1_NoRule => k_is)
    (case D2_NoRule => k_is)
    (case D3_NoRule => k_is)
    (case D4_NoRule => k_is)
    (case aX_Clash => k_is)
    (case X1_Clash => kit_is)
    (case aX_NoDeed => k_is)
    (case X1_NoDeed => kit_is)
    (case aX_NoLetter => k_is)
    (case X1_NoLetter => kit_is)
    (case aX_NoName => k_is)
    (case X1_NoName => kit_is)
    (case aX_NoSign => k_is)
    (case X1_NoSign => kit_is)
    (case aX_NotPlain => k_is)
    (case X1_NotPlain => kit_is)
    (case aX_NoText => k_is)
    (case X1_NoText => kit_is)
    (case aX_Ring => k_is)
    (case X1_Ring => kit_is)
    (case aX_Round => k_is)
    (case X1_Round => kit_is)
    (case aX_Twice => k_is)
    (case X1_Twice => kit_is)
    (case aX_NoRule => k_is)
    (case X1_NoRule => kit_is)
    (case Y1_ValueError => kit_is)
    (case z_ValueError => k_is)
    (case z_all => k_is)
    (case z_bool => k_is)
    (case z_int => k_is)
    (case z_isinstance => k_is)
    (case z_len => k_is)
    (case z_max => k_is)
    (case z_ord => k_is)
    (case z_range => k_is)
    (case z_str => k_is)
    (case z_tuple => k_is)
    (case y_FEWEST => k_is)
    (case d_FEWEST => k_is)
    (case s_FEWEST => rfl)
    (case e_FEWEST_0 => rfl)
    (case e_FEWEST_1 => rfl)
    (case e_FEWEST_2 => rfl)
    (case e_FEWEST_3 => rfl)
    (case e_FEWEST_4 => rfl)
    (case e_FEWEST_5 => rfl)
    (case y_BARE => k_is)
    (case d_BARE => k_is)
    (case y_PER => k_is)
