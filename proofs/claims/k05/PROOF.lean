import PyProof.Rows.All
import Wide.All
import OpenK.AllK
import Wide.FinOn
import Lean
import PyProof.EqAt
import PyProof.EqKinds
import PyProof.TupleCall
import PySem.Challenge.RW_sortlore_k05_figures_by_worth
set_option Elab.async false
set_option linter.all false
set_option maxRecDepth 100000
noncomputable section
set_option maxRecDepth 100000
namespace L2
open PySem PySem.Spec PyProof.Rows
noncomputable abbrev Key := Sum Int Str
noncomputable def keyIs : Key → Value → Bool
  | .inl k, v => Value.isInt k v
  | .inr x, v => Value.isStrOf x v
noncomputable def keyH (w : World) : Key → Int
  | .inl k => hashInt k
  | .inr x => hashStr w x
theorem keyIs_shape : ∀ {k : Key} {v : Value}, keyIs k v = true → (∃ i t, k = Sum.inl i ∧ v = Value.int i t) ∨ (∃ x t, k = Sum.inr x ∧ v = Value.str x t)
  | .inl i, v, h => by
    obtain ⟨t, e⟩ := Value.isInt_shape (k := i) (v := v) h
    exact .inl ⟨i, t, rfl, e⟩
  | .inr x, v, h => by
    obtain ⟨t, e⟩ := Value.isStrOf_shape (x := x) (v := v) h
    exact .inr ⟨x, t, rfl, e⟩
theorem keyIs_int (i : Int) (t : Tok) : keyIs (.inl i) (.int i t) = true := by simp [keyIs, Value.isInt]
theorem keyIs_str (x : Str) (t : Tok) : keyIs (.inr x) (.str x t) = true := by simp [keyIs, Value.isStrOf]
theorem key_ll (a b : Int) : decide ((Sum.inl a : Key) = Sum.inl b) = (a == b) := by
  by_cases e : a = b
  · subst e; simp
  · have h : ¬ (Sum.inl a : Key) = Sum.inl b := fun q => e (Sum.inl.inj q)
    rw [decide_eq_false h]
    exact (beq_eq_false_iff_ne.mpr e).symm
theorem key_rr (a b : Str) : decide ((Sum.inr a : Key) = Sum.inr b) = decide (a = b) := by
  by_cases e : a = b
  · subst e; simp
  · have h : ¬ (Sum.inr a : Key) = Sum.inr b := fun q => e (Sum.inr.inj q)
    rw [decide_eq_false h, decide_eq_false e]
theorem key_lr (a : Int) (b : Str) : decide ((Sum.inl a : Key) = Sum.inr b) = false := decide_eq_false (fun q => nomatch q)
theorem key_rl (a : Str) (b : Int) : decide ((Sum.inr a : Key) = Sum.inl b) = false := decide_eq_false (fun q => nomatch q)
noncomputable def mixKind (prog : Program) (w : World) : PySem.KeyKind prog w Key where
  is := keyIs
  hash := keyH w
  inj := fun v a b ha hb => by
    rcases keyIs_shape ha with ⟨i, t, rfl, rfl⟩ | ⟨x, t, rfl, rfl⟩
    · rcases keyIs_shape hb with ⟨j, u, rfl, e⟩ | ⟨y, u, rfl, e⟩
      · injection e with e1 _; rw [e1]
      · exact nomatch e
    · rcases keyIs_shape hb with ⟨j, u, rfl, e⟩ | ⟨y, u, rfl, e⟩
      · exact nomatch e
      · injection e with e1 _; rw [e1]
  byValue := fun k v h => by
    rcases keyIs_shape h with ⟨i, t, rfl, rfl⟩ | ⟨x, t, rfl, rfl⟩ <;> rfl
  pyHash := fun hv h => by
    rcases keyIs_shape hv with ⟨i, t, rfl, rfl⟩ | ⟨x, t, rfl, rfl⟩
    · exact wpAny_pyHash_int h
    · exact wpAny_pyHash_str h
  eqBool := fun hu hv h => by
    rcases keyIs_shape hu with ⟨i, t, rfl, rfl⟩ | ⟨x, t, rfl, rfl⟩
    · rcases keyIs_shape hv with ⟨j, u, rfl, rfl⟩ | ⟨y, u, rfl, rfl⟩
      · rw [key_ll] at h; exact wpAny_eqBool_int h
      · rw [key_lr] at h; exact SeqAt.EqAt.int_str i t y u _ _ _ _ h
    · rcases keyIs_shape hv with ⟨j, u, rfl, rfl⟩ | ⟨y, u, rfl, rfl⟩
      · rw [key_rl] at h; exact SeqAt.EqAt.str_int x t j u _ _ _ _ h
      · rw [key_rr] at h; exact wpAny_eqBool_str h
  «strs» := fun k x t v h => by
    rcases keyIs_shape h with ⟨i, u, rfl, e⟩ | ⟨y, u, rfl, e⟩
    · exact nomatch e
    · injection e with e1 _
      subst e1
      cases v <;> rfl
theorem mixKind_int (prog : Program) (w : World) (i : Int) (t : Tok) : (mixKind prog w).is (.inl i) (.int i t) = true := keyIs_int i t
theorem mixKind_str (prog : Program) (w : World) (x : Str) (t : Tok) : (mixKind prog w).is (.inr x) (.str x t) = true := keyIs_str x t
end L2
namespace L2
open PySem PySem.Spec PyProof.Rows
inductive V where
  | non | bl (b : Bool) | int (i : Int) | str (x : Str) | byt (b : Array UInt8) | flt (b : UInt64) | ref (a : Addr) | ty (n : String)
  deriving DecidableEq
noncomputable def RelV : V → Value → Prop
  | .non, u => u = Value.none
  | .bl b, u => u = Value.bool b
  | .int i, u => ∃ t, u = Value.int i t
  | .str x, u => ∃ t, u = Value.str x t
  | .byt b, u => ∃ t, u = Value.bytes b t
  | .flt b, u => ∃ t, u = Value.float b t
  | .ref a, u => u = Value.ref a
  | .ty n, u => u = Value.type n
noncomputable abbrev Vals : List V → List Value → Prop := Paired RelV
theorem Vals.length {xs : List V} {us : List Value} (r : Vals xs us) : xs.length = us.length := Paired.length r
theorem Vals.get : ∀ {xs : List V} {us : List Value} {i : Nat} {x : V}, Vals xs us → xs[i]? = some x → ∃ u, us[i]? = some u ∧ RelV x u
  | _, _, _, _, .nil, e => by simp at e
  | _, _, 0, _, .cons r _, e => by simp at e; subst e; exact ⟨_, rfl, r⟩
  | _, _, i + 1, x, .cons _ t, e => by
    obtain ⟨u, h1, h2⟩ := Vals.get (i := i) (x := x) t (by simpa using e)
    exact ⟨u, by simpa using h1, h2⟩
theorem Vals.set {x : V} {u : Value} (r : RelV x u) : ∀ {xs : List V} {us : List Value} (i : Nat), Vals xs us → Vals (xs.set i x) (us.set i u)
  | _, _, _, .nil => .nil
  | _, _, 0, .cons _ t => .cons r t
  | _, _, i + 1, .cons q t => .cons q (Vals.set r i t)
theorem Vals.append : ∀ {xs ys : List V} {us ws : List Value}, Vals xs us → Vals ys ws → Vals (xs ++ ys) (us ++ ws)
  | _, _, _, _, .nil, s => s
  | _, _, _, _, .cons r t, s => .cons r (Vals.append t s)
theorem Vals.take : ∀ {xs : List V} {us : List Value} (n : Nat), Vals xs us → Vals (xs.take n) (us.take n)
  | _, _, 0, _ => .nil
  | _, _, _ + 1, .nil => .nil
  | _, _, n + 1, .cons r t => .cons r (Vals.take n t)
theorem Vals.drop : ∀ {xs : List V} {us : List Value} (n : Nat), Vals xs us → Vals (xs.drop n) (us.drop n)
  | _, _, 0, r => r
  | _, _, _ + 1, .nil => .nil
  | _, _, n + 1, .cons _ t => Vals.drop n t
noncomputable def RelO : Option V → Option Value → Prop
  | some v, some u => RelV v u
  | none, none => True
  | _, _ => False
noncomputable def KV {κ : Type} : List (κ × V) → List (κ × Value) → Prop := Paired fun (p : κ × V) (q : κ × Value) => p.1 = q.1 ∧ RelV p.2 q.2
noncomputable def kV : Key → V
  | .inl i => .int i
  | .inr x => .str x
inductive HO where
  | lst (xs : List V)
  | tup (xs : List V)
  | dK (kvs : List (Key × V)) | dT (kvs : List (List Key × V))
  | set (S : Int → Bool) (n : Nat)
  | ins (C dx : Addr) (fs : List (Str × V))
  | own (x : Addr)
  | xd (fs : List (Str × V))
  | met (f x : Addr)
  | rng (lo hi : Int)
  | frz (o : Obj) (u : HO)
  | tbl (ps : Array Value)
  | ext (φ : Heap → Prop)
noncomputable abbrev Hp := Addr → Option HO
noncomputable def upd (H : Hp) (a : Addr) (o : HO) : Hp := fun b => if b = a then some o else H b
theorem upd_same {H : Hp} {a : Addr} {o : HO} : upd H a o a = some o := by unfold upd; rw [if_pos rfl]
theorem upd_ne {H : Hp} {a b : Addr} {o : HO} (h : b ≠ a) : upd H a o b = H b := by unfold upd; rw [if_neg h]
theorem ne_of_none {H : Hp} {a b : Addr} {o : HO} (h : H a = some o) (h' : H b = none) : a ≠ b := by
  intro e; subst e; rw [h] at h'; cases h'
section
variable (P : Program) (w : World)
noncomputable def ObjOk (H : Hp) (h : Heap) (a : Addr) : HO → Prop
  | .lst xs => xs.length ≤ sizeLine ∧ ∃ (its : List Value) (n : Nat), Vals xs its ∧ h.get? a = some { cls := .type "list", data := .seq its.toArray n }
  | .tup xs => xs.length ≤ sizeLine ∧ ∃ its : List Value, Vals xs its ∧ IsTup h a its.toArray
  | .dK kvs => kvs.length ≤ sizeLine ∧ (a == sysModules) = false ∧ ∃ vs, KV kvs vs ∧ h.DictOf (mixKind P w) a vs
  | .dT kvs => kvs.length ≤ sizeLine ∧ (a == sysModules) = false ∧ ∃ xs : List (List Key × Addr × Value),
      Paired (fun (p : List Key × V) (q : List Key × Addr × Value) => p.1 = q.1 ∧ H q.2.1 = some (.tup (p.1.map kV)) ∧ RelV p.2 q.2.2) kvs xs ∧
      ∃ o es ep, h.get? a = some o ∧ o.ExactDict ∧ o.data = .dict es ep ∧ es.toList = xs.map (entryOfKey (tupleKind (mixKind P w))) ∧ (xs.map (·.1)).Nodup
  | .set S n => h.SetOf (intKind P w) a S n
  | .ins C dx fs => H dx = some (.own a) ∧ fs.length ≤ 1000 ∧ dx ≠ a ∧ h.get? a = some (PySem.W.instObj C dx) ∧
      ∃ mA, h.Ns1 dx mA ∧ (∀ f, RelO (fs.lookup f) (mA f)) ∧ PySem.Within mA (fs.map (·.1))
  | .own _ => ∃ o, h.get? a = some o
  | .xd fs => ∃ mA, h.Ns1 a mA ∧ ∀ f, RelO (fs.lookup f) (mA f)
  | .rng lo hi => ∃ t u v, h.get? a = some { cls := .type "range", data := .fields #[.int lo t, .int hi u, .int 1 v] }
  | .frz o u => h.get? a = some o ∧ ObjOk H h a u
  | .tbl ps => h.get? a = some { cls := .none, data := .fields ps }
  | .met f x => h.get? a = some (PySem.W.methodObj (.ref f) (.ref x))
  | .ext φ => φ h ∧ (∃ o, h.get? a = some o) ∧ ∀ h1 h2 : Heap, φ h1 → (∀ o, h1.get? a = some o → h2.get? a = some o) → φ h2
noncomputable def HOk (H : Hp) (h : Heap) : Prop := ∀ a o, H a = some o → ObjOk P w H h a o
end
section
variable {P : Program} {w : World} {H H' : Hp} {h h' : Heap} {a : Addr} {o : HO}
theorem ObjOk.lt (x : ObjOk P w H h a o) : a < h.objs.size := by
  cases o with
  | lst xs => obtain ⟨_, _, _, _, e⟩ := x; exact Heap.lt_size e
  | tup xs => obtain ⟨_, _, _, p⟩ := x; exact p.lt
  | dK kvs => obtain ⟨_, _, _, _, o, _, _, e, _⟩ := x; exact Heap.lt_size e
  | dT kvs => obtain ⟨_, _, _, _, o, _, _, e, _⟩ := x; exact Heap.lt_size e
  | set S n => obtain ⟨o, _, _, _, e, _⟩ := x; exact Heap.lt_size e
  | ins C dx fs => obtain ⟨_, _, _, e, _⟩ := x; exact Heap.lt_size e
  | own y => obtain ⟨_, e⟩ := x; exact Heap.lt_size e
  | xd fs => obtain ⟨_, ⟨_, _, _, e, _⟩, _⟩ := x; exact Heap.lt_size e
  | rng lo hi => obtain ⟨_, _, _, e⟩ := x; exact Heap.lt_size e
  | frz ob u => obtain ⟨e, _⟩ := x; exact Heap.lt_size e
  | tbl ps => exact Heap.lt_size (show h.get? a = some _ from x)
  | met f y => exact Heap.lt_size (show h.get? a = some _ from x)
  | ext φ => obtain ⟨_, ⟨_, e⟩, _⟩ := x; exact Heap.lt_size e
theorem Paired.mapP {α β : Type} {F G : α → β → Prop} : ∀ {l₁ : List α} {l₂ : List β}, Paired F l₁ l₂ → (∀ a b, F a b → G a b) → Paired G l₁ l₂
  | _, _, .nil, _ => .nil
  | _, _, .cons r t, f => .cons (f _ _ r) (Paired.mapP t f)
theorem ObjOk.stay (x : ObjOk P w H h a o) (k : ∀ b u, (b = a ∨ H b = some (.own a)) → h.get? b = some u → h'.get? b = some u)
    (ho : ∀ b, H b = some (.own a) → H' b = some (.own a)) (ht : ∀ b xs, H b = some (.tup xs) → H' b = some (.tup xs)) : ObjOk P w H' h' a o := by
  induction o with
  | lst xs => obtain ⟨z, its, n, r, e⟩ := x; exact ⟨z, its, n, r, k _ _ (.inl rfl) e⟩
  | tup xs => obtain ⟨z, its, r, ob, e, c⟩ := x; exact ⟨z, its, r, ob, k _ _ (.inl rfl) e, c⟩
  | dK kvs => obtain ⟨z, y, vs, r, ob, es, ep, e, c⟩ := x; exact ⟨z, y, vs, r, ob, es, ep, k _ _ (.inl rfl) e, c⟩
  | dT kvs =>
    obtain ⟨z, y, xs, r, ob, es, ep, e, c⟩ := x
    exact ⟨z, y, xs, Paired.mapP r fun p q z => ⟨z.1, ht _ _ z.2.1, z.2.2⟩, ob, es, ep, k _ _ (.inl rfl) e, c⟩
  | set S n => obtain ⟨ob, es, ep, t, e, c⟩ := x; exact ⟨ob, es, ep, t, k _ _ (.inl rfl) e, c⟩
  | ins C dx fs =>
    obtain ⟨d, z, ne, e, mA, ⟨od, es, ep, e2, c⟩, r⟩ := x
    exact ⟨ho _ d, z, ne, k _ _ (.inl rfl) e, mA, ⟨od, es, ep, k _ _ (.inr d) e2, c⟩, r⟩
  | own y => obtain ⟨ob, e⟩ := x; exact ⟨ob, k _ _ (.inl rfl) e⟩
  | xd fs => obtain ⟨mA, ⟨od, es, ep, e, c⟩, r⟩ := x; exact ⟨mA, ⟨od, es, ep, k _ _ (.inl rfl) e, c⟩, r⟩
  | rng lo hi => obtain ⟨t, u, v, e⟩ := x; exact ⟨t, u, v, k _ _ (.inl rfl) e⟩
  | frz ob u ih => obtain ⟨e, q⟩ := x; exact ⟨k _ _ (.inl rfl) e, ih q⟩
  | tbl ps =>
    have e : h.get? a = some { cls := .none, data := .fields ps } := x
    show h'.get? a = some { cls := .none, data := .fields ps }
    exact k a _ (.inl rfl) e
  | met f y =>
    have e : h.get? a = some (PySem.W.methodObj (.ref f) (.ref y)) := x
    show h'.get? a = some (PySem.W.methodObj (.ref f) (.ref y))
    exact k a _ (.inl rfl) e
  | ext φ => obtain ⟨p, ⟨o, e⟩, st⟩ := x; exact ⟨st _ _ p fun o q => k _ _ (.inl rfl) q, ⟨o, k _ _ (.inl rfl) e⟩, st⟩
theorem HOk.lt (x : HOk P w H h) (e : H a = some o) : a < h.objs.size := (x a o e).lt
theorem HOk.fresh (x : HOk P w H h) (e : h.objs.size ≤ a) : H a = none := by
  cases q : H a with
  | none => rfl
  | some u => exact absurd (Nat.lt_of_lt_of_le (x.lt q) e) (Nat.lt_irrefl _)
theorem HOk.kept (x : HOk P w H h) (k : ∀ b u, h.get? b = some u → h'.get? b = some u) : HOk P w H h' := fun a o e =>
  (x a o e).stay (fun b u _ q => k b u q) (fun _ q => q) fun _ _ q => q
theorem HOk.laid (x : HOk P w H h) (k : ∀ b u, h.get? b = some u → h'.get? b = some u) (hp : h.objs.size ≤ a) (new : ObjOk P w (upd H a o) h' a o) : HOk P w (upd H a o) h' := fun b u e => by
  have hn := x.fresh hp
  by_cases hb : b = a
  · subst hb; rw [upd_same] at e; cases e; exact new
  · rw [upd_ne hb] at e
    exact (x b u e).stay (fun c v _ q => k c v q) (fun c q => by rw [upd_ne (ne_of_none q hn)]; exact q) fun c xs q => by rw [upd_ne (ne_of_none q hn)]; exact q
end
noncomputable def Rd (H : Hp) (a : Addr) (u : HO) : Prop := H a = some u ∨ ∃ o, H a = some (.frz o u)
theorem Rd.of {H : Hp} {a : Addr} {u : HO} (h : H a = some u) : Rd H a u := .inl h
theorem Rd.ok {P : Program} {w : World} {H : Hp} {h : Heap} {a : Addr} {u : HO} (r : Rd H a u) (x : HOk P w H h) : ObjOk P w H h a u := by
  rcases r with r | ⟨o, r⟩
  · exact x a u r
  · obtain ⟨_, q⟩ := x a _ r
    exact q
noncomputable def Mut : Option HO → Prop
  | some (.lst _) => True
  | some (.dK _) => True
  | some (.dT _) => True
  | some (.set _ _) => True
  | some (.ins _ _ _) => True
  | some (.ext _) => True
  | _ => False
section
variable {P : Program} {w : World} {H : Hp} {h h' : Heap} {x e : Addr} {o' : HO}
theorem HOk.write (ok : HOk P w H h) (mu : Mut (H x)) (he : e = x ∨ H e = some (.own x)) (k : ∀ b u, b ≠ e → h.get? b = some u → h'.get? b = some u) (heo : ∃ u, h'.get? e = some u)
    (new : ObjOk P w (upd H x o') h' x o') : HOk P w (upd H x o') h' := fun b u q => by
  have nown : ∀ c y, H c = some (.own y) → c ≠ x := fun c y r z => by subst z; rw [r] at mu; exact mu
  have ntup : ∀ c xs, H c = some (.tup xs) → c ≠ x := fun c xs r z => by subst z; rw [r] at mu; exact mu
  by_cases hb : b = x
  · subst hb; rw [upd_same] at q; cases q; exact new
  · rw [upd_ne hb] at q
    by_cases hbe : b = e
    · have q' : H b = some (.own x) := by
        rcases he with z | z
        · exact absurd (hbe.trans z) hb
        · rw [hbe]; exact z
      rw [q] at q'; cases q'
      obtain ⟨v, hv⟩ := heo
      exact ⟨v, by rw [hbe]; exact hv⟩
    · refine (ok b u q).stay (fun c v hc r => k c v ?_ r) (fun c r => by rw [upd_ne (nown c b r)]; exact r) fun c xs r => by rw [upd_ne (ntup c xs r)]; exact r
      rcases hc with rfl | hc
      · exact hbe
      · rintro rfl
        rcases he with z | z
        · exact nown c b hc z
        · rw [hc] at z; cases z; exact hb rfl
end
structure Un (fs ex : List Addr) (H H' : Hp) (h h' : Heap) : Prop where
  keep : ∀ b o, h.get? b = some o → H b = none → b ∉ fs → b ∉ ex → h'.get? b = some o
  slot : ∀ b o, h.get? b = some o → H b = none → b ∈ fs → b ∉ ex → ∃ sl, h'.get? b = some { o with slots := sl }
  free : ∀ b o, h.get? b = some o → H b = none → b ∉ ex → H' b = none
  there : ∀ b o, h.get? b = some o → b ∉ ex → ∃ o', h'.get? b = some o'
  tups : ∀ b xs, H b = some (.tup xs) → H' b = some (.tup xs)
  frzs : ∀ b o u, H b = some (.frz o u) → H' b = some (.frz o u)
  tbls : ∀ b ps, H b = some (.tbl ps) → ∃ more, H' b = some (.tbl (ps ++ more))
section
variable {fs fs' ex ex' : List Addr} {H H1 H2 : Hp} {h h1 h2 h' : Heap} {a x e : Addr} {o : HO}
theorem Un.any (u : Un fs ex H H1 h h1) {b : Addr} {ob : Obj} (q : h.get? b = some ob) (n : H b = none) (hx : b ∉ ex) : ∃ sl, h1.get? b = some { ob with slots := sl } := by
  by_cases hb : b ∈ fs
  · exact u.slot b ob q n hb hx
  · exact ⟨ob.slots, u.keep b ob q n hb hx⟩
theorem Un.trans (a : Un fs ex H H1 h h1) (b : Un fs ex H1 H2 h1 h2) : Un fs ex H H2 h h2 where
  keep := fun c ob q n hc hx => b.keep c ob (a.keep c ob q n hc hx) (a.free c ob q n hx) hc hx
  slot := fun c ob q n hc hx => by
    obtain ⟨sl, e1⟩ := a.slot c ob q n hc hx
    obtain ⟨sl', e2⟩ := b.slot c _ e1 (a.free c ob q n hx) hc hx
    exact ⟨sl', e2⟩
  free := fun c ob q n hx => by
    obtain ⟨o', e1⟩ := a.there c ob q hx
    exact b.free c o' e1 (a.free c ob q n hx) hx
  there := fun c ob q hx => by
    obtain ⟨o', e1⟩ := a.there c ob q hx
    exact b.there c o' e1 hx
  tups := fun c xs q => b.tups c xs (a.tups c xs q)
  frzs := fun c ob xs q => b.frzs c ob xs (a.frzs c ob xs q)
  tbls := fun c ps q => by
    obtain ⟨m1, e1⟩ := a.tbls c ps q
    obtain ⟨m2, e2⟩ := b.tbls c _ e1
    exact ⟨m1 ++ m2, by rw [e2, Array.append_assoc]⟩
theorem Un.kept (k : ∀ b u, h.get? b = some u → h'.get? b = some u) : Un fs ex H H h h' :=
  ⟨fun b ob q _ _ _ => k b ob q, fun b ob q _ _ _ => ⟨ob.slots, k b ob q⟩, fun _ _ _ n _ => n, fun b ob q _ => ⟨ob, k b ob q⟩, fun _ _ q => q, fun _ _ _ q => q, fun _ ps q => ⟨#[], by rw [q]; simp⟩⟩
theorem Un.refl : Un fs ex H H h h := Un.kept fun _ _ q => q
theorem Un.laid (k : ∀ b u, h.get? b = some u → h'.get? b = some u) (hp : h.objs.size ≤ a) (hn : H a = none) : Un fs ex H (upd H a o) h h' where
  keep := fun b u q _ _ _ => k b u q
  slot := fun b u q _ _ _ => ⟨u.slots, k b u q⟩
  free := fun b u q n _ => by rw [upd_ne (Nat.ne_of_lt (Nat.lt_of_lt_of_le (Heap.lt_size q) hp))]; exact n
  there := fun b u q _ => ⟨u, k b u q⟩
  tups := fun b xs q => by rw [upd_ne (ne_of_none q hn)]; exact q
  frzs := fun b u xs q => by rw [upd_ne (ne_of_none q hn)]; exact q
  tbls := fun b ps q => ⟨#[], by rw [upd_ne (ne_of_none q hn), q]; simp⟩
theorem Un.write (mu : Mut (H x)) (he : e = x ∨ H e = some (.own x)) (k : ∀ b u, b ≠ e → h.get? b = some u → h'.get? b = some u) (heo : ∃ u, h'.get? e = some u) : Un fs ex H (upd H x o) h h' := by
  have hx : ∀ b, H b = none → b ≠ x := fun b n z => by subst z; rw [n] at mu; exact mu
  have hb : ∀ b, H b = none → b ≠ e := fun b n z => by
    subst z
    rcases he with r | r
    · exact hx b n r
    · rw [n] at r; cases r
  have hm : ∀ b u, H b = some u → ¬ Mut (some u) → b ≠ x := fun b u q nm z => by subst z; rw [q] at mu; exact nm mu
  refine ⟨fun b u q n _ _ => k b u (hb b n) q, fun b u q n _ _ => ⟨u.slots, k b u (hb b n) q⟩, fun b u q n _ => by rw [upd_ne (hx b n)]; exact n, fun b u q _ => ?_,
    fun b xs q => by rw [upd_ne (hm b _ q fun z => z)]; exact q, fun b u xs q => by rw [upd_ne (hm b _ q fun z => z)]; exact q, fun b ps q => ⟨#[], by rw [upd_ne (hm b _ q fun z => z), q]; simp⟩⟩
  by_cases hbe : b = e
  · subst hbe; exact heo
  · exact ⟨u, k b u hbe q⟩
theorem Un.mono (u : Un fs ex H H1 h h1) (hs : ∀ b ∈ fs, b ∈ fs') (hx : ∀ b ∈ ex, b ∈ ex') : Un fs' ex' H H1 h h1 :=
  ⟨fun b ob q n hb he => u.keep b ob q n (fun z => hb (hs b z)) fun z => he (hx b z), fun _ _ q n _ he => u.any q n fun z => he (hx _ z), fun b ob q n he => u.free b ob q n fun z => he (hx b z), fun b ob q he => u.there b ob q fun z => he (hx b z), u.tups, u.frzs, u.tbls⟩
end
noncomputable def trk (h : Heap) (H : Hp) : List Addr := (List.range h.objs.size).filter fun a => (H a).isSome
noncomputable def hidT (h : Heap) (H : Hp) : Heap := PySem.W.hideAll h (trk h H)
theorem hidT_size (h : Heap) (H : Hp) : (hidT h H).objs.size = h.objs.size := PySem.W.hideAll_size _ _
theorem hidT_get {h : Heap} {H : Hp} {b : Addr} {o : Obj} (e : h.get? b = some o) (n : H b = none) : (hidT h H).get? b = some o :=
  PySem.W.hideAll_get _ e fun hm => by
    have q : (H b).isSome = true := (List.mem_filter.mp hm).2
    rw [n] at q; simp at q
theorem of_hidT {h : Heap} {H : Hp} {b : Addr} {o : Obj} (e : (hidT h H).get? b = some o) : h.get? b = some o ∧ H b = none := by
  have e' : h.get? b = some o := PySem.W.of_hideAll (trk h H) e
  refine ⟨e', ?_⟩
  cases q : H b with
  | none => rfl
  | some x =>
    have hm : b ∈ trk h H := List.mem_filter.mpr ⟨List.mem_range.mpr (Heap.lt_size e'), by simp [q]⟩
    have z : (hidT h H).get? b = none := PySem.W.hideAll_none (trk h H) hm
    rw [z] at e; cases e
noncomputable def allNews (g h : Heap) (L : Addr) : List (Addr × Obj) := (List.range h.objs.size).filterMap fun a => if a = L ∨ (g.get? a).isSome = true then none else (h.get? a).map fun o => (a, o)
noncomputable def rest (g h : Heap) (L d : Addr) : List (Addr × Obj) := (allNews g h L).filter fun p => decide (p.1 ≠ d)
end L2
namespace L2
open PySem PySem.Spec PyProof.Rows
structure Mod (K : PySem.W.Frag) (mg : Str → Option Value) (base : Heap) : Prop where
  kin : K.In base
  glob : base.Ns mainGlobals mg
  blt : ∃ mb, base.Ns builtinsNs mb ∧ ∀ x : Str, x ≠ "__name__" → mb x = bootBuiltins x
  nolimit : base.NoLimit
structure Cx where
  prog : Program
  w : World
  K : PySem.W.Frag
  mg : Str → Option Value
  base : Heap
  A : Around
  N : List Str
  s₀ : Shared
  H₀ : Hp
  env : Env
  outer : List Env
  stack : List Env
  ex : List Addr
  fn : Str → Bool
  calm : Bool
  pn : List (Addr × Obj)
  xe : Value → Shared → Prop
noncomputable def frs (l : List Env) : List Addr := l.filterMap (·.frame)
noncomputable abbrev Cx.fs (X : Cx) : List Addr := frs X.outer
noncomputable def Vis (sc : Scope) (x : Str) : Prop := sc.names.lookup x = some .local ∨ sc.names.lookup x = some .cell ∨ sc.names.lookup x = some .free
noncomputable def Loc (sc : Scope) (x : Str) : Prop := sc.names.lookup x = some .local ∨ sc.names.lookup x = some .cell
noncomputable def Look (env : Env) (h : Heap) (m : Str → Option Value) (x : Str) (u : Value) : Prop :=
  (env.kindOf x = some .local ∧ m x = some u) ∨ ((env.kindOf x = some .cell ∨ env.kindOf x = some .free) ∧ ∃ c, env.cells.lookup x = some c ∧ h.IsCell c (some u))
structure Cx.Ok (X : Cx) : Prop where
  mod : Mod X.K X.mg X.base
  kind : X.env.scope.kind = .function
  glob : X.env.globals = mainGlobals
  blt : X.env.builtins = builtinsNs
  above : X.s₀.heap.objs.size ≤ X.env.locals
  inj : ∀ x y c, X.env.cells.lookup x = some c → X.env.cells.lookup y = some c → x = y
  has : ∀ x, (X.env.kindOf x = some .cell ∨ X.env.kindOf x = some .free) → ∃ c, X.env.cells.lookup x = some c
  cab : ∀ x c, X.fn x = true → X.env.cells.lookup x = some c → X.s₀.heap.objs.size ≤ c
  hd : X.calm = true → X.A.handled = none
  frames : X.A.frames = some X.stack
  stk : X.stack = X.outer ∨ (X.stack = X.env :: X.outer ∧ X.env.frame = some X.env.locals)
  exf : ∀ b ∈ X.ex, b ≠ X.env.locals ∧ ∀ x c, X.env.cells.lookup x = some c → c ≠ b
  bs : ∀ b o, X.base.get? b = some o → X.s₀.heap.get? b = some o ∧ X.H₀ b = none
  bsz : X.base.objs.size ≤ X.s₀.heap.objs.size
  noex : ∀ b o, X.base.get? b = some o → b ∉ X.ex
  exfs : ∀ b ∈ X.ex, b ∉ X.fs
  funs : X.s₀.heap.FunFrames X.base X.outer
  frf : ∀ b ∈ X.fs, X.H₀ b = none
structure Inv (X : Cx) (pins : List (Addr × Obj)) (σ : List (Option V)) (H : Hp) (s : Shared) : Prop where
  ok : X.Ok
  os : s.os = X.s₀.os
  bare : AllBare s.gens
  base : Un X.fs X.ex X.H₀ H X.s₀.heap s.heap
  loc : ∃ m, s.heap.Ns X.env.locals m ∧ ∀ (i : Nat) (x : Str) (v : V), X.N[i]? = some x → σ[i]? = some (some v) → Vis X.env.scope x → ∃ u, RelV v u ∧ Look X.env s.heap m x u
  cell : ∀ x c, X.env.cells.lookup x = some c → ∃ v, s.heap.IsCell c v
  free : H X.env.locals = none
  freeC : ∀ x c, X.env.cells.lookup x = some c → H c = none
  pin : ∀ p ∈ X.pn ++ pins, s.heap.get? p.1 = some p.2 ∧ H p.1 = none ∧ p.1 ≠ X.env.locals ∧ p.1 ∉ X.fs ∧ ∀ v, p.2.data ≠ .cell v
  hok : HOk X.prog X.w H s.heap
  len : σ.length = X.N.length
section
variable {X : Cx} {pins : List (Addr × Obj)} {σ : List (Option V)} {H H' : Hp} {s : Shared} {h' : Heap}
theorem Cx.Ok.nofr (ok : X.Ok) {b : Addr} {o : Obj} (e : X.base.get? b = some o) : b ∉ X.fs := fun hb => by
  have := (ok.funs.mem hb).1
  rw [e] at this; cases this
theorem Inv.bs (I : Inv X pins σ H s) : ∀ b o, X.base.get? b = some o → s.heap.get? b = some o ∧ H b = none := fun b o e =>
  ⟨I.base.keep b o (I.ok.bs b o e).1 (I.ok.bs b o e).2 (I.ok.nofr e) (I.ok.noex b o e), I.base.free b o (I.ok.bs b o e).1 (I.ok.bs b o e).2 (I.ok.noex b o e)⟩
theorem Inv.bk (I : Inv X pins σ H s) : ∀ b o, X.base.get? b = some o → s.heap.get? b = some o := fun b o e => (I.bs b o e).1
theorem Inv.mod (I : Inv X pins σ H s) : Mod X.K X.mg X.base := I.ok.mod
theorem Inv.kIn (I : Inv X pins σ H s) : X.K.In s.heap := I.ok.mod.kin.keeps I.bk
theorem Inv.nolimit (I : Inv X pins σ H s) : s.heap.NoLimit := I.ok.mod.nolimit.keeps I.bk
theorem Inv.fr (I : Inv X pins σ H s) : ∃ m, Fr X.base X.env.locals s.heap m :=
  let ⟨m, hn, _⟩ := I.loc
  ⟨m, hn, I.bk, Nat.le_trans I.ok.bsz I.ok.above⟩
theorem Inv.lt (I : Inv X pins σ H s) : X.env.locals < s.heap.objs.size := let ⟨_, hn, _⟩ := I.loc; hn.lt
theorem Inv.sz (I : Inv X pins σ H s) : X.s₀.heap.objs.size ≤ s.heap.objs.size := Nat.le_trans I.ok.above (Nat.le_of_lt I.lt)
theorem Inv.nofs (I : Inv X pins σ H s) {a : Addr} (h : s.heap.objs.size ≤ a) : a ∉ X.fs := fun hb => by
  obtain ⟨_, o, ho, _⟩ := I.ok.funs.mem hb
  exact absurd (Nat.lt_of_lt_of_le (Heap.lt_size ho) (Nat.le_trans I.sz h)) (Nat.lt_irrefl _)
theorem Inv.cne (I : Inv X pins σ H s) : ∀ x c, X.env.cells.lookup x = some c → c ≠ X.env.locals := fun x c e z => by
  obtain ⟨v, o, ho, hd⟩ := I.cell x c e
  obtain ⟨m, ⟨o', es, ep, ho', hd', _⟩, _⟩ := I.loc
  rw [z, ho'] at ho; cases ho; rw [hd'] at hd; cases hd
theorem Inv.funs (I : Inv X pins σ H s) : s.heap.FunFrames X.base X.outer := by
  have all : ∀ (l : List Env), (∀ b ∈ frs l, b ∈ X.fs) → X.s₀.heap.FunFrames X.base l → s.heap.FunFrames X.base l := by
    intro l
    induction l with
    | nil => intro _ _; trivial
    | cons env r ih =>
      intro hs hl
      obtain ⟨hk, ⟨L, o, hf, hn, ho, hd⟩, hr⟩ := hl
      have hL : L ∈ X.fs := hs L (by unfold frs; rw [List.filterMap_cons, hf]; exact List.mem_cons_self)
      obtain ⟨sl, e⟩ := I.base.slot L o ho (I.ok.frf L hL) hL fun z => I.ok.exfs L z hL
      exact ⟨hk, ⟨L, _, hf, hn, e, hd⟩, ih (fun b hb => hs b (by unfold frs; rw [List.filterMap_cons, hf]; exact List.mem_cons_of_mem _ hb)) hr⟩
  exact all X.outer (fun _ hb => hb) I.ok.funs
theorem Inv.stack (I : Inv X pins σ H s) : s.heap.FunFrames X.base X.stack := by
  rcases I.ok.stk with e | ⟨e, hf⟩
  · rw [e]; exact I.funs
  · rw [e]
    obtain ⟨m, hn, _⟩ := I.loc
    refine .cons (by rw [I.ok.kind]; decide) hf hn ?_ I.funs
    exact Heap.get?_none_of_le (Nat.le_trans I.ok.bsz I.ok.above)
theorem Inv.stkSub (I : Inv X pins σ H s) : ∀ b ∈ frs X.stack, b ∈ X.env.locals :: X.fs := fun b hb => by
  rcases I.ok.stk with e | ⟨e, hf⟩
  · rw [e] at hb; exact List.mem_cons_of_mem _ hb
  · rw [e] at hb
    unfold frs at hb
    rw [List.filterMap_cons, hf] at hb
    exact hb
theorem Inv.stkFree (I : Inv X pins σ H s) : ∀ b ∈ frs X.stack, H b = none := fun b hb => by
  rcases List.mem_cons.mp (I.stkSub b hb) with e | hb
  · rw [e]; exact I.free
  · obtain ⟨_, o, ho, _⟩ := I.ok.funs.mem hb
    exact I.base.free b o ho (I.ok.frf b hb) fun z => I.ok.exfs b z hb
theorem Inv.step {g' : Array GenState} {t' : Nat} {d' : Drawn} {ch : List Addr} (I : Inv X pins σ H s)
    (hch : ∀ b ∈ ch, (b ∈ X.ex ∨ X.s₀.heap.objs.size ≤ b) ∧ b ≠ X.env.locals ∧ (∀ x c, X.env.cells.lookup x = some c → c ≠ b) ∧ ∀ p ∈ X.pn ++ pins, p.1 ≠ b)
    (keep : ∀ b o, b ≠ X.env.locals → b ∉ X.fs → b ∉ ch → s.heap.get? b = some o → H b = none → h'.get? b = some o)
    (slot : ∀ b o, b ≠ X.env.locals → b ∈ X.fs → b ∉ ch → s.heap.get? b = some o → H b = none → ∃ sl, h'.get? b = some { o with slots := sl }) (free : ∀ b o, b ∉ ch → s.heap.get? b = some o → H b = none → H' b = none)
    (there : ∀ b o, b ∉ ch → s.heap.get? b = some o → ∃ o', h'.get? b = some o')
    (tups : ∀ b xs, H b = some (.tup xs) → H' b = some (.tup xs)) (frzs : ∀ b o u, H b = some (.frz o u) → H' b = some (.frz o u)) (tbls : ∀ b ps, H b = some (.tbl ps) → ∃ more, H' b = some (.tbl (ps ++ more)))
    (ns : ∀ m, s.heap.Ns X.env.locals m → h'.Ns X.env.locals m) (hok : HOk X.prog X.w H' h') (hg : AllBare g') :
    Inv X pins σ H' { s with heap := h', gens := g', drawn := d', toks := t' } := by
  have neL : ∀ b o, X.s₀.heap.get? b = some o → b ≠ X.env.locals := fun b o e => Nat.ne_of_lt (Nat.lt_of_lt_of_le (Heap.lt_size e) I.ok.above)
  have neC : ∀ b o, X.s₀.heap.get? b = some o → b ∉ X.ex → b ∉ ch := fun b o e hx hb => by
    rcases (hch b hb).1 with z | z
    · exact hx z
    · exact absurd (Nat.lt_of_lt_of_le (Heap.lt_size e) z) (Nat.lt_irrefl _)
  have cellK : ∀ x c, X.env.cells.lookup x = some c → ∀ v, s.heap.IsCell c v → h'.IsCell c v := fun x c e v ⟨o, ho, hd⟩ => by
    have nch : c ∉ ch := fun z => (hch c z).2.2.1 x c e rfl
    by_cases hc : c ∈ X.fs
    · obtain ⟨sl, q⟩ := slot c o (I.cne x c e) hc nch ho (I.freeC x c e)
      exact ⟨_, q, hd⟩
    · exact ⟨o, keep c o (I.cne x c e) hc nch ho (I.freeC x c e), hd⟩
  refine ⟨I.ok, I.os, hg, ⟨fun b o e n hb hx => ?_, fun b o e n hb hx => ?_, fun b o e n hx => ?_, fun b o e hx => ?_, fun b xs e => tups b xs (I.base.tups b xs e), fun b o xs e => frzs b o xs (I.base.frzs b o xs e), fun b ps e => ?_⟩, ?_, fun x c e => ?_, ?_, fun x c e => ?_, fun p hp => ?_, hok, I.len⟩
  · exact keep b o (neL b o e) hb (neC b o e hx) (I.base.keep b o e n hb hx) (I.base.free b o e n hx)
  · obtain ⟨sl, e1⟩ := I.base.slot b o e n hb hx
    obtain ⟨sl', e2⟩ := slot b _ (neL b o e) hb (neC b o e hx) e1 (I.base.free b o e n hx)
    exact ⟨sl', e2⟩
  · obtain ⟨o', e1⟩ := I.base.there b o e hx
    exact free b o' (neC b o e hx) e1 (I.base.free b o e n hx)
  · obtain ⟨o', e1⟩ := I.base.there b o e hx
    exact there b o' (neC b o e hx) e1
  · obtain ⟨m1, e1⟩ := I.base.tbls b ps e
    obtain ⟨m2, e2⟩ := tbls b _ e1
    exact ⟨m1 ++ m2, by rw [e2, Array.append_assoc]⟩
  · obtain ⟨m, hn, hl⟩ := I.loc
    refine ⟨m, ns m hn, fun i x v e1 e2 e3 => ?_⟩
    obtain ⟨u, r, l⟩ := hl i x v e1 e2 e3
    refine ⟨u, r, ?_⟩
    rcases l with l | ⟨k, c, e, z⟩
    · exact .inl l
    · exact .inr ⟨k, c, e, cellK x c e _ z⟩
  · obtain ⟨v, z⟩ := I.cell x c e
    exact ⟨v, cellK x c e v z⟩
  · obtain ⟨m, ⟨o, _, _, ho, _⟩, _⟩ := I.loc
    exact free _ o (fun z => (hch _ z).2.1 rfl) ho I.free
  · obtain ⟨v, o, ho, hd⟩ := I.cell x c e
    exact free c o (fun z => (hch c z).2.2.1 x c e rfl) ho (I.freeC x c e)
  · obtain ⟨e, n, ne, nf, d⟩ := I.pin p hp
    have nch : p.1 ∉ ch := fun z => (hch p.1 z).2.2.2 p hp rfl
    exact ⟨keep p.1 p.2 ne nf nch e n, free p.1 p.2 nch e n, ne, nf, d⟩
theorem Inv.un {t' : Nat} (I : Inv X pins σ H s) (u : Un X.fs [] H H' s.heap h') (hok : HOk X.prog X.w H' h') : Inv X pins σ H' { s with heap := h', toks := t' } := by
  obtain ⟨m, ⟨o, es, ep, ho, r⟩, _⟩ := id I.loc
  obtain ⟨sl, hL⟩ := u.any ho I.free (by simp)
  exact I.step (g' := s.gens) (d' := s.drawn) (ch := []) (fun _ z => nomatch z) (fun b o _ hb _ e n => u.keep b o e n hb (by simp)) (fun b o _ hb _ e n => u.slot b o e n hb (by simp)) (fun b o _ e n => u.free b o e n (by simp)) (fun b o _ e => u.there b o e (by simp)) u.tups u.frzs u.tbls (fun m' hm => by
    obtain ⟨o', es', ep', ho', r'⟩ := hm
    rw [ho] at ho'; cases ho'
    exact ⟨_, es', ep', hL, r'⟩) hok I.bare
theorem Inv.call {g' : Array GenState} {t' : Nat} {d' : Drawn} {ch : List Addr} (I : Inv X pins σ H s) (u : Un (frs X.stack) ch H H' s.heap h') (hok : HOk X.prog X.w H' h') (hg : AllBare g')
    (hch : ∀ b ∈ ch, (b ∈ X.ex ∨ X.s₀.heap.objs.size ≤ b) ∧ b ≠ X.env.locals ∧ (∀ x c, X.env.cells.lookup x = some c → c ≠ b) ∧ ∀ p ∈ X.pn ++ pins, p.1 ≠ b) :
    Inv X pins σ H' { s with heap := h', gens := g', drawn := d', toks := t' } := by
  obtain ⟨m, ⟨o, es, ep, ho, r⟩, _⟩ := id I.loc
  obtain ⟨sl, hL⟩ := u.any ho I.free fun z => (hch _ z).2.1 rfl
  exact I.step (ch := ch) hch (fun b o hL hb hc e n => u.keep b o e n (fun z => (List.mem_cons.mp (I.stkSub b z)).elim hL hb) hc) (fun b o _ _ hc e n => u.any e n hc) (fun b o hc e n => u.free b o e n hc) (fun b o hc e => u.there b o e hc) u.tups u.frzs u.tbls (fun m' hm => by
    obtain ⟨o', es', ep', ho', r'⟩ := hm
    rw [ho] at ho'; cases ho'
    exact ⟨_, es', ep', hL, r'⟩) hok hg
theorem Inv.turned {t' : Nat} {it : Addr} (I : Inv X pins σ H s) (k : ∀ b o, b ≠ it → s.heap.get? b = some o → h'.get? b = some o) (hn : H it = none) (hL : it ≠ X.env.locals)
    (h1 : it ∈ X.ex ∨ X.s₀.heap.objs.size ≤ it) (h2 : ∀ x c, X.env.cells.lookup x = some c → c ≠ it) (h3 : ∀ p ∈ X.pn ++ pins, p.1 ≠ it) : Inv X pins σ H { s with heap := h', toks := t' } := by
  have nit : ∀ b u, H b = some u → b ≠ it := fun b u e z => by rw [z, hn] at e; cases e
  refine I.step (g' := s.gens) (d' := s.drawn) (ch := [it]) (fun b hb => ?_) (fun b o _ _ hc e _ => k b o (fun z => hc (by simp [z])) e) (fun b o _ _ hc e _ => ⟨o.slots, k b o (fun z => hc (by simp [z])) e⟩) (fun _ _ _ _ n => n)
    (fun b o hc e => ⟨o, k b o (fun z => hc (by simp [z])) e⟩) (fun _ _ e => e) (fun _ _ _ e => e) (fun b ps e => ⟨#[], by rw [e]; simp⟩) (fun m hm => ?_) (fun b u e => ?_) I.bare
  · have e : b = it := by simpa using hb
    subst e
    exact ⟨h1, hL, h2, h3⟩
  · obtain ⟨o, es, ep, ho, r⟩ := hm
    exact ⟨o, es, ep, k _ o (Ne.symm hL) ho, r⟩
  · refine (I.hok b u e).stay (fun c v hc q => k c v ?_ q) (fun _ q => q) fun _ _ q => q
    rcases hc with z | z
    · rw [z]; exact nit b u e
    · exact nit c _ z
theorem Inv.tok (I : Inv X pins σ H s) (t : Nat) : Inv X pins σ H { s with toks := t } := I.un (h' := s.heap) (t' := t) Un.refl I.hok
theorem Inv.kept {t' : Nat} (I : Inv X pins σ H s) (k : ∀ b u, s.heap.get? b = some u → h'.get? b = some u) : Inv X pins σ H { s with heap := h', toks := t' } := I.un (Un.kept k) (I.hok.kept k)
theorem Inv.laid {a : Addr} {o : HO} {t' : Nat} (I : Inv X pins σ H s) (k : ∀ b u, s.heap.get? b = some u → h'.get? b = some u) (hp : s.heap.objs.size ≤ a) (new : ObjOk X.prog X.w (upd H a o) h' a o) :
    Inv X pins σ (upd H a o) { s with heap := h', toks := t' } := I.un (Un.laid k hp (I.hok.fresh hp)) (I.hok.laid k hp new)
theorem Inv.write {x e : Addr} {o : HO} {t' : Nat} (I : Inv X pins σ H s) (mu : Mut (H x)) (he : e = x ∨ H e = some (.own x)) (k : ∀ b u, b ≠ e → s.heap.get? b = some u → h'.get? b = some u) (heo : ∃ u, h'.get? e = some u)
    (new : ObjOk X.prog X.w (upd H x o) h' x o) : Inv X pins σ (upd H x o) { s with heap := h', toks := t' } := I.un (Un.write mu he k heo) (I.hok.write mu he k heo new)
theorem Inv.pins_of {pins' : List (Addr × Obj)} (I : Inv X pins σ H s) (h : ∀ p ∈ pins', s.heap.get? p.1 = some p.2 ∧ H p.1 = none ∧ p.1 ≠ X.env.locals ∧ p.1 ∉ X.fs ∧ ∀ v, p.2.data ≠ .cell v) : Inv X pins' σ H s :=
  ⟨I.ok, I.os, I.bare, I.base, I.loc, I.cell, I.free, I.freeC, fun p hp => (List.mem_append.mp hp).elim (fun z => I.pin p (List.mem_append_left _ z)) (h p), I.hok, I.len⟩
theorem nodup_ix {N : List Str} (hN : N.Nodup) {i j : Nat} {x : Str} (a : N[i]? = some x) (b : N[j]? = some x) : i = j := by
  obtain ⟨h1, e1⟩ := List.getElem?_eq_some_iff.mp a
  obtain ⟨h2, e2⟩ := List.getElem?_eq_some_iff.mp b
  exact (List.getElem_inj hN).mp (e1.trans e2.symm)
theorem store_ok2 {M : Model} {A : Around} {E : Value → Shared → Prop} {i : Nat} {x : Str} {v : V} {u : Value} {Q : Unit → Shared → Prop} (I : Inv X pins σ H s) (hN : X.N.Nodup) (hi : X.N[i]? = some x) (hx : Loc X.env.scope x) (r : RelV v u)
    (h : ∀ s', Inv X pins (σ.set i (some v)) H s' → (∃ a, Heap.SameBut a s.heap s'.heap ∧ (a = X.env.locals ∨ X.env.cells.lookup x = some a)) → Q () s') (hf : X.fn x = true ∨ X.env.scope.names.lookup x = some .local := by first | exact .inl rfl | exact .inr rfl | assumption) : wpAny M A (storeName X.env x u) Q E s := by
  obtain ⟨m, hn, hl⟩ := id I.loc
  have hcls : (X.env.scope.kind == .class || (X.env.scope.kind == .module && X.env.locals != X.env.globals)) = false := by rw [I.ok.kind]; rfl
  have hiσ : i < σ.length := by rw [I.len]; exact (List.getElem?_eq_some_iff.mp hi).1
  have cne := I.cne
  have tracked : ∀ {a : Addr} {h' : Heap}, (∃ o, s.heap.get? a = some o ∧ H a = none) → Heap.SameBut a s.heap h' → HOk X.prog X.w H h' := fun {a h'} ha hs b ob e => by
    obtain ⟨_, _, hfree⟩ := ha
    refine (I.hok b ob e).stay (fun c w' hc q => (hs.2 c ?_).trans q) (fun _ q => q) fun _ _ q => q
    rintro rfl
    rcases hc with rfl | hc
    · rw [hfree] at e; cases e
    · rw [hfree] at hc; cases hc
  rcases hx with hk | hk
  · refine wpAny_storeName_local hk hn (fun h' hn' hs => ?_) hcls
    obtain ⟨oL, _, _, hoL, _⟩ := id hn
    refine h _ ⟨I.ok, I.os, I.bare, ⟨fun b o e n hb hx => ?_, fun b o e n hb hx => ?_, I.base.free, fun b o e hx => ?_, I.base.tups, I.base.frzs, I.base.tbls⟩, ⟨_, hn', fun j y v' e1 e2 e3 => ?_⟩, fun y c e => ?_, I.free, I.freeC, fun p hp => ?_, tracked ⟨oL, hoL, I.free⟩ hs, by simpa using I.len⟩ ⟨_, hs, .inl rfl⟩
    · exact (hs.2 b (Nat.ne_of_lt (Nat.lt_of_lt_of_le (Heap.lt_size e) I.ok.above))).trans (I.base.keep b o e n hb hx)
    · obtain ⟨sl, e1⟩ := I.base.slot b o e n hb hx
      exact ⟨sl, (hs.2 b (Nat.ne_of_lt (Nat.lt_of_lt_of_le (Heap.lt_size e) I.ok.above))).trans e1⟩
    · obtain ⟨o', e1⟩ := I.base.there b o e hx
      exact ⟨o', (hs.2 b (Nat.ne_of_lt (Nat.lt_of_lt_of_le (Heap.lt_size e) I.ok.above))).trans e1⟩
    · by_cases hj : j = i
      · subst hj
        rw [hi] at e1; cases e1
        rw [List.getElem?_set_self hiσ] at e2
        cases e2
        exact ⟨u, r, .inl ⟨hk, by simp⟩⟩
      · rw [List.getElem?_set_ne (Ne.symm hj)] at e2
        obtain ⟨u', r', q⟩ := hl j y v' e1 e2 e3
        refine ⟨u', r', ?_⟩
        rcases q with ⟨k, e⟩ | ⟨k, c, e, z⟩
        · refine .inl ⟨k, ?_⟩
          have : y ≠ x := fun e => hj (nodup_ix hN e1 (e ▸ hi))
          simp [this, e]
        · exact .inr ⟨k, c, e, z.sameBut hs (cne y c e)⟩
    · obtain ⟨w', z⟩ := I.cell y c e
      exact ⟨w', z.sameBut hs (cne y c e)⟩
    · obtain ⟨e, n, ne, nf, d⟩ := I.pin p hp
      exact ⟨(hs.2 p.1 ne).trans e, n, ne, nf, d⟩
  · have hfn : X.fn x = true := by
      rcases hf with z | z
      · exact z
      · rw [z] at hk; cases hk
    obtain ⟨c, hc⟩ := I.ok.has x (.inl hk)
    obtain ⟨w', z⟩ := I.cell x c hc
    refine wpAny_storeName_cell I.ok.kind hk hc z (fun h' hc' hs => ?_)
    obtain ⟨oc, hoc, hocd⟩ := id z
    refine h { s with heap := h' } ⟨I.ok, I.os, I.bare, ⟨fun b o e n hb hx => ?_, fun b o e n hb hx => ?_, I.base.free, fun b o e hx => ?_, I.base.tups, I.base.frzs, I.base.tbls⟩, ⟨m, hn.sameBut hs (Ne.symm (cne x c hc)), fun j y v' e1 e2 e3 => ?_⟩, fun y c' e => ?_, I.free, I.freeC, fun p hp => ?_, tracked ⟨oc, hoc, I.freeC x c hc⟩ hs, by simpa using I.len⟩ ⟨c, hs, .inr hc⟩
    · exact (hs.2 b (Nat.ne_of_lt (Nat.lt_of_lt_of_le (Heap.lt_size e) (I.ok.cab x c hfn hc)))).trans (I.base.keep b o e n hb hx)
    · obtain ⟨sl, e1⟩ := I.base.slot b o e n hb hx
      exact ⟨sl, (hs.2 b (Nat.ne_of_lt (Nat.lt_of_lt_of_le (Heap.lt_size e) (I.ok.cab x c hfn hc)))).trans e1⟩
    · obtain ⟨o', e1⟩ := I.base.there b o e hx
      exact ⟨o', (hs.2 b (Nat.ne_of_lt (Nat.lt_of_lt_of_le (Heap.lt_size e) (I.ok.cab x c hfn hc)))).trans e1⟩
    · by_cases hj : j = i
      · subst hj
        rw [hi] at e1; cases e1
        rw [List.getElem?_set_self hiσ] at e2
        cases e2
        exact ⟨u, r, .inr ⟨.inl hk, c, hc, hc'⟩⟩
      · rw [List.getElem?_set_ne (Ne.symm hj)] at e2
        obtain ⟨u', r', q⟩ := hl j y v' e1 e2 e3
        refine ⟨u', r', ?_⟩
        rcases q with q | ⟨k, c', e, z'⟩
        · exact .inl q
        · refine .inr ⟨k, c', e, z'.sameBut hs ?_⟩
          rintro rfl
          exact hj (nodup_ix hN e1 (I.ok.inj _ _ _ e hc ▸ hi))
    · by_cases hcc : c' = c
      · subst hcc; exact ⟨_, hc'⟩
      · obtain ⟨w2, z2⟩ := I.cell y c' e
        exact ⟨w2, z2.sameBut hs hcc⟩
    · obtain ⟨e, n, ne, nf, d⟩ := I.pin p hp
      refine ⟨(hs.2 p.1 ?_).trans e, n, ne, nf, d⟩
      intro q
      rw [q, hoc] at e
      have q' : oc = p.2 := Option.some.inj e
      exact d w' (by rw [← q']; exact hocd)
theorem store_ok {M : Model} {A : Around} {E : Value → Shared → Prop} {i : Nat} {x : Str} {v : V} {u : Value} {Q : Unit → Shared → Prop} (I : Inv X pins σ H s) (hN : X.N.Nodup) (hi : X.N[i]? = some x) (hx : Loc X.env.scope x) (r : RelV v u)
    (h : ∀ s', Inv X pins (σ.set i (some v)) H s' → Q () s') (hf : X.fn x = true ∨ X.env.scope.names.lookup x = some .local := by first | exact .inl rfl | exact .inr rfl | assumption) : wpAny M A (storeName X.env x u) Q E s :=
  store_ok2 I hN hi hx r (fun s' I' _ => h s' I') hf
theorem Inv.call' {s' : Shared} {ch : List Addr} (I : Inv X pins σ H s) (ho : s'.os = s.os) (u : Un (frs X.stack) ch H H' s.heap s'.heap) (hok : HOk X.prog X.w H' s'.heap) (hg : AllBare s'.gens)
    (hch : ∀ b ∈ ch, (b ∈ X.ex ∨ X.s₀.heap.objs.size ≤ b) ∧ b ≠ X.env.locals ∧ (∀ x c, X.env.cells.lookup x = some c → c ≠ b) ∧ ∀ p ∈ X.pn ++ pins, p.1 ≠ b) : Inv X pins σ H' s' := by
  obtain ⟨h', g', d', t', o'⟩ := s'
  have e : o' = s.os := ho
  subst e
  exact I.call (g' := g') (t' := t') (d' := d') u hok hg hch
end
noncomputable abbrev XK := Value → Option Addr → Hp → Prop
noncomputable abbrev St := List (Option V)
noncomputable abbrev VK := V → Hp → Prop
noncomputable abbrev TE := St → Hp → VK → Prop
noncomputable abbrev TT := St → Hp → (Bool → Hp → Prop) → Prop
noncomputable abbrev TA := St → Hp → (List V → Hp → Prop) → Prop
structure Ends where
  nx : St → Hp → Prop
  rt : VK
  bk : St → Hp → Prop := fun _ _ => False
  ct : St → Hp → Prop := fun _ _ => False
noncomputable abbrev TS := Ends → St → Hp → Prop
noncomputable def EP (X : Cx) (pins : List (Addr × Obj)) (σ : St) (Q : VK) (u : Value) (s' : Shared) : Prop := ∃ v H', Inv X pins σ H' s' ∧ RelV v u ∧ Q v H'
noncomputable def TP (X : Cx) (pins : List (Addr × Obj)) (σ : St) (Q : Bool → Hp → Prop) (b : Bool) (s' : Shared) : Prop := ∃ H', Inv X pins σ H' s' ∧ Q b H'
noncomputable def AP (X : Cx) (pins : List (Addr × Obj)) (σ : St) (Q : List V → Hp → Prop) (us : List Value) (s' : Shared) : Prop := ∃ vs H', Inv X pins σ H' s' ∧ Vals vs us ∧ Q vs H'
noncomputable def SP (X : Cx) (pins : List (Addr × Obj)) (D : Ends) (f : Flow) (s' : Shared) : Prop :=
  match f with
  | .next => ∃ σ' H', Inv X pins σ' H' s' ∧ D.nx σ' H'
  | .brk => ∃ σ' H', Inv X pins σ' H' s' ∧ D.bk σ' H'
  | .cont => ∃ σ' H', Inv X pins σ' H' s' ∧ D.ct σ' H'
  | .ret u => ∃ v σ' H', Inv X pins σ' H' s' ∧ RelV v u ∧ D.rt v H'
noncomputable def PE (X : Cx) (e : Expr) (t : TE) : Prop :=
  ∀ (pins : List (Addr × Obj)) (s : Shared) (σ : St) (H : Hp) (Q : VK), Inv X pins σ H s → t σ H Q → wpAny (model X.prog X.w) X.A (eval e X.env) (EP X pins σ Q) X.xe s
noncomputable def PT (X : Cx) (e : Expr) (t : TT) : Prop :=
  ∀ (pins : List (Addr × Obj)) (s : Shared) (σ : St) (H : Hp) (Q : Bool → Hp → Prop), Inv X pins σ H s → t σ H Q → wpAny (model X.prog X.w) X.A (isTrue e X.env (eval e X.env)) (TP X pins σ Q) X.xe s
noncomputable def PW (X : Cx) (e : Expr) (t : TT) : Prop :=
  ∀ (whole : Sem Value) (pins : List (Addr × Obj)) (s : Shared) (σ : St) (H : Hp) (Q : Bool → Hp → Prop), Inv X pins σ H s → t σ H Q → wpAny (model X.prog X.w) X.A (isTrue e X.env whole) (TP X pins σ Q) X.xe s
theorem PW.pt {X : Cx} {e : Expr} {t : TT} (h : PW X e t) : PT X e t := h _
noncomputable def PA (X : Cx) (es : List Expr) (t : TA) : Prop :=
  ∀ (pos : Pos) (pins : List (Addr × Obj)) (s : Shared) (σ : St) (H : Hp) (Q : List V → Hp → Prop), Inv X pins σ H s → t σ H Q → wpAny (model X.prog X.w) X.A (spliced (backTo pos (starEach es X.env))) (AP X pins σ Q) X.xe s
noncomputable def PS (X : Cx) (st : Stmt) (t : TS) : Prop :=
  ∀ (pins : List (Addr × Obj)) (s : Shared) (σ : St) (H : Hp) (D : Ends), Inv X pins σ H s → t D σ H → wpAny (model X.prog X.w) X.A (exec st X.env) (SP X pins D) X.xe s
noncomputable def PSs (X : Cx) (st : List Stmt) (t : TS) : Prop :=
  ∀ (pins : List (Addr × Obj)) (s : Shared) (σ : St) (H : Hp) (D : Ends), Inv X pins σ H s → t D σ H → wpAny (model X.prog X.w) X.A (execs st X.env) (SP X pins D) X.xe s
theorem thn {α : Type} {t : Sem α} {Q Q' : α → Shared → Prop} {M : Model} {A : Around} {E : Value → Shared → Prop} {s : Shared} (h : wpAny M A t Q E s) (hQ : ∀ a s, Q a s → Q' a s) : wpAny M A t Q' E s := wpAny_mono h hQ fun _ _ x => x
end L2
namespace L2
open PySem PySem.Spec PyProof.Rows
section
variable {X : Cx}
noncomputable def tVar (i : Nat) : TE := fun σ H Q => ∃ v, σ[i]? = some (some v) ∧ Q v H
noncomputable def tC (v : V) : TE := fun _ H Q => Q v H
theorem pe_var {i : Nat} {x : Str} {pos : Pos} (hN : X.N[i]? = some x) (hv : Vis X.env.scope x) (hd : (x == ("__debug__" : Str)) = false := by decide) (hcd : (x == ("__classdict__" : Str)) = false := by decide) : PE X (.Name x pos) (tVar i) := by
  intro pins s σ H Q I h
  obtain ⟨v, e, h⟩ := h
  obtain ⟨m, hn, hl⟩ := I.loc
  obtain ⟨u, r, l⟩ := hl i x v hN e hv
  have fin : EP X pins σ Q u s := ⟨v, H, I, r, h⟩
  rcases l with ⟨hk, hm⟩ | ⟨hk, c, hc, hcell⟩
  · exact wpAny_Name (wpAny_loadName_local I.ok.kind hk hn hm fin) hd
  · rcases hk with hk | hk
    · exact wpAny_Name (wpAny_loadName_cell I.ok.kind hk hc hcell fin) hd
    · exact wpAny_Name (wpAny_loadName_free I.ok.kind hk hc hcell fin hcd) hd
theorem pe_int {i j pos} : PE X (.Constant (.int i) j pos) (tC (.int i)) := fun _ _ _ H _ I h => wpAny_Constant_int ⟨.int i, H, I.tok _, ⟨_, rfl⟩, h⟩
theorem pe_bl {b j pos} : PE X (.Constant (.bool b) j pos) (tC (.bl b)) := fun _ _ _ H _ I h => Constant_bool ⟨.bl b, H, I, rfl, h⟩
theorem pe_str {x j pos} : PE X (.Constant (.str x) j pos) (tC (.str x)) := fun _ _ _ H _ I h => Calls.Constant_str ⟨.str x, H, I.tok _, ⟨_, rfl⟩, h⟩
noncomputable def Gl (X : Cx) (x : Str) : Prop := X.env.kindOf x = some .globalImplicit
theorem ld_glob {E : Value → Shared → Prop} {pins : List (Addr × Obj)} {s : Shared} {σ : St} {H : Hp} {x : Str} {u : Value} {pos : Pos} {Q : Value → Shared → Prop} (I : Inv X pins σ H s) (hg : Gl X x) (hm : X.mg x = some u) (h : Q u s)
    (hd : (x == ("__debug__" : Str)) = false := by decide) : wpAny (model X.prog X.w) X.A (eval (.Name x pos) X.env) Q E s :=
  Calls.Name_function_global I.ok.kind hg (Calls.loadGlobal_global (by rw [I.ok.glob]; exact I.mod.glob.keeps I.bk) hm h) hd
theorem ld_blt {E : Value → Shared → Prop} {pins : List (Addr × Obj)} {s : Shared} {σ : St} {H : Hp} {x : Str} {u : Value} {pos : Pos} {Q : Value → Shared → Prop} (I : Inv X pins σ H s) (hg : Gl X x) (hm : X.mg x = none) (hv : bootBuiltins x = some u) (h : Q u s)
    (hn : x ≠ "__name__" := by decide) (hd : (x == ("__debug__" : Str)) = false := by decide) : wpAny (model X.prog X.w) X.A (eval (.Name x pos) X.env) Q E s := by
  obtain ⟨mb, h1, h2⟩ := I.mod.blt
  exact Calls.Name_function_global I.ok.kind hg (Calls.loadGlobal_builtin (by rw [I.ok.glob]; exact I.mod.glob.keeps I.bk) hm (by rw [I.ok.blt]; exact h1.keeps I.bk) ((h2 x hn).trans hv) h) hd
variable {a b : Expr} {ta tb : TE} {pos : Pos}
noncomputable def tB (t : TE) : TT := fun σ H Q => t σ H fun x H1 => ∃ c, x = .bl c ∧ Q c H1
variable {tA tB' : TT} {rest : List Expr}
noncomputable def tAnd (t u : TT) : TT := fun σ H Q => t σ H fun c H1 => if c = true then u σ H1 Q else Q false H1
noncomputable def tOr (t u : TT) : TT := fun σ H Q => t σ H fun c H1 => if c = true then Q true H1 else u σ H1 Q
noncomputable def tNot (t : TT) : TT := fun σ H Q => t σ H fun c H1 => Q (!c) H1
theorem pw_and1 (ha : PT X a tA) : PW X (.BoolOp .And [a] pos) tA := by
  intro wh pins s σ H Q I h
  refine isTrue_and (thn (ha pins s σ H Q I h) fun c s1 e => ?_)
  cases c with
  | true => exact isTrue_and_nil e
  | false => exact e
theorem pw_and (ha : PT X a tA) (hb : PW X (.BoolOp .And (b :: rest) pos) tB') : PW X (.BoolOp .And (a :: b :: rest) pos) (tAnd tA tB') := by
  intro wh pins s σ H Q I h
  refine isTrue_and (thn (ha pins s σ H _ I h) fun c s1 ⟨H1, I1, q1⟩ => ?_)
  cases c with
  | true => exact hb wh pins s1 σ H1 Q I1 q1
  | false => exact ⟨H1, I1, q1⟩
noncomputable def tAndV (ta tb : TE) : TE := fun σ H Q => ta σ H fun x H1 => ∃ c, x = .bl c ∧ if c = true then tb σ H1 Q else Q (.bl false) H1
noncomputable def tOrV (ta tb : TE) : TE := fun σ H Q => ta σ H fun x H1 => ∃ c, x = .bl c ∧ if c = true then Q (.bl true) H1 else tb σ H1 Q
noncomputable def tNotV (ta : TE) : TE := fun σ H Q => ta σ H fun x H1 => ∃ c, x = .bl c ∧ Q (.bl (!c)) H1
theorem pe_one {op} {t : TE} (h : PE X a t) : PE X (.BoolOp op [a] pos) t := fun pins s σ H Q I hw => BoolOp_one (h pins s σ H Q I hw)
theorem pe_and (ha : PE X a ta) (hb : PE X (.BoolOp .And (b :: rest) pos) tb) : PE X (.BoolOp .And (a :: b :: rest) pos) (tAndV ta tb) := by
  intro pins s σ H Q I h
  refine BoolOp_and (thn (ha pins s σ H _ I h) fun v s1 ⟨x, H1, I1, r1, q1⟩ => ?_)
  obtain ⟨c, rfl, q1⟩ := q1
  cases r1
  refine wpAny_truthy_bool ?_
  cases c with
  | true => exact hb pins s1 σ H1 Q I1 q1
  | false => exact ⟨.bl false, H1, I1, rfl, q1⟩
noncomputable def tIf (t : TT) (ta tb : TE) : TE := fun σ H Q => t σ H fun c H1 => if c = true then ta σ H1 Q else tb σ H1 Q
end
end L2
namespace L2
open PySem PySem.Spec PyProof.Rows
noncomputable def SqL (K : PySem.W.Frag) (H : Hp) (a : Addr) (xs : List V) : Prop :=
  Rd H a (.lst xs) ∨
    ∃ (o : Obj) (its : Array Value) (n : Nat), K.lookup a = some o ∧ o.cls = .type "list" ∧ o.dict = none ∧ o.data = .seq its n ∧ its.size ≤ sizeLine ∧ Vals xs its.toList
noncomputable def SqT (K : PySem.W.Frag) (H : Hp) (a : Addr) (xs : List V) : Prop :=
  Rd H a (.tup xs) ∨
    ∃ (o : Obj) (its : Array Value) (n : Nat), K.lookup a = some o ∧ o.cls = .type "tuple" ∧ o.data = .seq its n ∧ its.size ≤ sizeLine ∧ Vals xs its.toList
noncomputable def absV : Value → Option V
  | .none => some .non
  | .bool b => some (.bl b)
  | .int i _ => some (.int i)
  | .str x _ => some (.str x)
  | .bytes b _ => some (.byt b)
  | .float b _ => some (.flt b)
  | .ref a => some (.ref a)
  | .type n => some (.ty n)
  | _ => none
theorem RelV.abs {x : V} {u : Value} (r : RelV x u) : absV u = some x := by
  cases x with
  | non => cases r; rfl
  | bl _ => cases r; rfl
  | int _ => obtain ⟨t, rfl⟩ := r; rfl
  | str _ => obtain ⟨t, rfl⟩ := r; rfl
  | byt _ => obtain ⟨t, rfl⟩ := r; rfl
  | flt _ => obtain ⟨t, rfl⟩ := r; rfl
  | ref _ => cases r; rfl
  | ty _ => cases r; rfl
theorem RelV.inj {x y : V} {u : Value} (r : RelV x u) (q : RelV y u) : x = y := Option.some.inj (r.abs.symm.trans q.abs)
theorem Vals.inj : ∀ {xs ys : List V} {us : List Value}, Vals xs us → Vals ys us → xs = ys
  | _, _, _, .nil, .nil => rfl
  | _, _, _, .cons r t, .cons r' t' => by rw [r.inj r', Vals.inj t t']
section
variable {X : Cx} {pins : List (Addr × Obj)} {σ : St} {H : Hp} {s : Shared} {a : Addr} {xs ys : List V}
theorem SqL.of {K : PySem.W.Frag} (h : H a = some (.lst xs)) : SqL K H a xs := .inl (.inl h)
theorem SqT.of {K : PySem.W.Frag} (h : H a = some (.tup xs)) : SqT K H a xs := .inl (.inl h)
theorem Inv.list (I : Inv X pins σ H s) (h : SqL X.K H a xs) : ∃ its : List Value, Vals xs its ∧ PlainL s.heap a its.toArray ∧ xs.length ≤ sizeLine := by
  rcases h with h | ⟨o, its, n, hk, hc, hd, hs, hz, r⟩
  · obtain ⟨z, its, n, r, e⟩ := h.ok I.hok
    exact ⟨its, r, ⟨_, n, e, rfl, rfl, rfl⟩, z⟩
  · refine ⟨its.toList, r, ⟨o, n, I.kIn a o hk, hc, hd, by simpa using hs⟩, ?_⟩
    have e := r.length
    simp only [Array.length_toList] at e
    omega
theorem Inv.tuple (I : Inv X pins σ H s) (h : SqT X.K H a xs) : ∃ its : List Value, Vals xs its ∧ IsTup s.heap a its.toArray ∧ xs.length ≤ sizeLine := by
  rcases h with h | ⟨o, its, n, hk, hc, hs, hz, r⟩
  · obtain ⟨z, its, r, p⟩ := h.ok I.hok
    exact ⟨its, r, p, z⟩
  · refine ⟨its.toList, r, ⟨o, I.kIn a o hk, hc, n, by simpa using hs⟩, ?_⟩
    have e := r.length
    simp only [Array.length_toList] at e
    omega
theorem Inv.list_inj (I : Inv X pins σ H s) (h : SqL X.K H a xs) (h' : SqL X.K H a ys) : xs = ys := by
  obtain ⟨its, r, ⟨o, n, e, _, _, d⟩, _⟩ := I.list h
  obtain ⟨its', r', ⟨o', n', e', _, _, d'⟩, _⟩ := I.list h'
  rw [e] at e'; cases e'
  rw [d] at d'
  injection d' with d1 _
  have : its = its' := by simpa using congrArg Array.toList d1
  subst this
  exact r.inj r'
end
noncomputable abbrev Cx.wish (X : Cx) (E : Value → Shared → Prop) : Cx := { X with xe := E }
noncomputable abbrev Cx.nox (X : Cx) : Cx := X.wish fun _ _ => False
theorem Cx.Ok.wish {X : Cx} (ok : X.Ok) (E : Value → Shared → Prop) : (X.wish E).Ok :=
  ⟨ok.mod, ok.kind, ok.glob, ok.blt, ok.above, ok.inj, ok.has, ok.cab, ok.hd, ok.frames, ok.stk, ok.exf, ok.bs, ok.bsz, ok.noex, ok.exfs, ok.funs, ok.frf⟩
theorem Cx.Ok.unwish {X : Cx} {E : Value → Shared → Prop} (ok : (X.wish E).Ok) : X.Ok :=
  ⟨ok.mod, ok.kind, ok.glob, ok.blt, ok.above, ok.inj, ok.has, ok.cab, ok.hd, ok.frames, ok.stk, ok.exf, ok.bs, ok.bsz, ok.noex, ok.exfs, ok.funs, ok.frf⟩
section
variable {X : Cx} {pins : List (Addr × Obj)} {σ : St} {H : Hp} {s : Shared} {E : Value → Shared → Prop}
theorem Inv.wish (I : Inv X pins σ H s) (E : Value → Shared → Prop) : Inv (X.wish E) pins σ H s := ⟨I.ok.wish E, I.os, I.bare, I.base, I.loc, I.cell, I.free, I.freeC, I.pin, I.hok, I.len⟩
theorem Inv.unwish (I : Inv (X.wish E) pins σ H s) : Inv X pins σ H s := ⟨I.ok.unwish, I.os, I.bare, I.base, I.loc, I.cell, I.free, I.freeC, I.pin, I.hok, I.len⟩
theorem SP.unwish {D : Ends} {f : Flow} {s' : Shared} (h : SP (X.wish E) pins D f s') : SP X pins D f s' := by
  cases f with
  | next => obtain ⟨σ', H', I, q⟩ := h; exact ⟨σ', H', I.unwish, q⟩
  | brk => obtain ⟨σ', H', I, q⟩ := h; exact ⟨σ', H', I.unwish, q⟩
  | cont => obtain ⟨σ', H', I, q⟩ := h; exact ⟨σ', H', I.unwish, q⟩
  | ret u => obtain ⟨v, σ', H', I, r, q⟩ := h; exact ⟨v, σ', H', I.unwish, r, q⟩
theorem PE.nox {e : Expr} {t : TE} (h : PE X.nox e t) : PE X e t := fun pins s σ H Q I hw =>
  wpAny_mono (h pins s σ H Q (I.wish _) hw) (by rintro _ _ ⟨v, H', I', r, q⟩; exact ⟨v, H', I'.unwish, r, q⟩) fun _ _ z => False.elim z
theorem PT.nox {e : Expr} {t : TT} (h : PT X.nox e t) : PT X e t := fun pins s σ H Q I hw =>
  wpAny_mono (h pins s σ H Q (I.wish _) hw) (by rintro _ _ ⟨H', I', q⟩; exact ⟨H', I'.unwish, q⟩) fun _ _ z => False.elim z
theorem PSs.nox {st : List Stmt} {t : TS} (h : PSs X.nox st t) : PSs X st t := fun pins s σ H D I hw =>
  wpAny_mono (h pins s σ H D (I.wish _) hw) (fun _ _ q => q.unwish) fun _ _ z => False.elim z
end
section
variable {X : Cx} {st : Stmt} {rest : List Stmt} {t u : TS} {e : Expr} {te : TE} {pos : Pos}
noncomputable def tNext : TS := fun D σ H => D.nx σ H
noncomputable def tSeq (t u : TS) : TS := fun D σ H => t { D with nx := u D } σ H
theorem pss_nil : PSs X [] tNext := fun _ _ σ H _ I h => wpAny_execs_nil ⟨σ, H, I, h⟩
theorem pss_cons (h1 : PS X st t) (h2 : PSs X rest u) : PSs X (st :: rest) (tSeq t u) := by
  intro pins s σ H D I h
  refine wpAny_execs_cons (thn (h1 pins s σ H { D with nx := u D } I h) fun f s1 q => ?_)
  cases f with
  | next =>
    obtain ⟨σ', H', I', q⟩ := q
    exact h2 pins s1 σ' H' D I' q
  | ret v => exact q
  | brk => exact q
  | cont => exact q
theorem pss_one (h1 : PS X st t) : PSs X [st] t := by
  intro pins s σ H D I h
  refine wpAny_execs_cons (thn (h1 pins s σ H D I h) fun f s1 q => ?_)
  cases f with
  | next => exact wpAny_execs_nil q
  | ret v => exact q
  | brk => exact q
  | cont => exact q
noncomputable def tBreak : TS := fun D σ H => D.bk σ H
noncomputable def tCont : TS := fun D σ H => D.ct σ H
theorem Inv.quiet {pins : List (Addr × Obj)} {σ : St} {H : Hp} {s : Shared} (I : Inv X pins σ H s) : interactive X.env = false := by simp [interactive, I.ok.kind]
noncomputable def tDrop (te : TE) : TS := fun D σ H => te σ H fun _ H1 => D.nx σ H1
theorem ps_expr (he : PE X e te) (hs : swapsWith e none pos.line X.env = pure false := by rfl) : PS X (.Expr e pos) (tDrop te) := by
  intro pins s σ H D I h
  exact wpAny_Expr_any (thn (he pins s σ H _ I h) fun v s1 ⟨x, H1, I1, r1, q1⟩ => ⟨σ, H1, I1, q1⟩) I.quiet hs
noncomputable def tRet (te : TE) : TS := fun D σ H => te σ H D.rt
theorem ps_ret (he : PE X e te) : PS X (.Return (some e) pos) (tRet te) := by
  intro pins s σ H D I h
  exact wpAny_Return_some (thn (he pins s σ H _ I h) fun v s1 ⟨x, H1, I1, r1, q1⟩ => ⟨x, σ, H1, I1, r1, q1⟩)
noncomputable def tRetN : TS := fun D _ H => D.rt .non H
noncomputable def tIfS (c : TT) (t u : TS) : TS := fun D σ H => c σ H fun b H1 => if b = true then t D σ H1 else u D σ H1
theorem ps_if {c : Expr} {a b : List Stmt} {tc : TT} (hc : PT X c tc) (ha : PSs X a t) (hb : PSs X b u) : PS X (.If c a b pos) (tIfS tc t u) := by
  intro pins s σ H D I h
  refine wpAny_If (thn (hc pins s σ H _ I h) fun d s1 ⟨H1, I1, q1⟩ => ?_)
  cases d with
  | true => exact ha pins s1 σ H1 D I1 q1
  | false => exact hb pins s1 σ H1 D I1 q1
noncomputable def tNever : TS := fun _ _ _ => False
end
noncomputable abbrev TG := V → St → Hp → (St → Hp → Prop) → Prop
noncomputable abbrev TGs := List V → St → Hp → (St → Hp → Prop) → Prop
noncomputable def PG (X : Cx) (target : Expr) (t : TG) : Prop :=
  ∀ (pins : List (Addr × Obj)) (s : Shared) (σ : St) (H : Hp) (v : V) (u : Value) (Q : St → Hp → Prop), Inv X pins σ H s → RelV v u → t v σ H Q →
    wpAny (model X.prog X.w) X.A (assign target X.env u) (fun _ s' => ∃ σ' H', Inv X pins σ' H' s' ∧ Q σ' H') X.xe s
noncomputable abbrev TSet := V → V → V → Hp → (Hp → Prop) → Prop
noncomputable abbrev TIp := V → V → Hp → VK → Prop
noncomputable def PIp (X : Cx) (op : Operator) (t : TIp) : Prop :=
  ∀ (pins : List (Addr × Obj)) (s : Shared) (σ : St) (H : Hp) (x y : V) (v u : Value) (Q : VK), Inv X pins σ H s → RelV x v → RelV y u → t x y H Q →
    wpAny (model X.prog X.w) X.A (inplaceOp op v u) (EP X pins σ Q) X.xe s
section
variable {X : Cx} {pos : Pos}
noncomputable def gName (i : Nat) : TG := fun v σ H Q => Q (σ.set i (some v)) H
theorem pg_name {i : Nat} {x : Str} (hN : X.N.Nodup) (hi : X.N[i]? = some x) (hx : Loc X.env.scope x) (hf : X.fn x = true ∨ X.env.scope.names.lookup x = some .local := by first | exact .inl rfl | exact .inr rfl | assumption) : PG X (.Name x pos) (gName i) := by
  intro pins s σ H v u Q I r h
  exact wpAny_assign_Name (store_ok I hN hi hx r (fun s' I' => ⟨_, H, I', h⟩) hf)
noncomputable def gNil : TGs := fun vs σ H Q => vs = [] ∧ Q σ H
noncomputable def gCons (t : TG) (u : TGs) : TGs := fun vs σ H Q => ∃ v r, vs = v :: r ∧ t v σ H fun σ' H' => u r σ' H' Q
noncomputable def gTup (K : PySem.W.Frag) (n : Nat) (t : TGs) : TG := fun v σ H Q => ∃ a xs, v = .ref a ∧ SqT K H a xs ∧ xs.length = n ∧ t xs σ H Q
noncomputable def gSub (to ti : TE) (t : TSet) : TG := fun v σ H Q => to σ H fun o H1 => ti σ H1 fun i H2 => t o i v H2 fun H3 => Q σ H3
noncomputable def tAsg (te : TE) (g : TG) : TS := fun D σ H => te σ H fun x H1 => g x σ H1 D.nx
theorem ps_set {i : Nat} {x : Str} {e : Expr} {te : TE} {pos' : Pos} (hN : X.N.Nodup) (hi : X.N[i]? = some x) (hx : Loc X.env.scope x) (he : PE X e te) (hs : swapsWith e (some (.Name x pos')) pos.line X.env = pure false := by rfl) (hf : X.fn x = true ∨ X.env.scope.names.lookup x = some .local := by first | exact .inl rfl | exact .inr rfl | assumption) :
    PS X (.Assign [.Name x pos'] e pos) (tAsg te (gName i)) := by
  intro pins s σ H D I h
  refine wpAny_Assign_Name (thn (he pins s σ H _ I h) fun v s1 ⟨y, H1, I1, r1, q1⟩ => ?_) hs
  exact store_ok I1 hN hi hx r1 (fun s2 I2 => ⟨_, H1, I2, q1⟩) hf
noncomputable def tAug (i : Nat) (te : TE) (ti : TIp) : TS := fun D σ H => ∃ x, σ[i]? = some (some x) ∧ te σ H fun y H1 => ti x y H1 fun z H2 => D.nx (σ.set i (some z)) H2
theorem ps_aug {i : Nat} {x : Str} {e : Expr} {te : TE} {op : Operator} {ti : TIp} {pos' : Pos} (hN : X.N.Nodup) (hi : X.N[i]? = some x) (hx : Loc X.env.scope x) (he : PE X e te) (ho : PIp X op ti) (hf : X.fn x = true ∨ X.env.scope.names.lookup x = some .local := by first | exact .inl rfl | exact .inr rfl | assumption) :
    PS X (.AugAssign (.Name x pos') op e pos) (tAug i te ti) := by
  intro pins s σ H D I h
  obtain ⟨v, e1, h⟩ := h
  obtain ⟨m, hn, hl⟩ := I.loc
  have vis : Vis X.env.scope x := by rcases hx with k | k; exact .inl k; exact .inr (.inl k)
  obtain ⟨u, r, l⟩ := hl i x v hi e1 vis
  refine wpAny_AugAssign_Name ?_
  have go : wpAny (model X.prog X.w) X.A (eval e X.env) (fun w s₂ => wpAny (model X.prog X.w) X.A (inplaceOp op u w) (fun r s₃ => wpAny (model X.prog X.w) X.A (storeName X.env x r) (fun _ => SP X pins D .next) X.xe s₃) X.xe s₂) X.xe s := by
    refine thn (he pins s σ H _ I h) fun w s1 ⟨y, H1, I1, r1, q1⟩ => ?_
    refine thn (ho pins s1 σ H1 v y u w _ I1 r r1 q1) fun z s2 ⟨zv, H2, I2, r2, q2⟩ => ?_
    exact store_ok I2 hN hi hx r2 (fun s3 I3 => ⟨_, H2, I3, q2⟩) hf
  rcases l with ⟨hk, hm⟩ | ⟨hk, c, hc, hcell⟩
  · exact wpAny_loadName_local I.ok.kind hk hn hm go
  · rcases hk with hk | hk
    · exact wpAny_loadName_cell I.ok.kind hk hc hcell go
    · rcases hx with k | k
      · have : X.env.scope.names.lookup x = some .free := hk
        rw [k] at this; cases this
      · have : X.env.scope.names.lookup x = some .free := hk
        rw [k] at this; cases this
noncomputable def ipI (f : Int → Int → Int) : TIp := fun x y H Q => ∃ i j, x = .int i ∧ y = .int j ∧ Q (.int (f i j)) H
theorem ip_add : PIp X .Add (ipI fun i j => i + j) := by
  intro pins s σ H x y v u Q I r1 r2 h
  obtain ⟨i, j, e1, e2, q⟩ := h
  subst e1; subst e2
  obtain ⟨t, rfl⟩ := r1
  obtain ⟨t', rfl⟩ := r2
  exact iadd_int ⟨.int _, H, I.tok _, ⟨_, rfl⟩, q⟩
end
section
variable {X : Cx} {pos : Pos}
noncomputable def tWhile (c : TT) (tb : TS) : TS := fun D σ H => ∃ W : Nat → St → Hp → Prop, (∃ m, W m σ H) ∧ ∀ m σ H, W m σ H →
  c σ H fun b H1 => if b = true then ∃ N : St → Hp → Prop, (∀ σ' H', N σ' H' → ∃ m', m' < m ∧ W m' σ' H') ∧ tb { D with nx := N, ct := N, bk := D.nx } σ H1 else D.nx σ H1
theorem ps_while {c : Expr} {body : List Stmt} {tc : TT} {tb : TS} (hp : PassesOwn (model X.prog X.w) X.A X.env X.xe) (hc : PT X c tc) (hb : PSs X body tb) : PS X (.While c body [] pos) (tWhile tc tb) := by
  intro pins s σ H D I h
  obtain ⟨W, ⟨m0, w0⟩, turn⟩ := h
  refine wpAny_While (codeAny_whileLoop (fun n s' => ∃ σ' H', Inv X pins σ' H' s' ∧ W n σ' H') ?_ m0 ⟨σ, H, I, w0⟩)
  rintro n s1 ⟨σ1, H1, I1, w1⟩
  refine wpAny_passesOwn hp (thn (hc pins s1 σ1 H1 _ I1 (turn n σ1 H1 w1)) fun b s2 ⟨H2, I2, q2⟩ => ?_)
  cases b with
  | true =>
    obtain ⟨N, hN, q2⟩ := q2
    rw [if_pos rfl]
    refine wpAny_passesOwn hp (thn (hb pins s2 σ1 H2 _ I2 q2) fun f s3 q3 => ?_)
    cases f with
    | next =>
      obtain ⟨σ3, H3, I3, n3⟩ := q3
      obtain ⟨m', hm, w3⟩ := hN σ3 H3 n3
      exact ⟨m', hm, σ3, H3, I3, w3⟩
    | cont =>
      obtain ⟨σ3, H3, I3, n3⟩ := q3
      obtain ⟨m', hm, w3⟩ := hN σ3 H3 n3
      exact ⟨m', hm, σ3, H3, I3, w3⟩
    | brk => exact q3
    | ret v => exact q3
  | false =>
    rw [if_neg Bool.false_ne_true]
    exact wpAny_execs_nil ⟨σ1, H2, I2, q2⟩
end
structure It where
  go : Nat → Hp → Prop
  yld : Nat → Hp → V → Hp → Prop
  stop : Nat → Hp → Prop
noncomputable def FpOk (X : Cx) (pins : List (Addr × Obj)) (H : Hp) (b : Addr) : Prop :=
  H b = none ∧ b ≠ X.env.locals ∧ b ∉ X.fs ∧ (b ∈ X.ex ∨ X.s₀.heap.objs.size ≤ b) ∧ (∀ x c, X.env.cells.lookup x = some c → c ≠ b) ∧ ∀ p ∈ X.pn ++ pins, p.1 ≠ b
theorem Inv.fpOk {X : Cx} {pins : List (Addr × Obj)} {σ : St} {H H' : Hp} {s : Shared} {b : Addr} (I : Inv X pins σ H s) (hb : s.heap.objs.size ≤ b) (hn : H' b = none) : FpOk X pins H' b := by
  refine ⟨hn, Nat.ne_of_gt (Nat.lt_of_lt_of_le I.lt hb), I.nofs hb, .inr (Nat.le_trans I.sz hb), fun x c e z => ?_, fun p hp z => ?_⟩
  · obtain ⟨v, q⟩ := I.cell x c e
    exact absurd (Nat.lt_of_lt_of_le q.lt (by rw [z]; exact hb)) (Nat.lt_irrefl _)
  · exact absurd (Nat.lt_of_lt_of_le (Heap.lt_size (I.pin p hp).1) (by rw [z]; exact hb)) (Nat.lt_irrefl _)
structure Turn (P : Program) (w : World) (K : PySem.W.Frag) (tg : Expr) (J : It) (fp : List Addr) (it : Addr) (tn : Nat → Heap → Prop) : Prop where
  mem : it ∈ fp
  obj : ∀ i h, tn i h → ∀ b ∈ fp, ∃ o, h.get? b = some o ∧ ∀ v, o.data ≠ .cell v
  keep : ∀ i h h', tn i h → (∀ b ∈ fp, ∀ o, h.get? b = some o → h'.get? b = some o) → tn i h'
  item : ∀ (X : Cx), X.prog = P → X.w = w → X.K = K → X.calm = true → ∀ (i : Nat) (pins : List (Addr × Obj)) (s : Shared) (σ : St) (H : Hp) (E : Value → Shared → Prop), Inv X pins σ H s → (∀ b ∈ fp, FpOk X pins H b) → tn i s.heap → J.go i H →
    wpAny (model P w) X.A (pyNext (.ref it)) (fun r s1 => ∃ u, r = some u ∧
      wpAny (model P w) X.A (letOwnedTupleGo tg (.ref it) u) (fun _ s2 => ∃ x H', Inv X pins σ H' s2 ∧ RelV x u ∧ J.yld i H x H' ∧ tn (i + 1) s2.heap ∧ ∀ b ∈ fp, H' b = none) E s1) E s
  done : ∀ (X : Cx), X.prog = P → X.w = w → X.K = K → X.calm = true → ∀ (i : Nat) (pins : List (Addr × Obj)) (s : Shared) (σ : St) (H : Hp) (E : Value → Shared → Prop), Inv X pins σ H s → (∀ b ∈ fp, FpOk X pins H b) → tn i s.heap → J.stop i H →
    wpAny (model P w) X.A (pyNext (.ref it)) (fun r s1 => r = none ∧ Inv X pins σ H s1) E s
  self : ∀ (A : Around) (i : Nat) (s : Shared) (Q : Value → Shared → Prop) (E : Value → Shared → Prop), tn i s.heap → Q (.ref it) s → wpAny (model P w) A (pyIter (.ref it)) Q E s
noncomputable abbrev TI := St → Hp → (It → Hp → Prop) → Prop
noncomputable def PIE (X : Cx) (pins : List (Addr × Obj)) (σ : St) (tg : Expr) (R : It → Hp → Prop) (itv : Value) (s2 : Shared) : Prop :=
  ∃ (it : Addr) (fp : List Addr) (tn : Nat → Heap → Prop) (J : It) (H' : Hp), itv = .ref it ∧ Inv X pins σ H' s2 ∧ Turn X.prog X.w X.K tg J fp it tn ∧ tn 0 s2.heap ∧ (∀ b ∈ fp, FpOk X pins H' b) ∧ R J H'
noncomputable def PI (X : Cx) (tg iter : Expr) (wi : TI) : Prop :=
  ∀ (pins : List (Addr × Obj)) (s : Shared) (σ : St) (H : Hp) (R : It → Hp → Prop), Inv X pins σ H s → wi σ H R →
    wpAny (model X.prog X.w) X.A (eval iter X.env) (fun v s1 => wpAny (model X.prog X.w) X.A (pyIter v) (PIE X pins σ tg R) X.xe s1) X.xe s
theorem go_of {M : Model} {A : Around} {E : Value → Shared → Prop} {s : Shared} {tg : Expr} {it : Addr} {u : Value} {o : Obj} {n : String} {vs : Array Value} {Q : Unit → Shared → Prop} (ho : s.heap.get? it = some o) (hc : o.cls = .type n) (hd : o.data = .fields vs)
    (hn : ["enumerate", "zip", "dict_itemiterator", "dict_reverseitemiterator", "odict_iterator", "itertools.zip_longest", "itertools.pairwise"].contains n = false) (hQ : Q () s) : wpAny M A (letOwnedTupleGo tg (.ref it) u) Q E s := by
  unfold letOwnedTupleGo
  cases tg <;> first
    | exact wpAny_pure hQ
    | (cases u <;> first
        | exact wpAny_pure hQ
        | (refine wpAny_bind (wpAny_load ho ?_)
           rw [hc, hd]
           show wpAny M A (if (["enumerate", "zip", "dict_itemiterator", "dict_reverseitemiterator", "odict_iterator", "itertools.zip_longest", "itertools.pairwise"].contains n && vs[0]? == some (rawInt _)) = true then _ else _) Q E s
           rw [if_neg (by intro h; rw [hn, Bool.false_and] at h; cases h)]
           exact wpAny_pure hQ))
noncomputable def Itl (K : PySem.W.Frag) (a : Addr) : It :=
  ⟨fun i H => ∃ xs x, SqL K H a xs ∧ xs[i]? = some x, fun i H x H' => H' = H ∧ ∀ xs, SqL K H a xs → xs[i]? = some x, fun i H => ∃ xs, SqL K H a xs ∧ xs.length ≤ i⟩
noncomputable def Itt (K : PySem.W.Frag) (a : Addr) : It :=
  ⟨fun i H => ∃ xs x, SqT K H a xs ∧ xs[i]? = some x, fun i H x H' => H' = H ∧ ∀ xs, SqT K H a xs → xs[i]? = some x, fun i H => ∃ xs, SqT K H a xs ∧ xs.length ≤ i⟩
noncomputable def Itr (lo : Int) (n : Nat) : It := ⟨fun i _ => i < n, fun i H x H' => H' = H ∧ x = .int (lo + i), fun i _ => n ≤ i⟩
theorem turn_list {P : Program} {w : World} {K : PySem.W.Frag} {tg : Expr} (a it : Addr) : Turn P w K tg (Itl K a) [it] it (fun i h => h.IsListIter it a i) where
  mem := by simp
  obj := fun i h st b hb => by
    have e : b = it := by simpa using hb
    subst e
    obtain ⟨o, e, c, d⟩ := st
    exact ⟨o, e, fun v z => by rw [d] at z; cases z⟩
  keep := fun i h h' st k => st.at fun o e => k it (by simp) o e
  item := by
    intro X hP hw hK hc i pins s σ H E I hf st hg
    subst hP hw hK
    obtain ⟨xs, x, hq, hx⟩ := hg
    obtain ⟨its, rv, p, hz⟩ := I.list hq
    obtain ⟨u, hu, ru⟩ := rv.get hx
    obtain ⟨f0, f1, f2, f3, f4, f5⟩ := hf it (by simp)
    refine wpAny_pyNext_list_item st p.isList (x := u) (by simpa using hu) fun h' st' sb => ?_
    have I1 : Inv X pins σ H { s with heap := h' } := I.turned (t' := s.toks) (fun b o hb e => (sb.2 b hb).trans e) f0 f1 f3 f4 f5
    obtain ⟨o, e, c, d⟩ := id st'
    exact ⟨u, rfl, go_of (s := { s with heap := h' }) e c d (by decide) ⟨x, H, I1, ru, ⟨rfl, fun ys hy => by rw [I.list_inj hy hq]; exact hx⟩, st', fun b hb => (hf b hb).1⟩⟩
  done := by
    intro X hP hw hK hc i pins s σ H E I hf st hg
    subst hP hw hK
    obtain ⟨xs, hq, hx⟩ := hg
    obtain ⟨its, rv, p, hz⟩ := I.list hq
    obtain ⟨f0, f1, f2, f3, f4, f5⟩ := hf it (by simp)
    have hl := rv.length
    exact wpAny_pyNext_list_end (I.ok.hd hc) st p.isList (by simp; omega) fun h' eb => ⟨rfl, I.turned (t' := s.toks) (fun b o hb e => eb b o hb e) f0 f1 f3 f4 f5⟩
  self := fun _ _ _ _ _ st h => wpAny_pyIter_listiter st h
theorem turn_range {P : Program} {w : World} {K : PySem.W.Frag} {tg : Expr} (it : Addr) (lo : Int) (n : Nat) : Turn P w K tg (Itr lo n) [it] it (fun i h => IsRangeIter h it (lo + (i : Nat) * 1) ((n : Int) - (i : Nat)) 1) where
  mem := by simp
  obj := fun i h st b hb => by
    have e : b = it := by simpa using hb
    subst e
    exact ⟨_, st, fun v z => by
      have z' : Data.fields _ = Data.cell v := z
      cases z'⟩
  keep := fun i h h' st k => k it (by simp) _ st
  item := by
    intro X hP hw hK hc i pins s σ H E I hf st hg
    subst hP hw hK
    obtain ⟨f0, f1, f2, f3, f4, f5⟩ := hf it (by simp)
    have W := Walks.range (prog := X.prog) (w := X.w) (I.ok.hd hc) it lo 1 n
    refine W.item i s _ _ hg st fun v h' tk hv st' kk => ?_
    obtain ⟨t, rfl⟩ := hv
    have I1 : Inv X pins σ H { s with heap := h', toks := tk } := I.turned (fun b o hb e => kk b o (by simpa using hb) e) f0 f1 f3 f4 f5
    refine ⟨_, rfl, go_of (s := { s with heap := h', toks := tk }) (n := "range_iterator") st' rfl rfl (by decide) ⟨.int (lo + i), H, I1, ⟨t, ?_⟩, ⟨rfl, rfl⟩, st', fun b hb => (hf b hb).1⟩⟩
    rw [Int.mul_one]
  done := by
    intro X hP hw hK hc i pins s σ H E I hf st hg
    subst hP hw hK
    obtain ⟨f0, f1, f2, f3, f4, f5⟩ := hf it (by simp)
    exact wpAny_pyNext_range_end (I.ok.hd hc) st (by have : n ≤ i := hg; omega) fun h' eb => ⟨rfl, I.turned (t' := s.toks) (fun b o hb e => eb b o hb e) f0 f1 f3 f4 f5⟩
  self := fun _ _ _ _ _ st h => wpAny_pyIter_rangeiter st h
end L2
namespace L2
open PySem PySem.Spec PyProof.Rows
section
variable {X : Cx} {tg : Expr}
noncomputable def iList (K : PySem.W.Frag) (tl : TE) : TI := fun σ H R => tl σ H fun x H1 => ∃ a, x = .ref a ∧ (∃ xs, SqL K H1 a xs) ∧ R (Itl K a) H1
noncomputable def iTup (K : PySem.W.Frag) (tl : TE) : TI := fun σ H R => tl σ H fun x H1 => ∃ a, x = .ref a ∧ (∃ xs, SqT K H1 a xs) ∧ R (Itt K a) H1
theorem pi_list {l : Expr} {tl : TE} (hl : PE X l tl) : PI X tg l (iList X.K tl) := by
  intro pins s σ H R I h
  refine thn (hl pins s σ H _ I h) fun v s1 ⟨x, H1, I1, r1, q1⟩ => ?_
  obtain ⟨a, e, ⟨xs, hq⟩, q⟩ := q1
  subst e
  cases r1
  obtain ⟨its, rv, p, hz⟩ := I1.list hq
  refine wpAny_pyIter_list p.isList ?_
  refine ⟨s1.heap.objs.size, [s1.heap.objs.size], _, _, H1, rfl, I1.kept (t' := s1.toks) fun b o e => Heap.get?_push_of_some _ e, turn_list a _, ⟨_, Heap.get?_push_size _ rfl, rfl, rfl⟩, fun b hb => ?_, q⟩
  have e : b = s1.heap.objs.size := by simpa using hb
  subst e
  exact I1.fpOk (Nat.le_refl _) (I1.hok.fresh (Nat.le_refl _))
theorem range_it {pins : List (Addr × Obj)} {σ : St} {H : Hp} {s : Shared} {R : It → Hp → Prop} {E : Value → Shared → Prop} {lo hi : Int} {t u v : Tok} {tk : Nat} (I : Inv X pins σ H s) (h1 : -(2 ^ 62) ≤ lo) (h2 : lo < 2 ^ 62) (h3 : -(2 ^ 62) ≤ hi) (h4 : hi < 2 ^ 62)
    (q : R (Itr lo (hi - lo).toNat) H) : wpAny (model X.prog X.w) X.A (pyIter (.ref s.heap.objs.size)) (PIE X pins σ tg R) E { s with heap := s.heap.push { cls := .type "range", data := .fields #[.int lo t, .int hi u, .int 1 v] }, toks := tk } := by
  refine wpAny_pyIter_range (IsRange.new ..) (small_one h1 h2 h3 h4) ?_
  have I1 : Inv X pins σ H { s with heap := s.heap.push { cls := .type "range", data := .fields #[.int lo t, .int hi u, .int 1 v] }, toks := tk } := I.kept fun b o e => Heap.get?_push_of_some _ e
  refine ⟨(s.heap.push { cls := .type "range", data := .fields #[.int lo t, .int hi u, .int 1 v] }).objs.size, [(s.heap.push { cls := .type "range", data := .fields #[.int lo t, .int hi u, .int 1 v] }).objs.size], _, _, H, rfl,
    I1.kept (t' := tk) fun b o e => Heap.get?_push_of_some _ e, turn_range _ lo (hi - lo).toNat, ?_, fun b hb => ?_, q⟩
  · have e1 : lo + ((0 : Nat) : Int) * 1 = lo := by simp
    have e2 : (((hi - lo).toNat : Nat) : Int) - ((0 : Nat) : Int) = Builtin.Range.rangeSize lo hi 1 := by rw [rangeSize_one]; split <;> omega
    show IsRangeIter _ _ (lo + ((0 : Nat) : Int) * 1) ((((hi - lo).toNat : Nat) : Int) - ((0 : Nat) : Int)) 1
    rw [e1, e2]
    exact Heap.get?_push_size _ rfl
  · have e : b = (s.heap.push { cls := .type "range", data := .fields #[.int lo t, .int hi u, .int 1 v] }).objs.size := by simpa using hb
    subst e
    exact I1.fpOk (Nat.le_refl _) (I1.hok.fresh (Nat.le_refl _))
noncomputable def iRng1 (ta : TA) : TI := fun σ H R => ta σ H fun vs H1 => ∃ j : Int, vs = [.int j] ∧ -(2 ^ 62) ≤ j ∧ j < 2 ^ 62 ∧ R (Itr 0 j.toNat) H1
noncomputable def iRng2 (ta : TA) : TI := fun σ H R => ta σ H fun vs H1 => ∃ i j : Int, vs = [.int i, .int j] ∧ (-(2 ^ 62) ≤ i ∧ i < 2 ^ 62 ∧ -(2 ^ 62) ≤ j ∧ j < 2 ^ 62) ∧ R (Itr i (j - i).toNat) H1
theorem pi_range1 {a : Expr} {ta : TA} {p pos : Pos} (hg : Gl X "range") (hm : X.mg "range" = none) (ha : PA X [a] ta) (hs : starEach [a] X.env = [(false, eval a X.env)] := by rfl) : PI X tg (.Call (.Name "range" p) [a] [] pos) (iRng1 ta) := by
  intro pins s σ H R I h
  refine Call_ (ld_blt I hg hm boot_range (PyProof.Rows.callWith_type1 (thn (ha pos pins s σ H _ I h) fun us s1 ⟨vs, H1, I1, r1, q1⟩ => ?_) hs rfl))
  obtain ⟨j, e, q1, q2, q⟩ := q1
  subst e
  cases r1 with
  | cons r rr =>
    cases rr
    obtain ⟨t, rfl⟩ := r
    exact call_range_1 (range_it I1 (by omega) (by omega) q1 q2 (by simpa using q))
noncomputable def tFor (wi : TI) (g : TG) (tb : TS) : TS := fun D σ H => wi σ H fun J H1 => ∃ W : Nat → Nat → St → Hp → Prop, (∃ m, W 0 m σ H1) ∧ ∀ i m σ H, W i m σ H →
  (J.stop i H ∧ D.nx σ H) ∨ (J.go i H ∧ ∃ N : St → Hp → Prop, (∀ σ' H', N σ' H' → ∃ m', m' < m ∧ W (i + 1) m' σ' H') ∧ ∀ x H', J.yld i H x H' → g x σ H' fun σ2 H2 => tb { D with nx := N, ct := N, bk := D.nx } σ2 H2)
noncomputable def pinsAt (fp : List Addr) (h : Heap) : List (Addr × Obj) := fp.filterMap fun b => (h.get? b).map fun o => (b, o)
theorem mem_pinsAt {fp : List Addr} {h : Heap} {b : Addr} {o : Obj} (hb : b ∈ fp) (e : h.get? b = some o) : (b, o) ∈ pinsAt fp h := List.mem_filterMap.mpr ⟨b, hb, by rw [e]; rfl⟩
theorem of_pinsAt {fp : List Addr} {h : Heap} {p : Addr × Obj} (hp : p ∈ pinsAt fp h) : p.1 ∈ fp ∧ h.get? p.1 = some p.2 := by
  obtain ⟨b, hb, e⟩ := List.mem_filterMap.mp hp
  cases q : h.get? b with
  | none => rw [q] at e; cases e
  | some o =>
    rw [q] at e
    have e' : (b, o) = p := Option.some.inj e
    subst e'
    exact ⟨hb, q⟩
theorem Inv.pinned {pins : List (Addr × Obj)} {σ : St} {H : Hp} {s : Shared} {fp : List Addr} (I : Inv X pins σ H s) (hf : ∀ b ∈ fp, FpOk X pins H b) (ho : ∀ b ∈ fp, ∃ o, s.heap.get? b = some o ∧ ∀ v, o.data ≠ .cell v) : Inv X (pins ++ pinsAt fp s.heap) σ H s :=
  I.pins_of fun p hp => (List.mem_append.mp hp).elim (fun z => I.pin p (List.mem_append_right _ z)) fun z => by
    obtain ⟨hb, e⟩ := of_pinsAt z
    obtain ⟨f0, f1, f2, _⟩ := hf p.1 hb
    obtain ⟨o, e', d⟩ := ho p.1 hb
    rw [e] at e'; cases e'
    exact ⟨e, f0, f1, f2, d⟩
theorem Inv.unpinned {pins pl : List (Addr × Obj)} {σ : St} {H : Hp} {s : Shared} (I : Inv X (pins ++ pl) σ H s) : Inv X pins σ H s := I.pins_of fun p hp => I.pin p (List.mem_append_right _ (List.mem_append_left _ hp))
theorem ps_for {iter : Expr} {body : List Stmt} {wi : TI} {g : TG} {tb : TS} {pos : Pos} (hp : PassesOwn (model X.prog X.w) X.A X.env X.xe) (hc : X.calm = true) (hi : PI X tg iter wi) (hg : PG X tg g) (hb : PSs X body tb)
    (hs : ∀ x, foldedSetIterable iter X.env x = pure x := by intro _; rfl) : PS X (.For tg iter body [] pos) (tFor wi g tb) := by
  intro pins s σ H D I h
  refine wpAny_For (thn (hi pins s σ H _ I h) fun v s1 h1 => thn h1 fun itv s2 h2 => ?_) hs
  obtain ⟨it, fp, tn, J, H2, e, I2, T, st2, f2, W, ⟨m0, w0⟩, turn⟩ := h2
  subst e
  have stat : ∀ {H' : Hp}, (∀ b ∈ fp, H' b = none) → ∀ b ∈ fp, FpOk X pins H' b := fun hn b hb => ⟨hn b hb, (f2 b hb).2⟩
  refine codeAny_forLoop_any (fun n s' => ∃ i σ' H', Inv X pins σ' H' s' ∧ tn i s'.heap ∧ (∀ b ∈ fp, H' b = none) ∧ W i n σ' H') ?_ m0 ⟨0, σ, H2, I2, st2, fun b hb => (f2 b hb).1, w0⟩
  rintro n s3 ⟨i, σ3, H3, I3, st3, fr3, w3⟩
  rcases turn i n σ3 H3 w3 with ⟨stop, qn⟩ | ⟨go, N, hN, step⟩
  · refine wpAny_passesOwn hp (thn (T.done X rfl rfl rfl hc i pins s3 σ3 H3 X.xe I3 (stat fr3) st3 stop) fun r s4 ⟨hr, I4⟩ => ?_)
    subst hr
    exact wpAny_execs_nil ⟨σ3, H3, I4, qn⟩
  · refine wpAny_passesOwn hp (thn (T.item X rfl rfl rfl hc i pins s3 σ3 H3 X.xe I3 (stat fr3) st3 go) fun r s4 ⟨u, hr, h4⟩ => ?_)
    subst hr
    refine wpAny_passesOwn hp (thn h4 fun _ s5 ⟨x, H5, I5, r5, y5, st5, fr5⟩ => ?_)
    have I5' := I5.pinned (stat fr5) (T.obj _ _ st5)
    refine wpAny_passesOwn hp (thn (hg _ s5 σ3 H5 x u _ I5' r5 (step x H5 y5)) fun _ s6 ⟨σ6, H6, I6, q6⟩ => ?_)
    refine wpAny_passesOwn hp (thn (hb _ s6 σ6 H6 _ I6 q6) fun f s7 q7 => ?_)
    have again : ∀ {σ7 : St} {H7 : Hp}, Inv X (pins ++ pinsAt fp s5.heap) σ7 H7 s7 → N σ7 H7 → ∃ m, m < n ∧ ∃ i σ' H', Inv X pins σ' H' s7 ∧ tn i s7.heap ∧ (∀ b ∈ fp, H' b = none) ∧ W i m σ' H' := fun {σ7 H7} I7 n7 => by
      obtain ⟨m', hm, w7⟩ := hN σ7 H7 n7
      refine ⟨m', hm, i + 1, σ7, H7, I7.unpinned, T.keep _ _ _ st5 fun b hb o e => (I7.pin (b, o) (List.mem_append_right _ (List.mem_append_right _ (mem_pinsAt hb e)))).1, fun b hb => ?_, w7⟩
      obtain ⟨o, e, d⟩ := T.obj _ _ st5 b hb
      exact (I7.pin (b, o) (List.mem_append_right _ (List.mem_append_right _ (mem_pinsAt hb e)))).2.1
    cases f with
    | next => obtain ⟨σ7, H7, I7, n7⟩ := q7; exact again I7 n7
    | cont => obtain ⟨σ7, H7, I7, n7⟩ := q7; exact again I7 n7
    | brk => obtain ⟨σ7, H7, I7, q7⟩ := q7; exact ⟨σ7, H7, I7.unpinned, q7⟩
    | ret v => obtain ⟨x7, σ7, H7, I7, r7, q7⟩ := q7; exact ⟨x7, σ7, H7, I7.unpinned, r7, q7⟩
end
theorem for_list {K : PySem.W.Frag} {a : Addr} {xs : List V} {g : TG} {tb : TS} {D : Ends} {σ : St} {H : Hp} (Pv : Nat → St → Hp → Prop) (h0 : Pv 0 σ H) (hl : ∀ i σ H, i ≤ xs.length → Pv i σ H → SqL K H a xs)
    (hs : ∀ i x σ H, xs[i]? = some x → Pv i σ H → g x σ H fun σ2 H2 => tb { D with nx := Pv (i + 1), ct := Pv (i + 1), bk := D.nx } σ2 H2) (hd : ∀ σ H, Pv xs.length σ H → D.nx σ H) :
    ∃ W : Nat → Nat → St → Hp → Prop, (∃ m, W 0 m σ H) ∧ ∀ i m σ H, W i m σ H →
      ((Itl K a).stop i H ∧ D.nx σ H) ∨ ((Itl K a).go i H ∧ ∃ N : St → Hp → Prop, (∀ σ' H', N σ' H' → ∃ m', m' < m ∧ W (i + 1) m' σ' H') ∧ ∀ x H', (Itl K a).yld i H x H' → g x σ H' fun σ2 H2 => tb { D with nx := N, ct := N, bk := D.nx } σ2 H2) := by
  refine ⟨fun i m σ H => m = xs.length - i ∧ i ≤ xs.length ∧ Pv i σ H, ⟨xs.length, by simp, Nat.zero_le _, h0⟩, ?_⟩
  rintro i m σ H ⟨rfl, hi, p⟩
  have q := hl i σ H hi p
  by_cases hlt : i < xs.length
  · refine .inr ⟨⟨xs, xs[i], q, by simp [hlt]⟩, Pv (i + 1), fun σ' H' p' => ⟨xs.length - (i + 1), by omega, rfl, hlt, p'⟩, fun x H' y => ?_⟩
    obtain ⟨e, y⟩ := y
    subst e
    exact hs i x σ _ (y xs q) p
  · have e : i = xs.length := by omega
    subst e
    exact .inl ⟨⟨xs, q, Nat.le_refl _⟩, hd σ H p⟩
theorem for_range {lo : Int} {n : Nat} {g : TG} {tb : TS} {D : Ends} {σ : St} {H : Hp} (Pv : Nat → St → Hp → Prop) (h0 : Pv 0 σ H)
    (hs : ∀ i σ H, i < n → Pv i σ H → g (.int (lo + i)) σ H fun σ2 H2 => tb { D with nx := Pv (i + 1), ct := Pv (i + 1), bk := D.nx } σ2 H2) (hd : ∀ σ H, Pv n σ H → D.nx σ H) :
    ∃ W : Nat → Nat → St → Hp → Prop, (∃ m, W 0 m σ H) ∧ ∀ i m σ H, W i m σ H →
      ((Itr lo n).stop i H ∧ D.nx σ H) ∨ ((Itr lo n).go i H ∧ ∃ N : St → Hp → Prop, (∀ σ' H', N σ' H' → ∃ m', m' < m ∧ W (i + 1) m' σ' H') ∧ ∀ x H', (Itr lo n).yld i H x H' → g x σ H' fun σ2 H2 => tb { D with nx := N, ct := N, bk := D.nx } σ2 H2) := by
  refine ⟨fun i m σ H => m = n - i ∧ i ≤ n ∧ Pv i σ H, ⟨n, by simp, Nat.zero_le _, h0⟩, ?_⟩
  rintro i m σ H ⟨rfl, hi, p⟩
  by_cases hlt : i < n
  · refine .inr ⟨hlt, Pv (i + 1), fun σ' H' p' => ⟨n - (i + 1), by omega, rfl, hlt, p'⟩, fun x H' y => ?_⟩
    obtain ⟨e, y⟩ := y
    subst e y
    exact hs i σ _ hlt p
  · have e : i = n := by omega
    subst e
    exact .inl ⟨Nat.le_refl _, hd σ H p⟩
end L2
namespace L2
open PySem PySem.Spec PyProof.Rows
noncomputable abbrev R2 := V → V → Hp → VK → Prop
noncomputable def OpR (X : Cx) (f : Value → Value → Sem Value) (r : R2) : Prop :=
  ∀ (pins : List (Addr × Obj)) (s : Shared) (σ : St) (H : Hp) (x y : V) (v u : Value) (Q : VK), Inv X pins σ H s → RelV x v → RelV y u → r x y H Q →
    wpAny (model X.prog X.w) X.A (f v u) (EP X pins σ Q) X.xe s
noncomputable def CallR (X : Cx) (f : Value) (r : List V → Hp → VK → Prop) : Prop :=
  ∀ (pins : List (Addr × Obj)) (s : Shared) (σ : St) (H : Hp) (xs : List V) (us : List Value) (Q : VK), Inv X pins σ H s → Vals xs us → r xs H Q →
    wpAny (model X.prog X.w) X.A (call f us) (EP X pins σ Q) X.xe s
noncomputable def TruR (X : Cx) (r : V → Hp → (Bool → Hp → Prop) → Prop) : Prop :=
  ∀ (pins : List (Addr × Obj)) (s : Shared) (σ : St) (H : Hp) (x : V) (v : Value) (Q : Bool → Hp → Prop), Inv X pins σ H s → RelV x v → r x H Q →
    wpAny (model X.prog X.w) X.A (truthy v) (TP X pins σ Q) X.xe s
noncomputable def tOp (r : R2) (ta tb : TE) : TE := fun σ H Q => ta σ H fun x H1 => tb σ H1 fun y H2 => r x y H2 Q
noncomputable def tUn (r : V → Hp → VK → Prop) (ta : TE) : TE := fun σ H Q => ta σ H fun x H1 => r x H1 Q
noncomputable def rI (C : Int → Int → Prop) (g : Int → Int → V) : R2 := fun x y H Q => ∃ i j, x = .int i ∧ y = .int j ∧ C i j ∧ Q (g i j) H
noncomputable def rI0 (g : Int → Int → V) : R2 := fun x y H Q => ∃ i j, x = .int i ∧ y = .int j ∧ Q (g i j) H
noncomputable def rU (g : Int → V) : V → Hp → VK → Prop := fun x H Q => ∃ i, x = .int i ∧ Q (g i) H
section
variable {X : Cx} {a b c : Expr} {ta tb tc : TE} {pos : Pos}
theorem binT (ha : PE X a ta) (hb : PE X b tb) {pins : List (Addr × Obj)} {s : Shared} {σ : St} {H : Hp} {R : V → V → Hp → Prop} (I : Inv X pins σ H s)
    (h : ta σ H fun x H1 => tb σ H1 fun y H2 => R x y H2) {Q : Value → Shared → Prop} {f : Value → Value → Sem Value}
    (hf : ∀ v u s2 x y H2, Inv X pins σ H2 s2 → RelV x v → RelV y u → R x y H2 → wpAny (model X.prog X.w) X.A (f v u) Q X.xe s2) :
    wpAny (model X.prog X.w) X.A (eval a X.env) (fun v s₁ => wpAny (model X.prog X.w) X.A (eval b X.env) (fun u s₂ => wpAny (model X.prog X.w) X.A (f v u) Q X.xe s₂) X.xe s₁) X.xe s := by
  refine thn (ha pins s σ H _ I h) fun v s1 ⟨x, H1, I1, r1, q1⟩ => ?_
  refine thn (hb pins s1 σ H1 _ I1 q1) fun u s2 ⟨y, H2, I2, r2, q2⟩ => ?_
  exact hf v u s2 x y H2 I2 r1 r2 q2
theorem pe_op {op : Operator} {r : R2} (ho : OpR X (binaryOp op) r) (ha : PE X a ta) (hb : PE X b tb) : PE X (.BinOp a op b pos) (tOp r ta tb) := by
  intro pins s σ H Q I h
  exact wpAny_BinOp (binT ha hb I h fun v u s2 x y H2 I2 rx ry q => ho pins s2 σ H2 x y v u Q I2 rx ry q)
theorem opI {f : Value → Value → Sem Value} {C : Int → Int → Prop} {g : Int → Int → Int}
    (rule : ∀ (i j : Int) (t u : Tok) (s : Shared) (Q : Value → Shared → Prop) (E : Value → Shared → Prop), C i j → Q (.int (g i j) s.toks) { s with toks := s.toks + 1 } → wpAny (model X.prog X.w) X.A (f (.int i t) (.int j u)) Q E s) :
    OpR X f (rI C fun i j => .int (g i j)) := by
  intro pins s σ H x y v u Q I rx ry h
  obtain ⟨i, j, rfl, rfl, hc, q⟩ := h
  obtain ⟨t, rfl⟩ := rx
  obtain ⟨t', rfl⟩ := ry
  exact rule i j t t' s _ _ hc ⟨.int (g i j), H, I.tok _, ⟨_, rfl⟩, q⟩
theorem opI0 {f : Value → Value → Sem Value} {g : Int → Int → Int}
    (rule : ∀ (i j : Int) (t u : Tok) (s : Shared) (Q : Value → Shared → Prop) (E : Value → Shared → Prop), Q (.int (g i j) s.toks) { s with toks := s.toks + 1 } → wpAny (model X.prog X.w) X.A (f (.int i t) (.int j u)) Q E s) :
    OpR X f (rI0 fun i j => .int (g i j)) := by
  intro pins s σ H x y v u Q I rx ry h
  obtain ⟨i, j, rfl, rfl, q⟩ := h
  obtain ⟨t, rfl⟩ := rx
  obtain ⟨t', rfl⟩ := ry
  exact rule i j t t' s _ _ ⟨.int (g i j), H, I.tok _, ⟨_, rfl⟩, q⟩
theorem opB0 {f : Value → Value → Sem Value} {g : Int → Int → Bool}
    (rule : ∀ (i j : Int) (t u : Tok) (s : Shared) (Q : Value → Shared → Prop) (E : Value → Shared → Prop), Q (.bool (g i j)) s → wpAny (model X.prog X.w) X.A (f (.int i t) (.int j u)) Q E s) :
    OpR X f (rI0 fun i j => .bl (g i j)) := by
  intro pins s σ H x y v u Q I rx ry h
  obtain ⟨i, j, rfl, rfl, q⟩ := h
  obtain ⟨t, rfl⟩ := rx
  obtain ⟨t', rfl⟩ := ry
  exact rule i j t t' s _ _ ⟨.bl (g i j), H, I, rfl, q⟩
noncomputable def CDiv (i j : Int) : Prop := 0 < j ∧ j < 1073741824
noncomputable def CMul (i j : Int) : Prop := (-(2 ^ 64) < i ∧ i < 2 ^ 64) ∨ (-(2 ^ 64) < j ∧ j < 2 ^ 64)
theorem CMul.ok {i j : Int} (h : CMul i j) : IntMulOk i j := by
  rcases h with ⟨h1, h2⟩ | ⟨h1, h2⟩
  · exact .of_left (intBits_le_64 h1 h2)
  · exact .of_right (intBits_le_64 h1 h2)
theorem op_add : OpR X (binaryOp .Add) (rI0 fun i j => .int (i + j)) := opI0 fun _ _ _ _ _ _ _ q => add_int q
theorem op_sub : OpR X (binaryOp .Sub) (rI0 fun i j => .int (i - j)) := opI0 fun _ _ _ _ _ _ _ q => sub_int q
theorem op_mul : OpR X (binaryOp .Mult) (rI CMul fun i j => .int (i * j)) := opI fun _ _ _ _ _ _ _ hc q => mul_int q hc.ok
theorem op_fdiv : OpR X (binaryOp .FloorDiv) (rI CDiv fun i j => .int (i / j)) := opI fun i j _ _ _ _ _ hc q => by
  have h1 : (0 : Int) < j := hc.1
  have h2 : j < 1073741824 := hc.2
  exact floordiv_int (by omega) (by rw [Int.fdiv_eq_ediv_of_nonneg i (by omega)]; exact q) (.inl (PyProof.noPylong_small (by omega)))
theorem op_mod : OpR X (binaryOp .Mod) (rI (fun _ j => 0 < j) fun i j => .int (i % j)) := opI fun i j _ _ _ _ _ hc q => by
  have h1 : (0 : Int) < j := hc
  exact mod_int' (by omega) (by rw [Int.fmod_eq_emod_of_nonneg i (by omega)]; exact q)
end
noncomputable def scal : V → V → Bool
  | .non, .non => true | .non, .int _ => true | .int _, .non => true | .non, .bl _ => true | .bl _, .non => true | .non, .str _ => true | .str _, .non => true
  | .int _, .int _ => true | .bl _, .bl _ => true | .str _, .str _ => true | .byt _, .byt _ => true
  | .int _, .str _ => true | .str _, .int _ => true | .bl _, .str _ => true | .str _, .bl _ => true
  | _, _ => false
noncomputable def rEq : R2 := fun x y H Q => scal x y = true ∧ Q (.bl (decide (x = y))) H
noncomputable def rNe : R2 := fun x y H Q => scal x y = true ∧ Q (.bl (!decide (x = y))) H
theorem dec_int {i j : Int} : decide (V.int i = V.int j) = (i == j) := by
  rw [Bool.eq_iff_iff]
  simp
theorem dec_bl {i j : Bool} : decide (V.bl i = V.bl j) = (i == j) := by
  rw [Bool.eq_iff_iff]
  simp
theorem dec_str {i j : Str} : decide (V.str i = V.str j) = (i == j) := by
  rw [Bool.eq_iff_iff]
  simp
theorem dec_byt {i j : Array UInt8} : decide (V.byt i = V.byt j) = (i.toList == j.toList) := by
  rw [Bool.eq_iff_iff]
  cases i
  cases j
  simp
section
variable {X : Cx} {a b c : Expr} {ta tb tc : TE} {pos : Pos}
theorem fin_bl {pins : List (Addr × Obj)} {σ : St} {H : Hp} {s : Shared} {Q : VK} {k k' : Bool} (I : Inv X pins σ H s) (q : Q (.bl k) H) (e : k = k') : EP X pins σ Q (.bool k') s := by
  subst e
  exact ⟨.bl k, H, I, rfl, q⟩
theorem op_eq : OpR X (compareOp .Eq) rEq := by
  intro pins s σ H x y v u Q I rx ry h
  obtain ⟨hs, q⟩ := h
  cases x with
  | non =>
    cases rx
    cases y with
    | non => cases ry; exact PySem.EqNone.eq_none_none (fin_bl I q (by simp))
    | bl j => cases ry; exact PySem.EqNone.eq_none_bool (fin_bl I q (by simp))
    | int j => obtain ⟨t', rfl⟩ := ry; exact PySem.EqNone.eq_none_int (fin_bl I q (by simp))
    | str j => obtain ⟨t', rfl⟩ := ry; exact PySem.EqNone.eq_none_str (fin_bl I q (by simp))
    | _ => exact absurd (show false = true from hs) Bool.false_ne_true
  | bl i =>
    cases rx
    cases y with
    | non => cases ry; exact PySem.EqNone.eq_bool_none (fin_bl I q (by simp))
    | bl j => cases ry; exact eq_bool (fin_bl I q dec_bl)
    | str j => obtain ⟨t', rfl⟩ := ry; exact PySem.EqMixed.eq_bool_str (fin_bl I q (by simp))
    | _ => exact absurd (show false = true from hs) Bool.false_ne_true
  | int i =>
    obtain ⟨t, rfl⟩ := rx
    cases y with
    | non => cases ry; exact PySem.EqNone.eq_int_none (fin_bl I q (by simp))
    | int j => obtain ⟨t', rfl⟩ := ry; exact eq_int (fin_bl I q dec_int)
    | str j => obtain ⟨t', rfl⟩ := ry; exact PySem.EqMixed.eq_int_str (fin_bl I q (by simp))
    | _ => exact absurd (show false = true from hs) Bool.false_ne_true
  | str i =>
    obtain ⟨t, rfl⟩ := rx
    cases y with
    | non => cases ry; exact PySem.EqNone.eq_str_none (fin_bl I q (by simp))
    | bl j => cases ry; exact PySem.EqMixed.eq_str_bool (fin_bl I q (by simp))
    | int j => obtain ⟨t', rfl⟩ := ry; exact PySem.EqMixed.eq_str_int (fin_bl I q (by simp))
    | str j => obtain ⟨t', rfl⟩ := ry; exact eq_str (fin_bl I q dec_str)
    | _ => exact absurd (show false = true from hs) Bool.false_ne_true
  | byt i =>
    obtain ⟨t, rfl⟩ := rx
    cases y with
    | byt j => obtain ⟨t', rfl⟩ := ry; exact PySem.W.eq_bytes (fin_bl I q dec_byt)
    | _ => exact absurd (show false = true from hs) Bool.false_ne_true
  | _ => cases y <;> exact absurd (show false = true from hs) Bool.false_ne_true
theorem op_ne : OpR X (compareOp .NotEq) rNe := by
  intro pins s σ H x y v u Q I rx ry h
  obtain ⟨hs, q⟩ := h
  cases x with
  | non =>
    cases rx
    cases y with
    | non => cases ry; exact PySem.EqNone.ne_none_none (fin_bl I q (by simp))
    | bl j => cases ry; exact PySem.EqNone.ne_none_bool (fin_bl I q (by simp))
    | int j => obtain ⟨t', rfl⟩ := ry; exact PySem.EqNone.ne_none_int (fin_bl I q (by simp))
    | str j => obtain ⟨t', rfl⟩ := ry; exact PySem.EqNone.ne_none_str (fin_bl I q (by simp))
    | _ => exact absurd (show false = true from hs) Bool.false_ne_true
  | bl i =>
    cases rx
    cases y with
    | non => cases ry; exact PySem.EqNone.ne_bool_none (fin_bl I q (by simp))
    | bl j => cases ry; exact ne_bool (fin_bl I q (congrArg not dec_bl))
    | str j => obtain ⟨t', rfl⟩ := ry; exact PySem.EqMixed.ne_bool_str (fin_bl I q (by simp))
    | _ => exact absurd (show false = true from hs) Bool.false_ne_true
  | int i =>
    obtain ⟨t, rfl⟩ := rx
    cases y with
    | non => cases ry; exact PySem.EqNone.ne_int_none (fin_bl I q (by simp))
    | int j => obtain ⟨t', rfl⟩ := ry; exact ne_int (fin_bl I q (congrArg not dec_int))
    | str j => obtain ⟨t', rfl⟩ := ry; exact PySem.EqMixed.ne_int_str (fin_bl I q (by simp))
    | _ => exact absurd (show false = true from hs) Bool.false_ne_true
  | str i =>
    obtain ⟨t, rfl⟩ := rx
    cases y with
    | non => cases ry; exact PySem.EqNone.ne_str_none (fin_bl I q (by simp))
    | bl j => cases ry; exact PySem.EqMixed.ne_str_bool (fin_bl I q (by simp))
    | int j => obtain ⟨t', rfl⟩ := ry; exact PySem.EqMixed.ne_str_int (fin_bl I q (by simp))
    | str j => obtain ⟨t', rfl⟩ := ry; exact ne_str (fin_bl I q (congrArg not dec_str))
    | _ => exact absurd (show false = true from hs) Bool.false_ne_true
  | byt i =>
    obtain ⟨t, rfl⟩ := rx
    cases y with
    | byt j => obtain ⟨t', rfl⟩ := ry; exact PySem.W.ne_bytes (fin_bl I q (congrArg not dec_byt))
    | _ => exact absurd (show false = true from hs) Bool.false_ne_true
  | _ => cases y <;> exact absurd (show false = true from hs) Bool.false_ne_true
theorem op_lt : OpR X (compareOp .Lt) (rI0 fun i j => .bl (decide (i < j))) := opB0 fun _ _ _ _ _ _ _ q => lt_int q
theorem op_le : OpR X (compareOp .LtE) (rI0 fun i j => .bl (decide (i ≤ j))) := opB0 fun _ _ _ _ _ _ _ q => le_int q
theorem op_gt : OpR X (compareOp .Gt) (rI0 fun i j => .bl (decide (j < i))) := opB0 fun _ _ _ _ _ _ _ q => gt_int q
theorem op_lt_str : OpR X (compareOp .Lt) (fun x y H Q => ∃ i j, x = .str i ∧ y = .str j ∧ Q (.bl (decide (i.cps.toList < j.cps.toList))) H) := by
  intro pins s σ H x y v u Q I rx ry h
  obtain ⟨i, j, rfl, rfl, q⟩ := h
  obtain ⟨t, rfl⟩ := rx
  obtain ⟨t', rfl⟩ := ry
  exact lt_str (fin_bl I q rfl)
theorem op_in_str : OpR X (compareOp .In) (fun x y H Q => ∃ i j, x = .str i ∧ y = .str j ∧ Q (.bl (!(Builtin.Str.occurrences j i 0 j.length 1).isEmpty)) H) := by
  intro pins s σ H x y v u Q I rx ry h
  obtain ⟨i, j, rfl, rfl, q⟩ := h
  obtain ⟨t, rfl⟩ := rx
  obtain ⟨t', rfl⟩ := ry
  exact in_str (fin_bl I q rfl)
theorem OpR.or {f : Value → Value → Sem Value} {r r' : R2} (h : OpR X f r) (h' : OpR X f r') : OpR X f (fun x y H Q => r x y H Q ∨ r' x y H Q) := by
  intro pins s σ H x y v u Q I rx ry q
  rcases q with q | q
  · exact h pins s σ H x y v u Q I rx ry q
  · exact h' pins s σ H x y v u Q I rx ry q
theorem nomark (b : Expr) {op : CmpOp} (h : op ≠ .In := by decide) (h2 : op ≠ .NotIn := by decide) : behindInMarks op b = false := by
  have e1 : (op == CmpOp.In) = false := by cases op <;> first | rfl | exact absurd rfl h
  have e2 : (op == CmpOp.NotIn) = false := by cases op <;> first | rfl | exact absurd rfl h2
  cases b <;> simp [behindInMarks, e1, e2]
theorem pe_cmpR {op : CmpOp} {r : R2} (ho : OpR X (compareOp op) r) (ha : PE X a ta) (hb : PE X b tb) (hm : behindInMarks op b = false) : PE X (.Compare a [op] [b] pos) (tOp r ta tb) := by
  intro pins s σ H Q I h
  exact wpAny_Compare1 (binT ha hb I h fun v u s2 x y H2 I2 rx ry q => ho pins s2 σ H2 x y v u Q I2 rx ry q) hm
noncomputable def tTest (t : TE) : TT := fun σ H Q => t σ H fun x H' => ∃ k, x = .bl k ∧ Q k H'
theorem pt_cmpR {op : CmpOp} {r : R2} (ho : OpR X (compareOp op) r) (ha : PE X a ta) (hb : PE X b tb) (hm : behindInMarks op b = false) : PT X (.Compare a [op] [b] pos) (tTest (tOp r ta tb)) := by
  intro pins s σ H Q I h
  refine wpAny_isTrue_Compare1 (thn (ha pins s σ H _ I h) fun v s1 ⟨x, H1, I1, r1, q1⟩ => thn (hb pins s1 σ H1 _ I1 q1) fun u s2 ⟨y, H2, I2, r2, q2⟩ =>
    thn (ho pins s2 σ H2 x y v u _ I2 r1 r2 q2) fun c s3 ⟨z, H3, I3, r3, k, e, q3⟩ => ?_) hm
  subst e
  cases r3
  exact wpAny_truthy_bool ⟨H3, I3, q3⟩
noncomputable def tChain (r r' : R2) (ta tb tc : TE) : TE := fun σ H Q => ta σ H fun x H1 => tb σ H1 fun y H2 => r x y H2 fun z H3 => ∃ k, z = .bl k ∧
  (if k = true then tc σ H3 fun w' H4 => r' y w' H4 Q else Q (.bl false) H3)
theorem pe_chain {op op' : CmpOp} {r r' : R2} (ho : OpR X (compareOp op) r) (ho' : OpR X (compareOp op') r') (ha : PE X a ta) (hb : PE X b tb) (hc : PE X c tc)
    (hm : lastMarks [op, op'] [b, c] = false := by with_unfolding_all rfl) : PE X (.Compare a [op, op'] [b, c] pos) (tChain r r' ta tb tc) := by
  intro pins s σ H Q I h
  refine Compare_chain (thn (ha pins s σ H _ I h) fun v s1 ⟨x, H1, I1, r1, q1⟩ => chain_link (thn (hb pins s1 σ H1 _ I1 q1) fun u s2 ⟨y, H2, I2, r2, q2⟩ =>
    thn (ho pins s2 σ H2 x y v u _ I2 r1 r2 q2) fun d s3 ⟨z, H3, I3, r3, k, e, q3⟩ => ?_)) hm
  subst e
  cases r3
  refine wpAny_truthy_bool ?_
  cases k with
  | false => exact ite_ff ⟨.bl false, H3, I3, rfl, q3⟩
  | true => exact ite_tt (chain_last (thn (hc pins s3 σ H3 _ I3 q3) fun w' s4 ⟨z', H4, I4, r4, q4⟩ => ho' pins s4 σ H4 y z' u w' Q I4 r2 r4 q4))
noncomputable def TruV (K : PySem.W.Frag) (x : V) (H : Hp) (k : Bool) : Prop :=
  match x with
  | .non => k = false
  | .bl b => k = b
  | .int i => k = (i != 0)
  | .str y => y.length ≤ sizeLine ∧ k = ((y.length : Int) != 0)
  | .byt y => y.size ≤ sizeLine ∧ k = ((y.size : Int) != 0)
  | .ref p => (∃ xs, SqL K H p xs ∧ k = !xs.isEmpty) ∨ (∃ xs, SqT K H p xs ∧ k = !xs.isEmpty) ∨ ∃ kvs, H p = some (.dK kvs) ∧ k = !kvs.isEmpty
  | _ => False
theorem isEmpty_kv {κ : Type} {kvs : List (κ × V)} {vs : List (κ × Value)} (r : KV kvs vs) : (!vs.isEmpty) = !kvs.isEmpty := by
  cases r <;> rfl
theorem isEmpty_of {xs : List V} {its : List Value} (r : Vals xs its) : (!its.toArray.isEmpty) = !xs.isEmpty := by
  cases r <;> simp
theorem line63 : (sizeLine : Nat) < 2 ^ 63 := by rw [sizeLine_eq]; decide
theorem tru_ok : TruR X (fun x H Q => ∃ k, TruV X.K x H k ∧ Q k H) := by
  intro pins s σ H x v Q I rx h
  obtain ⟨k, e, q⟩ := h
  have hl := line63
  have hs : sizeLine = 16777216 := sizeLine_eq
  cases x with
  | non =>
    cases rx
    have e' : k = false := e
    subst e'
    exact truthy_none ⟨H, I, q⟩
  | bl b =>
    cases rx
    have e' : k = b := e
    subst e'
    exact wpAny_truthy_bool ⟨H, I, q⟩
  | int i =>
    obtain ⟨t, rfl⟩ := rx
    have e' : k = (i != 0) := e
    subst e'
    exact PySem.P.truthy_int ⟨H, I, q⟩
  | str y =>
    obtain ⟨t, rfl⟩ := rx
    obtain ⟨hy, e'⟩ : y.length ≤ sizeLine ∧ k = ((y.length : Int) != 0) := e
    subst e'
    exact PySem.P.truthy_str (by omega) ⟨H, I.tok _, q⟩
  | byt y =>
    obtain ⟨t, rfl⟩ := rx
    obtain ⟨hy, e'⟩ : y.size ≤ sizeLine ∧ k = ((y.size : Int) != 0) := e
    subst e'
    exact PySem.W.truthy_bytes (by omega) ⟨H, I.tok _, q⟩
  | ref p =>
    cases rx
    have e' : (∃ xs, SqL X.K H p xs ∧ k = !xs.isEmpty) ∨ (∃ xs, SqT X.K H p xs ∧ k = !xs.isEmpty) ∨ ∃ kvs, H p = some (.dK kvs) ∧ k = !kvs.isEmpty := e
    rcases e' with ⟨xs, hx, e'⟩ | ⟨xs, hx, e'⟩ | ⟨kvs, hx, e'⟩
    · subst e'
      obtain ⟨its, r, pl, hz⟩ := I.list hx
      have hlen := r.length
      exact wpAny_truthy_list pl.isList (by simp only [List.size_toArray]; omega) ⟨H, I.tok _, by rw [isEmpty_of r]; exact q⟩
    · subst e'
      obtain ⟨its, r, pl, hz⟩ := I.tuple hx
      have hlen := r.length
      exact truthy_tuple pl (by simp only [List.size_toArray]; omega) ⟨H, I.tok _, by rw [isEmpty_of r]; exact q⟩
    · subst e'
      obtain ⟨hz, hS, vs, r, m⟩ : kvs.length ≤ sizeLine ∧ (p == sysModules) = false ∧ ∃ vs, KV kvs vs ∧ s.heap.DictOf (mixKind X.prog X.w) p vs := I.hok p _ hx
      have hlen : kvs.length = vs.length := Paired.length r
      exact wpAny_truthy_dict hS m (by omega) ⟨H, I.tok _, by rw [isEmpty_kv r]; exact q⟩
  | _ => exact (show False from e).elim
theorem pt_truth (ha : PE X a ta) (he : ∀ whole, isTrue a X.env whole = (do let v ← whole; standAt a.pos; holding [v] (truthy v))) :
    PT X a (fun σ H Q => ta σ H fun x H' => ∃ k, TruV X.K x H' k ∧ Q k H') := by
  intro pins s σ H Q I h
  exact isTrue_plain (thn (ha pins s σ H _ I h) fun v s1 ⟨x, H1, I1, r1, q1⟩ => tru_ok pins s1 σ H1 x v Q I1 r1 q1) (he _)
theorem op_add_str : OpR X (binaryOp .Add) (fun x y H Q => ∃ i j, x = .str i ∧ y = .str j ∧ i.length + j.length ≤ sizeLine ∧ Q (.str (i ++ j)) H) := by
  intro pins s σ H x y v u Q I rx ry h
  obtain ⟨i, j, rfl, rfl, hz, q⟩ := h
  obtain ⟨t, rfl⟩ := rx
  obtain ⟨t', rfl⟩ := ry
  exact add_str (fun t' tk => ⟨.str (i ++ j), H, I.tok _, ⟨_, rfl⟩, q⟩) hz
theorem vals1 {x : V} {us : List Value} (r : Vals [x] us) : ∃ u, us = [u] ∧ RelV x u := by
  cases r with
  | cons r1 r2 => cases r2; exact ⟨_, rfl, r1⟩
theorem vals2 {x y : V} {us : List Value} (r : Vals [x, y] us) : ∃ u w', us = [u, w'] ∧ RelV x u ∧ RelV y w' := by
  cases r with
  | cons r1 r2 =>
    cases r2 with
    | cons r3 r4 => cases r4; exact ⟨_, _, rfl, r1, r3⟩
noncomputable def LenV (K : PySem.W.Frag) (x : V) (H : Hp) (n : Nat) : Prop :=
  match x with
  | .str y => y.length ≤ sizeLine ∧ n = y.length
  | .byt y => y.size ≤ sizeLine ∧ n = y.size
  | .ref p => (∃ xs, SqL K H p xs ∧ n = xs.length) ∨ ∃ xs, SqT K H p xs ∧ n = xs.length
  | _ => False
theorem call_len : CallR X (.builtin "len") (fun xs H Q => ∃ x n, xs = [x] ∧ LenV X.K x H n ∧ Q (.int n) H) := by
  intro pins s σ H xs us Q I r h
  obtain ⟨x, n, rfl, e, q⟩ := h
  obtain ⟨u, rfl, rx⟩ := vals1 r
  have hl := line63
  have hs : sizeLine = 16777216 := sizeLine_eq
  cases x with
  | str y =>
    obtain ⟨t, rfl⟩ := rx
    obtain ⟨hy, e'⟩ : y.length ≤ sizeLine ∧ n = y.length := e
    subst e'
    exact len_str (by omega) ⟨.int _, H, I.tok _, ⟨_, rfl⟩, q⟩
  | byt y =>
    obtain ⟨t, rfl⟩ := rx
    obtain ⟨hy, e'⟩ : y.size ≤ sizeLine ∧ n = y.size := e
    subst e'
    exact PySem.W.len_bytes (by omega) ⟨.int _, H, I.tok _, ⟨_, rfl⟩, q⟩
  | ref p =>
    cases rx
    have e' : (∃ xs, SqL X.K H p xs ∧ n = xs.length) ∨ ∃ xs, SqT X.K H p xs ∧ n = xs.length := e
    rcases e' with ⟨xs, hx, e'⟩ | ⟨xs, hx, e'⟩
    · subst e'
      obtain ⟨its, r', pl, hz⟩ := I.list hx
      have hlen := r'.length
      exact Calls.call_len_list pl.isList (by simp only [List.size_toArray]; omega) ⟨.int xs.length, H, I.tok _, ⟨_, by simp only [List.size_toArray]; rw [hlen]⟩, q⟩
    · subst e'
      obtain ⟨its, r', pl, hz⟩ := I.tuple hx
      have hlen := r'.length
      exact len_tuple pl (by simp only [List.size_toArray]; omega) ⟨.int xs.length, H, I.tok _, ⟨_, by simp only [List.size_toArray]; rw [hlen]⟩, q⟩
  | _ => exact (show False from e).elim
end
end L2
namespace L2
open PySem PySem.Spec PyProof.Rows
theorem lookIn_ns {h : Heap} {dx : Addr} {mA : Str → Option Value} (n : h.Ns1 dx mA) : ∃ od, h.get? dx = some od ∧ ∀ name, PySem.W.lookIn name od = some (mA name) := by
  obtain ⟨o, es, ep, ho, hd, hk, _, hm⟩ := n
  refine ⟨o, ho, fun name => ?_⟩
  have e := hm name
  unfold nsFind findBy at e
  rw [← Array.find?_toList] at e
  unfold PySem.W.lookIn
  rw [hd]
  dsimp only
  split
  · rename_i y q
    rw [q] at e
    exact congrArg some e
  · rename_i q
    rw [q] at e
    have a : es.toList.any (·.refKey) = false := by
      rw [List.any_eq_false]
      intro y hy
      obtain ⟨z, t, hkey⟩ := hk y (Array.mem_toList_iff.mp hy)
      simp [DictEntry.refKey, hkey]
    have a' : ¬ es.toList.any (·.refKey) = true := by rw [a]; exact Bool.false_ne_true
    rw [if_neg a']
    exact congrArg some e
section
variable {prog : Program} {w : World} {A : Around} {E : Value → Shared → Prop} {s : Shared} {K : PySem.W.Frag} {x dx C f : Addr} {mA : Str → Option Value} {name : Str} {v : Value}
end
theorem RelO.some_of {v : V} {o : Option Value} (r : RelO (some v) o) : ∃ u, o = some u ∧ RelV v u := by
  cases o with
  | none => exact (show False from r).elim
  | some u => exact ⟨u, rfl, r⟩
theorem handed_of {v : V} {u : Value} (r : RelV v u) : PySem.W.handedIn u = true := by
  cases v with
  | non => cases (show u = Value.none from r); rfl
  | bl b => cases (show u = Value.bool b from r); rfl
  | int i => obtain ⟨t, e⟩ := (show ∃ t, u = Value.int i t from r); cases e; rfl
  | str x => obtain ⟨t, e⟩ := (show ∃ t, u = Value.str x t from r); cases e; rfl
  | byt b => obtain ⟨t, e⟩ := (show ∃ t, u = Value.bytes b t from r); cases e; rfl
  | flt b => obtain ⟨t, e⟩ := (show ∃ t, u = Value.float b t from r); cases e; rfl
  | ref a => cases (show u = Value.ref a from r); rfl
  | ty n => cases (show u = Value.type n from r); rfl
section
variable {P : Program} {w : World} {H H' : Hp} {h h' : Heap} {a C dx : Addr} {fs fs' : List (Str × V)}
end
structure Cls (K : PySem.W.Frag) (C : Addr) : Prop where
  pg : PySem.W.plainGet K C Str.empty = true
  hd : PySem.W.hasDictIn K C = true
  po : PySem.W.plainOver K C = true
  sa : PySem.W.findIn K (.ref C) "__setattr__" = some (some (.builtin "object.__setattr__"))
theorem Cls.get {K : PySem.W.Frag} {C : Addr} (c : Cls K C) (f : Str) : PySem.W.plainGet K C f = true := c.pg
noncomputable def NoAttr (K : PySem.W.Frag) (C : Addr) (f : Str) : Prop := PySem.W.findIn K (.ref C) f = some none
section
variable {X : Cx} {pins : List (Addr × Obj)} {σ : St} {H : Hp} {s : Shared} {a C dx : Addr} {fs : List (Str × V)} {f : Str} {v : V} {A : Around} {E : Value → Shared → Prop}
theorem attr_of {prog : Program} {w : World} {env : Env} {e : Expr} {f : Str} {pos : Pos} {s : Shared} {Q : Value → Shared → Prop} (hb : attributeBase e f env (eval e env) = eval e env)
    (h : wpAny (model prog w) A (eval e env) (fun o s₁ => wpAny (model prog w) A (getAttr o f true) Q E s₁) E s) : wpAny (model prog w) A (eval (.Attribute e f pos) env) Q E s :=
  Attribute_any_ h (by rw [arm_eval_Attribute, hb])
end
section
variable {X : Cx} {o e value : Expr} {f : Str} {pos pos' tpos : Pos} {ta tv : TE}
end
section
variable {X : Cx} {pins : List (Addr × Obj)} {σ : St} {H : Hp} {s : Shared} {A : Around} {E : Value → Shared → Prop} {Q : Value → Shared → Prop} {c : Value} {b : Bool}
end
end L2
namespace L2
open PySem PySem.Spec PyProof.Rows
structure Room (k : Nat) (A : Around) : Prop where
  hd : A.handled = none
  dp : A.depth + 3 * k + 5 < recursionLimit
  un : A.units + 16 * k + 200 < cLine
theorem Room.mono {j k : Nat} {A : Around} (r : Room k A) (h : j ≤ k) : Room j A := ⟨r.hd, by have := r.dp; omega, by have := r.un; omega⟩
theorem Room.deeper {k : Nat} {A : Around} (r : Room (k + 1) A) (env : Env) : Room k (A.deeper env) :=
  ⟨r.hd, by have := r.dp; show A.depth + 1 + 3 * k + 5 < _; omega, by have := r.un; show A.units + 3 + 16 * k + 200 < _; omega⟩
theorem Room.in1 {k : Nat} {A : Around} (r : Room (k + 1) A) : Room k A.in1 :=
  ⟨r.hd, by have := r.dp; show A.depth + 3 * k + 5 < _; omega, by have := r.un; show A.units + 1 + 16 * k + 200 < _; omega⟩
theorem make_depth {A : Around} {C : Addr} {us : List Value} {kw : List (Str × Value)} : (A.under (.builtin "type.__call__" ⟨.ref C :: us, kw⟩)).depth = A.depth + 1 := by
  first | rfl | simp [Around.under, Code.weight, Code.isCreation, Code.isGuard, Code.isCaller, Code.frames, Code.isFrame, guardIds]
theorem make_units {A : Around} {C : Addr} {us : List Value} {kw : List (Str × Value)} : (A.under (.builtin "type.__call__" ⟨.ref C :: us, kw⟩)).units = A.units + 1 := by
  first | rfl | simp [Around.under, Code.cUnits, Code.frames, Code.isFrame]
theorem Room.make {k : Nat} {A : Around} (r : Room (k + 1) A) (C : Addr) (us : List Value) (kw : List (Str × Value)) : Room k (A.under (.builtin "type.__call__" ⟨.ref C :: us, kw⟩)) :=
  ⟨r.hd, by have := r.dp; rw [make_depth]; omega, by have := r.un; rw [make_units]; omega⟩
theorem Room.depth {k : Nat} {A : Around} (r : Room k A) : A.depth < recursionLimit := by have := r.dp; omega
theorem Room.units {k : Nat} {A : Around} (r : Room k A) : A.units + 64 < cLine := by have := r.un; omega
noncomputable def tNil : TA := fun _ H Q => Q [] H
noncomputable def tCons (ta : TE) (tr : TA) : TA := fun σ H Q => ta σ H fun x H1 => tr σ H1 fun xs H2 => Q (x :: xs) H2
section
variable {X : Cx} {e : Expr} {es : List Expr} {te : TE} {t : TA} {pos : Pos}
theorem pa_nil : PA X [] tNil := fun _ _ _ _ H Q I h => Calls.spliced_nil ⟨[], H, I, .nil, h⟩
theorem pa_cons (ha : PE X e te) (hr : PA X es t) (hs : starEach (e :: es) X.env = (false, eval e X.env) :: starEach es X.env := by rfl) : PA X (e :: es) (tCons te t) := by
  intro pos pins s σ H Q I h
  rw [hs]
  show wpAny _ _ (spliced ((false, eval e X.env) :: backTo pos (starEach es X.env))) _ _ s
  refine Calls.spliced_cons (thn (ha pins s σ H _ I h) fun u s1 ⟨x, H1, I1, r1, q1⟩ => ?_)
  exact thn (hr pos pins s1 σ H1 _ I1 q1) fun us s2 ⟨xs, H2, I2, r2, q2⟩ => ⟨x :: xs, H2, I2, .cons r1 r2, q2⟩
noncomputable def tTup (t : TA) : TE := fun σ H Q => t σ H fun xs H1 => xs.length ≤ sizeLine ∧ ∀ p, H1 p = none → Q (.ref p) (upd H1 p (.tup xs))
noncomputable def tLst (t : TA) : TE := fun σ H Q => t σ H fun xs H1 => xs.length ≤ sizeLine ∧ ∀ p, H1 p = none → Q (.ref p) (upd H1 p (.lst xs))
theorem pe_tup {x1} (h : PA X es t) : PE X (.Tuple es x1 pos) (tTup t) := by
  intro pins s σ H Q I hq
  refine wpAny_Tuple_spliced (thn (h pos pins s σ H _ I hq) fun us s1 ⟨xs, H1, I1, r, z, q⟩ => ⟨by rw [← r.length]; exact z, ?_⟩)
  have hf : H1 s1.heap.objs.size = none := I1.hok.fresh (Nat.le_refl _)
  refine ⟨.ref s1.heap.objs.size, upd H1 s1.heap.objs.size (.tup xs), I1.laid (t' := s1.toks) (fun b u e => Heap.get?_push_of_some _ e) (Nat.le_refl _) ?_, rfl, q _ hf⟩
  exact ⟨z, us, r, ⟨_, Heap.get?_push_size _ rfl, rfl, _, rfl⟩⟩
theorem pe_lst (h : PA X es t) : PE X (.List es pos) (tLst t) := by
  intro pins s σ H Q I hq
  refine wpAny_List_spliced (thn (h pos pins s σ H _ I hq) fun us s1 ⟨xs, H1, I1, r, z, q⟩ => ⟨by rw [← r.length]; exact z, ?_⟩)
  have hf : H1 s1.heap.objs.size = none := I1.hok.fresh (Nat.le_refl _)
  refine ⟨.ref s1.heap.objs.size, upd H1 s1.heap.objs.size (.lst xs), I1.laid (t' := s1.toks) (fun b u e => Heap.get?_push_of_some _ e) (Nat.le_refl _) ?_, rfl, q _ hf⟩
  exact ⟨z, us, 0, r, Heap.get?_push_size _ rfl⟩
end
noncomputable abbrev Sp := List V → Hp → VK → XK → Prop
noncomputable abbrev CXT := List Env → Hp → Shared → XK → Value → Shared → Prop
structure Env0 (P : Program) (w : World) (K : PySem.W.Frag) (mg : Str → Option Value) (base : Heap) (A : Around) (outer : List Env) (s : Shared) (H : Hp) : Prop where
  frames : A.frames = some outer
  mod : Mod K mg base
  bs : ∀ b o, base.get? b = some o → s.heap.get? b = some o ∧ H b = none
  bsz : base.objs.size ≤ s.heap.objs.size
  funs : s.heap.FunFrames base outer
  frf : ∀ b ∈ frs outer, H b = none
  hok : HOk P w H s.heap
  bare : AllBare s.gens
noncomputable def CE (outer : List Env) (P : Program) (w : World) (H : Hp) (s : Shared) (Q : VK) (u : Value) (s' : Shared) : Prop :=
  ∃ v H', s'.os = s.os ∧ AllBare s'.gens ∧ Un (frs outer) [] H H' s.heap s'.heap ∧ HOk P w H' s'.heap ∧ RelV v u ∧ Q v H'
noncomputable def CR (CX : CXT) (outer : List Env) (P : Program) (w : World) (H : Hp) (s : Shared) (Q : VK) (E : XK) (r : Result) (s' : Shared) : Prop :=
  match r with
  | .ok (.ret u) => CE outer P w H s Q u s'
  | .ok _ => False
  | .error e => CX outer H s E e s'
structure FnOk (P : Program) (w : World) (K : PySem.W.Frag) (mg : Str → Option Value) (base : Heap) (CX : CXT) (k : Nat) (f : Addr) (fd : FuncData) (ps : List Str) (sp : Sp) : Prop where
  len : ∀ vs H Q E, sp vs H Q E → vs.length = ps.length
  run : ∀ (A : Around) (outer : List Env) (s : Shared) (H : Hp) (args : Args) (us : List Value) (vs : List V) (Q : VK) (E : XK), Room k A → Env0 P w K mg base A outer s H → BindsTo s fd args (ps.zip us) → Vals vs us → sp vs H Q E →
    codeAny (model P w) A (.call (.ref f) args) (CR CX outer P w H s Q E) s
theorem FnOk.mono {P : Program} {w : World} {K : PySem.W.Frag} {mg : Str → Option Value} {base : Heap} {CX : CXT} {j k : Nat} {f : Addr} {fd : FuncData} {ps : List Str} {sp : Sp} (F : FnOk P w K mg base CX j f fd ps sp) (h : j ≤ k) :
    FnOk P w K mg base CX k f fd ps sp := ⟨F.len, fun A outer s H args us vs Q E hr => F.run A outer s H args us vs Q E (hr.mono h)⟩
theorem Env0.make {P : Program} {w : World} {K : PySem.W.Frag} {mg : Str → Option Value} {base : Heap} {A : Around} {outer : List Env} {s : Shared} {H : Hp} (e : Env0 P w K mg base A outer s H) (C : Addr) (us : List Value) (kw : List (Str × Value)) :
    Env0 P w K mg base (A.under (.builtin "type.__call__" ⟨.ref C :: us, kw⟩)) outer s H := ⟨by first | exact e.frames | (simpa [Around.under, Code.envs, Code.isFrame, pushEnvs] using e.frames), e.mod, e.bs, e.bsz, e.funs, e.frf, e.hok, e.bare⟩
theorem Env0.in1 {P : Program} {w : World} {K : PySem.W.Frag} {mg : Str → Option Value} {base : Heap} {A : Around} {outer : List Env} {s : Shared} {H : Hp} (e : Env0 P w K mg base A outer s H) :
    Env0 P w K mg base A.in1 outer s H := ⟨e.frames, e.mod, e.bs, e.bsz, e.funs, e.frf, e.hok, e.bare⟩
section
variable {X : Cx} {pins : List (Addr × Obj)} {σ : St} {H : Hp} {s s' : Shared}
theorem Inv.env0 (I : Inv X pins σ H s) : Env0 X.prog X.w X.K X.mg X.base X.A X.stack s H :=
  ⟨I.ok.frames, I.ok.mod, I.bs, Nat.le_trans I.ok.bsz I.sz, I.stack, I.stkFree, I.hok, I.bare⟩
theorem Inv.after {Q : VK} {u : Value} (I : Inv X pins σ H s) (h : CE X.stack X.prog X.w H s Q u s') : EP X pins σ Q u s' := by
  obtain ⟨v, H', os, bare, un, hok, r, q⟩ := h
  obtain ⟨hh, g, d, t, os'⟩ := s'
  obtain rfl : os' = s.os := os
  exact ⟨v, H', I.call (h' := hh) (g' := g) (d' := d) (t' := t) (ch := []) un hok bare (fun b z => absurd z (by simp)), r, q⟩
end
noncomputable def tCall (sp : Sp) (dvs : List V) (E : XK) (t : TA) : TE := fun σ H Q => t σ H fun vs H1 => sp (vs ++ dvs) H1 Q E
noncomputable def Binds (K : PySem.W.Frag) (fd : FuncData) (ps : List Str) (ds : List Value) : Prop :=
  ∀ (s : Shared) (us : List Value), K.In s.heap → (us ++ ds).length = ps.length → BindsTo s fd ⟨us, []⟩ (ps.zip (us ++ ds))
theorem Binds.all {K : PySem.W.Frag} {fd : FuncData} {ps : List Str} (h : ∀ us : List Value, us.length = ps.length → bindArgs fd ⟨us, []⟩ = pure (ps.zip us)) : Binds K fd ps [] := fun s us _ hl => by
  rw [List.append_nil] at hl ⊢
  exact .of_eq (h us hl)
noncomputable def Passes (CX : CXT) (X : Cx) (E : XK) : Prop := ∀ (pins : List (Addr × Obj)) (σ : St) (H : Hp) (s : Shared) (e : Value) (s' : Shared), Inv X pins σ H s → CX X.stack H s E e s' → X.xe e s'
section
variable {X : Cx} {CX : CXT} {k : Nat} {f C : Addr} {fd : FuncData} {ps : List Str} {sp : Sp} {dvs : List V} {ds : List Value} {E : XK} {x m : Str} {p pos apos : Pos} {e o : Expr} {es : List Expr} {ta : TE} {t : TA}
theorem run_fn {pins : List (Addr × Obj)} {σ : St} {H : Hp} {s : Shared} {Q : VK} {us : List Value} {vs : List V} (F : FnOk X.prog X.w X.K X.mg X.base CX k f fd ps sp) (hr : Room k X.A) (hb : Binds X.K fd ps ds) (hd : Vals dvs ds) (hx : Passes CX X E)
    (I : Inv X pins σ H s) (r : Vals vs us) (h : sp (vs ++ dvs) H Q E) : wpAny (model X.prog X.w) X.A (call (.ref f) us) (EP X pins σ Q) X.xe s := by
  have r2 : Vals (vs ++ dvs) (us ++ ds) := r.append hd
  have hl : (us ++ ds).length = ps.length := by rw [← r2.length]; exact F.len _ _ _ _ h
  refine wpAny_call (codeAny_mono (F.run X.A X.stack s H ⟨us, []⟩ (us ++ ds) (vs ++ dvs) Q E hr I.env0 (hb s us I.kIn hl) r2 h) fun r s' hq => ?_)
  cases r with
  | error e => exact hx pins σ H s e s' I hq
  | ok fl =>
    cases fl with
    | ret u => exact I.after hq
    | next => exact False.elim hq
    | brk => exact False.elim hq
    | cont => exact False.elim hq
theorem pe_call (F : FnOk X.prog X.w X.K X.mg X.base CX k f fd ps sp) (hr : Room k X.A) (hg : Gl X x) (hm : X.mg x = some (.ref f)) (hk : PySem.W.keepIn X.K (.ref f) = true) (hb : Binds X.K fd ps ds) (hd : Vals dvs ds) (hx : Passes CX X E)
    (ha : PA X (e :: es) t) (hdb : (x == ("__debug__" : Str)) = false := by decide) (he : starEach (e :: es) X.env = (false, eval e X.env) :: starEach es X.env := by rfl) (hpl : (backTo pos (starEach es X.env)).any (·.1) = false := by rfl) :
    PE X (.Call (.Name x p) (e :: es) [] pos) (tCall sp dvs E t) := by
  intro pins s σ H Q I h
  refine wpAny_Call_Name_kw (ld_glob I hg hm ?_ hdb)
  refine PySem.W.callWith_K (h₀ := X.base) I.ok.mod.kin hk (thn (ha pos pins s σ H _ I h) fun us s1 ⟨vs, H1, I1, r, q⟩ => ⟨I1.kIn, ?_⟩) he hpl
  exact run_fn F hr hb hd hx I1 r q
end
section
variable {X : Cx} {CX : CXT} {k : Nat} {f C : Addr} {fd : FuncData} {ps ks : List Str} {sp : Sp} {E : XK} {x m : Str} {p pos apos kpos : Pos} {e o : Expr} {es : List Expr} {kws : List Keyword} {te ta : TE} {t tk : TA} {nm : Option Str}
variable {g : List Value → List Value → List Value} {gV : List V → List V → List V}
end
structure FnScope (N P : List Str) (sc : Scope) : Prop where
  kind : sc.kind = .function
  co : sc.isCoroutine = false
  gen : sc.isGenerator = false
  nd : N.Nodup
  pre : N.take P.length = P
  par : ∀ x ∈ P, sc.names.lookup x = some .local ∨ sc.names.lookup x = some .cell
  nofree : ∀ y ∈ sc.names, y.2 ≠ .free
theorem bindL_out {kindOf : Str → Option NameKind} {x : Str} : ∀ {binds : List (Str × Value)} {m : Str → Option Value}, (∀ v, (x, v) ∉ binds) → bindL kindOf binds m x = m x
  | [], _, _ => rfl
  | (n, v) :: r, m, h => by
    unfold bindL
    rw [bindL_out fun w hw => h w (List.mem_cons_of_mem _ hw)]
    split
    · have : x ≠ n := by rintro rfl; exact h v List.mem_cons_self
      simp [this]
    · rfl
theorem bindC_out {kindOf : Str → Option NameKind} {x : Str} : ∀ {binds : List (Str × Value)} {m : Str → Option Value}, (∀ v, (x, v) ∉ binds) → bindC kindOf binds m x = m x
  | [], _, _ => rfl
  | (n, v) :: r, m, h => by
    unfold bindC
    rw [bindC_out fun w hw => h w (List.mem_cons_of_mem _ hw)]
    split
    · rfl
    · have : x ≠ n := by rintro rfl; exact h v List.mem_cons_self
      simp [this]
theorem bindL_get {kindOf : Str → Option NameKind} {x : Str} {v : Value} : ∀ {P : List Str} {vs : List Value} {i : Nat} {m : Str → Option Value}, P.Nodup → P[i]? = some x → vs[i]? = some v → kindOf x = some .local →
    bindL kindOf (P.zip vs) m x = some v
  | [], _, _, _, _, h, _, _ => by simp at h
  | _ :: _, [], _, _, _, _, h, _ => by simp at h
  | p :: P, w :: vs, 0, m, nd, h1, h2, hk => by
    simp at h1 h2; subst h1; subst h2
    show bindL kindOf ((p, w) :: P.zip vs) m p = _
    unfold bindL
    rw [bindL_out fun v hv => (List.nodup_cons.mp nd).1 (List.of_mem_zip hv).1, if_pos hk]
    simp
  | p :: P, w :: vs, i + 1, m, nd, h1, h2, hk => by
    show bindL kindOf ((p, w) :: P.zip vs) m x = _
    unfold bindL
    exact bindL_get (i := i) (List.nodup_cons.mp nd).2 (by simpa using h1) (by simpa using h2) hk
theorem bindC_get {kindOf : Str → Option NameKind} {x : Str} {v : Value} : ∀ {P : List Str} {vs : List Value} {i : Nat} {m : Str → Option Value}, P.Nodup → P[i]? = some x → vs[i]? = some v → kindOf x ≠ some .local →
    bindC kindOf (P.zip vs) m x = some v
  | [], _, _, _, _, h, _, _ => by simp at h
  | _ :: _, [], _, _, _, _, h, _ => by simp at h
  | p :: P, w :: vs, 0, m, nd, h1, h2, hk => by
    simp at h1 h2; subst h1; subst h2
    show bindC kindOf ((p, w) :: P.zip vs) m p = _
    unfold bindC
    rw [bindC_out fun v hv => (List.nodup_cons.mp nd).1 (List.of_mem_zip hv).1, if_neg hk]
    simp
  | p :: P, w :: vs, i + 1, m, nd, h1, h2, hk => by
    show bindC kindOf ((p, w) :: P.zip vs) m x = _
    unfold bindC
    exact bindC_get (i := i) (List.nodup_cons.mp nd).2 (by simpa using h1) (by simpa using h2) hk
noncomputable def start (N : List Str) (vs : List V) : St := vs.map some ++ List.replicate (N.length - vs.length) none
noncomputable def cxOf (CX : CXT) (P : Program) (w : World) (K : PySem.W.Frag) (mg : Str → Option Value) (base : Heap) (N : List Str) (qual : Str) (scope : Scope) (f : Addr) (cd : Value) (A : Around) (outer : List Env) (s : Shared) (H : Hp) (E : XK) : Cx where
  prog := P
  w := w
  K := K
  mg := mg
  base := base
  A := A.deeper (envOfC qual scope s.heap.objs.size f cd)
  N := N
  s₀ := s
  H₀ := H
  env := envOfC qual scope s.heap.objs.size f cd
  outer := outer
  stack := envOfC qual scope s.heap.objs.size f cd :: outer
  ex := []
  calm := true
  fn := fun _ => true
  pn := []
  xe := fun e s' => wpAny (model P w) (A.deeper (envOfC qual scope s.heap.objs.size f cd)) (leaving (envOfC qual scope s.heap.objs.size f cd) e) (fun _ s'' => CX outer H s E e s'') (fun e' s'' => CX outer H s E e' s'') s'
theorem cell_has {sc : Scope} {n : Nat} {x : Str} (h : sc.names.lookup x = some .cell) : ∃ c, (cellsFrom n sc.names []).lookup x = some c := by
  have q := PySem.W.cellsFrom_some sc.names n [] (.inl h)
  exact Option.isSome_iff_exists.mp q
theorem inv_start {CX : CXT} {P : Program} {w : World} {K : PySem.W.Frag} {mg : Str → Option Value} {base : Heap} {N ps : List Str} {qual : Str} {scope : Scope} {f : Addr} {cd : Value} {A : Around} {outer : List Env} {s s1 : Shared} {H : Hp} {E : XK} {us : List Value} {vs : List V}
    (S : FnScope N ps scope) (hd : A.handled = none) (e0 : Env0 P w K mg base A outer s H) (hl : vs.length = ps.length) (r : Vals vs us)
    (x : InCallC s s.heap.objs.size (bindL (envOfC qual scope s.heap.objs.size f cd).kindOf (ps.zip us) fun _ => none) (cellsFrom (s.heap.objs.size + 1) scope.names []) (bindC (envOfC qual scope s.heap.objs.size f cd).kindOf (ps.zip us) fun _ => none) s1) :
    Inv (cxOf CX P w K mg base N qual scope f cd A outer s H E) [] (start N vs) H s1 := by
  have hpl : ps.length ≤ N.length := by have := congrArg List.length S.pre; rw [List.length_take] at this; omega
  obtain ⟨h1, tk, rfl, hk⟩ := x.done
  have noA : ∀ b : Addr, b ∉ (cxOf CX P w K mg base N qual scope f cd A outer s H E).ex := fun b z => absurd (show b ∈ ([] : List Addr) from z) (by simp)
  refine ⟨⟨e0.mod, S.kind, rfl, rfl, Nat.le_refl _, fun y z c h1 h2 => ?_, fun y hy => ?_, fun y c _ h => ?_, fun _ => hd, Around.frames_deeper e0.frames, .inr ⟨rfl, rfl⟩, fun b z => absurd z (noA b), e0.bs, e0.bsz, fun b _ _ => noA b, fun b z => absurd z (noA b), e0.funs, e0.frf⟩,
    rfl, e0.bare, Un.kept hk, ⟨_, x.toInCall.ns, fun i y v h1 h2 h3 => ?_⟩, fun y c h => ⟨_, x.cell y c h⟩, e0.hok.fresh (Nat.le_refl _), fun y c h => ?_, fun p hp => absurd (show p ∈ ([] : List (Addr × Obj)) from hp) (by simp), e0.hok.kept hk, ?_⟩
  · exact name_of_addr x.apart (PySem.mem_of_lookup h1) (PySem.mem_of_lookup h2)
  · have hy : scope.names.lookup y = some .cell ∨ scope.names.lookup y = some .free := hy
    rcases hy with hy | hy
    · exact cell_has hy
    · exact absurd rfl (S.nofree _ (PySem.mem_of_lookup hy))
  · exact Nat.le_of_lt (x.above y c (PySem.mem_of_lookup h))
  · have hi : i < vs.length := by
      unfold start at h2
      by_cases hi : i < vs.length
      · exact hi
      · rw [List.getElem?_append_right (by simpa using hi)] at h2
        rw [List.getElem?_replicate] at h2
        split at h2 <;> cases h2
    have ha : vs[i]? = some v := by
      unfold start at h2
      rw [List.getElem?_append_left (by simpa using hi), List.getElem?_map] at h2
      cases e : vs[i]? with
      | none => rw [e] at h2; cases h2
      | some a => rw [e] at h2; cases h2; rfl
    obtain ⟨u, hu, rv⟩ := r.get ha
    have hp : ps[i]? = some y := by
      rw [← S.pre, List.getElem?_take_of_lt (by omega)]; exact h1
    have ndP : ps.Nodup := by rw [← S.pre]; exact S.nd.sublist (List.take_sublist _ _)
    refine ⟨u, rv, ?_⟩
    rcases S.par y (List.mem_of_getElem? hp) with k | k
    · exact .inl ⟨k, bindL_get ndP hp hu k⟩
    · obtain ⟨c, e⟩ := cell_has (n := s.heap.objs.size + 1) k
      refine .inr ⟨.inl k, c, e, ?_⟩
      have q := x.cell y c e
      rw [bindC_get ndP hp hu (by show scope.names.lookup y ≠ _; rw [k]; decide)] at q
      exact q
  · exact e0.hok.fresh (Nat.le_of_lt (x.above y c (PySem.mem_of_lookup h)))
  · unfold start
    show _ = N.length
    rw [List.length_append, List.length_map, List.length_replicate]
    omega
theorem fn_of {CX : CXT} {P : Program} {w : World} {K : PySem.W.Frag} {mg : Str → Option Value} {base : Heap} {k : Nat} {f : Addr} {name qual : Str} {params : Arguments} {body : List Stmt} {scope : Scope} {dV kV doc pm cdv ct oc : Value} {an od : Option Addr}
    {osl : Array (Option Value)} {N ps : List Str} {sp : Sp} (lk : K.lookup f = some ⟨oc, od, .func (PySem.W.fnOf name qual params body scope dV kV doc pm an cdv ct), osl⟩) (hcd : PySem.W.codeIn K cdv qual = true) (S : FnScope N ps scope)
    (len : ∀ vs H Q E, sp vs H Q E → vs.length = ps.length)
    (hbody : ∀ (A : Around) (outer : List Env) (s : Shared) (H : Hp) (vs : List V) (Q : VK) (E : XK), Room k (A.deeper (envOfC qual scope s.heap.objs.size f cdv)) → sp vs H Q E →
      ∃ t, PSs (cxOf CX P w K mg base N qual scope f cdv A outer s H E) body t ∧ t { nx := fun _ H' => Q .non H', rt := Q } (start N vs) H) :
    FnOk P w K mg base CX (k + 1) f (PySem.W.fnOf name qual params body scope dV kV doc pm an cdv ct) ps sp := by
  refine ⟨len, fun A outer s H args us vs Q E hr e0 hb r hsp => ?_⟩
  have hl := len _ _ _ _ hsp
  have KX : K.In s.heap := e0.mod.kin.keeps fun b o e => (e0.bs b o e).1
  have lim : s.heap.NoLimit := e0.mod.nolimit.keeps fun b o e => (e0.bs b o e).1
  have hkind : ∀ y ∈ ps.zip us, scope.names.lookup y.1 = some .local ∨ (scope.names.lookup y.1 = some .cell ∧ ((cellsFrom (s.heap.objs.size + 1) scope.names []).lookup y.1).isSome = true) := fun ⟨n, v⟩ hy => by
    rcases S.par n (List.of_mem_zip hy).1 with q | q
    · exact .inl q
    · exact .inr ⟨q, PySem.W.cellsFrom_some _ _ _ (.inl q)⟩
  refine codeAny_call_function hr.depth (KX _ _ lk) rfl S.co S.gen rfl (PySem.W.codeRec_of KX hcd) (hb _ _ _ _ ?_)
  refine wpAny_newFunctionEnv_cells S.kind hkind fun env he s1 x => ?_
  subst he
  refine ⟨lim.keeps x.toInCall.keep, codeAny_func ?_⟩
  obtain ⟨t, ht, hq⟩ := hbody A outer s H vs Q E (hr.deeper _) hsp
  have I : Inv (cxOf CX P w K mg base N qual scope f cdv A outer s H E) [] (start N vs) H s1 := inv_start S hr.hd e0 hl r x
  refine wpAny_mono (ht [] s1 (start N vs) H _ I hq) (fun fl s' hs => ?_) fun e s' hs => hs
  have fin : ∀ {σ' : St} {H' : Hp} {v : V} {u : Value}, Inv (cxOf CX P w K mg base N qual scope f cdv A outer s H E) [] σ' H' s' → RelV v u → Q v H' → CE outer P w H s Q u s' :=
    fun {σ' H' v u} J rv q => ⟨v, H', J.os, J.bare, J.base, J.hok, rv, q⟩
  cases fl with
  | ret u =>
    obtain ⟨v, σ', H', J, rv, q⟩ := hs
    exact fin J rv q
  | next =>
    obtain ⟨σ', H', J, q⟩ := hs
    exact fin (v := V.non) (u := Value.none) J rfl q
  | brk =>
    obtain ⟨_, _, _, q⟩ := hs
    exact False.elim q
  | cont =>
    obtain ⟨_, _, _, q⟩ := hs
    exact False.elim q
end L2
namespace L2
open PySem PySem.Spec PyProof.Rows
section
variable {X : Cx} {x : Str} {p pos : Pos} {e : Expr} {es : List Expr} {t : TA} {id T : String} {r : List V → Hp → VK → Prop}
noncomputable def tCB (r : List V → Hp → VK → Prop) (t : TA) : TE := fun σ H Q => t σ H fun vs H1 => r vs H1 Q
theorem pe_callB (hc : CallR X (.builtin id) r) (hg : Gl X x) (hm : X.mg x = none) (hv : bootBuiltins x = some (.builtin id)) (ha : PA X (e :: es) t) (hn : x ≠ "__name__" := by decide) (hdb : (x == ("__debug__" : Str)) = false := by decide)
    (he : starEach (e :: es) X.env = (false, eval e X.env) :: starEach es X.env := by rfl) (hpl : (backTo pos (starEach es X.env)).any (·.1) = false := by rfl) : PE X (.Call (.Name x p) (e :: es) [] pos) (tCB r t) := by
  intro pins s σ H Q I h
  refine wpAny_Call_Name_kw (ld_blt I hg hm hv ?_ hn hdb)
  exact PyProof.Rows.callWith_builtin1 (thn (ha pos pins s σ H _ I h) fun us s1 ⟨vs, H1, I1, r1, q1⟩ => hc pins s1 σ H1 vs us Q I1 r1 q1) he hpl
theorem pe_callTy (hc : CallR X (.type T) r) (hg : Gl X x) (hm : X.mg x = none) (hv : bootBuiltins x = some (.type T)) (ha : PA X (e :: es) t) (hn : x ≠ "__name__" := by decide) (hdb : (x == ("__debug__" : Str)) = false := by decide)
    (he : starEach (e :: es) X.env = (false, eval e X.env) :: starEach es X.env := by rfl) (hpl : (backTo pos (starEach es X.env)).any (·.1) = false := by rfl) : PE X (.Call (.Name x p) (e :: es) [] pos) (tCB r t) := by
  intro pins s σ H Q I h
  refine wpAny_Call_Name_kw (ld_blt I hg hm hv ?_ hn hdb)
  exact PyProof.Rows.callWith_type1 (thn (ha pos pins s σ H _ I h) fun us s1 ⟨vs, H1, I1, r1, q1⟩ => hc pins s1 σ H1 vs us Q I1 r1 q1) he hpl
end
end L2
namespace HT
open PySem PyProof.Rows
section
open PySem.SeqAt
open PySem.AutoSeq1 (wpAny_loadPart')
open PySem.MeetsSeq PySem.MeetsSeq2 PySem.MeetsSeq3
end
section
variable {prog : Program} {w : World} {A : Around} {E : Value → Shared → Prop} {s : Shared}
theorem cat_tup {t b : Addr} {vs ws : List Value} {Q : Value → Shared → Prop} (ht : IsTup s.heap t vs.toArray) (hb : IsTup s.heap b ws.toArray) (hv : vs ≠ [])
    (h1 : ws = [] → Q (.ref t) s) (h2 : ws ≠ [] → Q (.ref s.heap.objs.size) { s with heap := s.heap.push { cls := .type "tuple", data := .seq (vs ++ ws).toArray } })
    (hsz : vs.length + ws.length ≤ sizeLine) : wpAny (model prog w) A (binaryOp .Add (.ref t) (.ref b)) Q E s := by
  obtain ⟨⟨cls, dd, data, sl⟩, ho, hc, n, hd⟩ := id ht
  obtain ⟨⟨cls2, dd2, data2, sl2⟩, ho2, hc2, n2, hd2⟩ := id hb
  simp only at hc hd hc2 hd2
  subst hc hd hc2 hd2
  have e : vs.toArray ++ ws.toArray = (vs ++ ws).toArray := by simp
  by_cases hw : ws = []
  · exact concat_meets ⟨_, ho, rfl⟩ ⟨_, ho2, rfl⟩ noFill_tuple_add seq_tuple_add PySem.F.slot_tuple_add PySem.F.entry_tuple_add (PySem.F.args_tuple_add_2 _ _)
      (tuple_addW1 t b vs.toArray ws.toArray n n2 dd dd2 sl sl2 (by simpa using hv) (by simp [hw])) ⟨ho, ho2, h1 hw⟩
  · refine concat_meets ⟨_, ho, rfl⟩ ⟨_, ho2, rfl⟩ noFill_tuple_add seq_tuple_add PySem.F.slot_tuple_add PySem.F.entry_tuple_add (PySem.F.args_tuple_add_2 _ _)
      (tuple_addW2 t b vs.toArray ws.toArray n n2 dd dd2 sl sl2 (by simpa using hv) (by simpa using hw) (by rw [List.size_toArray, List.size_toArray]; exact hsz)) ⟨ho, ho2, ?_⟩
    rw [e]
    exact h2 hw
noncomputable def sIx (n d : Nat) : Option Int → Nat
  | none => d
  | some v => if v < 0 then (v + (n : Int)).toNat else min v.toNat n
theorem sIx_nat (n d k : Nat) : sIx n d (some (k : Int)) = min k n := by
  show (if (k : Int) < 0 then ((k : Int) + (n : Int)).toNat else min (k : Int).toNat n) = min k n
  rw [if_neg (by omega), Int.toNat_natCast]
theorem sIx_le (n d : Nat) (hd : d ≤ n) (o : Option Int) : sIx n d o ≤ n := by
  cases o with
  | none => exact hd
  | some v =>
    show (if v < 0 then (v + (n : Int)).toNat else min v.toNat n) ≤ n
    by_cases hv : v < 0
    · rw [if_pos hv]; omega
    · rw [if_neg hv]; exact Nat.min_le_right _ _
theorem clip_eq (v : Int) (n d : Nat) : (if v < 0 then max (v + (n : Int)) 0 else min v (n : Int)) = ((sIx n d (some v) : Nat) : Int) := by
  show (if v < 0 then max (v + (n : Int)) 0 else min v (n : Int)) = (((if v < 0 then (v + (n : Int)).toNat else min v.toNat n) : Nat) : Int)
  by_cases hv : v < 0
  · simp only [if_pos hv]; omega
  · simp only [if_neg hv]; omega
theorem adjust_gen (lo hi : Option Int) (n : Nat) : Builtin.Slice.sliceAdjust lo hi 1 (n : Int) = (((sIx n 0 lo : Nat) : Int), ((sIx n n hi : Nat) : Int)) := by
  have h1 : ¬ ((1 : Int) < 0) := by omega
  unfold Builtin.Slice.sliceAdjust
  simp only [h1, if_false]
  refine Prod.ext ?_ ?_
  · cases lo with
    | none => rfl
    | some v => exact clip_eq v n 0
  · cases hi with
    | none => rfl
    | some v => exact clip_eq v n n
theorem places_gen (i j : Nat) : Builtin.Slice.slicePlaces (i : Int) (j : Int) 1 = j - i := by
  unfold Builtin.Slice.slicePlaces
  have h1 : (1 : Int) > 0 := by omega
  simp only [h1, if_true, Int.ediv_one]
  split <;> omega
theorem slicePart_ {v : Value} {o : Option Int} {Q : Option Int → Shared → Prop} (p : IsPart v o) (h : Q o s) : wpAny (model prog w) A (Builtin.Slice.slicePartIndex v) Q E s := by
  cases p with
  | none => exact slicePart_none h
  | int i t => exact slicePart_int h
theorem sliceApplied_gen {sl : Addr} {vl vu : Value} {lo hi : Option Int} {n : Nat} {Q : Int × Int × Nat → Shared → Prop} (hs : s.heap.IsSliceOf sl vl vu .none) (pl : IsPart vl lo) (pu : IsPart vu hi)
    (h : Q (((sIx n 0 lo : Nat) : Int), 1, sIx n n hi - sIx n 0 lo) s) : wpAny (model prog w) A (Builtin.Slice.sliceApplied (.ref sl) (pure (n : Int))) Q E s := by
  obtain ⟨os, hos, hcs, hds⟩ := id hs
  unfold Builtin.Slice.sliceApplied Builtin.Slice.sliceFields
  refine wpAny_bind (wpAny_bind (wpAny_field hos hds (x := vl) rfl (wpAny_bind (wpAny_field hos hds (x := vu) rfl (wpAny_bind (wpAny_field hos hds (x := .none) rfl (wpAny_pure ?_)))))))
  refine wpAny_bind (slicePart_none ?_)
  show wpAny _ _ (if ((1 : Int) == 0) = true then _ else _) _ _ s
  rw [if_neg (by decide)]
  refine wpAny_bind (slicePart_ pl (wpAny_bind (slicePart_ pu (wpAny_bind (wpAny_pure ?_)))))
  show wpAny _ _ (match Builtin.Slice.sliceAdjust lo hi 1 (n : Int) with | (lo, hi) => pure (lo, (1 : Int), Builtin.Slice.slicePlaces lo hi 1)) _ _ s
  rw [adjust_gen lo hi n]
  show wpAny _ _ (pure (((sIx n 0 lo : Nat) : Int), (1 : Int), Builtin.Slice.slicePlaces ((sIx n 0 lo : Nat) : Int) ((sIx n n hi : Nat) : Int) 1)) _ _ s
  rw [places_gen]
  exact wpAny_pure h
theorem pick_gen (xs : Array Value) (i k : Nat) : ((List.range k).filterMap fun (m : Nat) => xs[((i : Int) + (m : Int) * 1).toNat]?).toArray = ((xs.toList.drop i).take k).toArray := by
  have e : (fun (m : Nat) => xs[((i : Int) + (m : Int) * 1).toNat]?) = fun m => xs[i + m]? := by
    funext m
    have : ((i : Int) + (m : Int) * 1).toNat = i + m := by omega
    rw [this]
  rw [e]
  have := pick_run xs i k
  rw [List.filterMap_map] at this
  have e2 : ((fun x => xs[x]?) ∘ fun x => i + x) = fun m => xs[i + m]? := rfl
  rw [e2] at this
  rw [this]
theorem getItem_tuple_cut {t sl : Addr} {items : Array Value} {vl vu : Value} {lo hi : Option Int} {Q : Value → Shared → Prop} (ht : IsTup s.heap t items) (hs : s.heap.IsSliceOf sl vl vu .none) (pl : IsPart vl lo) (pu : IsPart vu hi)
    (hw : ¬ (sIx items.size 0 lo = 0 ∧ sIx items.size items.size hi = items.size))
    (h : Q (.ref s.heap.objs.size) { s with heap := s.heap.push { cls := .type "tuple", data := .seq ((items.toList.drop (sIx items.size 0 lo)).take (sIx items.size items.size hi - sIx items.size 0 lo)).toArray } })
    (hsz : items.size ≤ sizeLine) : wpAny (model prog w) A (getItem (.ref t) (.ref sl)) Q E s := by
  have htake : sizeOk (.seq ((items.toList.drop (sIx items.size 0 lo)).take (sIx items.size items.size hi - sIx items.size 0 lo)).toArray) := by
    show ((items.toList.drop (sIx items.size 0 lo)).take (sIx items.size items.size hi - sIx items.size 0 lo)).toArray.size ≤ sizeLine
    rw [List.size_toArray, List.length_take, List.length_drop, Array.length_toList]
    omega
  have hj : sIx items.size items.size hi ≤ items.size := sIx_le _ _ (Nat.le_refl _) hi
  obtain ⟨os, hos, hcs, hds⟩ := id hs
  have hTs : s.TypeIs (.ref sl) "slice" := ⟨os, hos, hcs⟩
  unfold getItem
  try with_reducible refine wpAny_holding ?_
  first | refine wpAny_bind (wpAny_pure ?_) | skip
  refine wpAny_bind (wpAny_sequenceKey ht.typeIs (by decide) ?_)
  refine wpAny_bind (wpAny_callSpecial?_slot (name := Str.ofString "__getitem__") ht.typeIs PyProof.Rows.slot_tuple_getitem
    (wpAny_call_entry PyProof.Rows.slot_tuple_getitem ht.typeIs entry_tuple_getitem ?_ (args_tuple_getitem _ _)))
  show wpAny _ _ (Builtin.Tuple.tupleItemsOf (.ref t) >>= _) _ _ s
  refine wpAny_bind (tupleItemsOf_ ht ?_)
  refine wpAny_bind (wpAny_typeOf hTs ?_)
  rw [if_pos (by decide)]
  refine wpAny_bind (sliceApplied_gen hs pl pu ?_)
  have hno : ¬ ((((sIx items.size 0 lo : Nat) : Int) == 0 && (1 : Int) == 1 && (sIx items.size items.size hi - sIx items.size 0 lo) == items.size) = true) := by
    intro q
    rw [Bool.and_eq_true, Bool.and_eq_true] at q
    have q1 : ((sIx items.size 0 lo : Nat) : Int) = 0 := eq_of_beq q.1.1
    have q2 : sIx items.size items.size hi - sIx items.size 0 lo = items.size := eq_of_beq q.2
    exact hw ⟨by omega, by omega⟩
  show wpAny _ _ (if (((sIx items.size 0 lo : Nat) : Int) == 0 && (1 : Int) == 1 && (sIx items.size items.size hi - sIx items.size 0 lo) == items.size) = true then _ else _) _ _ s
  rw [if_neg hno, pick_gen]
  first
    | exact wpAny_bind (m := Builtin.Tuple.tupleExact _) (wpAny_newObj_type (wpAny_pure ⟨_, rfl, wpAny_pure h⟩) htake)
    | exact wpAny_bind (m := Builtin.Tuple.tupleExact _) (wpAny_newObj_type (wpAny_bind (wpAny_pure (wpAny_pure ⟨_, rfl, wpAny_pure h⟩))) htake)
    | exact wpAny_bind (wpAny_bind (m := Builtin.Tuple.tupleExact _) (wpAny_newObj_type (wpAny_pure (wpAny_pure ⟨_, rfl, wpAny_pure h⟩)) htake))
    | exact wpAny_bind (wpAny_bind (m := Builtin.Tuple.tupleExact _) (wpAny_newObj_type (wpAny_pure ⟨_, rfl, wpAny_pure h⟩) htake))
end
end HT
namespace L2
open PySem PySem.Spec PyProof.Rows
noncomputable abbrev TO := St → Hp → (Option Int → Hp → Prop) → Prop
noncomputable def PO (X : Cx) (e : Option Expr) (t : TO) : Prop :=
  ∀ (pins : List (Addr × Obj)) (s : Shared) (σ : St) (H : Hp) (Q : Option Int → Hp → Prop), Inv X pins σ H s → t σ H Q →
    wpAny (model X.prog X.w) X.A (evalPart e X.env) (fun u s' => ∃ o H', Inv X pins σ H' s' ∧ IsPart u o ∧ Q o H') X.xe s
noncomputable def tNoPart : TO := fun _ H Q => Q none H
noncomputable def tPart (t : TE) : TO := fun σ H Q => t σ H fun x H1 => ∃ i, x = .int i ∧ Q (some i) H1
section
variable {X : Cx} {e : Expr} {te : TE} {lo hi : Option Expr} {tl th : TO} {pos p2 : Pos}
theorem po_some (h : PE X e te) : PO X (some e) (tPart te) := by
  intro pins s σ H Q I hw
  rw [evalPart_some]
  refine thn (h pins s σ H _ I hw) fun u s1 ⟨x, H1, I1, r1, q1⟩ => ?_
  obtain ⟨i, rfl, q⟩ := q1
  obtain ⟨t, rfl⟩ := r1
  exact ⟨some i, H1, I1, .int i t, q⟩
noncomputable def SlR (X : Cx) (r : V → Option Int → Option Int → Hp → VK → Prop) : Prop :=
  ∀ (pins : List (Addr × Obj)) (s : Shared) (σ : St) (H : Hp) (x : V) (v vl vu : Value) (lo hi : Option Int) (sl : Addr) (Q : VK), Inv X pins σ H s → RelV x v → s.heap.IsSliceOf sl vl vu .none → IsPart vl lo → IsPart vu hi → r x lo hi H Q →
    ∃ T id, typeLookup (.type T) "__getitem__" = pure (some (.builtin id)) ∧ s.TypeIs v T ∧ wpAny (model X.prog X.w) X.A (getItem v (.ref sl)) (EP X pins σ Q) X.xe s
theorem SlR.or {r r' : V → Option Int → Option Int → Hp → VK → Prop} (h : SlR X r) (h' : SlR X r') : SlR X (fun x lo hi H Q => r x lo hi H Q ∨ r' x lo hi H Q) := by
  intro pins s σ H x v vl vu lo hi sl Q I rx hs pl pu q
  rcases q with q | q
  · exact h pins s σ H x v vl vu lo hi sl Q I rx hs pl pu q
  · exact h' pins s σ H x v vl vu lo hi sl Q I rx hs pl pu q
noncomputable def tSl (r : V → Option Int → Option Int → Hp → VK → Prop) (te : TE) (tl th : TO) : TE := fun σ H Q => te σ H fun x H1 => tl σ H1 fun l H2 => th σ H2 fun u H3 => r x l u H3 Q
theorem pe_slice {r : V → Option Int → Option Int → Hp → VK → Prop} (hr : SlR X r) (he : PE X e te) (hl : PO X lo tl) (hu : PO X hi th) : PE X (.Subscript e (.Slice lo hi none p2) pos) (tSl r te tl th) := by
  intro pins s σ H Q I h
  refine Subscript_ (thn (he pins s σ H _ I h) fun v s1 ⟨x, H1, I1, r1, q1⟩ => ?_)
  refine wpAny_Slice (thn (hl pins s1 σ H1 _ I1 q1) fun vl s2 ⟨l, H2, I2, pl, q2⟩ => thn (hu pins s2 σ H2 _ I2 q2) fun vu s3 ⟨u, H3, I3, pu, q3⟩ => ?_)
  rw [evalPart_none]
  refine wpAny_pure ?_
  have I4 : Inv X pins σ H3 { s3 with heap := s3.heap.push { cls := .type "slice", data := .fields #[vl, vu, .none] } } := I3.kept (t' := s3.toks) fun b ob q => Heap.get?_push_of_some _ q
  obtain ⟨T, id, hT, ht, hg⟩ := hr pins { s3 with heap := s3.heap.push { cls := .type "slice", data := .fields #[vl, vu, .none] } } σ H3 x v vl vu l u s3.heap.objs.size Q I4 r1 (Heap.IsSliceOf.new ..) pl pu q3
  show wpAny (model X.prog X.w) X.A (subscriptTail e (.Slice lo hi none p2) v (.ref s3.heap.objs.size)) (EP X pins σ Q) X.xe { s3 with heap := s3.heap.push { cls := .type "slice", data := .fields #[vl, vu, .none] } }
  exact tail_any (ops := [.ref s3.heap.objs.size, v]) ht hT hg (by with_unfolding_all rfl)
noncomputable def cutV (xs : List V) (lo hi : Option Int) : List V := (xs.drop (HT.sIx xs.length 0 lo)).take (HT.sIx xs.length xs.length hi - HT.sIx xs.length 0 lo)
theorem cutV_length (xs : List V) (lo hi : Option Int) : (cutV xs lo hi).length ≤ xs.length := by
  unfold cutV
  rw [List.length_take, List.length_drop]
  omega
noncomputable def rSlT (K : PySem.W.Frag) : V → Option Int → Option Int → Hp → VK → Prop := fun x lo hi H Q => ∃ a xs, x = .ref a ∧ SqT K H a xs ∧
  ¬ (HT.sIx xs.length 0 lo = 0 ∧ HT.sIx xs.length xs.length hi = xs.length) ∧ ∀ p, H p = none → Q (.ref p) (upd H p (.tup (cutV xs lo hi)))
theorem sl_tup : SlR X (rSlT X.K) := by
  intro pins s σ H x v vl vu lo hi sl Q I rx hs pl pu h
  obtain ⟨a, xs, rfl, hx, hw, q⟩ := h
  cases rx
  obtain ⟨its, r, ht, hz⟩ := I.tuple hx
  have hlen : its.toArray.size = xs.length := by rw [List.size_toArray]; exact r.length.symm
  refine ⟨"tuple", _, PyProof.Rows.slot_tuple_getitem.lookup, ht.typeIs, ?_⟩
  refine HT.getItem_tuple_cut ht hs pl pu (by rw [hlen]; exact hw) ?_ (by rw [hlen]; exact hz)
  rw [hlen]
  refine ⟨.ref s.heap.objs.size, _, I.laid (t' := s.toks) (o := .tup (cutV xs lo hi)) (fun b ob q => Heap.get?_push_of_some _ q) (Nat.le_refl _) ?_, rfl, q _ (I.hok.fresh (Nat.le_refl _))⟩
  exact ⟨Nat.le_trans (cutV_length xs lo hi) hz, _, (r.drop (HT.sIx xs.length 0 lo)).take (HT.sIx xs.length xs.length hi - HT.sIx xs.length 0 lo), IsTup.new _ _⟩
noncomputable def rCatT (K : PySem.W.Frag) : R2 := fun x y H Q => ∃ a b xs ys, x = .ref a ∧ y = .ref b ∧ SqT K H a xs ∧ SqT K H b ys ∧ xs ≠ [] ∧ xs.length + ys.length ≤ sizeLine ∧
  (ys = [] → Q (.ref a) H) ∧ (ys ≠ [] → ∀ p, H p = none → Q (.ref p) (upd H p (.tup (xs ++ ys))))
theorem Vals.nil_iff {xs : List V} {us : List Value} (r : Vals xs us) : us = [] ↔ xs = [] := by
  cases r with
  | nil => simp
  | cons _ _ => simp
theorem op_catT : OpR X (binaryOp .Add) (rCatT X.K) := by
  intro pins s σ H x y v u Q I rx ry h
  obtain ⟨a, b, xs, ys, rfl, rfl, ha, hb, hx, hz, q1, q2⟩ := h
  cases rx
  cases ry
  obtain ⟨its, r1, p1, _⟩ := I.tuple ha
  obtain ⟨its2, r2, p2, _⟩ := I.tuple hb
  refine HT.cat_tup p1 p2 (fun z => hx (r1.nil_iff.mp z)) (fun z => ⟨.ref a, H, I, rfl, q1 (r2.nil_iff.mp z)⟩) (fun z => ?_) (by rw [← r1.length, ← r2.length]; exact hz)
  refine ⟨.ref s.heap.objs.size, _, I.laid (t' := s.toks) (o := .tup (xs ++ ys)) (fun b ob q => Heap.get?_push_of_some _ q) (Nat.le_refl _) ?_, rfl, q2 (fun w => z (r2.nil_iff.mpr w)) _ (I.hok.fresh (Nat.le_refl _))⟩
  exact ⟨by rw [List.length_append]; exact hz, _, r1.append r2, IsTup.new _ _⟩
end
end L2
namespace L2
open PySem PySem.Spec PyProof.Rows
noncomputable def ixN (n : Nat) (i : Int) : Option Nat := if 0 ≤ i then (if i < n then some i.toNat else none) else if -(n : Int) ≤ i then some (i + n).toNat else none
noncomputable def atI {α : Type} (xs : List α) (i : Int) : Option α := (ixN xs.length i).bind fun j => xs[j]?
theorem ixN_seq {n : Nat} {i : Int} {j : Nat} (h : ixN n i = some j) : seqIndex? i n = some j ∧ j < n ∧ -(n : Int) ≤ i ∧ i < n := by
  unfold ixN at h
  by_cases h0 : 0 ≤ i
  · rw [if_pos h0] at h
    by_cases h1 : i < n
    · rw [if_pos h1] at h
      have e : i.toNat = j := Option.some.inj h
      exact ⟨by rw [seqIndex_of h0 h1, e], by omega, by omega, h1⟩
    · rw [if_neg h1] at h; cases h
  · rw [if_neg h0] at h
    by_cases h1 : -(n : Int) ≤ i
    · rw [if_pos h1] at h
      have e : (i + n).toNat = j := Option.some.inj h
      exact ⟨by rw [seqIndex_neg (by omega) h1, e], by omega, h1, by omega⟩
    · rw [if_neg h1] at h; cases h
theorem atI_get {α : Type} {xs : List α} {i : Int} {v : α} (h : atI xs i = some v) : ∃ j, seqIndex? i xs.length = some j ∧ xs[j]? = some v ∧ j < xs.length ∧ -(xs.length : Int) ≤ i ∧ i < xs.length := by
  unfold atI at h
  cases e : ixN xs.length i with
  | none => rw [e] at h; cases h
  | some j =>
    rw [e] at h
    obtain ⟨h1, h2, h3, h4⟩ := ixN_seq e
    exact ⟨j, h1, h, h2, h3, h4⟩
theorem atI_nat {α : Type} {xs : List α} {j : Nat} {v : α} (h : xs[j]? = some v) : atI xs (j : Int) = some v := by
  have hj : j < xs.length := (List.getElem?_eq_some_iff.mp h).1
  have e : ixN xs.length (j : Int) = some j := by
    unfold ixN
    rw [if_pos (by omega), if_pos (by omega)]; simp
  unfold atI; rw [e]; exact h
noncomputable def PlainIx (b : Expr) : Prop := ∀ o i, subscripted b false o i = operate [o, i] (getItem o i)
noncomputable def IxR (X : Cx) (r : R2) : Prop :=
  ∀ (value slice : Expr) (pins : List (Addr × Obj)) (s : Shared) (σ : St) (H : Hp) (x y : V) (v u : Value) (Q : VK), Inv X pins σ H s → RelV x v → RelV y u → r x y H Q →
    subscripted slice false v u = operate [v, u] (getItem v u) → wpAny (model X.prog X.w) X.A (subscriptTail value slice v u) (EP X pins σ Q) X.xe s
noncomputable def MtR (X : Cx) (id : String) (r : V → List V → Hp → VK → Prop) : Prop :=
  ∀ (pins : List (Addr × Obj)) (s : Shared) (σ : St) (H : Hp) (x : V) (xs : List V) (v : Value) (us : List Value) (Q : VK), Inv X pins σ H s → RelV x v → Vals xs us → r x xs H Q →
    wpAny (model X.prog X.w) X.A (call (.builtin id) (v :: us)) (EP X pins σ Q) X.xe s
section
variable {X : Cx} {a b : Expr} {ta tb : TE} {pos : Pos}
theorem IxR.or {r r' : R2} (h : IxR X r) (h' : IxR X r') : IxR X (fun x y H Q => r x y H Q ∨ r' x y H Q) := by
  intro value slice pins s σ H x y v u Q I rx ry q hs
  rcases q with q | q
  · exact h value slice pins s σ H x y v u Q I rx ry q hs
  · exact h' value slice pins s σ H x y v u Q I rx ry q hs
theorem MtR.or {id : String} {r r' : V → List V → Hp → VK → Prop} (h : MtR X id r) (h' : MtR X id r') : MtR X id (fun x xs H Q => r x xs H Q ∨ r' x xs H Q) := by
  intro pins s σ H x xs v us Q I rx rs q
  rcases q with q | q
  · exact h pins s σ H x xs v us Q I rx rs q
  · exact h' pins s σ H x xs v us Q I rx rs q
theorem pe_ix {r : R2} (hr : IxR X r) (ha : PE X a ta) (hb : PE X b tb) (hs : PlainIx b) : PE X (.Subscript a b pos) (tOp r ta tb) := by
  intro pins s σ H Q I h
  exact Subscript_ (binT ha hb I h fun v u s2 x y H2 I2 rx ry q => hr a b pins s2 σ H2 x y v u Q I2 rx ry q (hs _ _))
noncomputable def rIxL (K : PySem.W.Frag) : R2 := fun x y H Q => ∃ p xs i v, x = .ref p ∧ y = .int i ∧ SqL K H p xs ∧ atI xs i = some v ∧ Q v H
noncomputable def rIxT (K : PySem.W.Frag) : R2 := fun x y H Q => ∃ p xs i v, x = .ref p ∧ y = .int i ∧ SqT K H p xs ∧ atI xs i = some v ∧ Q v H
noncomputable def rIxS : R2 := fun x y H Q => ∃ z i c, x = .str z ∧ y = .int i ∧ z.length ≤ sizeLine ∧ atI z.cps.toList i = some c ∧ Q (.str ⟨#[c]⟩) H
theorem ix_list : IxR X (rIxL X.K) := by
  intro value slice pins s σ H x y v u Q I rx ry h hs
  obtain ⟨p, xs, i, z, rfl, rfl, hq, he, q⟩ := h
  cases rx
  obtain ⟨t, rfl⟩ := ry
  obtain ⟨its, r, pl, hz⟩ := I.list hq
  obtain ⟨j, h1, h2, h3, h4, h5⟩ := atI_get he
  obtain ⟨w, ew, rw'⟩ := r.get h2
  have hl := r.length
  have hn := line63
  have fin : EP X pins σ Q w s := ⟨z, H, I, rw', q⟩
  by_cases h0 : 0 ≤ i
  · have hj : i.toNat = j := by
      rw [seqIndex_of h0 h5] at h1
      exact Option.some.inj h1
    exact item_listR pl.isList h0 (by omega) (by rw [hj]; simpa using ew) fin hs
  · have hj : (i + (its.toArray.size : Int)).toNat = j := by
      rw [seqIndex_neg (by omega) h4] at h1
      rw [List.size_toArray, ← hl]
      exact Option.some.inj h1
    exact subscriptTail_builtinR (x := w) pl.isList.typeIs slot_list_getitem.lookup
      (wpAny_getItem_list_neg (Q := fun r s' => r = w ∧ EP X pins σ Q r s') pl.isList (by omega) (by rw [List.size_toArray] <;> omega) (by omega) (by rw [hj]; simpa using ew) ⟨rfl, fin⟩) hs
theorem ix_tup : IxR X (rIxT X.K) := by
  intro value slice pins s σ H x y v u Q I rx ry h hs
  obtain ⟨p, xs, i, z, rfl, rfl, hq, he, q⟩ := h
  cases rx
  obtain ⟨t, rfl⟩ := ry
  obtain ⟨its, r, pl, hz⟩ := I.tuple hq
  obtain ⟨j, h1, h2, h3, h4, h5⟩ := atI_get he
  obtain ⟨w, ew, rw'⟩ := r.get h2
  have hl := r.length
  have hn := line63
  have fin : EP X pins σ Q w s := ⟨z, H, I, rw', q⟩
  exact subscriptTail_builtinR (x := w) pl.typeIs slot_tuple_getitem.lookup
    (getItem_tuple (j := j) (Q := fun r s' => r = w ∧ EP X pins σ Q r s') pl (by omega) (by omega) (by rw [List.size_toArray, ← hl]; exact h1) (by simpa using ew) ⟨rfl, fin⟩) hs
theorem ix_str : IxR X rIxS := by
  intro value slice pins s σ H x y v u Q I rx ry h hs
  obtain ⟨z, i, c, rfl, rfl, hz, he, q⟩ := h
  obtain ⟨t, rfl⟩ := rx
  obtain ⟨t', rfl⟩ := ry
  obtain ⟨j, h1, h2, h3, h4, h5⟩ := atI_get he
  have hl : z.cps.toList.length = z.length := by simp [Str.length]
  rw [hl] at h1 h4 h5
  have hn := line63
  exact tail_any (typeIs_str s z t) slot_str_getitem.lookup (getItem_str (c := c) (by
    have e1 : decide (i < -(2 ^ 63 : Int)) = false := decide_eq_false (by omega)
    have e2 : decide (i ≥ 2 ^ 63) = false := decide_eq_false (by omega)
    rw [e1, e2, Bool.or_false]) (by rw [h1]; simpa using h2) ⟨.str ⟨#[c]⟩, H, I.tok _, ⟨_, rfl⟩, q⟩) hs
noncomputable def rIx (K : PySem.W.Frag) : R2 := fun x y H Q => rIxL K x y H Q ∨ rIxT K x y H Q ∨ rIxS x y H Q
theorem ix_seq : IxR X (rIx X.K) := ix_list.or (ix_tup.or ix_str)
theorem Inv.lst {pins : List (Addr × Obj)} {σ : St} {H : Hp} {s : Shared} {p : Addr} {xs : List V} (I : Inv X pins σ H s) (h : H p = some (.lst xs)) :
    ∃ (its : List Value) (n : Nat), Vals xs its ∧ s.heap.get? p = some { cls := .type "list", data := .seq its.toArray n } ∧ xs.length ≤ sizeLine := by
  obtain ⟨z, its, n, r, e⟩ := I.hok p _ h
  exact ⟨its, n, r, e, z⟩
theorem slice_bounds (lo hi : Option Int) (n : Nat) : (sliceBounds lo hi none n).1 = ((HT.sIx n 0 lo : Nat) : Int) ∧ (sliceBounds lo hi none n).2.1 = ((HT.sIx n n hi : Nat) : Int) ∧ (sliceBounds lo hi none n).2.2 = 1 := by
  refine ⟨?_, ?_, rfl⟩
  · cases lo with
    | none => simp [sliceBounds, HT.sIx]
    | some i =>
      simp only [sliceBounds, HT.sIx, Option.getD_none, show (1 : Int) > 0 by decide, if_true]
      by_cases h : i < 0
      · simp only [h, if_true] <;> omega
      · simp only [h, if_false] <;> omega
  · cases hi with
    | none => simp [sliceBounds, HT.sIx]
    | some i =>
      simp only [sliceBounds, HT.sIx, Option.getD_none, show (1 : Int) > 0 by decide, if_true]
      by_cases h : i < 0
      · simp only [h, if_true] <;> omega
      · simp only [h, if_false] <;> omega
theorem slicePick_cut (its : List Value) (lo hi : Option Int) : slicePick its.toArray lo hi none = ((its.drop (HT.sIx its.length 0 lo)).take (HT.sIx its.length its.length hi - HT.sIx its.length 0 lo)).toArray := by
  obtain ⟨h1, h2, h3⟩ := slice_bounds lo hi its.toArray.size
  unfold slicePick
  rw [h1, h2, h3]
  simp only [sliceRange_one, pick_run, List.size_toArray] <;> rfl
noncomputable def rSlL (K : PySem.W.Frag) : V → Option Int → Option Int → Hp → VK → Prop := fun x lo hi H Q => ∃ a xs, x = .ref a ∧ SqL K H a xs ∧ ∀ p, H p = none → Q (.ref p) (upd H p (.lst (cutV xs lo hi)))
theorem sl_list : SlR X (rSlL X.K) := by
  intro pins s σ H x v vl vu lo hi sl Q I rx hs pl pu h
  obtain ⟨a, xs, rfl, hx, q⟩ := h
  cases rx
  obtain ⟨its, r, ht, hz⟩ := I.list hx
  have hlen := r.length
  refine ⟨"list", _, slot_list_getitem.lookup, ht.isList.typeIs, ?_⟩
  refine wpAny_getItem_list_slice ht.isList hs pl pu .none (by simp) ?_ (by rw [List.size_toArray] <;> omega)
  rw [slicePick_cut, ← hlen]
  refine ⟨.ref s.heap.objs.size, _, I.laid (t' := s.toks) (o := .lst (cutV xs lo hi)) (fun b ob q => Heap.get?_push_of_some _ q) (Nat.le_refl _) ?_, rfl, q _ (I.hok.fresh (Nat.le_refl _))⟩
  exact ⟨Nat.le_trans (cutV_length xs lo hi) hz, _, 0, (r.drop (HT.sIx xs.length 0 lo)).take (HT.sIx xs.length xs.length hi - HT.sIx xs.length 0 lo), Heap.get?_push_size _ rfl⟩
noncomputable def flatV : V → Bool
  | .non => true
  | .bl _ => true
  | .int _ => true
  | .str _ => true
  | _ => false
noncomputable def eqV : V → V → Bool
  | .non, .non => true
  | .bl a, .bl b => a == b
  | .bl a, .int b => (if a then 1 else 0) == b
  | .int a, .bl b => a == (if b then 1 else 0)
  | .int a, .int b => a == b
  | .str a, .str b => a == b
  | _, _ => false
theorem eqAt_V {A : Around} {s : Shared} {y x : V} {u v : Value} (ry : RelV y u) (rx : RelV x v) (fy : flatV y = true) (fx : flatV x = true) : SeqAt.EqAt A s u v (eqV y x) := by
  cases y with
  | non =>
    cases ry
    cases x with
    | non => cases rx; exact SeqAt.EqAt.same _
    | bl b => cases rx; exact SeqAt.EqAt.none_bool b
    | int b => obtain ⟨t, rfl⟩ := rx; exact SeqAt.EqAt.none_int b t
    | str b => obtain ⟨t, rfl⟩ := rx; exact SeqAt.EqAt.none_str b t
    | _ => exact absurd (show false = true from fx) Bool.false_ne_true
  | bl a =>
    cases ry
    cases x with
    | non => cases rx; exact SeqAt.EqAt.bool_none a
    | bl b => cases rx; exact SeqAt.EqAt.bool_bool a b
    | int b => obtain ⟨t, rfl⟩ := rx; exact SeqAt.EqAt.bool_int a b t
    | str b => obtain ⟨t, rfl⟩ := rx; exact SeqAt.EqAt.bool_str a b t
    | _ => exact absurd (show false = true from fx) Bool.false_ne_true
  | int a =>
    obtain ⟨t', rfl⟩ := ry
    cases x with
    | non => cases rx; exact SeqAt.EqAt.int_none a t'
    | bl b => cases rx; exact SeqAt.EqAt.int_bool a t' b
    | int b => obtain ⟨t, rfl⟩ := rx; exact SeqAt.EqAt.int_int a t' b t
    | str b => obtain ⟨t, rfl⟩ := rx; exact SeqAt.EqAt.int_str a t' b t
    | _ => exact absurd (show false = true from fx) Bool.false_ne_true
  | str a =>
    obtain ⟨t', rfl⟩ := ry
    cases x with
    | non => cases rx; exact SeqAt.EqAt.str_none a t'
    | bl b => cases rx; exact SeqAt.EqAt.str_bool a t' b
    | int b => obtain ⟨t, rfl⟩ := rx; exact SeqAt.EqAt.str_int a t' b t
    | str b => obtain ⟨t, rfl⟩ := rx; exact SeqAt.EqAt.str_str a t' b t
    | _ => exact absurd (show false = true from fx) Bool.false_ne_true
  | _ => exact absurd (show false = true from fy) Bool.false_ne_true
noncomputable def eqU (x : V) (u : Value) : Bool := match u with
  | .none => eqV .non x
  | .bool b => eqV (.bl b) x
  | .int i _ => eqV (.int i) x
  | .str z _ => eqV (.str z) x
  | _ => false
theorem eqU_of {x y : V} {u : Value} (r : RelV y u) (f : flatV y = true) : eqU x u = eqV y x := by
  cases y with
  | non => cases r; rfl
  | bl b => cases r; rfl
  | int i => obtain ⟨t, rfl⟩ := r; rfl
  | str z => obtain ⟨t, rfl⟩ := r; rfl
  | _ => exact absurd (show false = true from f) Bool.false_ne_true
theorem any_eqU {x : V} : ∀ {xs : List V} {us : List Value}, Vals xs us → xs.all flatV = true → us.any (eqU x) = xs.any fun y => eqV y x
  | _, _, .nil, _ => rfl
  | y :: xs, u :: us, .cons r t, f => by
    rw [List.all_cons, Bool.and_eq_true] at f
    rw [List.any_cons, List.any_cons, eqU_of r f.1, any_eqU t f.2]
theorem mem_eqAt {A : Around} {s : Shared} {x : V} {v : Value} (rx : RelV x v) (fx : flatV x = true) : ∀ {xs : List V} {us : List Value}, Vals xs us → xs.all flatV = true → ∀ u ∈ us, SeqAt.EqAt A s u v (eqU x u)
  | _, _, .nil, _ => fun u hu => by cases hu
  | y :: xs, u :: us, .cons r t, f => fun u' hu => by
    rw [List.all_cons, Bool.and_eq_true] at f
    rcases List.mem_cons.mp hu with rfl | hu
    · rw [eqU_of r f.1]; exact eqAt_V r rx f.1 fx
    · exact mem_eqAt rx fx t f.2 u' hu
noncomputable def inV (x : V) (xs : List V) : Bool := xs.any fun y => eqV y x
noncomputable def rIn (K : PySem.W.Frag) (neg : Bool) : R2 := fun x y H Q => ∃ p xs, y = .ref p ∧ (SqL K H p xs ∨ SqT K H p xs) ∧ flatV x = true ∧ xs.all flatV = true ∧ Q (.bl (if neg then !inV x xs else inV x xs)) H
theorem op_in_seq : OpR X (compareOp .In) (rIn X.K false) := by
  intro pins s σ H x y v u Q I rx ry h
  obtain ⟨p, xs, rfl, hq, fx, fs, q⟩ := h
  cases ry
  rcases hq with hq | hq
  · obtain ⟨its, r, pl, hz⟩ := I.list hq
    refine SeqAt.in_listAt (eqU x) pl.isList (fun w hw => mem_eqAt rx fx r fs w (by simpa using hw)) ⟨.bl _, H, I, rfl, ?_⟩
    rw [show its.toArray.any (eqU x) = its.any (eqU x) by simp, any_eqU r fs]
    exact q
  · obtain ⟨its, r, pl, hz⟩ := I.tuple hq
    refine SeqAt.in_tupleAt (eqU x) pl (fun w hw => mem_eqAt rx fx r fs w (by simpa using hw)) ⟨.bl _, H, I, rfl, ?_⟩
    rw [show its.toArray.any (eqU x) = its.any (eqU x) by simp, any_eqU r fs]
    exact q
theorem CallR.or {f : Value} {r r' : List V → Hp → VK → Prop} (h : CallR X f r) (h' : CallR X f r') : CallR X f (fun xs H Q => r xs H Q ∨ r' xs H Q) := by
  intro pins s σ H xs us Q I rs q
  rcases q with q | q
  · exact h pins s σ H xs us Q I rs q
  · exact h' pins s σ H xs us Q I rs q
noncomputable def tyV (K : PySem.W.Frag) (T : String) (x : V) (H : Hp) : Prop := match x with
  | .str _ => T = "str"
  | .int _ => T = "int"
  | .ref p => (T = "list" ∧ ∃ xs, SqL K H p xs) ∨ (T = "tuple" ∧ ∃ o, K.lookup p = some o ∧ o.cls = .type "tuple" ∧ o.dict = none) ∨
      (T = "dict" ∧ ((∃ kvs, H p = some (.dK kvs)) ∨ ∃ kvs, H p = some (.dT kvs))) ∨ (T = "set" ∧ ∃ S n, H p = some (.set S n))
  | _ => False
theorem tyV_is {pins : List (Addr × Obj)} {σ : St} {H : Hp} {s : Shared} {T : String} {x : V} {v : Value} (I : Inv X pins σ H s) (r : RelV x v) (ty : tyV X.K T x H) :
    s.TypeIs v T ∧ ∀ a, v = .ref a → ∃ ob, s.heap.get? a = some ob ∧ ob.dict = none := by
  cases x with
  | str z =>
    obtain ⟨t, rfl⟩ := r
    cases (show T = "str" from ty)
    exact ⟨typeIs_str s z t, fun _ e => nomatch e⟩
  | int i =>
    obtain ⟨t, rfl⟩ := r
    cases (show T = "int" from ty)
    exact ⟨typeIs_int s i t, fun _ e => nomatch e⟩
  | ref p =>
    cases r
    rcases ty with ⟨rfl, xs, hq⟩ | ⟨rfl, o, hk, hc, hd⟩ | ⟨rfl, hk⟩ | ⟨rfl, S, n, hk⟩
    · obtain ⟨its, _, pl, _⟩ := I.list hq
      refine ⟨pl.isList.typeIs, fun a e => ?_⟩
      cases e
      obtain ⟨o, n, e, c, hd, _⟩ := pl
      exact ⟨o, e, hd⟩
    · refine ⟨⟨o, I.kIn p o hk, hc⟩, fun a e => ?_⟩
      cases e
      exact ⟨o, I.kIn _ o hk, hd⟩
    · have z : ∃ o, s.heap.get? p = some o ∧ o.ExactDict := by
        rcases hk with ⟨kvs, hk⟩ | ⟨kvs, hk⟩
        · obtain ⟨_, _, _, _, o, _, _, e, ex, _⟩ := I.hok p _ hk
          exact ⟨o, e, ex⟩
        · obtain ⟨_, _, _, _, o, _, _, e, ex, _⟩ := I.hok p _ hk
          exact ⟨o, e, ex⟩
      obtain ⟨o, e, ex⟩ := z
      refine ⟨⟨o, e, ex.1⟩, fun a e2 => ?_⟩
      cases e2
      exact ⟨o, e, ex.2.1⟩
    · obtain ⟨o, _, _, _, e, ex, _⟩ := I.hok p _ hk
      refine ⟨⟨o, e, ex.1⟩, fun a e2 => ?_⟩
      cases e2
      exact ⟨o, e, ex.2.1⟩
  | _ => exact False.elim ty
noncomputable def tBM0 (K : PySem.W.Frag) (T : String) (r : V → List V → Hp → VK → Prop) (to : TE) : TE := fun σ H Q => to σ H fun x H1 => tyV K T x H1 ∧ r x [] H1 Q
noncomputable def tBM (K : PySem.W.Frag) (T : String) (r : V → List V → Hp → VK → Prop) (to : TE) (t : TA) : TE := fun σ H Q => to σ H fun x H1 => tyV K T x H1 ∧ t σ H1 fun xs H2 => r x xs H2 Q
variable {o e : Expr} {es : List Expr} {to : TE} {t : TA} {name : Str} {apos cpos : Pos} {T id : String} {r : V → List V → Hp → VK → Prop}
theorem pe_bm (pa : PlainAttrs T) (slot : Slot T name id) (hty : typeOf (.builtin id) = pure (.type "method_descriptor")) (hm : MtR X id r) (ho : PE X o to) (ha : PA X (e :: es) t)
    (hbase : attributeBase o name X.env (eval o X.env) = eval o X.env := by rfl)
    (hfew : ((backTo cpos (starEach (e :: es) X.env)).all (fun x => !x.1) && (backToKw cpos (keywordEach [] X.env)).all (fun x => x.1.isSome)
      && decide ((e :: es).length + ([] : List Keyword).length + (if ([] : List Keyword).isEmpty then 0 else 1) < 30)) = true := by rfl)
    (hline : (apos.endLine == cpos.line) = true := by rfl) (hs : starEach (e :: es) X.env = (false, eval e X.env) :: starEach es X.env := by rfl) (hplain : (backTo cpos (starEach es X.env)).any (·.1) = false := by rfl) :
    PE X (.Call (.Attribute o name apos) (e :: es) [] cpos) (tBM X.K T r to t) := by
  intro pins s σ H Q I h
  refine wpAny_Call_method_late hbase hfew hline rfl (thn (ho pins s σ H _ I h) fun v s1 ⟨x, H1, I1, r1, ty, q1⟩ => ?_)
  obtain ⟨h1, h2⟩ := tyV_is I1 r1 ty
  refine ⟨T, id, pa, slot, hty, h1, h2, ?_⟩
  have hA := ha cpos pins s1 σ H1 _ I1 q1
  rw [hs] at hA ⊢
  refine Calls.callWith_builtin (by show (false || (backTo cpos (starEach es X.env)).any (·.1)) = false; rw [hplain] <;> rfl) (Calls.evalArgs_plain ?_)
  exact thn hA fun us s2 ⟨vs, H2, I2, r2, q2⟩ => hm pins s2 σ H2 x vs v us Q I2 r1 r2 q2
end
end L2
namespace L2
open PySem PySem.Spec PyProof.Rows
noncomputable def MtM (X : Cx) (id : String) (r : V → List V → Hp → VK → Prop) : Prop :=
  ∀ (pins : List (Addr × Obj)) (s : Shared) (σ : St) (H : Hp) (x : V) (xs : List V) (v : Value) (us : List Value) (Q : VK), Inv X pins σ H s → RelV x v → Vals xs us → r x xs H Q →
    wpAny (model X.prog X.w) X.A (call (.builtin id) (v :: us)) (EP X pins σ Q) X.xe s
theorem Vals.one : ∀ {x : V} {us : List Value}, Vals [x] us → ∃ u, us = [u] ∧ RelV x u
  | _, _, .cons r .nil => ⟨_, rfl, r⟩
theorem Vals.two : ∀ {x y : V} {us : List Value}, Vals [x, y] us → ∃ u v, us = [u, v] ∧ RelV x u ∧ RelV y v
  | _, _, _, .cons r (.cons q .nil) => ⟨_, _, rfl, r, q⟩
theorem Vals.zero : ∀ {us : List Value}, Vals [] us → us = []
  | _, .nil => rfl
theorem Vals.reverse {xs : List V} {us : List Value} (h : Vals xs us) : Vals xs.reverse us.reverse := by
  induction h with
  | nil => exact .nil
  | cons r t ih => rw [List.reverse_cons, List.reverse_cons]; exact Vals.append ih (.cons r .nil)
theorem Vals.rep {xs : List V} {us : List Value} (h : Vals xs us) : ∀ k : Nat, Vals (List.replicate k xs).flatten (List.replicate k us).flatten
  | 0 => .nil
  | k + 1 => by
    rw [List.replicate_succ, List.replicate_succ, List.flatten_cons, List.flatten_cons]
    exact Vals.append h (Vals.rep h k)
theorem foldl_rep (its : List Value) : ∀ (k : Nat) (acc : List Value),
    List.foldl (fun x1 x2 => x1 ++ x2) acc.toArray (List.replicate k its.toArray) = (acc ++ (List.replicate k its).flatten).toArray
  | 0, acc => by simp
  | k + 1, acc => by
    have e : acc.toArray ++ its.toArray = (acc ++ its).toArray := by simp
    have e2 : (acc ++ its) ++ (List.replicate k its).flatten = acc ++ (List.replicate (k + 1) its).flatten := by
      rw [List.replicate_succ, List.flatten_cons, List.append_assoc]
    rw [← e2, ← foldl_rep its k (acc ++ its), ← e, List.replicate_succ, List.foldl_cons]
section
variable {X : Cx} {pins : List (Addr × Obj)} {σ : St} {H : Hp} {s : Shared} {l b : Addr} {xs ys zs : List V}
theorem Inv.lset {its its' : List Value} {n : Nat} {f : Array Value → Array Value} {t' : Nat} (I : Inv X pins σ H s) (hH : H l = some (.lst xs))
    (e : s.heap.get? l = some { cls := .type "list", data := .seq its.toArray n }) (hf : f its.toArray = its'.toArray) (hv : Vals ys its') (hz : ys.length ≤ sizeLine) :
    Inv X pins σ (upd H l (.lst ys)) { s with heap := s.heap.update l (Obj.mapSeq f), toks := t' } := by
  have q := PySem.IsL.update e f
  rw [hf] at q
  refine I.write (x := l) (e := l) (by rw [hH]; exact trivial) (.inl rfl) (fun b' u hb hu => (Heap.get?_update_other s.heap (Obj.mapSeq f) (Ne.symm hb)).trans hu) ⟨_, q⟩ ?_
  exact ⟨hz, its', _, hv, q⟩
theorem Inv.lnew {its : List Value} {t' : Nat} (I : Inv X pins σ H s) (hv : Vals ys its) (hz : ys.length ≤ sizeLine) :
    Inv X pins σ (upd H s.heap.objs.size (.lst ys)) { s with heap := s.heap.push { cls := .type "list", data := .seq its.toArray }, toks := t' } :=
  I.laid (fun _ _ q => Heap.get?_push_of_some _ q) (Nat.le_refl _) ⟨hz, its, 0, hv, Heap.get?_push_size _ rfl⟩
theorem Inv.fresh (I : Inv X pins σ H s) : H s.heap.objs.size = none := I.hok.fresh (Nat.le_refl _)
theorem Inv.lstM (I : Inv X pins σ H s) (hH : H l = some (.lst xs)) : xs.length ≤ sizeLine ∧ ∃ (its : List Value) (n : Nat), Vals xs its ∧ xs.length = its.length ∧ s.heap.get? l = some { cls := .type "list", data := .seq its.toArray n } := by
  obtain ⟨z, its, n, r, e⟩ := I.hok l _ hH
  exact ⟨z, its, n, r, r.length, e⟩
theorem notLongL {n : Nat} (h : n ≤ sizeLine) : Builtin.List.listTooLong n = false := by
  unfold Builtin.List.listTooLong
  exact decide_eq_false (by omega)
end
section
variable {X : Cx}
noncomputable def rAppend : V → List V → Hp → VK → Prop := fun x vs H Q => ∃ l xs y, x = .ref l ∧ vs = [y] ∧ H l = some (.lst xs) ∧ xs.length < sizeLine ∧ Q .non (upd H l (.lst (xs ++ [y])))
theorem mt_append : MtM X "list.append" rAppend := by
  intro pins s σ H x vs v us Q I rx rv h
  obtain ⟨l, xs, y, rfl, rfl, hH, hz, q⟩ := h
  cases rx
  obtain ⟨u, rfl, ru⟩ := rv.one
  obtain ⟨z, its, n, r, hl, e⟩ := I.lstM hH
  refine call_meets F.slot_list_append ⟨_, e, rfl⟩ F.entry_list_append (F.args_list_append_2 _ _) (PySem.list_append l its.toArray n u (by rw [List.size_toArray]; omega)) ⟨e, ?_⟩
  refine ⟨.non, _, I.lset (its' := its ++ [u]) hH e (by simp) (r.append (.cons ru .nil)) ?_, rfl, q⟩
  rw [List.length_append, List.length_singleton]
  omega
noncomputable def rCat : R2 := fun x y H Q => ∃ l b xs zs, x = .ref l ∧ y = .ref b ∧ H l = some (.lst xs) ∧ H b = some (.lst zs) ∧ xs.length + zs.length ≤ sizeLine ∧ ∀ p, H p = none → Q (.ref p) (upd H p (.lst (xs ++ zs)))
theorem op_cat : OpR X (binaryOp .Add) rCat := by
  intro pins s σ H x y v u Q I rx ry h
  obtain ⟨l, b, xs, zs, rfl, rfl, hH, hB, hz, q⟩ := h
  cases rx
  cases ry
  obtain ⟨z, its, n, r, hl, e⟩ := I.lstM hH
  obtain ⟨z2, its2, n2, r2, hl2, e2⟩ := I.lstM hB
  refine PySem.P.add_list e e2 ?_ (by rw [List.size_toArray, List.size_toArray]; omega)
  have ea : its.toArray ++ its2.toArray = (its ++ its2).toArray := by simp
  rw [ea]
  exact ⟨.ref _, _, I.lnew (t' := s.toks) (r.append r2) (by rw [List.length_append]; omega), rfl, q _ I.fresh⟩
noncomputable def rRep : R2 := fun x y H Q => ∃ l k xs, x = .ref l ∧ y = .int k ∧ H l = some (.lst xs) ∧ -(2 ^ 63) ≤ k ∧ k < 2 ^ 63 ∧ xs.length * k.toNat ≤ sizeLine ∧
  ∀ p, H p = none → Q (.ref p) (upd H p (.lst (List.replicate k.toNat xs).flatten))
theorem len_rep {α : Type} (xs : List α) (k : Nat) : (List.replicate k xs).flatten.length = k * xs.length := by
  induction k with
  | zero => simp
  | succ k ih => rw [List.replicate_succ, List.flatten_cons, List.length_append, ih, Nat.succ_mul, Nat.add_comm]
theorem op_rep : OpR X (binaryOp .Mult) rRep := by
  intro pins s σ H x y v u Q I rx ry h
  obtain ⟨l, k, xs, rfl, rfl, hH, h1, h2, hz, q⟩ := h
  cases rx
  obtain ⟨t, rfl⟩ := ry
  obtain ⟨z, its, n, r, hl, e⟩ := I.lstM hH
  have hlen : its.toArray.size * k.toNat ≤ sizeLine := by rw [List.size_toArray, ← hl]; exact hz
  have hcap : ¬ its.toArray.size * k.toNat > (2 ^ 63 - 1) / 8 := by
    have : (sizeLine : Nat) ≤ (2 ^ 63 - 1) / 8 := by decide
    omega
  have hfit : ¬ (!Builtin.List.listFitsIndex k) = true := by
    rw [fitsIndex_both h1 h2]
    exact Bool.false_ne_true
  have hlong : ¬ Builtin.List.listTooLong (its.toArray.size * k.toNat) = true := by
    rw [notLongL hlen]
    exact Bool.false_ne_true
  have hnew : List.foldl (fun x1 x2 => x1 ++ x2) #[] (List.replicate (if its.toArray.isEmpty = true then 0 else k.toNat) its.toArray) = (List.replicate k.toNat its).flatten.toArray := by
    have f0 : ∀ m : Nat, List.foldl (fun x1 x2 => x1 ++ x2) #[] (List.replicate m its.toArray) = (List.replicate m its).flatten.toArray := fun m => by
      have := foldl_rep its m []
      rw [List.nil_append] at this
      exact this
    rw [f0]
    cases its with
    | nil => simp
    | cons a r' => rw [if_neg (by simp)]
  refine wpAny_binaryOp_repeat_ref (T := "list") (U := "int") (by decide) ⟨_, e, rfl⟩ (fun s' => typeIs_int s' k t) noFill_list_mul F.fills_int_mul F.slot_int_rmul repeat_list F.slot_int_index.lookup
    (call_meets F.slot_int_rmul (typeIs_int s k t) F.entry_int_rmul (F.args_int_rmul_2 _ _) (int___rmul___int_list k t l its.toArray n)
      ⟨e, rfl, ⟨_, e, rfl⟩, call_meets F.slot_list_mul ⟨_, e, rfl⟩ F.entry_list_mul (F.args_list_mul_2 _ _) (AutoListH.list___mul___list_int_3 l its.toArray n k t hfit hcap hlong) ⟨e, ?_⟩⟩)
  rw [hnew]
  exact ⟨.ref _, _, I.lnew (t' := s.toks) (r.rep k.toNat) (by rw [len_rep, Nat.mul_comm]; exact hz), rfl, q _ I.fresh⟩
end
section
variable {prog : Program} {w : World} {A : Around} {E : Value → Shared → Prop} {s : Shared}
theorem bounds_run {a c n : Nat} (hac : a ≤ c) (hc : c ≤ n) : sliceBounds (some (a : Int)) (some (c : Int)) none n = ((a : Int), (c : Int), 1) := by
  simp only [sliceBounds, Option.getD_none]
  have h1 : ¬ ((a : Int) < 0) := by omega
  have h2 : ¬ ((c : Int) < 0) := by omega
  simp only [h1, h2, if_false, show (1 : Int) > 0 by decide, if_true]
  congr 1
  · omega
  · congr 1; omega
set_option maxRecDepth 100000 in
theorem setItem_slice {l b sl : Addr} {items new : Array Value} {n n2 : Nat} {vl vu : Value} {a c : Nat} {Q : Unit → Shared → Prop}
    (e : s.heap.get? l = some { cls := .type "list", data := .seq items n }) (e2 : s.heap.get? b = some { cls := .type "list", data := .seq new n2 }) (hne : l ≠ b)
    (hs : s.heap.IsSliceOf sl vl vu .none) (pl : IsPart vl (some (a : Int))) (pu : IsPart vu (some (c : Int))) (hac : a ≤ c) (hc : c ≤ items.size)
    (hsz : items.size + new.size ≤ sizeLine) (h : Q () { s with heap := s.heap.update l (Obj.mapSeq fun xs => xs.extract 0 a ++ new ++ xs.extract c xs.size) }) :
    wpAny (model prog w) A (setItem (.ref l) (.ref sl) (.ref b)) Q E s := by
  have hl : s.heap.IsList l items := PySem.IsL.isList e
  have hb : s.heap.IsList b new := PySem.IsL.isList e2
  obtain ⟨os, hos, hcs, hds⟩ := id hs
  have hTs : s.TypeIs (.ref sl) "slice" := ⟨os, hos, hcs⟩
  have hstep : ¬ ((rawPart none == rawInt 0) = true) := Bool.false_ne_true
  have hsame : Builtin.List.listSameRef (.ref l) (.ref b) = false := by
    unfold Builtin.List.listSameRef
    exact beq_eq_false_iff_ne.mpr hne
  have hmax : (max (a : Int) (c : Int)).toNat = c := by omega
  have hz' : ((fun xs : Array Value => xs.extract 0 a ++ new ++ xs.extract c xs.size) items).size ≤ sizeLine + 1 := by
    simp only [Array.size_append, Array.size_extract]
    omega
  unfold setItem
  try with_reducible refine wpAny_holding ?_
  first | refine wpAny_bind (wpAny_pure ?_) | skip
  refine wpAny_bind (wpAny_sequenceKey hl.typeIs (by decide) ?_)
  refine wpAny_bind (wpAny_callSpecial?_slot (name := Str.ofString "__setitem__") hl.typeIs slot_list_setitem
    (wpAny_call_entry slot_list_setitem hl.typeIs entry_list_setitem ?_ (args_list_setitem _ _ _)))
  show wpAny _ _ (Builtin.List.listSubscript? (.ref sl) >>= _) _ _ s
  refine wpAny_bind ?_
  unfold Builtin.List.listSubscript?
  refine wpAny_bind (wpAny_specialOf hTs slice_no_index ?_)
  simp only [Option.isNone_none, if_true]
  refine wpAny_pure ?_
  show wpAny _ _ (typeOf (.ref sl) >>= _) _ _ s
  refine wpAny_bind (wpAny_typeOf hTs ?_)
  first
    | rw [if_neg (by decide)]
    | refine PySem.W.KFB.if_not (by decide) ?_
  rw [listSliceParts_eq]
  refine wpAny_bind (wpAny_bind (wpAny_field hos hds (x := .none) rfl (wpAny_bind (wpAny_listPart .none ?_))))
  rw [if_neg hstep]
  refine wpAny_bind (wpAny_field hos hds (x := vl) rfl (wpAny_bind (wpAny_listPart pl ?_)))
  refine wpAny_bind (wpAny_field hos hds (x := vu) rfl (wpAny_bind (wpAny_listPart pu (wpAny_pure ?_))))
  first
    | simp only [hsame, Bool.false_eq_true, if_false]
    | refine PySem.W.KFB.if_not hsame ?_
    | (dsimp only
       rw [if_neg (by rw [hsame]; exact Bool.false_ne_true)])
  refine wpAny_bind (m := Builtin.List.listAllItems (.ref b) "must assign iterable to extended slice") ?_
  unfold Builtin.List.listAllItems
  refine wpAny_bind (wpAny_typeOf hb.typeIs ?_)
  first
    | refine PySem.W.KFB.if_so (by decide) ?_
    | rw [if_pos (by decide)]
    | simp only [beq_self_eq_true, Bool.true_or, if_true]
  unfold Builtin.List.listItems
  refine wpAny_bind (wpAny_seqItems e2 rfl (wpAny_pure ?_))
  refine wpAny_bind (wpAny_bind (wpAny_seqItems e rfl (wpAny_pure ?_)))
  refine wpAny_bind (wpAny_of_eq ((sliceIndices_raw (some (a : Int)) (some (c : Int)) none items.size (by simp)).trans (congrArg (pure : Int × Int × Int → Sem (Int × Int × Int)) (bounds_run hac hc))) ?_)
  show wpAny _ _ (if ((1 : Int) == 1) = true then _ else _) _ _ s
  rw [if_pos (by decide)]
  refine wpAny_bind (wpAny_rule ?_)
  first
    | simp only [notLongL hsz, Bool.false_eq_true, if_false]
    | refine PySem.W.KFB.if_not (notLongL hsz) ?_
  first | refine wpAny_bind (wpAny_pure ?_) | skip
  show wpAny _ _ (updateSeq l (fun xs => xs.extract 0 ((a : Int)).toNat ++ new ++ xs.extract (max (a : Int) (c : Int)).toNat xs.size) >>= _) _ _ s
  rw [hmax, Int.toNat_natCast]
  refine wpAny_bind (wpAny_updateSeq (hz := Nat.le_trans (Nat.le_add_right _ _) hsz) (_hz' := hz') e rfl ?_)
  refine wpAny_bind (wpAny_letGo ?_)
  first
    | exact wpAny_bind (wpAny_pure (wpAny_pure ⟨.none, rfl, wpAny_pure h⟩))
    | exact wpAny_pure ⟨.none, rfl, wpAny_pure h⟩
end
section
variable {X : Cx}
end
end L2
namespace Att
open PySem PySem.W PySem.Calls PyProof.Rows
theorem ints_of_wellAll {P : Params} {h : Heap} : ∀ (ns : List Int) (vs : List Value), WellAll P h vs (ns.map WData.int) → IntsAre vs ns := by
  intro ns
  induction ns with
  | nil =>
    intro vs w
    rw [List.map_nil] at w
    cases w
    exact .nil
  | cons n ns ih =>
    intro vs w
    rw [List.map_cons] at w
    cases w with
    | cons a b =>
      cases a
      exact .cons _ _ (ih _ b)
theorem script_of {l : OpenLaw} {n : Nat} (hn : l.most = some n) {P : Params} {h : Heap} {args : List WData} {vals : List Value}
    (hpre : l.row.toRowW.claim.pre args = true) (hwl : WellAll P h vals args) :
    ∃ a vs ns, vals = [Value.ref a] ∧ args = [WData.list (ns.map WData.int)] ∧ h.get? a = some { cls := .type "list", data := .seq vs.toArray } ∧ IntsAre vs ns ∧ ns.length ≤ n := by
  have hsh : WShape.hasAll [] args [.list .int] = true := (pre_splitW hpre).1
  have hc : l.pre.holds [] { args := args } = true := (pre_splitW hpre).2
  obtain ⟨d, r, rfl, h1, h2⟩ := hasAllW_cons hsh
  obtain rfl := hasAllW_nil h2
  obtain ⟨xs, rfl, h3⟩ := hasW_list h1
  obtain ⟨ns, rfl⟩ := items_int h3
  have hlen : ns.length ≤ n := by
    unfold OpenLaw.pre at hc
    have h4 : (WTm.not (.lt (.lit (.int (n : Int))) (.len (.arg 0)))).holds [] { args := [.list (ns.map .int)] } = true := by
      have h4 := (holds_andW hc).1
      rw [hn] at h4
      exact h4
    have h5 := condW_of h4 (w_not (w_lt w_lit (w_len_list (w_arg rfl))))
    rw [List.length_map] at h5
    refine Nat.le_of_not_lt fun q => ?_
    have q' : (n : Int) < ((ns.length : Nat) : Int) := by omega
    first
      | (rw [decide_eq_true q'] at h5; exact absurd h5 (by decide))
      | (simp at h5; omega)
  cases hwl with
  | cons w1 w2 =>
    cases w2
    cases w1 with
    | list ho hall => exact ⟨_, _, ns, rfl, rfl, ho, ints_of_wellAll ns _ hall, hlen⟩
theorem post_true (l : OpenLaw) (args : List WData) : l.row.toRowW.claim.post args (.bool true) args = true :=
  postW_of (r := l.row.toRowW) (X := (true == true))
    (show WShape.has [] (.bool true) .bool = true by first | rfl | decide | simp [WShape.has, WShape.arms, WShape.armsAll])
    (show (WTm.eq .res (.lit (.bool true))).value [] { args := args, res := some (.bool true), after := args } = some (.bool (true == true)) from w_eq_bool (w_res rfl) w_lit) rfl
theorem attach_call {l : OpenLaw} {n : Nat} {q : Program} {loose : List Str} {XP : (Str → Option Value) → Heap → Prop} {YP : World → Heap → Prop} {d : DefRec}
    (hn : l.most = some n) (hdf : d.params.defaults = [])
    (call : ∀ (w : World) (s₀ s₁ : Shared) (mg mb : Str → Option Value) (fa : Addr) (o : Obj) (pm cd doc : Value) (a : Addr) (vs : List Value) (ns : List Int),
      Ground q loose [] XP w s₀ mg mb s₁.heap → YP w s₁.heap →
      s₁.heap.get? fa = some o → o.data = .func (docDef d.name d.params d.body d.scope pm cd doc) → s₁.heap.CodeRec cd d.name → mg d.name = some (.ref fa) →
      s₁.heap.get? a = some { cls := .type "list", data := .seq vs.toArray } → IntsAre vs ns → ns.length ≤ n → s₁.gens = #[] →
      codeAny (model l.prog w) callerA (.call (.ref fa) ⟨[.ref a], []⟩) (fun r s' => r = .ok (.ret (.bool true)) ∧ OldK s₁.heap s'.heap ∧ s'.os = s₁.os ∧ AllBare s'.gens) s₁) :
    WalkO q loose XP YP l.row.toRowW d [] (fun f vs => PySem.call f vs) := by
  intro w s₀ s₁ mg mb G Y fa o pm cd doc dV kV ho hd hcd hD hmg hg args vals as hpre hlay hrd hwl hlo
  obtain rfl : dV = .none := Dflts.none hD hdf
  obtain rfl : kV = .none := Dflts.noKw hD
  obtain ⟨a, vs, ns, rfl, rfl, hobj, hints, hlen⟩ := script_of hn hpre hwl
  refine enter_call (codeAny_mono (call w s₀ s₁ mg mb fa o pm cd doc a vs ns G Y ho (fd_plain hd) hcd hmg hobj hints hlen hg) fun r s' hq => ?_)
  obtain ⟨rfl, h2, h3, h4⟩ := hq
  exact ⟨.inl ⟨.bool true, .bool true, [], rfl, fun _ => rfl, .bool true, post_true l _, fun _ => ⟨List.Pairwise.nil, fun _ hm => (nomatch hm)⟩⟩, h2, h3, h4⟩
section
variable {prog : Program} {w : World} {A : Around} {E : Value → Shared → Prop} {s : Shared} {K : Frag}
end
end Att
namespace L2
open PySem PySem.Spec PyProof.Rows
theorem vals_ints : ∀ {vs : List Value} {ns : List Int}, IntsAre vs ns → Vals (ns.map V.int) vs
  | _, _, .nil => .nil
  | _, _, .cons n t h => .cons ⟨t, rfl⟩ (vals_ints h)
noncomputable def Only (H : Hp) : Prop := ∀ b, H b = none ∨ ∃ o xs, H b = some (.frz o (.lst xs))
theorem law_call {P : Program} {w : World} {K : PySem.W.Frag} {mg mb : Str → Option Value} {CX : CXT} {k : Nat} {fa a : Addr} {fd : FuncData} {x : Str} {sp : Sp} {s₁ : Shared} {vs : List Value} {ns : List Int}
    (KX : K.In s₁.heap) (hns : s₁.heap.Ns mainGlobals mg) (hb : s₁.heap.Ns builtinsNs mb) (hbb : ∀ x : Str, x ≠ "__name__" → mb x = bootBuiltins x) (hlim : s₁.heap.NoLimit) (hg : s₁.gens = #[])
    (ha : s₁.heap.get? a = some { cls := .type "list", data := .seq vs.toArray }) (hi : IntsAre vs ns) (hl : ns.length ≤ sizeLine) (hr : Room k callerA)
    (F : ∀ base : Heap, K.In base → base.Ns mainGlobals mg → FnOk P w K mg base CX k fa fd [x] sp) (hbind : ∀ (s : Shared) (u : Value), BindsTo s fd ⟨[u], []⟩ [(x, u)])
    (hsp : ∀ H : Hp, Only H → SqL K H a (ns.map V.int) → sp [.ref a] H (fun v _ => v = .bl true) fun _ _ _ => False)
    (hCX : ∀ H e s', CX [] H s₁ (fun _ _ _ => False) e s' → False) :
    codeAny (model P w) callerA (.call (.ref fa) ⟨[.ref a], []⟩) (fun r s' => r = .ok (.ret (.bool true)) ∧ OldK s₁.heap s'.heap ∧ s'.os = s₁.os ∧ AllBare s'.gens) s₁ := by
  have rv := vals_ints hi
  have lenV := hi.length
  have core : ∀ H : Hp, Only H → SqL K H a (ns.map V.int) → HOk P w H s₁.heap → (∀ b, H b ≠ none → b = a) → (H a ≠ none → K.lookup a = none) →
      codeAny (model P w) callerA (.call (.ref fa) ⟨[.ref a], []⟩) (fun r s' => r = .ok (.ret (.bool true)) ∧ OldK s₁.heap s'.heap ∧ s'.os = s₁.os ∧ AllBare s'.gens) s₁ := by
    intro H hO hS hok hA hK
    have base_of : ∀ {b : Addr} {o : Obj}, s₁.heap.get? b = some o → H b = none → (hidT s₁.heap H).get? b = some o := fun e n => hidT_get e n
    have noA : ∀ {b : Addr} {o : Obj} {es : Array DictEntry} {ep : Nat}, s₁.heap.get? b = some o → o.data = .dict es ep → H b = none := fun {b o es ep} e d => by
      cases q : H b with
      | none => rfl
      | some u =>
        have e' : b = a := hA b (by rw [q]; simp)
        subst e'
        rw [ha] at e; cases e
        have d' : Data.seq vs.toArray _ = Data.dict es ep := d
        cases d'
    have nsK : ∀ {b : Addr} {m : Str → Option Value}, s₁.heap.Ns b m → (hidT s₁.heap H).Ns b m := fun {b m} ⟨o, es, ep, e, d, r⟩ => ⟨o, es, ep, base_of e (noA e d), d, r⟩
    have hKb : K.In (hidT s₁.heap H) := fun b o e => base_of (KX b o e) (by
      cases q : H b with
      | none => rfl
      | some u =>
        have e' : b = a := hA b (by rw [q]; simp)
        subst e'
        rw [hK (by rw [q]; simp)] at e; cases e)
    have hM : Mod K mg (hidT s₁.heap H) := ⟨hKb, nsK hns, ⟨mb, nsK hb, hbb⟩, let ⟨mc, h1, h2⟩ := hlim; ⟨mc, nsK h1, h2⟩⟩
    have e0 : Env0 P w K mg (hidT s₁.heap H) callerA [] s₁ H := ⟨rfl, hM, fun b o e => of_hidT e, Nat.le_of_eq (hidT_size _ _), trivial, fun b hb => absurd (show b ∈ ([] : List Addr) from hb) (by simp), hok, .of_eq hg⟩
    refine codeAny_mono ((F _ hKb (nsK hns)).run callerA [] s₁ H ⟨[.ref a], []⟩ [.ref a] [.ref a] _ _ hr e0 (hbind s₁ (.ref a)) (.cons rfl .nil) (hsp H hO hS)) fun r s' h => ?_
    cases r with
    | error e => exact (hCX H e s' h).elim
    | ok fl =>
      cases fl with
      | next => exact False.elim h
      | brk => exact False.elim h
      | cont => exact False.elim h
      | ret u =>
        obtain ⟨v, H', os, bare, un, hok', r', q⟩ := h
        have q' : v = .bl true := q
        subst q'
        obtain rfl : u = Value.bool true := r'
        refine ⟨rfl, OldK.of_keep fun b o e => ?_, os, bare⟩
        cases q : H b with
        | none => exact un.keep b o e q (by intro z; exact absurd (show b ∈ ([] : List Addr) from z) (by simp)) (by simp)
        | some u =>
          rcases hO b with z | ⟨ob, xs, z⟩
          · rw [q] at z; cases z
          · have z2 := un.frzs b ob _ z
            obtain ⟨e1, _⟩ := hok b _ z
            obtain ⟨e2, _⟩ := hok' b _ z2
            rw [e] at e1; cases e1
            exact e2
  cases hk : K.lookup a with
  | some o =>
    have e := KX a o hk
    rw [ha] at e
    cases e
    refine core (fun _ => none) (fun _ => .inl rfl) (.inr ⟨_, vs.toArray, _, hk, rfl, rfl, rfl, by rw [List.size_toArray, lenV]; exact hl, by simpa using rv⟩) (fun b u z => by have z' : (none : Option HO) = some u := z; cases z') (fun b z => absurd rfl z) fun z => absurd rfl z
  | none =>
    refine core (fun b => if b = a then some (.frz { cls := .type "list", data := .seq vs.toArray } (.lst (ns.map V.int))) else none) (fun b => ?_) (.inl (.inr ⟨{ cls := .type "list", data := .seq vs.toArray }, if_pos rfl⟩)) (fun b u z => ?_) (fun b z => ?_) fun _ => hk
    · by_cases hb : b = a
      · exact .inr ⟨_, _, if_pos hb⟩
      · exact .inl (if_neg hb)
    · by_cases hb : b = a
      · have z' := (if_pos hb).symm.trans z
        cases z'
        subst hb
        exact ⟨ha, by rw [List.length_map]; exact hl, vs, _, rv, ha⟩
      · have z' := (if_neg hb).symm.trans z
        cases z'
    · by_cases hb : b = a
      · exact hb
      · exact absurd (if_neg hb) z
end L2
namespace L2
open PySem PySem.Spec PyProof.Rows
theorem walk_of {l : PySem.W.OpenLaw} {n k : Nat} {q : Program} {loose : List Str} {XP : (Str → Option Value) → Heap → Prop} {YP : World → Heap → Prop} {d : DefRec} {K : Params → PySem.W.Frag} {CX : World → CXT} {sp : World → Sp} {x : Str}
    (hn : l.most = some n) (hn2 : n ≤ sizeLine) (hdf : d.params.defaults = []) (hr : Room k callerA)
    (hY : ∀ (w : World) (h : Heap), YP w h → (K w.params).In h)
    (F : ∀ (w : World) (mg : Str → Option Value) (fa : Addr) (h : Heap), (K w.params).In h → h.Ns mainGlobals mg → mg d.name = some (.ref fa) →
      ∃ fd : FuncData, (∀ (s : Shared) (u : Value), BindsTo s fd ⟨[u], []⟩ [(x, u)]) ∧
        ∀ base : Heap, (K w.params).In base → base.Ns mainGlobals mg → FnOk l.prog w (K w.params) mg base (CX w) k fa fd [x] (sp w))
    (hsp : ∀ (w : World) (H : Hp) (a : Addr) (ns : List Int), ns.length ≤ n → Only H → SqL (K w.params) H a (ns.map V.int) → sp w [.ref a] H (fun v _ => v = .bl true) fun _ _ _ => False)
    (hCX : ∀ (w : World) (H : Hp) (s : Shared) (e : Value) (s' : Shared), CX w [] H s (fun _ _ _ => False) e s' → False) :
    PySem.W.WalkO q loose XP YP l.row.toRowW d [] (fun f vs => PySem.call f vs) := by
  refine Att.attach_call hn hdf fun w s₀ s₁ mg mb fa o pm cd doc a vs ns G Y ho hd hcd hmg hobj hints hlen hg => ?_
  have KX := hY w _ Y
  obtain ⟨fd, hb, hF⟩ := F w mg fa _ KX G.T.g hmg
  exact law_call KX G.T.g G.T.b G.T.builtins G.T.nolimit hg hobj hints (Nat.le_trans hlen hn2) hr hF hb (fun H hO hS => hsp w H a ns hlen hO hS) fun H e s' => hCX w H s₁ e s'
end L2
namespace L2
open PySem PySem.Spec PyProof.Rows
noncomputable def inClass (s : Stmt) (j : Nat) : Stmt := match s with
  | .ClassDef _ _ _ body _ _ _ _ _ _ _ => body.getD j (.Pass ⟨0, 0, 0, 0⟩)
  | _ => .Pass ⟨0, 0, 0, 0⟩
noncomputable def defArgs (s : Stmt) : Arguments := match s with
  | .FunctionDef _ a _ _ _ _ _ _ _ _ => a
  | _ => { posonlyargs := [], args := [], vararg := none, kwonlyargs := [], kw_defaults := [], kwarg := none, defaults := [] }
noncomputable def defBody (s : Stmt) : List Stmt := match s with
  | .FunctionDef _ _ b _ _ _ _ _ _ _ => b
  | _ => []
noncomputable def defScope (s : Stmt) : Scope := match s with
  | .FunctionDef _ _ _ _ _ _ sc _ _ _ => sc
  | _ => { kind := .function, names := [], isGenerator := false, isCoroutine := false }
noncomputable abbrev CX0 : CXT := fun _ _ _ _ _ _ => False
noncomputable abbrev E0 : XK := fun _ _ _ => False
theorem pass0 {X : Cx} : Passes CX0 X E0 := fun _ _ _ _ _ _ _ h => h.elim
structure Fun (K : PySem.W.Frag) (x qual : Str) (st : Stmt) (f : Addr) (fd : FuncData) : Prop where
  ex : ∃ (oc : Value) (od : Option Addr) (kV doc pm : Value) (an : Option Addr) (cdv ct : Value) (osl : Array (Option Value)),
    fd = PySem.W.fnOf x qual (defArgs st) (defBody st) (defScope st) .none kV doc pm an cdv ct ∧ K.lookup f = some ⟨oc, od, .func fd, osl⟩ ∧ PySem.W.codeIn K cdv qual = true
  kp : PySem.W.keepIn K (.ref f) = true
section
variable {P : Program} {w : World} {K : PySem.W.Frag} {mg : Str → Option Value} {base : Heap}
theorem Fun.ok {x qual : Str} {st : Stmt} {f : Addr} {fd : FuncData} {N ps : List Str} {k : Nat} {sp : Sp} (F : Fun K x qual st f fd) (S : FnScope N ps (defScope st)) (len : ∀ vs H Q E, sp vs H Q E → vs.length = ps.length)
    (hbody : ∀ (cdv : Value) (A : Around) (outer : List Env) (s : Shared) (H : Hp) (vs : List V) (Q : VK) (E : XK), Room k (A.deeper (envOfC qual (defScope st) s.heap.objs.size f cdv)) → sp vs H Q E →
      ∃ t, PSs (cxOf CX0 P w K mg base N qual (defScope st) f cdv A outer s H E).nox (defBody st) t ∧ t { nx := fun _ H' => Q .non H', rt := Q } (start N vs) H) : FnOk P w K mg base CX0 (k + 1) f fd ps sp := by
  obtain ⟨oc, od, kV, doc, pm, an, cdv, ct, osl, rfl, lk, hcd⟩ := F.ex
  refine fn_of lk hcd S len fun A outer s H vs Q E hr hsp => ?_
  obtain ⟨t, h, q⟩ := hbody cdv A outer s H vs Q E hr hsp
  exact ⟨t, h.nox, q⟩
theorem Fun.binds {x qual : Str} {st : Stmt} {f : Addr} {fd : FuncData} {ps : List Str} (F : Fun K x qual st f fd)
    (h : ∀ (kV doc pm : Value) (an : Option Addr) (cdv ct : Value) (us : List Value), us.length = ps.length → bindArgs (PySem.W.fnOf x qual (defArgs st) (defBody st) (defScope st) .none kV doc pm an cdv ct) ⟨us, []⟩ = pure (ps.zip us)) : Binds K fd ps [] := by
  obtain ⟨oc, od, kV, doc, pm, an, cdv, ct, osl, rfl, lk, hcd⟩ := F.ex
  exact .all (h kV doc pm an cdv ct)
end
theorem hu_of {A : Around} {k : Nat} (hr : Room k A) : A.units + 1 < cLine := Nat.lt_of_le_of_lt (Nat.add_le_add_left (by decide : 1 ≤ 64) _) hr.units
section
variable {X : Cx}
end
theorem iteF {A B : Prop} (h : B) : if false = true then A else B := by
  rw [if_neg Bool.false_ne_true]
  exact h
theorem iteT {A B : Prop} (h : A) : if true = true then A else B := by
  rw [if_pos rfl]
  exact h
noncomputable def Same (H H' : Hp) : Prop := ∀ b o, H b = some o → H' b = some o
theorem Same.refl (H : Hp) : Same H H := fun _ _ h => h
theorem Same.trans {H H1 H2 : Hp} (a : Same H H1) (b : Same H1 H2) : Same H H2 := fun c o h => b c o (a c o h)
theorem Same.free {H H' : Hp} (e : Same H H') {l : Addr} (h : H' l = Option.none) : H l = Option.none := by
  cases q : H l with
  | none => rfl
  | some o =>
    rw [e l o q] at h
    cases h
theorem Same.seq {K : PySem.W.Frag} {H H' : Hp} {a : Addr} {xs : List V} (e : Same H H') (h : SqL K H a xs) : SqL K H' a xs := by
  rcases h with (h | ⟨o, h⟩) | h
  · exact .inl (.inl (e _ _ h))
  · exact .inl (.inr ⟨o, e _ _ h⟩)
  · exact .inr h
end L2
set_option maxRecDepth 100000
namespace L2
open PySem PySem.Spec PyProof.Rows
section
variable {κ : Type} [DecidableEq κ]
noncomputable def valV (kvs : List (κ × V)) (k : κ) : Option V := (kvs.find? fun kv => decide (kv.1 = k)).map (·.2)
noncomputable def putK (kvs : List (κ × V)) (k : κ) (v : V) : List (κ × V) :=
  if (kvs.any fun kv => decide (kv.1 = k)) = true then kvs.map (fun kv => if kv.1 = k then (kv.1, v) else kv) else kvs ++ [(k, v)]
noncomputable def dropK (kvs : List (κ × V)) (k : κ) : List (κ × V) := kvs.filter fun kv => decide (kv.1 ≠ k)
theorem valV_pos {p : κ × V} {r : List (κ × V)} {k : κ} (e : p.1 = k) : valV (p :: r) k = some p.2 := by simp [valV, List.find?_cons, e]
theorem valV_neg {p : κ × V} {r : List (κ × V)} {k : κ} (e : ¬ p.1 = k) : valV (p :: r) k = valV r k := by simp [valV, List.find?_cons, e]
theorem valV_any (k : κ) : ∀ kvs : List (κ × V), (kvs.any fun kv => decide (kv.1 = k)) = (valV kvs k).isSome
  | [] => rfl
  | p :: r => by
    rw [List.any_cons]
    by_cases e : p.1 = k
    · simp only [valV_pos e, decide_eq_true e, Bool.true_or, Option.isSome_some]
    · rw [valV_neg e, decide_eq_false e, Bool.false_or]; exact valV_any k r
theorem length_putK (kvs : List (κ × V)) (k : κ) (v : V) : (putK kvs k v).length ≤ kvs.length + 1 := by
  unfold putK
  split
  · rw [List.length_map]; omega
  · rw [List.length_append, List.length_cons, List.length_nil]; omega
theorem RelO.isSome_eq {o : Option V} {u : Option Value} (r : RelO o u) : o.isSome = u.isSome := by
  cases o with
  | none => cases u with
    | none => rfl
    | some _ => exact (show False from r).elim
  | some _ => cases u with
    | none => exact (show False from r).elim
    | some _ => rfl
theorem RelO.getD {o : Option V} {u : Option Value} {d : V} {d' : Value} (r : RelO o u) (rd : RelV d d') : RelV (o.getD d) (u.getD d') := by
  cases o with
  | none => cases u with
    | none => exact rd
    | some _ => exact (show False from r).elim
  | some _ => cases u with
    | none => exact (show False from r).elim
    | some _ => exact r
theorem KV.val {kvs : List (κ × V)} {vs : List (κ × Value)} (r : KV kvs vs) (k : κ) : RelO (valV kvs k) (valueAt vs k) := by
  unfold KV at r
  induction r with
  | nil => exact True.intro
  | @cons p q ps qs h t ih =>
    obtain ⟨h1, h2⟩ := h
    by_cases e : p.1 = k
    · have e' : q.1 = k := h1.symm.trans e
      have b : valueAt (q :: qs) k = some q.2 := by simp [valueAt, List.find?_cons, e']
      rw [valV_pos e, b]; exact h2
    · have e' : ¬ q.1 = k := fun z => e (h1.trans z)
      have b : valueAt (q :: qs) k = valueAt qs k := by simp [valueAt, List.find?_cons, e']
      rw [valV_neg e, b]; exact ih
theorem KV.any {kvs : List (κ × V)} {vs : List (κ × Value)} (r : KV kvs vs) (k : κ) : (kvs.any fun kv => decide (kv.1 = k)) = vs.any fun kv => decide (kv.1 = k) := by
  unfold KV at r
  induction r with
  | nil => rfl
  | cons h t ih => rw [List.any_cons, List.any_cons, ih, h.1]
theorem KV.repl {kvs : List (κ × V)} {vs : List (κ × Value)} (r : KV kvs vs) (k : κ) {y : V} {u : Value} (ry : RelV y u) :
    KV (kvs.map fun kv => if kv.1 = k then (kv.1, y) else kv) (vs.map fun kv => if kv.1 = k then (kv.1, u) else kv) := by
  unfold KV at r ⊢
  induction r with
  | nil => exact .nil
  | @cons p q ps qs h t ih =>
    rw [List.map_cons, List.map_cons]
    refine .cons ?_ ih
    obtain ⟨h1, h2⟩ := h
    by_cases e : p.1 = k
    · rw [if_pos e, if_pos (h1.symm.trans e)]; exact ⟨h1, ry⟩
    · rw [if_neg e, if_neg (fun z => e (h1.trans z))]; exact ⟨h1, h2⟩
theorem KV.put {kvs : List (κ × V)} {vs : List (κ × Value)} (r : KV kvs vs) (k : κ) {y : V} {u : Value} (ry : RelV y u) : KV (putK kvs k y) (stored vs k u) := by
  unfold putK stored
  rw [r.any k]
  by_cases e : (vs.any fun kv => decide (kv.1 = k)) = true
  · rw [if_pos e, if_pos e]; exact r.repl k ry
  · rw [if_neg e, if_neg e]; exact Paired.snoc r ⟨rfl, ry⟩
theorem KV.drop {kvs : List (κ × V)} {vs : List (κ × Value)} (r : KV kvs vs) (k : κ) : KV (dropK kvs k) (without vs k) := by
  unfold KV at r ⊢
  unfold dropK without
  induction r with
  | nil => exact .nil
  | @cons p q ps qs h t ih =>
    obtain ⟨h1, h2⟩ := h
    rw [List.filter_cons, List.filter_cons]
    by_cases e : p.1 = k
    · have a : ¬ decide (p.1 ≠ k) = true := by simp [e]
      have b : ¬ decide (q.1 ≠ k) = true := by simp [h1.symm.trans e]
      rw [if_neg a, if_neg b]; exact ih
    · have e' : ¬ q.1 = k := fun z => e (h1.trans z)
      have a : decide (p.1 ≠ k) = true := by simp [e]
      have b : decide (q.1 ≠ k) = true := by simp [e']
      rw [if_pos a, if_pos b]; exact .cons ⟨h1, h2⟩ ih
theorem KV.length {kvs : List (κ × V)} {vs : List (κ × Value)} (r : KV kvs vs) : kvs.length = vs.length := Paired.length r
end
theorem kV_is {P : Program} {w : World} {k : Key} {u : Value} (r : RelV (kV k) u) : (mixKind P w).is k u = true := by
  cases k with
  | inl i => obtain ⟨t, e⟩ := (show ∃ t, u = Value.int i t from r); subst e; exact mixKind_int P w i t
  | inr x => obtain ⟨t, e⟩ := (show ∃ t, u = Value.str x t from r); subst e; exact mixKind_str P w x t
theorem items_are {P : Program} {w : World} : ∀ {ks : List Key} {us : List Value}, Vals (ks.map kV) us → ItemsAre (mixKind P w) ks us
  | [], _, r => by rw [List.map_nil] at r; cases r; exact .nil
  | k :: ks, _, r => by
    rw [List.map_cons] at r
    cases r with
    | cons h t => exact .cons (kV_is h) (items_are t)
noncomputable abbrev KT (H : Hp) : List (List Key × V) → List (List Key × Addr × Value) → Prop := Paired fun p q => p.1 = q.1 ∧ H q.2.1 = some (.tup (p.1.map kV)) ∧ RelV p.2 q.2.2
theorem KT.val {H : Hp} {kvs : List (List Key × V)} {xs : List (List Key × Addr × Value)} (r : KT H kvs xs) (k : List Key) : RelO (valV kvs k) ((atKey xs k).map (·.2)) := by
  induction r with
  | nil => exact True.intro
  | @cons p q ps qs h t ih =>
    obtain ⟨h1, _, h2⟩ := h
    by_cases e : p.1 = k
    · have e' : q.1 = k := h1.symm.trans e
      have b : atKey (q :: qs) k = some q.2 := by simp [atKey, List.find?_cons, e']
      rw [valV_pos e, b]; exact h2
    · have e' : ¬ q.1 = k := fun z => e (h1.trans z)
      have b : atKey (q :: qs) k = atKey qs k := by simp [atKey, List.find?_cons, e']
      rw [valV_neg e, b]; exact ih
theorem KT.repl {H : Hp} {kvs : List (List Key × V)} {xs : List (List Key × Addr × Value)} (r : KT H kvs xs) (k : List Key) {y : V} {u : Value} (ry : RelV y u) :
    KT H (kvs.map fun kv => if kv.1 = k then (kv.1, y) else kv) (xs.map (putAt k u)) := by
  induction r with
  | nil => exact .nil
  | @cons p q ps qs h t ih =>
    rw [List.map_cons, List.map_cons]
    refine .cons ?_ ih
    obtain ⟨h1, h2, h3⟩ := h
    unfold putAt
    by_cases e : p.1 = k
    · rw [if_pos e, if_pos (h1.symm.trans e)]; exact ⟨h1, h2, ry⟩
    · rw [if_neg e, if_neg (fun z => e (h1.trans z))]; exact ⟨h1, h2, h3⟩
theorem KT.put {H : Hp} {kvs : List (List Key × V)} {xs : List (List Key × Addr × Value)} (r : KT H kvs xs) (k : List Key) {b : Addr} {y : V} {u : Value} (hb : H b = some (.tup (k.map kV))) (ry : RelV y u) :
    KT H (putK kvs k y) (storedH xs k b u) := by
  have e : (kvs.any fun kv => decide (kv.1 = k)) = (atKey xs k).isSome := by
    rw [valV_any, (r.val k).isSome_eq, Option.isSome_map]
  unfold putK storedH
  rw [e]
  by_cases q : (atKey xs k).isSome = true
  · rw [if_pos q, if_pos q]; exact r.repl k ry
  · rw [if_neg q, if_neg q]; exact Paired.snoc r ⟨rfl, hb, ry⟩
theorem KT.keeps {H H' : Hp} {kvs : List (List Key × V)} {xs : List (List Key × Addr × Value)} (r : KT H kvs xs) (ht : ∀ b ys, H b = some (.tup ys) → H' b = some (.tup ys)) : KT H' kvs xs :=
  Paired.mapP r fun _ _ z => ⟨z.1, ht _ _ z.2.1, z.2.2⟩
section
variable {P : Program} {w : World} {H : Hp} {h : Heap} {a : Addr}
theorem rd_of {u : HO} (ok : HOk P w H h) (e : Rd H a u) : ObjOk P w H h a u := e.ok ok
theorem dk_rd {kvs : List (Key × V)} (ok : HOk P w H h) (e : Rd H a (.dK kvs)) : kvs.length ≤ sizeLine ∧ (a == sysModules) = false ∧ ∃ vs, KV kvs vs ∧ h.DictOf (mixKind P w) a vs :=
  show ObjOk P w H h a (.dK kvs) from rd_of ok e
theorem key_of {ks : List Key} (ok : HOk P w H h) (e : H a = some (.tup (ks.map kV))) : (tupleKind (mixKind P w)).is h ks a := by
  obtain ⟨_, its, r, o, h1, h2, n, h3⟩ := (show ObjOk P w H h a (.tup (ks.map kV)) from ok a _ e)
  exact ⟨o, its.toArray, n, h1, h2, h3, by simpa using items_are r⟩
theorem dt_rd {kvs : List (List Key × V)} (ok : HOk P w H h) (e : Rd H a (.dT kvs)) : kvs.length ≤ sizeLine ∧ (a == sysModules) = false ∧
    ∃ xs, KT H kvs xs ∧ h.DictOfH (tupleKind (mixKind P w)) a xs := by
  obtain ⟨z, y, xs, r, o, es, ep, h1, h2, h3, h4, h5⟩ := (show ObjOk P w H h a (.dT kvs) from rd_of ok e)
  refine ⟨z, y, xs, r, o, es, ep, h1, h2, h3, h4, fun x hx => ?_, h5⟩
  have all : ∀ {l : List (List Key × V)} {m : List (List Key × Addr × Value)}, KT H l m → ∀ x ∈ m, (tupleKind (mixKind P w)).is h x.1 x.2.1 := by
    intro l m q
    induction q with
    | nil => intro x hx; exact nomatch hx
    | @cons p q ps qs hq t ih =>
      intro x hx
      rcases List.mem_cons.mp hx with e | hx
      · subst e
        exact key_of ok (by rw [← hq.1]; exact hq.2.1)
      · exact ih x hx
  exact all r x hx
end
noncomputable def DGet (H : Hp) (a : Addr) (y : V) (r : Option V) : Prop :=
  (∃ kvs k, Rd H a (.dK kvs) ∧ y = kV k ∧ r = valV kvs k) ∨ ∃ kvs k b, Rd H a (.dT kvs) ∧ y = .ref b ∧ H b = some (.tup (k.map kV)) ∧ r = valV kvs k
noncomputable def DPut (H : Hp) (a : Addr) (y v : V) (H' : Hp) : Prop :=
  (∃ kvs k, H a = some (.dK kvs) ∧ y = kV k ∧ kvs.length < sizeLine ∧ H' = upd H a (.dK (putK kvs k v))) ∨
  ∃ kvs k b, H a = some (.dT kvs) ∧ y = .ref b ∧ H b = some (.tup (k.map kV)) ∧ kvs.length < sizeLine ∧ H' = upd H a (.dT (putK kvs k v))
theorem DGet.k {H : Hp} {a : Addr} {kvs : List (Key × V)} {k : Key} (e : H a = some (.dK kvs)) : DGet H a (kV k) (valV kvs k) := .inl ⟨kvs, k, .inl e, rfl, rfl⟩
theorem DGet.t {H : Hp} {a b : Addr} {kvs : List (List Key × V)} {k : List Key} (e : H a = some (.dT kvs)) (eb : H b = some (.tup (k.map kV))) : DGet H a (.ref b) (valV kvs k) := .inr ⟨kvs, k, b, .inl e, rfl, eb, rfl⟩
theorem DPut.k {H : Hp} {a : Addr} {kvs : List (Key × V)} {k : Key} {v : V} (e : H a = some (.dK kvs)) (hl : kvs.length < sizeLine) : DPut H a (kV k) v (upd H a (.dK (putK kvs k v))) := .inl ⟨kvs, k, e, rfl, hl, rfl⟩
theorem DPut.t {H : Hp} {a b : Addr} {kvs : List (List Key × V)} {k : List Key} {v : V} (e : H a = some (.dT kvs)) (eb : H b = some (.tup (k.map kV))) (hl : kvs.length < sizeLine) :
    DPut H a (.ref b) v (upd H a (.dT (putK kvs k v))) := .inr ⟨kvs, k, b, e, rfl, eb, hl, rfl⟩
section
variable {X : Cx} {pins : List (Addr × Obj)} {σ : St} {H : Hp} {s : Shared} {a : Addr} {y v : V} {u r : Value} {o : Option V} {A : Around} {E : Value → Shared → Prop}
theorem Inv.big (I : Inv X pins σ H s) : sysModules < s.heap.objs.size := by
  have h : mainGlobals < s.heap.objs.size := (I.mod.glob.keeps I.bk).lt
  exact Nat.lt_trans (by decide) h
theorem d_in {Q : Value → Shared → Prop} (hu : A.units + 1 < cLine) (I : Inv X pins σ H s) (g : DGet H a y o) (ry : RelV y u) (h : ∀ s', Inv X pins σ H s' → Q (.bool o.isSome) s') :
    wpAny (model X.prog X.w) A (compareOp .In u (.ref a)) Q E s := by
  rcases g with ⟨kvs, k, e, ey, l⟩ | ⟨kvs, k, b, e, ey, eb, l⟩
  · subst ey
    obtain ⟨z, hd, vs, rel, dd⟩ := dk_rd I.hok e
    refine wpAny_in_of (kV_is ry) hd dd.mapOf ?_
    rw [← (rel.val k).isSome_eq, ← l]
    exact h _ (I.tok _)
  · subst ey
    cases (show u = Value.ref b from ry)
    obtain ⟨z, hd, xs, rel, dd⟩ := dt_rd I.hok e
    refine wpAny_in_heap (tupleKind_room_in1 hu) (key_of I.hok eb) hd dd ?_
    have q := (rel.val k).isSome_eq
    rw [Option.isSome_map] at q
    rw [← q, ← l]
    exact h _ (I.tok _)
theorem dk_new {P : Program} {w : World} {H' : Hp} {h' : Heap} {kvs : List (Key × V)} {vs : List (Key × Value)} (z : kvs.length ≤ sizeLine) (hd : (a == sysModules) = false) (rel : KV kvs vs) (dd : h'.DictOf (mixKind P w) a vs) :
    ObjOk P w H' h' a (.dK kvs) := ⟨z, hd, vs, rel, dd⟩
end
section
variable {X : Cx} {pins : List (Addr × Obj)} {σ : St} {H : Hp} {s : Shared} {a : Addr} {kvs : List (Key × V)} {k : Key} {u : Value} {A : Around} {E : Value → Shared → Prop}
theorem d_len {Q : Value → Shared → Prop} (I : Inv X pins σ H s) (e : Rd H a (.dK kvs)) (h : ∀ t s', Inv X pins σ H s' → Q (.int kvs.length t) s') : wpAny (model X.prog X.w) A (call (.builtin "len") [.ref a]) Q E s := by
  obtain ⟨z, hd, vs, rel, dd⟩ := dk_rd I.hok e
  refine call_len_dict hd dd (by rw [← rel.length]; rw [sizeLine_eq] at z; omega) ?_
  rw [← rel.length]
  exact h _ _ (I.tok _)
end
noncomputable def tDGet (td ty : TE) : TE := fun σ H Q => td σ H fun x H1 => ty σ H1 fun y H2 => ∃ a v, x = .ref a ∧ DGet H2 a y (some v) ∧ Q v H2
noncomputable def sDPut (td ty tv : TE) : TS := fun D σ H => tv σ H fun v H1 => td σ H1 fun x H2 => ty σ H2 fun y H3 => ∃ a H4, x = .ref a ∧ DPut H3 a y v H4 ∧ D.nx σ H4
noncomputable def sDAug (td ty tv : TE) (rd : V → V → Hp → VK → Prop) : TS := fun D σ H => td σ H fun x H1 => ty σ H1 fun y H2 => ∃ a v, x = .ref a ∧ DGet H2 a y (some v) ∧
  tv σ H2 fun y2 H3 => rd v y2 H3 fun z H4 => ∃ H5, DPut H4 a y z H5 ∧ D.nx σ H5
section
variable {X : Cx} {o i e value : Expr} {pos pos' tpos : Pos} {td ty tv : TE}
end
noncomputable def tDNewK : TE := fun _ H Q => ∀ p, H p = none → Q (.ref p) (upd H p (.dK []))
section
variable {X : Cx} {pos : Pos}
end
noncomputable def tPairs : List (TE × TE) → St → Hp → (List (V × V) → Hp → Prop) → Prop
  | [], _, H, Q => Q [] H
  | (tk, tv) :: r, σ, H, Q => tk σ H fun x H1 => tv σ H1 fun y H2 => tPairs r σ H2 fun ps H3 => Q ((x, y) :: ps) H3
noncomputable def mergeK (kvs more : List (Key × V)) : List (Key × V) := more.foldl (fun acc kv => putK acc kv.1 kv.2) kvs
theorem length_mergeK : ∀ (more kvs : List (Key × V)), (mergeK kvs more).length ≤ kvs.length + more.length
  | [], kvs => by show kvs.length ≤ kvs.length + 0; omega
  | p :: r, kvs => by
    have h1 := length_mergeK r (putK kvs p.1 p.2)
    have h2 := length_putK kvs p.1 p.2
    show (mergeK (putK kvs p.1 p.2) r).length ≤ _
    rw [List.length_cons]; omega
noncomputable def tDisp (trs : List (TE × TE)) : TE := fun σ H Q => ∀ p, H p = none → tPairs trs σ (upd H p (.dK [])) fun ps H2 => H2 p = some (.dK []) ∧ ∃ kvs : List (Key × V), ps = kvs.map (fun kv => (kV kv.1, kv.2)) ∧ kvs.length ≤ 15 ∧ Q (.ref p) (upd H2 p (.dK (mergeK [] kvs)))
noncomputable def IsD (H : Hp) (a : Addr) : Prop := (∃ kvs, Rd H a (.dK kvs)) ∨ ∃ kvs, Rd H a (.dT kvs)
section
variable {X : Cx} {pins : List (Addr × Obj)} {σ : St} {H : Hp} {s : Shared} {a : Addr} {y d : V} {u r : Value} {o : Option V} {A : Around} {E : Value → Shared → Prop}
end
noncomputable def tDGet2 (td ty tx : TE) : TE := fun σ H Q => td σ H fun x H1 => ∃ a, x = .ref a ∧ IsD H1 a ∧ ty σ H1 fun y H2 => tx σ H2 fun z H3 => ∃ o, DGet H3 a y o ∧ Q (o.getD z) H3
section
variable {X : Cx} {o e f : Expr} {apos cpos : Pos} {td ty tx : TE}
end
section
variable {X : Cx} {pins : List (Addr × Obj)} {σ : St} {H : Hp} {s : Shared} {a : Addr} {kvs : List (Key × V)} {A : Around} {E : Value → Shared → Prop}
end
section
variable {X : Cx} {pins : List (Addr × Obj)} {σ : St} {H : Hp} {s : Shared} {a : Addr} {y : V} {u : Value} {A : Around} {E : Value → Shared → Prop}
end
end L2
namespace L2
open PySem PySem.Spec PyProof.Rows
section
variable {X : Cx}
end
section
variable {κ : Type} [DecidableEq κ]
end
end L2
set_option maxRecDepth 100000
namespace L2
open PySem PySem.Spec PyProof.Rows
noncomputable def cloOf (cells : List (Str × Addr)) : List (Str × NameKind) → List (Str × Addr) → List (Str × Addr)
  | [], acc => acc
  | (n, k) :: r, acc => if k = .free then cloOf cells r ((n, (cells.lookup n).getD 0) :: acc) else cloOf cells r acc
theorem forIn_clo {env : Env} : ∀ (names : List (Str × NameKind)) (acc : List (Str × Addr)), (∀ x ∈ names, x.2 = .free → ∃ c, env.cells.lookup x.1 = some c) →
    (forIn names acc fun (x : Str × NameKind) (cs : List (Str × Addr)) => (if (x.2 == NameKind.free) = true then do
      let c ← cellOf env x.1
      pure (ForInStep.yield ((x.1, c) :: cs)) else pure (ForInStep.yield cs) : Sem (ForInStep (List (Str × Addr))))) = (pure (cloOf env.cells names acc) : Sem (List (Str × Addr)))
  | [], acc, _ => rfl
  | (n, k) :: r, acc, h => by
    rw [List.forIn_cons]
    have hr : ∀ x ∈ r, x.2 = .free → ∃ c, env.cells.lookup x.1 = some c := fun x hx => h x (List.mem_cons_of_mem _ hx)
    by_cases hk : k = .free
    · subst hk
      obtain ⟨c, hc⟩ := h (n, .free) List.mem_cons_self rfl
      have e1 : cellOf env n = pure c := by unfold cellOf; rw [show env.cells.lookup n = some c from hc]
      simp only [beq_self_eq_true, if_true]
      rw [e1]
      show (forIn r ((n, c) :: acc) _ : Sem _) = _
      rw [forIn_clo r _ hr]
      show _ = pure (if NameKind.free = .free then cloOf env.cells r ((n, (env.cells.lookup n).getD 0) :: acc) else _)
      rw [if_pos rfl, show env.cells.lookup n = some c from hc]
      rfl
    · have hb : (k == NameKind.free) = false := by simpa using hk
      simp only [hb, Bool.false_eq_true, if_false]
      show (forIn r acc _ : Sem _) = _
      rw [forIn_clo r _ hr]
      show _ = pure (if k = .free then _ else cloOf env.cells r acc)
      rw [if_neg hk]
theorem closureFor_clo {scope : Scope} {env : Env} (h : ∀ x ∈ scope.names, x.2 = .free → ∃ c, env.cells.lookup x.1 = some c) : closureFor scope env = pure (cloOf env.cells scope.names []) := by
  simp only [closureFor]
  have e := forIn_clo (env := env) scope.names [] h
  rw [e]
  rfl
theorem clo_lookup {cells : List (Str × Addr)} {x : Str} : ∀ (names : List (Str × NameKind)) (acc : List (Str × Addr)),
    (cloOf cells names acc).lookup x = if (x, NameKind.free) ∈ names then some ((cells.lookup x).getD 0) else acc.lookup x
  | [], acc => by simp [cloOf]
  | (n, k) :: r, acc => by
    show (if k = .free then cloOf cells r ((n, (cells.lookup n).getD 0) :: acc) else cloOf cells r acc).lookup x = _
    by_cases hk : k = .free
    · subst hk
      rw [if_pos rfl, clo_lookup r]
      by_cases hm : (x, NameKind.free) ∈ r
      · rw [if_pos hm, if_pos (List.mem_cons_of_mem _ hm)]
      · rw [if_neg hm, List.lookup_cons]
        by_cases hx : x = n
        · subst hx
          rw [if_pos List.mem_cons_self]
          simp
        · have e : (x == n) = false := by simpa using hx
          rw [e, if_neg]
          intro z
          rcases List.mem_cons.mp z with z | z
          · exact hx (Prod.mk.inj z).1
          · exact hm z
    · rw [if_neg hk, clo_lookup r]
      by_cases hm : (x, NameKind.free) ∈ r
      · rw [if_pos hm, if_pos (List.mem_cons_of_mem _ hm)]
      · rw [if_neg hm, if_neg]
        intro z
        rcases List.mem_cons.mp z with z | z
        · exact hk (Prod.mk.inj z).2.symm
        · exact hm z
theorem lookup_mem' {α : Type} {x : Str} : ∀ {l : List (Str × α)} {k : α}, l.lookup x = some k → (x, k) ∈ l
  | [], _, h => by simp at h
  | (n, a) :: r, k, h => by
    rw [List.lookup_cons] at h
    by_cases hx : x = n
    · subst hx
      simp at h
      subst h
      exact List.mem_cons_self
    · have e : (x == n) = false := by simpa using hx
      rw [e] at h
      exact List.mem_cons_of_mem _ (lookup_mem' h)
theorem relabel_free {sc : Scope} {env : Env} {x : Str} {k : NameKind} (hc : ∀ y ∈ sc.names, y.2 ≠ .cell) (h : (relabel sc env).names.lookup x = some k) (hk : k = .cell ∨ k = .free) : (x, NameKind.free) ∈ sc.names := by
  have m := lookup_mem' h
  unfold relabel at m
  obtain ⟨⟨n, k'⟩, hm, e⟩ := List.mem_map.mp m
  have hne := hc _ hm
  by_cases hf : k' = .free
  · subst hf
    have : n = x := by
      dsimp only at e
      split at e
      · exact (Prod.mk.inj e).1
      · exact (Prod.mk.inj e).1
    subst this
    exact hm
  · have hb : (k' == NameKind.free) = false := by simpa using hf
    simp only [hb, Bool.false_and, Bool.false_eq_true, if_false] at e
    obtain ⟨e1, e2⟩ := Prod.mk.inj e
    subst e1 e2
    rcases hk with z | z
    · exact absurd z hne
    · subst z
      exact absurd rfl hf
structure CompOk (N : List Str) (kn : List (Str × NameKind)) (sc : Scope) (N' : List Str) (k : Nat) (ixs : List Nat) : Prop where
  kind : sc.kind = .function
  cell : ∀ x ∈ sc.names, x.2 ≠ .cell
  names : ∀ x ∈ sc.names, x.2 = .local → sc.names.lookup x.1 = some .local
  free : ∀ x ∈ sc.names, x.2 = .free → kn.lookup x.1 = some .cell ∨ kn.lookup x.1 = some .free
  clean : ∀ x ∈ sc.names, x.2 = .free → sc.names.lookup x.1 = some .free
  len : N'.length = k + ixs.length
  at_ : ixs.map (fun i => N[i]?) = (N'.drop k).map some
  fr : ∀ x ∈ N'.drop k, (x, NameKind.free) ∈ sc.names
noncomputable def blk (X : Cx) (sc : Scope) (N' : List Str) (C : Addr) (s₃ : Shared) (H₃ : Hp) (fp : List Addr) (pins : List (Addr × Obj)) : Cx :=
  { prog := X.prog, w := X.w, K := X.K, mg := X.mg, base := X.base, A := X.A, N := N', s₀ := s₃, H₀ := H₃,
    env := compEnvC sc (cloOf X.env.cells sc.names []) C X.env, outer := X.stack, stack := X.stack, ex := fp, fn := fun _ => false, calm := X.calm,
    pn := X.pn ++ pins, xe := fun _ _ => False }
noncomputable def compStart (k : Nat) (ixs : List Nat) (σ : St) : St := List.replicate k none ++ ixs.map fun i => (σ[i]?).join
theorem compStart_len {k : Nat} {ixs : List Nat} {σ : St} : (compStart k ixs σ).length = k + ixs.length := by simp [compStart]
section
variable {X : Cx} {sc : Scope} {N' : List Str} {k : Nat} {ixs : List Nat} {pins : List (Addr × Obj)} {σ : St} {H : Hp} {s : Shared} {fp : List Addr}
theorem clo_cell (C : CompOk X.N X.env.scope.names sc N' k ixs) (I : Inv X pins σ H s) {x : Str} {c : Addr} (e : (cloOf X.env.cells sc.names []).lookup x = some c) : X.env.cells.lookup x = some c ∧ (x, NameKind.free) ∈ sc.names := by
  rw [clo_lookup] at e
  by_cases hm : (x, NameKind.free) ∈ sc.names
  · rw [if_pos hm] at e
    obtain ⟨c', hc'⟩ := I.ok.has x (C.free _ hm rfl)
    rw [hc'] at e
    exact ⟨hc'.trans e, hm⟩
  · rw [if_neg hm] at e
    cases e
theorem clo_has (C : CompOk X.N X.env.scope.names sc N' k ixs) (I : Inv X pins σ H s) {x : Str} (hm : (x, NameKind.free) ∈ sc.names) : ∃ c, (cloOf X.env.cells sc.names []).lookup x = some c ∧ X.env.cells.lookup x = some c := by
  obtain ⟨c', hc'⟩ := I.ok.has x (C.free _ hm rfl)
  refine ⟨c', ?_, hc'⟩
  rw [clo_lookup, if_pos hm, hc']
  rfl
theorem blk_ok (C : CompOk X.N X.env.scope.names sc N' k ixs) (I : Inv X pins σ H s) (hf : ∀ b ∈ fp, FpOk X pins H b) (ho : ∀ b ∈ fp, ∃ o, s.heap.get? b = some o) : (blk X sc N' s.heap.objs.size s H fp pins).Ok where
  mod := I.ok.mod
  kind := C.kind
  glob := I.ok.glob
  blt := I.ok.blt
  above := Nat.le_refl _
  inj := fun x y c e1 e2 => I.ok.inj x y c (clo_cell C I e1).1 (clo_cell C I e2).1
  has := fun x hx => by
    have hm : (x, NameKind.free) ∈ sc.names := by
      rcases hx with z | z
      · exact relabel_free C.cell z (.inl rfl)
      · exact relabel_free C.cell z (.inr rfl)
    obtain ⟨c, h1, _⟩ := clo_has C I hm
    exact ⟨c, h1⟩
  cab := fun x c h _ => by cases h
  hd := I.ok.hd
  frames := I.ok.frames
  stk := .inl rfl
  exf := fun b hb => by
    obtain ⟨o, e⟩ := ho b hb
    exact ⟨Nat.ne_of_lt (Heap.lt_size e), fun x c e1 => (hf b hb).2.2.2.2.1 x c (clo_cell C I e1).1⟩
  bs := I.bs
  bsz := Nat.le_trans I.ok.bsz I.sz
  noex := fun b o e hb => by
    rcases (hf b hb).2.2.2.1 with z | z
    · exact I.ok.noex b o e z
    · exact absurd (Nat.lt_of_lt_of_le (Heap.lt_size e) (Nat.le_trans I.ok.bsz z)) (Nat.lt_irrefl _)
  exfs := fun b hb hm => by
    rcases List.mem_cons.mp (I.stkSub b hm) with z | z
    · exact (hf b hb).2.1 z
    · exact (hf b hb).2.2.1 z
  funs := I.stack
  frf := I.stkFree
theorem blk_inv (C : CompOk X.N X.env.scope.names sc N' k ixs) (I : Inv X pins σ H s) (hf : ∀ b ∈ fp, FpOk X pins H b) (ho : ∀ b ∈ fp, ∃ o, s.heap.get? b = some o) {h' : Heap} {t' : Nat} {m : Str → Option Value}
    (hn : h'.Ns s.heap.objs.size m) (hk : ∀ b o, s.heap.get? b = some o → h'.get? b = some o) : Inv (blk X sc N' s.heap.objs.size s H fp pins) [] (compStart k ixs σ) H { s with heap := h', toks := t' } where
  ok := blk_ok C I hf ho
  os := rfl
  bare := I.bare
  base := Un.kept hk
  loc := by
    refine ⟨m, hn, fun i x v e1 e2 e3 => ?_⟩
    unfold compStart at e2
    by_cases hi : i < k
    · rw [List.getElem?_append_left (by simpa using hi)] at e2
      rw [List.getElem?_replicate_of_lt hi] at e2
      cases e2
    · rw [List.getElem?_append_right (by simpa using hi), List.length_replicate] at e2
      rw [List.getElem?_map] at e2
      cases e4 : ixs[i - k]? with
      | none => rw [e4] at e2; cases e2
      | some j =>
        rw [e4] at e2
        have e5 : (σ[j]?).join = some v := Option.some.inj e2
        have e6 : σ[j]? = some (some v) := by
          cases e7 : σ[j]? with
          | none => rw [e7] at e5; cases e5
          | some o => rw [e7] at e5; exact congrArg some e5
        have e1' : N'[i]? = some x := e1
        have ed : (N'.drop k)[i - k]? = some x := by rw [List.getElem?_drop, show k + (i - k) = i by omega]; exact e1'
        have n3 : (x, NameKind.free) ∈ sc.names := C.fr x (List.mem_of_getElem? ed)
        have n2 : X.N[j]? = some x := by
          have q := congrArg (fun l => l[i - k]?) C.at_
          simp only [List.getElem?_map, e4, ed, Option.map_some] at q
          exact Option.some.inj q
        obtain ⟨m0, hn0, hl0⟩ := I.loc
        have hvis : X.env.scope.names.lookup x = some .cell ∨ X.env.scope.names.lookup x = some .free := C.free _ n3 rfl
        obtain ⟨u, r, l⟩ := hl0 j x v n2 e6 (.inr hvis)
        refine ⟨u, r, .inr ?_⟩
        rcases l with ⟨l, _⟩ | ⟨_, c, hc, hcell⟩
        · have l' : X.env.scope.names.lookup x = some .local := l
          rcases hvis with z | z
          · rw [l'] at z; cases z
          · rw [l'] at z; cases z
        · obtain ⟨c', h1, h2⟩ := clo_has C I n3
          rw [hc] at h2
          cases h2
          refine ⟨?_, c, h1, ?_⟩
          · have e3' : (relabel sc X.env).names.lookup x = some .local ∨ (relabel sc X.env).names.lookup x = some .cell ∨ (relabel sc X.env).names.lookup x = some .free := e3
            rcases e3' with z | z
            · exfalso
              have mm := lookup_mem' z
              unfold relabel at mm
              obtain ⟨⟨n, k'⟩, hm, e⟩ := List.mem_map.mp mm
              have hkl : k' = .local ∧ n = x := by
                dsimp only at e
                split at e
                · obtain ⟨_, q⟩ := Prod.mk.inj e
                  cases q
                · exact ⟨(Prod.mk.inj e).2, (Prod.mk.inj e).1⟩
              obtain ⟨z1, z2⟩ := hkl
              subst z1 z2
              have q1 := C.names _ hm rfl
              rw [C.clean _ n3 rfl] at q1
              cases q1
            · exact z
          · exact hcell.keeps hk
  cell := fun x c e => by
    obtain ⟨v, z⟩ := I.cell x c (clo_cell C I e).1
    exact ⟨v, z.keeps hk⟩
  free := I.hok.fresh (Nat.le_refl _)
  freeC := fun x c e => I.freeC x c (clo_cell C I e).1
  pin := fun p hp => by
    have hp' : p ∈ X.pn ++ pins := by simpa [blk] using hp
    obtain ⟨e, n, ne, nf, d⟩ := I.pin p hp'
    refine ⟨hk _ _ e, n, Nat.ne_of_lt (Heap.lt_size e), fun hm => ?_, d⟩
    rcases List.mem_cons.mp (I.stkSub _ hm) with z | z
    · exact ne z
    · exact nf z
  hok := I.hok.kept hk
  len := by rw [compStart_len]; exact C.len.symm
end
section
variable {prog : Program} {w : World} {A : Around} {R : Result → Shared → Prop} {s : Shared}
theorem compLoop_any {elt target iter : Expr} {ifs : List Expr} {scope : Scope} {pos : Pos} {it acc : Value} {env : Env} (I : Nat → Shared → Prop)
    (turn : ∀ n s, I n s → wpAny (model prog w) A (pyNext it) (fun r s₁ => match r with
      | none => R (.ok .next) s₁
      | some v => wpAny (model prog w) A (letOwnedTupleGo target it v) (fun _ s₁ => wpAny (model prog w) A (assign target env v) (fun _ s₂ =>
          wpAny (model prog w) A (forIn ifs true fun c r => if r = true then do let ok ← isTrue c env (eval c env); pure (ForInStep.yield ok) else pure (ForInStep.yield r)) (fun ok s₃ =>
            if ok = true then wpAny (model prog w) A (eval elt env) (fun x s₄ =>
              wpAny (model prog w) A (call (.builtin "list.append") [acc, x]) (fun _ s₅ => ∃ m, m < n ∧ I m s₅) (notedBy (model prog w) A env fun e s' => R (.error e) s') s₄) (notedBy (model prog w) A env fun e s' => R (.error e) s') s₃
            else ∃ m, m < n ∧ I m s₃) (notedBy (model prog w) A env fun e s' => R (.error e) s') s₂) (notedBy (model prog w) A env fun e s' => R (.error e) s') s₁) (notedBy (model prog w) A env fun e s' => R (.error e) s') s₁) (notedBy (model prog w) A env fun e s' => R (.error e) s') s)
    (n : Nat) (h : I n s) :
    codeAny (model prog w) A (.compLoop (.ListComp elt [⟨target, iter, ifs, 0⟩] scope pos) 0 it acc env) R s := by
  refine codeAny_loop rfl I (fun n s hI => ?_) n h
  show wpAny _ A ((compTurn (.ListComp elt [⟨target, iter, ifs, 0⟩] scope pos) 0 it acc env).onRaise (fun x => do noteFrame x env; theTreesLotGoes x)) _ _ s
  refine wpAny_noted ?_
  rw [compTurn_list]
  refine wpAny_bind (wpAny_standAt (wpAny_bind (wpAny_mono (turn n s hI) (fun r s₁ h₁ => ?_) fun _ _ h' => h')))
  cases r with
  | none => exact wpAny_pure h₁
  | some v =>
    refine wpAny_bind (wpAny_mono h₁ (fun _ s₁ h₁ => ?_) fun _ _ h' => h')
    refine wpAny_bind (wpAny_mono h₁ (fun _ s₂ h₂ => wpAny_bind (wpAny_mono h₂ (fun ok s₃ h₃ => ?_) fun _ _ h' => h')) fun _ _ h' => h')
    cases ok with
    | false => exact wpAny_pure ⟨rfl, h₃⟩
    | true =>
      exact wpAny_bind (wpAny_bind (wpAny_mono h₃ (fun x s₄ h₄ => wpAny_bind (wpAny_mono h₄ (fun _ s₅ h₅ => wpAny_pure (wpAny_pure ⟨rfl, h₅⟩)) fun _ _ h' => h')) fun _ _ h' => h'))
end
noncomputable def PIfs (X : Cx) (ifs : List Expr) (t : TT) : Prop :=
  ∀ (pins : List (Addr × Obj)) (s : Shared) (σ : St) (H : Hp) (Q : Bool → Hp → Prop), Inv X pins σ H s → t σ H Q →
    wpAny (model X.prog X.w) X.A (forIn ifs true fun c r => if r = true then do let ok ← isTrue c X.env (eval c X.env); pure (ForInStep.yield ok) else pure (ForInStep.yield r)) (TP X pins σ Q) X.xe s
noncomputable def tYes : TT := fun _ H Q => Q true H
theorem pifs_nil {X : Cx} : PIfs X [] tYes := fun _ _ _ H _ I h => wpAny_tests_nil ⟨H, I, h⟩
noncomputable def tComp (wi : TI) (k : Nat) (ixs : List Nat) (g : TG) (c : TT) (te : TE) : TE := fun σ H Q => wi σ H fun J H1 => ∀ D, H1 D = none →
  ∃ (n : Nat) (W : Nat → List V → St → Hp → Prop), W 0 [] (compStart k ixs σ) (upd H1 D (.lst [])) ∧ ∀ i ys σ2 H2, W i ys σ2 H2 → H2 D = some (.lst ys) →
    (J.stop i H2 ∧ Q (.ref D) H2) ∨
    (i < n ∧ J.go i H2 ∧ ∀ x H', J.yld i H2 x H' → g x σ2 H' fun σ3 H3 => c σ3 H3 fun b H4 =>
      if b = true then te σ3 H4 fun y H5 => H5 D = some (.lst ys) ∧ ys.length < sizeLine ∧ W (i + 1) (ys ++ [y]) σ3 (upd H5 D (.lst (ys ++ [y])))
      else H4 D = some (.lst ys) ∧ W (i + 1) ys σ3 H4)
section
variable {X : Cx} {sc : Scope} {N' : List Str} {k : Nat} {ixs : List Nat}
theorem comp_block {elt target iter : Expr} {ifs : List Expr} {pos : Pos} {J : It} {g : TG} {c : TT} {te : TE} (C : CompOk X.N X.env.scope.names sc N' k ixs) (hcalm : X.calm = true)
    (hg : ∀ C s₃ H₃ fp pins, PG (blk X sc N' C s₃ H₃ fp pins) target g) (hc : ∀ C s₃ H₃ fp pins, PIfs (blk X sc N' C s₃ H₃ fp pins) ifs c) (he : ∀ C s₃ H₃ fp pins, PE (blk X sc N' C s₃ H₃ fp pins) elt te)
    {pins : List (Addr × Obj)} {σ : St} {H : Hp} {s : Shared} {it : Addr} {fp : List Addr} {tn : Nat → Heap → Prop} {Q : VK} {E : Value → Shared → Prop} (I : Inv X pins σ H s) (T : Turn X.prog X.w X.K target J fp it tn) (st : tn 0 s.heap) (hf : ∀ b ∈ fp, FpOk X pins H b)
    (h : ∀ D, H D = none → ∃ (n : Nat) (W : Nat → List V → St → Hp → Prop), W 0 [] (compStart k ixs σ) (upd H D (.lst [])) ∧ ∀ i ys σ2 H2, W i ys σ2 H2 → H2 D = some (.lst ys) →
      (J.stop i H2 ∧ Q (.ref D) H2) ∨
      (i < n ∧ J.go i H2 ∧ ∀ x H', J.yld i H2 x H' → g x σ2 H' fun σ3 H3 => c σ3 H3 fun b H4 =>
        if b = true then te σ3 H4 fun y H5 => H5 D = some (.lst ys) ∧ ys.length < sizeLine ∧ W (i + 1) (ys ++ [y]) σ3 (upd H5 D (.lst (ys ++ [y])))
        else H4 D = some (.lst ys) ∧ W (i + 1) ys σ3 H4))
    {RR : Value → Addr → Result → Shared → Prop}
    (hRR : ∀ D Cc (H' : Hp) (s' : Shared) (o : Obj) m, Inv X pins σ H' s' → Inv X (pins ++ [(Cc, o)]) σ H' s' → s'.heap.get? Cc = some o → s'.heap.Ns Cc m → H' Cc = none → Cc ≠ X.env.locals → X.s₀.heap.objs.size ≤ Cc →
      (∀ x c, X.env.cells.lookup x = some c → c ≠ Cc) → (∀ p ∈ X.pn ++ pins, p.1 ≠ Cc) → Q (.ref D) H' → RR (.ref D) Cc (.ok .next) s') :
    wpAny (model X.prog X.w) X.A (newList []) (fun acc s₃ => wpAny (model X.prog X.w) X.A (newFunctionEnv sc X.env.globals (cloOf X.env.cells sc.names []) [] X.env.qual none .none (some X.env)) (fun cenv s₄ =>
      codeAny (model X.prog X.w) X.A (.compStart (.ListComp elt [⟨target, iter, ifs, 0⟩] sc pos) 0 (.ref it) acc { cenv with scope := relabel sc X.env }) (RR acc cenv.locals) s₄) E s₃) E s := by
  have fresh := I.hok.fresh (Nat.le_refl s.heap.objs.size)
  obtain ⟨n, W, w0, turn⟩ := h s.heap.objs.size fresh
  have hfD : ∀ b ∈ fp, b ≠ s.heap.objs.size := fun b hb z => by
    obtain ⟨o, e, _⟩ := T.obj _ _ st b hb
    rw [z] at e
    exact absurd (Heap.lt_size e) (Nat.lt_irrefl _)
  have hf3 : ∀ b ∈ fp, FpOk X pins (upd H s.heap.objs.size (.lst [])) b := fun b hb => ⟨by rw [upd_ne (hfD b hb)]; exact (hf b hb).1, (hf b hb).2⟩
  have main : ∀ (s3 : Shared) (h₁ : Heap) (t1 : Nat), Inv X pins σ (upd H s.heap.objs.size (.lst [])) s3 → (∀ b o, s.heap.get? b = some o → s3.heap.get? b = some o) → h₁.Ns s3.heap.objs.size (fun x => ([] : List (Str × Value)).reverse.lookup x) →
      (∀ b o, s3.heap.get? b = some o → h₁.get? b = some o) →
      tn 0 h₁ ∧ codeAny (model X.prog X.w) X.A (.compLoop (.ListComp elt [⟨target, iter, ifs, 0⟩] sc pos) 0 (.ref it) (.ref s.heap.objs.size) (blk X sc N' s3.heap.objs.size s3 (upd H s.heap.objs.size (.lst [])) fp pins).env) (RR (.ref s.heap.objs.size) s3.heap.objs.size) { s3 with heap := h₁, toks := t1 } := by
    intro s3 h₁ t1 I3 k3 hns keep3
    have st3 : tn 0 s3.heap := T.keep _ _ _ st fun b hb o e => k3 b o e
    have ho3 : ∀ b ∈ fp, ∃ o, s3.heap.get? b = some o := fun b hb => let ⟨o, e, _⟩ := T.obj _ _ st3 b hb; ⟨o, e⟩
    have st1 : tn 0 h₁ := T.keep _ _ _ st3 fun b hb o e => keep3 b o e
    have B0 : Inv (blk X sc N' s3.heap.objs.size s3 (upd H s.heap.objs.size (.lst [])) fp pins) [] (compStart k ixs σ) (upd H s.heap.objs.size (.lst [])) { s3 with heap := h₁, toks := t1 } := blk_inv C I3 hf3 ho3 hns keep3
    refine ⟨st1, ?_⟩
    have fpX : ∀ {H' : Hp}, (∀ b ∈ fp, H' b = none) → ∀ b ∈ fp, FpOk (blk X sc N' s3.heap.objs.size s3 (upd H s.heap.objs.size (.lst [])) fp pins) [] H' b := fun {H'} hn b hb => by
      obtain ⟨o, eo⟩ := ho3 b hb
      refine ⟨hn b hb, Nat.ne_of_lt (Heap.lt_size eo), ?_, .inl hb, ?_, ?_⟩
      · intro hm
        rcases List.mem_cons.mp (I3.stkSub b hm) with z | z
        · exact (hf b hb).2.1 z
        · exact (hf b hb).2.2.1 z
      · intro x cc ec
        exact (hf b hb).2.2.2.2.1 x cc (clo_cell C I3 ec).1
      · intro p hp
        exact (hf b hb).2.2.2.2.2 p (by simpa [blk] using hp)
    refine compLoop_any (fun m s' => ∃ i ys σ' H', m = n - i ∧ Inv (blk X sc N' s3.heap.objs.size s3 (upd H s.heap.objs.size (.lst [])) fp pins) [] σ' H' s' ∧ tn i s'.heap ∧ (∀ b ∈ fp, H' b = none) ∧ H' s.heap.objs.size = some (.lst ys) ∧ W i ys σ' H') ?_ n ⟨0, [], _, _, rfl, B0, st1, fun b hb => (hf3 b hb).1, upd_same, w0⟩
    rintro m s4 ⟨i, ys, σ4, H4, rfl, I4, st4, fr4, hD4, w4⟩
    have again : ∀ {i' : Nat} {ys' : List V} {σ7 : St} {H7 : Hp} {s6 s7 : Shared}, i < n → i' = i + 1 → tn i' s6.heap → Inv (blk X sc N' s3.heap.objs.size s3 (upd H s.heap.objs.size (.lst [])) fp pins) ([] ++ pinsAt fp s6.heap) σ7 H7 s7 → H7 s.heap.objs.size = some (.lst ys') → W i' ys' σ7 H7 →
        ∃ m, m < n - i ∧ ∃ i ys σ' H', m = n - i ∧ Inv (blk X sc N' s3.heap.objs.size s3 (upd H s.heap.objs.size (.lst [])) fp pins) [] σ' H' s7 ∧ tn i s7.heap ∧ (∀ b ∈ fp, H' b = none) ∧ H' s.heap.objs.size = some (.lst ys) ∧ W i ys σ' H' := fun {i' ys' σ7 H7 s6 s7} hlt ei st6 I7 hD w => by
      subst ei
      refine ⟨n - (i + 1), by omega, i + 1, ys', σ7, H7, rfl, I7.unpinned, T.keep _ _ _ st6 fun b hb o e => (I7.pin (b, o) (List.mem_append_right _ (List.mem_append_right _ (mem_pinsAt hb e)))).1, fun b hb => ?_, hD, w⟩
      obtain ⟨o, e, _⟩ := T.obj _ _ st6 b hb
      exact (I7.pin (b, o) (List.mem_append_right _ (List.mem_append_right _ (mem_pinsAt hb e)))).2.1
    rcases turn i ys σ4 H4 w4 hD4 with ⟨stop, q⟩ | ⟨hlt, go, step⟩
    · refine thn (T.done (blk X sc N' s3.heap.objs.size s3 (upd H s.heap.objs.size (.lst [])) fp pins) rfl rfl rfl hcalm i [] s4 σ4 H4 _ I4 (fpX fr4) st4 stop) fun r s5 hr5 => ?_
      obtain ⟨hr, I5⟩ := hr5
      subst hr
      have back : Inv X pins σ H4 s5 := I3.call' (ch := fp) I5.os I5.base I5.hok I5.bare fun b hb => ⟨(hf b hb).2.2.2.1, (hf b hb).2.1, (hf b hb).2.2.2.2.1, (hf b hb).2.2.2.2.2⟩
      obtain ⟨mm, hn5, _⟩ := I5.loc
      obtain ⟨o, es, ep, ho, hd, hrest⟩ := id hn5
      have hC : s3.heap.objs.size ≠ X.env.locals := Nat.ne_of_gt I3.lt
      refine hRR s.heap.objs.size s3.heap.objs.size H4 s5 o mm back ?_ ho hn5 I5.free hC I3.sz ?_ ?_ q
      · refine back.pins_of fun p hp => ?_
        rcases List.mem_append.mp hp with z | z
        · exact back.pin p (List.mem_append_right _ z)
        · have e : p = (s3.heap.objs.size, o) := by simpa using z
          subst e
          exact ⟨ho, I5.free, hC, I3.nofs (Nat.le_refl _), fun v z => by rw [hd] at z; cases z⟩
      · intro x c e z
        obtain ⟨v, q⟩ := I3.cell x c e
        have := q.lt
        rw [z] at this
        exact Nat.lt_irrefl _ this
      · intro p hp z
        have := Heap.lt_size (I3.pin p hp).1
        rw [z] at this
        exact Nat.lt_irrefl _ this
    · refine thn (T.item (blk X sc N' s3.heap.objs.size s3 (upd H s.heap.objs.size (.lst [])) fp pins) rfl rfl rfl hcalm i [] s4 σ4 H4 _ I4 (fpX fr4) st4 go) fun r s5 hr5 => ?_
      obtain ⟨u, hr, h5⟩ := hr5
      subst hr
      refine thn h5 fun _ s6 h6 => ?_
      obtain ⟨x, H6, I6, r6, y6, st6, fr6⟩ := h6
      have I6' := I6.pinned (fpX fr6) (T.obj _ _ st6)
      refine wpAny_mono (hg _ _ _ _ _ _ s6 σ4 H6 x u _ I6' r6 (step x H6 y6)) (fun _ s7 h7 => ?_) fun _ _ z => False.elim z
      obtain ⟨σ7, H7, I7, q7⟩ := h7
      refine wpAny_mono (hc _ _ _ _ _ _ s7 σ7 H7 _ I7 q7) (fun ok s8 h8 => ?_) fun _ _ z => False.elim z
      obtain ⟨H8, I8, q8⟩ := h8
      cases ok with
      | false =>
        rw [if_neg Bool.false_ne_true] at q8 ⊢
        exact again hlt rfl st6 I8 q8.1 q8.2
      | true =>
        rw [if_pos rfl] at q8 ⊢
        refine wpAny_mono (he _ _ _ _ _ _ s8 σ7 H8 _ I8 q8) (fun y s9 h9 => ?_) fun _ _ z => False.elim z
        obtain ⟨yv, H9, I9, r9, hD9, hz9, w9⟩ := h9
        refine wpAny_mono (mt_append (X := (blk X sc N' s3.heap.objs.size s3 (upd H s.heap.objs.size (.lst [])) fp pins)) _ s9 σ7 H9 (.ref s.heap.objs.size) [yv] (.ref s.heap.objs.size) [y] (fun _ H' => H' = upd H9 s.heap.objs.size (.lst (ys ++ [yv]))) I9 rfl (.cons r9 .nil) ⟨_, ys, yv, rfl, rfl, hD9, hz9, rfl⟩) (fun _ s10 h10 => ?_) fun _ _ z => False.elim z
        obtain ⟨_, H10, I10, _, e10⟩ := h10
        subst e10
        exact again hlt rfl st6 I10 upd_same w9
  have I3 := I.lnew (ys := []) (its := []) (t' := s.toks) .nil (Nat.zero_le _)
  refine wpAny_newObj_type (wpAny_newFunctionEnv C.cell (by intro y hy; simp at hy) (fun h₁ hns₁ hsb₁ => ?_) C.kind)
  obtain ⟨st1, loop⟩ := main _ h₁ (s.toks + ([] : List (Str × Value)).length) I3 (fun b o e => Heap.get?_push_of_some _ e) hns₁ fun b o e => hsb₁.extBut b o (Nat.ne_of_lt (Heap.lt_size e)) (Heap.get?_push_of_some _ e)
  exact codeAny_compStart_list loop (T.self X.A 0 _ _ _ st1 loop)
theorem pe_comp {elt target iter : Expr} {ifs : List Expr} {pos : Pos} {wi : TI} {g : TG} {c : TT} {te : TE} (C : CompOk X.N X.env.scope.names sc N' k ixs) (hcalm : X.calm = true) (hi : PI X target iter wi)
    (hg : ∀ C s₃ H₃ fp pins, PG (blk X sc N' C s₃ H₃ fp pins) target g) (hc : ∀ C s₃ H₃ fp pins, PIfs (blk X sc N' C s₃ H₃ fp pins) ifs c) (he : ∀ C s₃ H₃ fp pins, PE (blk X sc N' C s₃ H₃ fp pins) elt te)
    (hs : ∀ x, foldedSetIterable iter X.env x = pure x := by intro _; rfl) : PE X (.ListComp elt [⟨target, iter, ifs, 0⟩] sc pos) (tComp wi k ixs g c te) := by
  intro pins s σ H Q I h
  rw [eval_ListComp]
  refine wpAny_comprehension_free (use := none) rfl hs (closureFor_clo fun x hx hf => I.ok.has x.1 (C.free x hx hf)) C.kind C.names (thn (hi pins s σ H _ I h) fun v s1 h1 => thn h1 fun itv s2 h2 => ?_)
  obtain ⟨it, fp, tn, J, H2, e, I2, T, st2, f2, q2⟩ := h2
  subst e
  refine comp_block (RR := fun acc C => compPost (model X.prog X.w) X.A X.xe none (EP X pins σ Q) acc C) C hcalm hg hc he I2 T st2 f2 q2 ?_
  intro D Cc H' s' o m I' _ ho hn hC hL hab hcell hpin q
  exact ⟨m, hn, fun h'' hs'' => ⟨.ref D, H', I'.turned (t' := s'.toks) (fun b o hb e => hs''.extBut b o hb e) hC hL (.inr hab) hcell hpin, rfl, q⟩⟩
theorem ps_setComp {elt target iter : Expr} {ifs : List Expr} {pos spos py : Pos} {wi : TI} {g : TG} {c : TT} {te : TE} {i : Nat} {y : Str} (hN : X.N.Nodup) (hiN : X.N[i]? = some y) (hx : Loc X.env.scope y) (C : CompOk X.N X.env.scope.names sc N' k ixs) (hcalm : X.calm = true) (hi : PI X target iter wi)
    (hg : ∀ C s₃ H₃ fp pins, PG (blk X sc N' C s₃ H₃ fp pins) target g) (hc : ∀ C s₃ H₃ fp pins, PIfs (blk X sc N' C s₃ H₃ fp pins) ifs c) (he : ∀ C s₃ H₃ fp pins, PE (blk X sc N' C s₃ H₃ fp pins) elt te)
    (hsw : swapsWith (.ListComp elt [⟨target, iter, ifs, 0⟩] sc pos) (some (.Name y py)) spos.line X.env = pure true := by rfl) (hf : X.fn y = true ∨ X.env.scope.names.lookup y = some .local := by first | exact .inl rfl | exact .inr rfl | assumption)
    (hs : ∀ x, foldedSetIterable iter X.env x = pure x := by intro _; rfl) : PS X (.Assign [.Name y py] (.ListComp elt [⟨target, iter, ifs, 0⟩] sc pos) spos) (tAsg (tComp wi k ixs g c te) (gName i)) := by
  intro pins s σ H D I h
  rw [exec_Assign_Name_used _ _ _ _ hsw]
  refine wpAny_bind (wpAny_standAt (wpAny_bind ?_))
  show wpAny _ X.A (do let _ ← comprehension (.ListComp elt [⟨target, iter, ifs, 0⟩] sc pos) sc X.env _ (newList []) false (eval iter X.env) (some (assign (.Name y py) X.env))) _ _ s
  refine wpAny_bind (wpAny_mono (wpAny_comprehension_free (use := some (assign (.Name y py) X.env)) (Q := fun _ s' => SP X pins D .next s') rfl hs (closureFor_clo fun x hx hf => I.ok.has x.1 (C.free x hx hf)) C.kind C.names
    (thn (hi pins s σ H _ I h) fun v s1 h1 => thn h1 fun itv s2 h2 => ?_)) (fun _ s' hq => wpAny_pure (wpAny_pure hq)) fun _ _ e => e)
  obtain ⟨it, fp, tn, J, H2, e, I2, T, st2, f2, q2⟩ := h2
  subst e
  refine comp_block (Q := fun x H1 => gName i x σ H1 D.nx) (RR := fun acc C => compPost (model X.prog X.w) X.A X.xe (some (assign (.Name y py) X.env)) (fun _ s' => SP X pins D .next s') acc C) C hcalm hg hc he I2 T st2 f2 q2 ?_
  intro Da Cc H' s' o m _ Ip ho hn hC hL hab hcell hpin q
  show wpAny _ X.A (assign (.Name y py) X.env (.ref Da)) _ _ _
  refine wpAny_assign_Name (store_ok (v := .ref Da) Ip hN hiN hx rfl (fun s'' I'' => ?_) hf)
  have hC2 := (I''.pin (Cc, o) (List.mem_append_right _ (List.mem_append_right _ (List.mem_singleton.mpr rfl)))).1
  refine ⟨m, hn.at' fun o' e' => ?_, fun h'' hs'' => ?_⟩
  · rw [ho] at e'
    cases e'
    exact hC2
  · have I3 : Inv X pins (σ.set i (some (.ref Da))) H' s'' := I''.unpinned
    exact ⟨_, H', I3.turned (t' := s''.toks) (fun b o hb e => hs''.extBut b o hb e) hC hL (.inr hab) hcell hpin, q⟩
end
end L2
set_option maxRecDepth 100000
namespace L2
open PySem PySem.Spec PyProof.Rows
section
variable {X : Cx} {a b : Expr} {ta tb : TE} {pos : Pos} {rest : List Expr}
noncomputable def tTru (K : PySem.W.Frag) (te : TE) : TT := fun σ H Q => te σ H fun x H1 => ∃ k, TruV K x H1 k ∧ Q k H1
theorem pt_tru (ha : PE X a ta) (he : ∀ whole, isTrue a X.env whole = (do let v ← whole; standAt a.pos; holding [v] (truthy v)) := by intro _; rfl) : PT X a (tTru X.K ta) := pt_truth ha he
noncomputable def tNotT (K : PySem.W.Frag) (te : TE) : TE := fun σ H Q => te σ H fun x H1 => ∃ k, TruV K x H1 k ∧ Q (.bl (!k)) H1
end
mutual
inductive Dn (K : PySem.W.Frag) (H : Hp) : V → PyData → Prop
  | non : Dn K H .non .none
  | bl (b) : Dn K H (.bl b) (.bool b)
  | int (i) : Dn K H (.int i) (.int i)
  | str (x) : PyData.strOk x = true → Dn K H (.str x) (.str x)
  | lst {a xs ds} : SqL K H a xs → DnAll K H xs ds → Dn K H (.ref a) (.list ds)
  | tup {a xs ds} : SqT K H a xs → DnAll K H xs ds → Dn K H (.ref a) (.tuple ds)
inductive DnAll (K : PySem.W.Frag) (H : Hp) : List V → List PyData → Prop
  | nil : DnAll K H [] []
  | cons {x xs d ds} : Dn K H x d → DnAll K H xs ds → DnAll K H (x :: xs) (d :: ds)
end
section
variable {X : Cx} {pins : List (Addr × Obj)} {σ : St} {H : Hp} {s : Shared}
mutual
theorem Dn.reads {K : PySem.W.Frag} {x : V} {d : PyData} (I : Inv X pins σ H s) (hK : X.K = K) : Dn K H x d → ∀ {u : Value}, RelV x u → d.canLay0 = true ∧ ∃ as, Reads s.heap u d as
  | .non, u, r => by cases r; exact ⟨rfl, _, .none⟩
  | .bl b, u, r => by cases r; exact ⟨rfl, _, .bool b⟩
  | .int i, u, r => by obtain ⟨t, rfl⟩ := r; exact ⟨rfl, _, .int i t⟩
  | .str x hx, u, r => by obtain ⟨t, rfl⟩ := r; exact ⟨hx, _, .str x t⟩
  | .lst (a := a) q hs, u, r => by
    cases r
    subst hK
    obtain ⟨its, rv, ⟨o, n, e, c, _, dd⟩, _⟩ := I.list q
    obtain ⟨h1, as, h2⟩ := DnAll.reads I rfl hs rv
    exact ⟨h1, _, .list e c dd (by simpa using h2)⟩
  | .tup (a := a) q hs, u, r => by
    cases r
    subst hK
    obtain ⟨its, rv, ⟨o, e, c, n, dd⟩, _⟩ := I.tuple q
    obtain ⟨h1, as, h2⟩ := DnAll.reads I rfl hs rv
    exact ⟨h1, _, .tuple e c dd (by simpa using h2)⟩
theorem DnAll.reads {K : PySem.W.Frag} {xs : List V} {ds : List PyData} (I : Inv X pins σ H s) (hK : X.K = K) : DnAll K H xs ds → ∀ {us : List Value}, Vals xs us → PyData.canLayAll0 ds = true ∧ ∃ as, ReadsAll s.heap us ds as
  | .nil, us, r => by cases r; exact ⟨rfl, _, .nil⟩
  | .cons h t, us, r => by
    cases r with
    | cons r1 r2 =>
      obtain ⟨c1, a1, q1⟩ := Dn.reads I hK h r1
      obtain ⟨c2, a2, q2⟩ := DnAll.reads I hK t r2
      exact ⟨by simp [PyData.canLayAll0, c1, c2], _, .cons q1 q2⟩
end
end
mutual
theorem Dn.same {K : PySem.W.Frag} {H H' : Hp} (hs : Same H H') {x : V} {d : PyData} : Dn K H x d → Dn K H' x d
  | .non => .non
  | .bl b => .bl b
  | .int i => .int i
  | .str x h => .str x h
  | .lst q h => .lst (hs.seq q) (DnAll.same hs h)
  | .tup (a := a) (xs := xs) q h => .tup (by
      rcases q with (q | ⟨o, q⟩) | q
      · exact .inl (.inl (hs _ _ q))
      · exact .inl (.inr ⟨o, hs _ _ q⟩)
      · exact .inr q) (DnAll.same hs h)
theorem DnAll.same {K : PySem.W.Frag} {H H' : Hp} (hs : Same H H') {xs : List V} {ds : List PyData} : DnAll K H xs ds → DnAll K H' xs ds
  | .nil => .nil
  | .cons h t => .cons (Dn.same hs h) (DnAll.same hs t)
end
theorem Same.tup {K : PySem.W.Frag} {H H' : Hp} {a : Addr} {xs : List V} (e : Same H H') (h : SqT K H a xs) : SqT K H' a xs := by
  rcases h with (h | ⟨o, h⟩) | h
  · exact .inl (.inl (e _ _ h))
  · exact .inl (.inr ⟨o, e _ _ h⟩)
  · exact .inr h
theorem DnAll.strs {K : PySem.W.Frag} {H : Hp} : ∀ {zs : List Str}, (∀ z ∈ zs, PyData.strOk z = true) → DnAll K H (zs.map V.str) (zs.map PyData.str)
  | [], _ => .nil
  | z :: zs, h => .cons (.str z (h z List.mem_cons_self)) (DnAll.strs fun y hy => h y (List.mem_cons_of_mem _ hy))
theorem eqvAll_strs : ∀ (xs ys : List Str), PyData.eqvAll (xs.map PyData.str) (ys.map PyData.str) = decide (xs = ys)
  | [], [] => by simp [PyData.eqvAll]
  | [], _ :: _ => by simp [PyData.eqvAll]
  | _ :: _, [] => by simp [PyData.eqvAll]
  | x :: xs, y :: ys => by
    rw [List.map_cons, List.map_cons, PyData.eqvAll, eqvAll_strs xs ys]
    rw [show PyData.eqv (.str x) (.str y) = (x == y) by simp [PyData.eqv]]
    by_cases h1 : x = y
    · subst h1; simp
    · simp [h1]
noncomputable def rAddR (K : PySem.W.Frag) (a b : Addr) (H : Hp) (Q : VK) : Prop := rCat (.ref a) (.ref b) H Q ∨ rCatT K (.ref a) (.ref b) H Q
theorem rAddR.l {K : PySem.W.Frag} {a b : Addr} {H : Hp} {Q : VK} {xs ys : List V} (h1 : H a = some (.lst xs)) (h2 : H b = some (.lst ys)) (h3 : xs.length + ys.length ≤ sizeLine) (h : ∀ p, H p = none → Q (.ref p) (upd H p (.lst (xs ++ ys)))) : rAddR K a b H Q := .inl ⟨a, b, xs, ys, rfl, rfl, h1, h2, h3, h⟩
theorem rAddR.t {K : PySem.W.Frag} {a b : Addr} {H : Hp} {Q : VK} {xs ys : List V} (h1 : SqT K H a xs) (h2 : SqT K H b ys) (h0 : xs ≠ []) (h3 : xs.length + ys.length ≤ sizeLine) (he : ys = [] → Q (.ref a) H) (h : ys ≠ [] → ∀ p, H p = none → Q (.ref p) (upd H p (.tup (xs ++ ys)))) : rAddR K a b H Q := .inr ⟨a, b, xs, ys, rfl, rfl, h1, h2, h0, h3, he, h⟩
noncomputable def rAddU (K : PySem.W.Frag) : V → V → Hp → VK → Prop
  | .int i, .int j, H, Q => Q (.int (i + j)) H
  | .str i, .str j, H, Q => i.length + j.length ≤ sizeLine ∧ Q (.str (i ++ j)) H
  | .ref a, .ref b, H, Q => rAddR K a b H Q
  | _, _, _, _ => False
noncomputable def rMulU : V → V → Hp → VK → Prop
  | .int i, .int j, H, Q => CMul i j ∧ Q (.int (i * j)) H
  | .ref a, .int j, H, Q => rRep (.ref a) (.int j) H Q
  | _, _, _, _ => False
noncomputable def rEqU (K : PySem.W.Frag) : V → V → Hp → VK → Prop
  | .int i, .int j, H, Q => Q (.bl (decide (i = j))) H
  | .str i, .str j, H, Q => Q (.bl (decide (i = j))) H
  | .bl i, .bl j, H, Q => Q (.bl (decide (i = j))) H
  | x, y, H, Q => ∃ d e, Dn K H x d ∧ Dn K H y e ∧ min d.depth e.depth ≤ 60 ∧ Q (.bl (PyData.eqv d e)) H
noncomputable def rNeU (K : PySem.W.Frag) : V → V → Hp → VK → Prop
  | .int i, .int j, H, Q => Q (.bl (!decide (i = j))) H
  | .str i, .str j, H, Q => Q (.bl (!decide (i = j))) H
  | .bl i, .bl j, H, Q => Q (.bl (!decide (i = j))) H
  | x, y, H, Q => ∃ d e, Dn K H x d ∧ Dn K H y e ∧ min d.depth e.depth ≤ 60 ∧ Q (.bl (!PyData.eqv d e)) H
noncomputable def rLtU : V → V → Hp → VK → Prop
  | .int i, .int j, H, Q => Q (.bl (decide (i < j))) H
  | .str i, .str j, H, Q => Q (.bl (decide (i.cps.toList < j.cps.toList))) H
  | _, _, _, _ => False
noncomputable def rLeU : V → V → Hp → VK → Prop
  | .int i, .int j, H, Q => Q (.bl (decide (i ≤ j))) H
  | .str i, .str j, H, Q => Q (.bl (!decide (j.cps.toList < i.cps.toList))) H
  | _, _, _, _ => False
noncomputable def rGtU : V → V → Hp → VK → Prop
  | .int i, .int j, H, Q => Q (.bl (decide (j < i))) H
  | .str i, .str j, H, Q => Q (.bl (decide (j.cps.toList < i.cps.toList))) H
  | _, _, _, _ => False
noncomputable def rGeU : V → V → Hp → VK → Prop
  | .int i, .int j, H, Q => Q (.bl (decide (j ≤ i))) H
  | .str i, .str j, H, Q => Q (.bl (!decide (i.cps.toList < j.cps.toList))) H
  | _, _, _, _ => False
noncomputable def rInR (K : PySem.W.Frag) (neg : Bool) (x : V) (p : Addr) (H : Hp) (Q : VK) : Prop := rIn K neg x (.ref p) H Q ∨ ∃ o, DGet H p x o ∧ Q (.bl (neg.xor o.isSome)) H
theorem rInR.l {K : PySem.W.Frag} {neg : Bool} {x : V} {p : Addr} {H : Hp} {Q : VK} {xs : List V} (h1 : SqL K H p xs ∨ SqT K H p xs) (h2 : flatV x = true) (h3 : xs.all flatV = true) (h : Q (.bl (neg.xor (inV x xs))) H) : rInR K neg x p H Q := .inl ⟨p, xs, rfl, h1, h2, h3, by cases neg <;> simpa using h⟩
theorem rInR.d {K : PySem.W.Frag} {neg : Bool} {x : V} {p : Addr} {H : Hp} {Q : VK} {o : Option V} (h1 : DGet H p x o) (h : Q (.bl (neg.xor o.isSome)) H) : rInR K neg x p H Q := .inr ⟨o, h1, h⟩
noncomputable def rInU (K : PySem.W.Frag) (neg : Bool) (x : V) : V → Hp → VK → Prop
  | .str j, H, Q => ∃ i, x = .str i ∧ Q (.bl (neg.xor (!(Builtin.Str.occurrences j i 0 j.length 1).isEmpty))) H
  | .ref p, H, Q => rInR K neg x p H Q
  | _, _, _ => False
section
variable {X : Cx} {pins : List (Addr × Obj)} {σ : St} {H : Hp} {s : Shared}
theorem p_add : OpR X (binaryOp .Add) (rAddU X.K) := by
  intro pins s σ H x y v u Q I rx ry h
  cases x <;> cases y <;> try exact h.elim
  · exact op_add pins s σ H _ _ v u Q I rx ry ⟨_, _, rfl, rfl, h⟩
  · exact op_add_str pins s σ H _ _ v u Q I rx ry ⟨_, _, rfl, rfl, h⟩
  · rcases h with h | h
    · exact op_cat pins s σ H _ _ v u Q I rx ry h
    · exact op_catT pins s σ H _ _ v u Q I rx ry h
theorem p_sub : OpR X (binaryOp .Sub) (rI0 fun i j => .int (i - j)) := op_sub
theorem p_mul : OpR X (binaryOp .Mult) rMulU := by
  intro pins s σ H x y v u Q I rx ry h
  cases x <;> cases y <;> try exact h.elim
  · exact op_mul pins s σ H _ _ v u Q I rx ry ⟨_, _, rfl, rfl, h⟩
  · exact op_rep pins s σ H _ _ v u Q I rx ry h
theorem p_fdiv : OpR X (binaryOp .FloorDiv) (rI CDiv fun i j => .int (i / j)) := op_fdiv
theorem p_mod : OpR X (binaryOp .Mod) (rI (fun _ j => 0 < j) fun i j => .int (i % j)) := op_mod
theorem eq_gen (hu : X.A.units + 64 < cLine) {x y : V} {v u : Value} {Q : VK} (I : Inv X pins σ H s) (rx : RelV x v) (ry : RelV y u)
    (h : ∃ d e, Dn X.K H x d ∧ Dn X.K H y e ∧ min d.depth e.depth ≤ 60 ∧ Q (.bl (PyData.eqv d e)) H) : wpAny (model X.prog X.w) X.A (compareOp .Eq v u) (EP X pins σ Q) X.xe s := by
  obtain ⟨d, e, h1, h2, hd, q⟩ := h
  obtain ⟨c1, as, r1⟩ := h1.reads I rfl rx
  obtain ⟨c2, bs, r2⟩ := h2.reads I rfl ry
  exact SeqAt.compareEq_reads r1 r2 c1 c2 (by omega) ⟨.bl _, H, I, rfl, q⟩
theorem ne_gen (hu : X.A.units + 64 < cLine) {x y : V} {v u : Value} {Q : VK} (I : Inv X pins σ H s) (rx : RelV x v) (ry : RelV y u)
    (h : ∃ d e, Dn X.K H x d ∧ Dn X.K H y e ∧ min d.depth e.depth ≤ 60 ∧ Q (.bl (!PyData.eqv d e)) H) : wpAny (model X.prog X.w) X.A (compareOp .NotEq v u) (EP X pins σ Q) X.xe s := by
  obtain ⟨d, e, h1, h2, hd, q⟩ := h
  obtain ⟨c1, as, r1⟩ := h1.reads I rfl rx
  obtain ⟨c2, bs, r2⟩ := h2.reads I rfl ry
  exact SeqAt.compareNe_reads r1 r2 c1 c2 (by omega) ⟨.bl _, H, I, rfl, q⟩
theorem p_eq (hu : X.A.units + 64 < cLine) : OpR X (compareOp .Eq) (rEqU X.K) := by
  intro pins s σ H x y v u Q I rx ry h
  have sc : ∀ {x y : V}, rEq x y H Q → RelV x v → RelV y u → wpAny (model X.prog X.w) X.A (compareOp .Eq v u) (EP X pins σ Q) X.xe s := fun {x y} h rx ry => op_eq pins s σ H x y v u Q I rx ry h
  cases x with
  | int i => cases y with
    | int j => exact sc (x := .int i) (y := .int j) ⟨rfl, by simpa using (show Q (.bl (decide (i = j))) H from h)⟩ rx ry
    | _ => exact eq_gen hu I rx ry h
  | str i => cases y with
    | str j => exact sc (x := .str i) (y := .str j) ⟨rfl, by simpa using (show Q (.bl (decide (i = j))) H from h)⟩ rx ry
    | _ => exact eq_gen hu I rx ry h
  | bl i => cases y with
    | bl j => exact sc (x := .bl i) (y := .bl j) ⟨rfl, by simpa using (show Q (.bl (decide (i = j))) H from h)⟩ rx ry
    | _ => exact eq_gen hu I rx ry h
  | _ => cases y <;> exact eq_gen hu I rx ry h
theorem p_ne (hu : X.A.units + 64 < cLine) : OpR X (compareOp .NotEq) (rNeU X.K) := by
  intro pins s σ H x y v u Q I rx ry h
  have sc : ∀ {x y : V}, rNe x y H Q → RelV x v → RelV y u → wpAny (model X.prog X.w) X.A (compareOp .NotEq v u) (EP X pins σ Q) X.xe s := fun {x y} h rx ry => op_ne pins s σ H x y v u Q I rx ry h
  cases x with
  | int i => cases y with
    | int j => exact sc (x := .int i) (y := .int j) ⟨rfl, by simpa using (show Q (.bl (!decide (i = j))) H from h)⟩ rx ry
    | _ => exact ne_gen hu I rx ry h
  | str i => cases y with
    | str j => exact sc (x := .str i) (y := .str j) ⟨rfl, by simpa using (show Q (.bl (!decide (i = j))) H from h)⟩ rx ry
    | _ => exact ne_gen hu I rx ry h
  | bl i => cases y with
    | bl j => exact sc (x := .bl i) (y := .bl j) ⟨rfl, by simpa using (show Q (.bl (!decide (i = j))) H from h)⟩ rx ry
    | _ => exact ne_gen hu I rx ry h
  | _ => cases y <;> exact ne_gen hu I rx ry h
theorem p_lt : OpR X (compareOp .Lt) rLtU := by
  intro pins s σ H x y v u Q I rx ry h
  cases x <;> cases y <;> try exact h.elim
  · exact op_lt pins s σ H _ _ v u Q I rx ry ⟨_, _, rfl, rfl, h⟩
  · exact op_lt_str pins s σ H _ _ v u Q I rx ry ⟨_, _, rfl, rfl, h⟩
theorem p_le : OpR X (compareOp .LtE) rLeU := by
  intro pins s σ H x y v u Q I rx ry h
  cases x <;> cases y <;> try exact h.elim
  · exact op_le pins s σ H _ _ v u Q I rx ry ⟨_, _, rfl, rfl, h⟩
  · obtain ⟨t, rfl⟩ := rx
    obtain ⟨t', rfl⟩ := ry
    exact PySem.P.le_str ⟨.bl _, H, I, by simp [RelV], h⟩
theorem p_gt : OpR X (compareOp .Gt) rGtU := by
  intro pins s σ H x y v u Q I rx ry h
  cases x <;> cases y <;> try exact h.elim
  · exact op_gt pins s σ H _ _ v u Q I rx ry ⟨_, _, rfl, rfl, h⟩
  · obtain ⟨t, rfl⟩ := rx
    obtain ⟨t', rfl⟩ := ry
    exact PySem.P.gt_str ⟨.bl _, H, I, rfl, h⟩
theorem p_in (hu : X.A.units + 64 < cLine) : OpR X (compareOp .In) (rInU X.K false) := by
  intro pins s σ H x y v u Q I rx ry h
  cases y with
  | str j =>
    obtain ⟨i, rfl, q⟩ := h
    exact op_in_str pins s σ H _ _ v u Q I rx ry ⟨i, j, rfl, rfl, by simpa using q⟩
  | ref p =>
    rcases h with h | ⟨o, g, q⟩
    · exact op_in_seq pins s σ H _ _ v u Q I rx ry h
    · obtain rfl : u = Value.ref p := ry
      exact d_in (by omega) I g rx fun s3 I3 => ⟨.bl o.isSome, H, I3, rfl, by simpa using q⟩
  | _ => exact h.elim
noncomputable def cutS (x : Str) (lo hi : Option Int) : Str := ⟨((x.cps.toList.drop (HT.sIx x.length 0 lo)).take (HT.sIx x.length x.length hi - HT.sIx x.length 0 lo)).toArray⟩
noncomputable def rSlS : V → Option Int → Option Int → Hp → VK → Prop := fun x lo hi H Q => ∃ z, x = .str z ∧ z.length ≤ sizeLine ∧ Q (.str (cutS z lo hi)) H
end
end L2
set_option maxRecDepth 100000
namespace L2
open PySem PySem.Spec PyProof.Rows
section
variable {X : Cx}
theorem slice_cut (x : Str) (lo hi : Option Int) : Txt.slice x lo hi = cutS x lo hi := by
  have c1 : ∀ (o : Option Int) (d : Nat), (match o with | none => (d : Int) | some i => if (1 : Int) > 0 then max 0 (min (if i < 0 then i + (x.length : Int) else i) (x.length : Int)) else max (-1) (min (if i < 0 then i + (x.length : Int) else i) ((x.length : Int) - 1))) = ((HT.sIx x.length d o : Nat) : Int) := by
    intro o d
    cases o with
    | none => rfl
    | some i =>
      rw [← HT.clip_eq i x.length d]
      simp only [show ((1 : Int) > 0) = True by simp, if_true]
      split <;> omega
  have h2 : Builtin.Str.strSliceIndices lo hi 1 x.length = Builtin.Str.strSliceIndices (some ((HT.sIx x.length 0 lo : Nat) : Int)) (some ((HT.sIx x.length x.length hi : Nat) : Int)) 1 x.length := by
    have e1 := c1 lo 0
    have e2 := c1 hi x.length
    have e3 := c1 (some ((HT.sIx x.length 0 lo : Nat) : Int)) 0
    have e4 := c1 (some ((HT.sIx x.length x.length hi : Nat) : Int)) x.length
    have l1 := HT.sIx_le x.length 0 (Nat.zero_le _) lo
    have l2 := HT.sIx_le x.length x.length (Nat.le_refl _) hi
    rw [HT.sIx_nat, Nat.min_eq_left l1] at e3
    rw [HT.sIx_nat, Nat.min_eq_left l2] at e4
    unfold Builtin.Str.strSliceIndices
    dsimp only at e3 e4 ⊢
    rw [e3, e4]
    clear e3 e4 l1 l2
    refine congr (congr (congrArg sliceRange ?_) ?_) rfl
    · cases lo with
      | none => exact e1
      | some i => exact e1
    · cases hi with
      | none => exact e2
      | some i => exact e2
  have l1 := HT.sIx_le x.length 0 (Nat.zero_le _) lo
  have l2 := HT.sIx_le x.length x.length (Nat.le_refl _) hi
  unfold Txt.slice cutS
  rw [h2]
  generalize HT.sIx x.length 0 lo = a at *
  generalize HT.sIx x.length x.length hi = b at *
  have len : x.length = x.cps.toList.length := by simp [Str.length]
  by_cases hab : a ≤ b
  · rw [StrLaws.sliced_plain x hab l2, StrLaws.strSliceIndices_plain hab l2]
    split
    · rename_i hc
      have hc' : b - a = x.length := by simpa using hc
      have ha : a = 0 := by omega
      subst ha
      rw [List.drop_zero, List.take_of_length_le (by omega)]
    · rfl
  · have e : Builtin.Str.strSliceIndices (some (a : Int)) (some (b : Int)) 1 x.length = [] := by
      have h1 : ¬ ((a : Int) < 0) := by omega
      have h2 : ¬ ((b : Int) < 0) := by omega
      have e1 : max (0 : Int) (min (a : Int) (x.length : Int)) = a := by omega
      have e2 : max (0 : Int) (min (b : Int) (x.length : Int)) = b := by omega
      simp only [Builtin.Str.strSliceIndices, sliceRange, h1, h2, if_false, e1, e2, show ((1 : Int) > 0) = True from by simp, if_true]
      rw [if_neg (by omega)]
      rfl
    rw [e, show b - a = 0 by omega, List.take_zero]
    split
    · rename_i hc
      have hc' : 0 = x.length := by simpa using hc
      have : x.cps.toList = [] := List.eq_nil_of_length_eq_zero (by omega)
      obtain ⟨⟨l⟩⟩ := x
      simp at this
      subst this
      rfl
    · rfl
theorem sl_str : SlR X rSlS := by
  intro pins s σ H x v vl vu lo hi sl Q I rx hs pl pu h
  obtain ⟨z, rfl, hz, q⟩ := h
  obtain ⟨t, rfl⟩ := rx
  refine ⟨"str", _, F.slot_str_getitem.lookup, typeIs_str _ _ _, ?_⟩
  rw [← slice_cut] at q
  have part : ∀ {u : Value} {o : Option Int}, IsPart u o → ∃ l : Option (Int × Tok), u = partValue l ∧ l.map (·.1) = o := fun {u o} p => by
    cases p with
    | none => exact ⟨none, rfl, rfl⟩
    | int i t => exact ⟨some (i, t), rfl, rfl⟩
  obtain ⟨l, rfl, el⟩ := part pl
  obtain ⟨u, rfl, eu⟩ := part pu
  subst el eu
  refine wpAny_getItem_str_slice (l := l) (u := u) (st := none) hs rfl ?_
  exact post_val_or_str ⟨Nat.le_trans (Txt.slice_le z _ _) hz, fun t' k => ⟨.str _, H, I.tok _, ⟨t', rfl⟩, q⟩⟩
theorem getItem_tuple_all {prog : Program} {w : World} {A : Around} {E : Value → Shared → Prop} {s : Shared} {t sl : Addr} {items : Array Value} {vl vu : Value} {lo hi : Option Int} {Q : Value → Shared → Prop} (ht : IsTup s.heap t items) (hs : s.heap.IsSliceOf sl vl vu .none) (pl : IsPart vl lo) (pu : IsPart vu hi)
    (hw : HT.sIx items.size 0 lo = 0 ∧ HT.sIx items.size items.size hi = items.size) (h : Q (.ref t) s) : wpAny (model prog w) A (getItem (.ref t) (.ref sl)) Q E s := by
  obtain ⟨os, hos, hcs, hds⟩ := id hs
  have hTs : s.TypeIs (.ref sl) "slice" := ⟨os, hos, hcs⟩
  unfold getItem
  try with_reducible refine wpAny_holding ?_
  first | refine wpAny_bind (wpAny_pure ?_) | skip
  refine wpAny_bind (wpAny_sequenceKey ht.typeIs (by decide) ?_)
  refine wpAny_bind (wpAny_callSpecial?_slot (name := Str.ofString "__getitem__") ht.typeIs PyProof.Rows.slot_tuple_getitem
    (wpAny_call_entry PyProof.Rows.slot_tuple_getitem ht.typeIs PyProof.Rows.entry_tuple_getitem ?_ (PyProof.Rows.args_tuple_getitem _ _)))
  show wpAny _ _ (Builtin.Tuple.tupleItemsOf (.ref t) >>= _) _ _ s
  refine wpAny_bind (PyProof.Rows.tupleItemsOf_ ht ?_)
  refine wpAny_bind (wpAny_typeOf hTs ?_)
  rw [if_pos (by decide)]
  refine wpAny_bind (HT.sliceApplied_gen hs pl pu ?_)
  have hyes : ((((HT.sIx items.size 0 lo : Nat) : Int) == 0 && (1 : Int) == 1 && (HT.sIx items.size items.size hi - HT.sIx items.size 0 lo) == items.size) = true) := by
    rw [hw.1, hw.2]
    simp
  show wpAny _ _ (if (((HT.sIx items.size 0 lo : Nat) : Int) == 0 && (1 : Int) == 1 && (HT.sIx items.size items.size hi - HT.sIx items.size 0 lo) == items.size) = true then _ else _) _ _ s
  rw [if_pos hyes]
  refine wpAny_bind ?_
  show wpAny _ _ (typeOf (.ref t) >>= fun v => pure (v == .type "tuple")) _ _ s
  refine wpAny_bind (wpAny_typeOf ht.typeIs (wpAny_pure ?_))
  rw [if_pos (by decide)]
  refine wpAny_bind (wpAny_rule ?_)
  exact wpAny_pure ⟨_, rfl, wpAny_pure h⟩
noncomputable def rSlW (K : PySem.W.Frag) : V → Option Int → Option Int → Hp → VK → Prop := fun x lo hi H Q => ∃ a xs, x = .ref a ∧ SqT K H a xs ∧ (HT.sIx xs.length 0 lo = 0 ∧ HT.sIx xs.length xs.length hi = xs.length) ∧ Q (.ref a) H
theorem sl_all : SlR X (rSlW X.K) := by
  intro pins s σ H x v vl vu lo hi sl Q I rx hs pl pu h
  obtain ⟨a, xs, rfl, hx, hw, q⟩ := h
  cases rx
  obtain ⟨its, r, ht, hz⟩ := I.tuple hx
  have hlen : its.toArray.size = xs.length := by rw [List.size_toArray]; exact r.length.symm
  refine ⟨"tuple", _, PyProof.Rows.slot_tuple_getitem.lookup, ht.typeIs, ?_⟩
  exact getItem_tuple_all ht hs pl pu (by rw [hlen]; exact hw) ⟨.ref a, H, I, rfl, q⟩
noncomputable def rSlR (K : PySem.W.Frag) (a : Addr) (lo hi : Option Int) (H : Hp) (Q : VK) : Prop := rSlL K (.ref a) lo hi H Q ∨ rSlT K (.ref a) lo hi H Q ∨ rSlW K (.ref a) lo hi H Q
theorem rSlR.l {K : PySem.W.Frag} {a : Addr} {lo hi : Option Int} {H : Hp} {Q : VK} {xs : List V} (h1 : SqL K H a xs) (h : ∀ p, H p = none → Q (.ref p) (upd H p (.lst (cutV xs lo hi)))) : rSlR K a lo hi H Q := .inl ⟨a, xs, rfl, h1, h⟩
theorem rSlR.t {K : PySem.W.Frag} {a : Addr} {lo hi : Option Int} {H : Hp} {Q : VK} {xs : List V} (h1 : SqT K H a xs) (h2 : ¬ (HT.sIx xs.length 0 lo = 0 ∧ HT.sIx xs.length xs.length hi = xs.length)) (h : ∀ p, H p = none → Q (.ref p) (upd H p (.tup (cutV xs lo hi)))) : rSlR K a lo hi H Q := .inr (.inl ⟨a, xs, rfl, h1, h2, h⟩)
theorem rSlR.w {K : PySem.W.Frag} {a : Addr} {lo hi : Option Int} {H : Hp} {Q : VK} {xs : List V} (h1 : SqT K H a xs) (h2 : HT.sIx xs.length 0 lo = 0 ∧ HT.sIx xs.length xs.length hi = xs.length) (h : Q (.ref a) H) : rSlR K a lo hi H Q := .inr (.inr ⟨a, xs, rfl, h1, h2, h⟩)
noncomputable def rSlU (K : PySem.W.Frag) : V → Option Int → Option Int → Hp → VK → Prop
  | .str z, lo, hi, H, Q => z.length ≤ sizeLine ∧ Q (.str (cutS z lo hi)) H
  | .ref a, lo, hi, H, Q => rSlR K a lo hi H Q
  | _, _, _, _, _ => False
theorem p_sl : SlR X (rSlU X.K) := by
  intro pins s σ H x v vl vu lo hi sl Q I rx hs pl pu h
  cases x with
  | str z => exact sl_str pins s σ H _ v vl vu lo hi sl Q I rx hs pl pu ⟨z, rfl, h⟩
  | ref a =>
    rcases h with h | h | h
    · exact sl_list pins s σ H _ v vl vu lo hi sl Q I rx hs pl pu h
    · exact sl_tup pins s σ H _ v vl vu lo hi sl Q I rx hs pl pu h
    · exact sl_all pins s σ H _ v vl vu lo hi sl Q I rx hs pl pu h
  | _ => exact h.elim
noncomputable def LenR (K : PySem.W.Frag) (H : Hp) (p : Addr) (n : Nat) : Prop := (∃ xs, SqL K H p xs ∧ n = xs.length) ∨ (∃ xs, SqT K H p xs ∧ n = xs.length) ∨ ∃ kvs, Rd H p (.dK kvs) ∧ n = kvs.length
noncomputable def rLenU (K : PySem.W.Frag) : List V → Hp → VK → Prop
  | [.str z], H, Q => z.length ≤ sizeLine ∧ Q (.int z.length) H
  | [.ref p], H, Q => ∃ n : Nat, LenR K H p n ∧ Q (.int n) H
  | _, _, _ => False
theorem p_len : CallR X (.builtin "len") (rLenU X.K) := by
  intro pins s σ H xs us Q I r h
  match xs, h with
  | [.str z], h => exact call_len pins s σ H _ us Q I r ⟨.str z, z.length, rfl, ⟨h.1, rfl⟩, h.2⟩
  | [.ref p], ⟨n, l, q⟩ =>
    rcases l with ⟨xs, l, rfl⟩ | ⟨xs, l, rfl⟩ | ⟨kvs, l, rfl⟩
    · exact call_len pins s σ H _ us Q I r ⟨.ref p, _, rfl, .inl ⟨xs, l, rfl⟩, q⟩
    · exact call_len pins s σ H _ us Q I r ⟨.ref p, _, rfl, .inr ⟨xs, l, rfl⟩, q⟩
    · obtain ⟨u, rfl, ru⟩ := vals1 r
      cases ru
      exact d_len I l fun t s' I' => ⟨.int kvs.length, H, I', ⟨t, rfl⟩, q⟩
noncomputable def rListR (K : PySem.W.Frag) (calm : Bool) (p : Addr) (H : Hp) (Q : VK) : Prop := (∃ ys, (SqL K H p ys ∨ SqT K H p ys) ∧ ∀ l, H l = none → Q (.ref l) (upd H l (.lst ys))) ∨ (calm = true ∧ ∃ kvs, Rd H p (.dK kvs) ∧ ∀ l, H l = none → Q (.ref l) (upd H l (.lst (kvs.map fun kv => kV kv.1))))
theorem rListR.l {K : PySem.W.Frag} {calm : Bool} {p : Addr} {H : Hp} {Q : VK} {ys : List V} (h1 : SqL K H p ys ∨ SqT K H p ys) (h : ∀ l, H l = none → Q (.ref l) (upd H l (.lst ys))) : rListR K calm p H Q := .inl ⟨ys, h1, h⟩
theorem rListR.d {K : PySem.W.Frag} {p : Addr} {H : Hp} {Q : VK} {kvs : List (Key × V)} (h1 : Rd H p (.dK kvs)) (h : ∀ l, H l = none → Q (.ref l) (upd H l (.lst (kvs.map fun kv => kV kv.1)))) : rListR K true p H Q := .inr ⟨rfl, kvs, h1, h⟩
noncomputable def rListU (K : PySem.W.Frag) (calm : Bool) : List V → Hp → VK → Prop
  | [.ref p], H, Q => rListR K calm p H Q
  | _, _, _ => False
noncomputable def rAllB (calm : Bool) : List V → Hp → VK → Prop
  | [.ref p], H, Q => ∃ bs : List Bool, calm = true ∧ H p = some (.lst (bs.map V.bl)) ∧ Q (.bl (bs.all id)) H
  | _, _, _ => False
noncomputable def tyS (H : Hp) : V → Option String
  | .non => some "NoneType"
  | .bl _ => some "bool"
  | .int _ => some "int"
  | .str _ => some "str"
  | .ref a => match H a with
    | some (.lst _) => some "list"
    | some (.frz _ (.lst _)) => some "list"
    | some (.tup _) => some "tuple"
    | some (.dK _) => some "dict"
    | _ => none
  | _ => none
noncomputable def isB (T n : String) : Bool := T == n || (T == "bool" && n == "int")
noncomputable def isTys : List String := ["str", "int", "bool", "list", "tuple", "dict"]
noncomputable def rIsi : List V → Hp → VK → Prop
  | [x, .ty n], H, Q => ∃ T, tyS H x = some T ∧ isTys.contains n = true ∧ Q (.bl (isB T n)) H
  | _, _, _ => False
noncomputable def rOrd : List V → Hp → VK → Prop
  | [.str z], H, Q => z.length = 1 ∧ Q (.int (z.cps.getD 0 0 : Nat)) H
  | _, _, _ => False
noncomputable def Its (x : Str) : It := ⟨fun i _ => i < x.cps.size, fun i H v H' => H' = H ∧ ∃ c, x.cps.toList[i]? = some c ∧ v = .str ⟨#[c]⟩, fun i _ => x.cps.size ≤ i⟩
noncomputable def iStr (tl : TE) : TI := fun σ H R => tl σ H fun x H1 => ∃ z, x = .str z ∧ R (Its z) H1
variable {tg : Expr}
end
end L2
set_option maxRecDepth 100000
namespace L2
open PySem PySem.Spec PyProof.Rows
noncomputable def isStar : Expr → Bool
  | .Starred _ _ => true
  | _ => false
noncomputable def noStars (es : List Expr) : Bool := es.all fun e => !isStar e
theorem star_cons {e : Expr} {es : List Expr} {env : Env} (h : isStar e = false) : starEach (e :: es) env = (false, eval e env) :: starEach es env := by
  cases e <;> first | rfl | cases h
theorem star_any {pos : Pos} {env : Env} : ∀ {es : List Expr}, noStars es = true → (backTo pos (starEach es env)).any (·.1) = false
  | [], _ => rfl
  | e :: es, h => by
    have h' : (!isStar e && noStars es) = true := h
    rw [Bool.and_eq_true] at h'
    rw [star_cons (by simpa using h'.1)]
    have ih := star_any (pos := pos) (env := env) h'.2
    unfold backTo at ih ⊢
    rw [List.map_cons, List.any_cons, ih]
    rfl
theorem star_all {pos : Pos} {env : Env} : ∀ {es : List Expr}, noStars es = true → (backTo pos (starEach es env)).all (fun x => !x.1) = true
  | [], _ => rfl
  | e :: es, h => by
    have h' : (!isStar e && noStars es) = true := h
    rw [Bool.and_eq_true] at h'
    rw [star_cons (by simpa using h'.1)]
    have ih := star_all (pos := pos) (env := env) h'.2
    unfold backTo at ih ⊢
    rw [List.map_cons, List.all_cons, ih]
    rfl
section
variable {X : Cx} {e : Expr} {es : List Expr} {te : TE} {t : TA} {x : Str} {p pos : Pos} {id T : String} {r : List V → Hp → VK → Prop}
theorem pa_c (ha : PE X e te) (hr : PA X es t) (h : isStar e = false := by rfl) : PA X (e :: es) (tCons te t) := pa_cons ha hr (star_cons h)
theorem pe_cB (hc : CallR X (.builtin id) r) (hg : Gl X x) (hm : X.mg x = none) (hv : bootBuiltins x = some (.builtin id)) (ha : PA X (e :: es) t) (h1 : isStar e = false := by rfl) (h2 : noStars es = true := by rfl) (hn : x ≠ "__name__" := by decide) (hdb : (x == ("__debug__" : Str)) = false := by decide) :
    PE X (.Call (.Name x p) (e :: es) [] pos) (tCB r t) := pe_callB hc hg hm hv ha hn hdb (star_cons h1) (star_any h2)
theorem pe_cT (hc : CallR X (.type T) r) (hg : Gl X x) (hm : X.mg x = none) (hv : bootBuiltins x = some (.type T)) (ha : PA X (e :: es) t) (h1 : isStar e = false := by rfl) (h2 : noStars es = true := by rfl) (hn : x ≠ "__name__" := by decide) (hdb : (x == ("__debug__" : Str)) = false := by decide) :
    PE X (.Call (.Name x p) (e :: es) [] pos) (tCB r t) := pe_callTy hc hg hm hv ha hn hdb (star_cons h1) (star_any h2)
variable {o : Expr} {to : TE} {name : Str} {apos cpos : Pos} {rm : V → List V → Hp → VK → Prop}
theorem pe_mB (pa : PlainAttrs T) (slot : Slot T name id) (hty : typeOf (.builtin id) = pure (.type "method_descriptor")) (hm : MtR X id rm) (ho : PE X o to) (ha : PA X (e :: es) t) (h1 : isStar e = false := by rfl) (h2 : noStars es = true := by rfl) (h3 : decide ((e :: es).length < 30) = true := by rfl)
    (hbase : attributeBase o name X.env (eval o X.env) = eval o X.env := by rfl) (hline : (apos.endLine == cpos.line) = true := by rfl) : PE X (.Call (.Attribute o name apos) (e :: es) [] cpos) (tBM X.K T rm to t) :=
  pe_bm pa slot hty hm ho ha hbase (by
    rw [star_all (show noStars (e :: es) = true by show (!isStar e && noStars es) = true; rw [h1, h2]; rfl)]
    have h3' : (e :: es).length < 30 := of_decide_eq_true h3
    simp only [List.isEmpty_nil, if_true, List.length_nil, Nat.add_zero, Bool.true_and]
    rw [decide_eq_true h3']
    rfl) hline (star_cons h1) (star_any h2)
variable {tg a b : Expr} {ta : TA}
theorem pi_r1 (hg : Gl X "range") (hm : X.mg "range" = none) (ha : PA X [a] ta) (h1 : isStar a = false := by rfl) : PI X tg (.Call (.Name "range" p) [a] [] pos) (iRng1 ta) := pi_range1 hg hm ha (by rw [star_cons h1]; rfl)
end
noncomputable def FO (P : Program) (w : World) (K : PySem.W.Frag) (mg : Str → Option Value) (base : Heap) (k : Nat) (x : Str) (ps : List Str) (dvs : List V) (sp : Sp) : Prop :=
  ∃ f fd, FnOk P w K mg base CX0 k f fd ps sp ∧ mg x = some (.ref f) ∧ PySem.W.keepIn K (.ref f) = true ∧ ∃ ds, Binds K fd ps ds ∧ Vals dvs ds
structure FunD (K : PySem.W.Frag) (x qual : Str) (st : Stmt) (f : Addr) (fd : FuncData) : Prop where
  ex : ∃ (oc : Value) (od : Option Addr) (dV kV doc pm : Value) (an : Option Addr) (cdv ct : Value) (osl : Array (Option Value)),
    fd = PySem.W.fnOf x qual (defArgs st) (defBody st) (defScope st) dV kV doc pm an cdv ct ∧ K.lookup f = some ⟨oc, od, .func fd, osl⟩ ∧ PySem.W.codeIn K cdv qual = true
section
variable {P : Program} {w : World} {K : PySem.W.Frag} {mg : Str → Option Value} {base : Heap}
theorem FunD.ok {x qual : Str} {st : Stmt} {f : Addr} {fd : FuncData} {N ps : List Str} {k : Nat} {sp : Sp} (F : FunD K x qual st f fd) (S : FnScope N ps (defScope st)) (len : ∀ vs H Q E, sp vs H Q E → vs.length = ps.length)
    (hbody : ∀ (cdv : Value) (A : Around) (outer : List Env) (s : Shared) (H : Hp) (vs : List V) (Q : VK) (E : XK), Room k (A.deeper (envOfC qual (defScope st) s.heap.objs.size f cdv)) → sp vs H Q E →
      ∃ t, PSs (cxOf CX0 P w K mg base N qual (defScope st) f cdv A outer s H E).nox (defBody st) t ∧ t { nx := fun _ H' => Q .non H', rt := Q } (start N vs) H) : FnOk P w K mg base CX0 (k + 1) f fd ps sp := by
  obtain ⟨oc, od, dV, kV, doc, pm, an, cdv, ct, osl, rfl, lk, hcd⟩ := F.ex
  refine fn_of lk hcd S len fun A outer s H vs Q E hr hsp => ?_
  obtain ⟨t, h, q⟩ := hbody cdv A outer s H vs Q E hr hsp
  exact ⟨t, h.nox, q⟩
theorem funD_mk {x qual : Str} {st : Stmt} {f : Addr} {oc : Value} {od an : Option Addr} {osl : Array (Option Value)} {dV kV doc pm cdv ct : Value} (l : K.lookup f = some ⟨oc, od, .func (PySem.W.fnOf x qual (defArgs st) (defBody st) (defScope st) dV kV doc pm an cdv ct), osl⟩)
    (c : PySem.W.codeIn K cdv qual = true) : FunD K x qual st f (PySem.W.fnOf x qual (defArgs st) (defBody st) (defScope st) dV kV doc pm an cdv ct) := ⟨oc, od, dV, kV, doc, pm, an, cdv, ct, osl, rfl, l, c⟩
end
section
variable {X : Cx} {k : Nat} {ps : List Str} {sp : Sp} {dvs : List V} {x : Str} {p pos : Pos} {e : Expr} {es : List Expr} {t : TA}
theorem pe_callF (G : FO X.prog X.w X.K X.mg X.base k x ps dvs sp) (hr : Room k X.A) (ha : PA X (e :: es) t) (hg : Gl X x := by rfl) (h1 : isStar e = false := by rfl) (h2 : noStars es = true := by rfl) (hdb : (x == ("__debug__" : Str)) = false := by decide) : PE X (.Call (.Name x p) (e :: es) [] pos) (tCall sp dvs E0 t) := by
  obtain ⟨f, fd, F, hm, hk, ds, hb, hd⟩ := G
  exact pe_call F hr hg hm hk hb hd pass0 ha hdb (star_cons h1) (star_any h2)
end
section
variable {σ : St} {H : Hp} {Q : VK} {B : Bool → Hp → Prop} {ta tb tc te : TE} {t u : TS} {tt uu : TT} {D : Ends} {i : Nat} {v : V} {r r' : R2} {K : PySem.W.Frag} {taa : TA} {R : List V → Hp → Prop} {g : TG}
theorem ap_var : tVar i σ H Q = ∃ v, (σ[i]?).join = some v ∧ Q v H := by
  unfold tVar
  refine propext ⟨fun ⟨v, h, q⟩ => ⟨v, by rw [h]; rfl, q⟩, fun ⟨v, h, q⟩ => ⟨v, ?_, q⟩⟩
  cases e : σ[i]? with
  | none => rw [e] at h; cases h
  | some o => rw [e] at h; exact congrArg some h
theorem ap_c : tC v σ H Q = Q v H := rfl
theorem ap_op : tOp r ta tb σ H Q = ta σ H fun x H1 => tb σ H1 fun y H2 => r x y H2 Q := rfl
theorem ap_un {ru : V → Hp → VK → Prop} : tUn ru ta σ H Q = ta σ H fun x H1 => ru x H1 Q := rfl
theorem ap_rU {f : Int → V} {x : V} : rU f x H Q = ∃ i, x = .int i ∧ Q (f i) H := rfl
theorem ap_test : tTest ta σ H B = ta σ H fun x H' => ∃ k, x = .bl k ∧ B k H' := rfl
theorem ap_tB : tB ta σ H B = ta σ H fun x H' => ∃ k, x = .bl k ∧ B k H' := rfl
theorem ap_tTru : tTru K ta σ H B = ta σ H fun x H' => ∃ k, TruV K x H' k ∧ B k H' := rfl
theorem ap_notT : tNotT K ta σ H Q = ta σ H fun x H' => ∃ k, TruV K x H' k ∧ Q (.bl (!k)) H' := rfl
theorem ap_chain : tChain r r' ta tb tc σ H Q = ta σ H fun x H1 => tb σ H1 fun y H2 => r x y H2 fun z H3 => ∃ k, z = .bl k ∧ (if k = true then tc σ H3 fun w' H4 => r' y w' H4 Q else Q (.bl false) H3) := rfl
theorem ap_and : tAnd tt uu σ H B = tt σ H fun c H1 => if c = true then uu σ H1 B else B false H1 := rfl
theorem ap_or : tOr tt uu σ H B = tt σ H fun c H1 => if c = true then B true H1 else uu σ H1 B := rfl
theorem ap_not : tNot tt σ H B = tt σ H fun c H1 => B (!c) H1 := rfl
theorem ap_andV : tAndV ta tb σ H Q = ta σ H fun x H1 => ∃ c, x = .bl c ∧ if c = true then tb σ H1 Q else Q (.bl false) H1 := rfl
theorem ap_orV : tOrV ta tb σ H Q = ta σ H fun x H1 => ∃ c, x = .bl c ∧ if c = true then Q (.bl true) H1 else tb σ H1 Q := rfl
theorem ap_notV : tNotV ta σ H Q = ta σ H fun x H1 => ∃ c, x = .bl c ∧ Q (.bl (!c)) H1 := rfl
theorem ap_if : tIf tt ta tb σ H Q = tt σ H fun c H1 => if c = true then ta σ H1 Q else tb σ H1 Q := rfl
theorem ap_next : tNext D σ H = D.nx σ H := rfl
theorem ap_seq : tSeq t u D σ H = t { D with nx := u D } σ H := rfl
theorem ap_break : tBreak D σ H = D.bk σ H := rfl
theorem ap_cont : tCont D σ H = D.ct σ H := rfl
theorem ap_drop : tDrop te D σ H = te σ H fun _ H1 => D.nx σ H1 := rfl
theorem ap_ret : tRet te D σ H = te σ H D.rt := rfl
theorem ap_retN : tRetN D σ H = D.rt .non H := rfl
theorem ap_ifS : tIfS tt t u D σ H = tt σ H fun b H1 => if b = true then t D σ H1 else u D σ H1 := rfl
theorem ap_never : tNever D σ H = False := rfl
theorem ap_name {Z : St → Hp → Prop} : gName i v σ H Z = Z (σ.set i (some v)) H := rfl
theorem ap_gnil {vs : List V} {Z : St → Hp → Prop} : gNil vs σ H Z = (vs = [] ∧ Z σ H) := rfl
theorem ap_gcons {us : TGs} {vs : List V} {Z : St → Hp → Prop} : gCons g us vs σ H Z = ∃ v r, vs = v :: r ∧ g v σ H fun σ' H' => us r σ' H' Z := rfl
theorem ap_gtup {n : Nat} {us : TGs} {Z : St → Hp → Prop} : gTup K n us v σ H Z = ∃ a xs, v = .ref a ∧ SqT K H a xs ∧ xs.length = n ∧ us xs σ H Z := rfl
theorem ap_gsub {ts : TSet} {Z : St → Hp → Prop} : gSub ta tb ts v σ H Z = ta σ H fun o H1 => tb σ H1 fun i H2 => ts o i v H2 fun H3 => Z σ H3 := rfl
theorem ap_asg : tAsg te g D σ H = te σ H fun x H1 => g x σ H1 D.nx := rfl
theorem ap_aug {ti : TIp} : tAug i te ti D σ H = ∃ x, (σ[i]?).join = some x ∧ te σ H fun y H1 => ti x y H1 fun z H2 => D.nx (σ.set i (some z)) H2 := ap_var (Q := fun x H => te σ H fun y H1 => ti x y H1 fun z H2 => D.nx (σ.set i (some z)) H2)
theorem ap_ipI {f : Int → Int → Int} {x y : V} : ipI f x y H Q = ∃ i j, x = .int i ∧ y = .int j ∧ Q (.int (f i j)) H := rfl
theorem ap_cons : tCons te taa σ H R = te σ H fun x H1 => taa σ H1 fun xs H2 => R (x :: xs) H2 := rfl
theorem ap_nil : tNil σ H R = R [] H := rfl
theorem ap_call {sp : Sp} {dvs : List V} {E : XK} : tCall sp dvs E taa σ H Q = taa σ H fun vs H1 => sp (vs ++ dvs) H1 Q E := rfl
theorem ap_cb {rc : List V → Hp → VK → Prop} : tCB rc taa σ H Q = taa σ H fun vs H1 => rc vs H1 Q := rfl
theorem ap_tup : tTup taa σ H Q = taa σ H fun xs H1 => xs.length ≤ sizeLine ∧ ∀ p, H1 p = none → Q (.ref p) (upd H1 p (.tup xs)) := rfl
theorem ap_lst : tLst taa σ H Q = taa σ H fun xs H1 => xs.length ≤ sizeLine ∧ ∀ p, H1 p = none → Q (.ref p) (upd H1 p (.lst xs)) := rfl
theorem ap_sl {rs : V → Option Int → Option Int → Hp → VK → Prop} {tl th : TO} : tSl rs te tl th σ H Q = te σ H fun x H1 => tl σ H1 fun l H2 => th σ H2 fun u H3 => rs x l u H3 Q := rfl
theorem ap_nopart {O : Option Int → Hp → Prop} : tNoPart σ H O = O none H := rfl
theorem ap_part {O : Option Int → Hp → Prop} : tPart te σ H O = te σ H fun x H1 => ∃ i, x = .int i ∧ O (some i) H1 := rfl
theorem ap_bm {T : String} {rm : V → List V → Hp → VK → Prop} : tBM K T rm te taa σ H Q = te σ H fun x H1 => tyV K T x H1 ∧ taa σ H1 fun xs H2 => rm x xs H2 Q := rfl
theorem ap_bm0 {T : String} {rm : V → List V → Hp → VK → Prop} : tBM0 K T rm te σ H Q = te σ H fun x H1 => tyV K T x H1 ∧ rm x [] H1 Q := rfl
theorem ap_yes : tYes σ H B = B true H := rfl
theorem ap_dnew : tDNewK σ H Q = ∀ p, H p = none → Q (.ref p) (upd H p (.dK [])) := rfl
theorem ap_dget : tDGet ta tb σ H Q = ta σ H fun x H1 => tb σ H1 fun y H2 => ∃ a v, x = .ref a ∧ DGet H2 a y (some v) ∧ Q v H2 := rfl
theorem ap_dput : sDPut ta tb tc D σ H = tc σ H fun v H1 => ta σ H1 fun x H2 => tb σ H2 fun y H3 => ∃ a H4, x = .ref a ∧ DPut H3 a y v H4 ∧ D.nx σ H4 := rfl
theorem ap_daug {rd : V → V → Hp → VK → Prop} : sDAug ta tb tc rd D σ H = ta σ H fun x H1 => tb σ H1 fun y H2 => ∃ a v, x = .ref a ∧ DGet H2 a y (some v) ∧ tc σ H2 fun y2 H3 => rd v y2 H3 fun z H4 => ∃ H5, DPut H4 a y z H5 ∧ D.nx σ H5 := rfl
theorem ap_rSub {x y : V} : rI0 (fun i j => V.int (i - j)) x y H Q = ∃ i j, x = .int i ∧ y = .int j ∧ Q (.int (i - j)) H := rfl
theorem ap_rFdiv {x y : V} : rI CDiv (fun i j => V.int (i / j)) x y H Q = ∃ i j, x = .int i ∧ y = .int j ∧ (0 < j ∧ j < 1073741824) ∧ Q (.int (i / j)) H := rfl
theorem ap_rMod {x y : V} : rI (fun _ j => 0 < j) (fun i j => V.int (i % j)) x y H Q = ∃ i j, x = .int i ∧ y = .int j ∧ 0 < j ∧ Q (.int (i % j)) H := rfl
theorem tyV_str {z : Str} : tyV K "str" (.str z) H = True := by simp [tyV]
noncomputable def ForIt (J : It) (g : TG) (tb : TS) (D : Ends) (σ : St) (H1 : Hp) : Prop := ∃ W : Nat → Nat → St → Hp → Prop, (∃ m, W 0 m σ H1) ∧ ∀ i m σ H, W i m σ H →
  (J.stop i H ∧ D.nx σ H) ∨ (J.go i H ∧ ∃ N : St → Hp → Prop, (∀ σ' H', N σ' H' → ∃ m', m' < m ∧ W (i + 1) m' σ' H') ∧ ∀ x H', J.yld i H x H' → g x σ H' fun σ2 H2 => tb { D with nx := N, ct := N, bk := D.nx } σ2 H2)
theorem ap_for {wi : TI} {tbs : TS} : tFor wi g tbs D σ H = wi σ H fun J H1 => ForIt J g tbs D σ H1 := rfl
theorem ap_ilist {Z : It → Hp → Prop} : iList K te σ H Z = te σ H fun x H1 => ∃ a, x = .ref a ∧ (∃ xs, SqL K H1 a xs) ∧ Z (Itl K a) H1 := rfl
theorem ap_itup {Z : It → Hp → Prop} : iTup K te σ H Z = te σ H fun x H1 => ∃ a, x = .ref a ∧ (∃ xs, SqT K H1 a xs) ∧ Z (Itt K a) H1 := rfl
theorem ap_istr {Z : It → Hp → Prop} : iStr te σ H Z = te σ H fun x H1 => ∃ z, x = .str z ∧ Z (Its z) H1 := rfl
theorem ap_irng1 {Z : It → Hp → Prop} : iRng1 taa σ H Z = taa σ H fun vs H1 => ∃ j : Int, vs = [.int j] ∧ -(2 ^ 62) ≤ j ∧ j < 2 ^ 62 ∧ Z (Itr 0 j.toNat) H1 := rfl
theorem ap_irng2 {Z : It → Hp → Prop} : iRng2 taa σ H Z = taa σ H fun vs H1 => ∃ i j : Int, vs = [.int i, .int j] ∧ (-(2 ^ 62) ≤ i ∧ i < 2 ^ 62 ∧ -(2 ^ 62) ≤ j ∧ j < 2 ^ 62) ∧ Z (Itr i (j - i).toNat) H1 := rfl
noncomputable def CompIt (J : It) (k : Nat) (ixs : List Nat) (g : TG) (c : TT) (te : TE) (σ : St) (Q : VK) (H1 : Hp) : Prop := ∀ D, H1 D = none →
  ∃ (n : Nat) (W : Nat → List V → St → Hp → Prop), W 0 [] (compStart k ixs σ) (upd H1 D (.lst [])) ∧ ∀ i ys σ2 H2, W i ys σ2 H2 → H2 D = some (.lst ys) →
    (J.stop i H2 ∧ Q (.ref D) H2) ∨
    (i < n ∧ J.go i H2 ∧ ∀ x H', J.yld i H2 x H' → g x σ2 H' fun σ3 H3 => c σ3 H3 fun b H4 =>
      if b = true then te σ3 H4 fun y H5 => H5 D = some (.lst ys) ∧ ys.length < sizeLine ∧ W (i + 1) (ys ++ [y]) σ3 (upd H5 D (.lst (ys ++ [y])))
      else H4 D = some (.lst ys) ∧ W (i + 1) ys σ3 H4)
theorem ap_comp {wi : TI} {k : Nat} {ixs : List Nat} : tComp wi k ixs g tt te σ H Q = wi σ H fun J H1 => CompIt J k ixs g tt te σ Q H1 := rfl
end
theorem truV_bl {b k : Bool} {K : PySem.W.Frag} {H : Hp} : TruV K (.bl b) H k = (k = b) := rfl
theorem truV_int {i : Int} {k : Bool} {K : PySem.W.Frag} {H : Hp} : TruV K (.int i) H k = (k = (i != 0)) := rfl
theorem truV_str {z : Str} {k : Bool} {K : PySem.W.Frag} {H : Hp} : TruV K (.str z) H k = (z.length ≤ sizeLine ∧ k = ((z.length : Int) != 0)) := rfl
theorem truV_non {k : Bool} {K : PySem.W.Frag} {H : Hp} : TruV K .non H k = (k = false) := rfl
theorem start_eq {N : List Str} {vs : List V} : start N vs = vs.map some ++ List.replicate (N.length - vs.length) none := rfl
theorem compStart_eq {k : Nat} {ixs : List Nat} {σ : St} : compStart k ixs σ = List.replicate k none ++ ixs.map fun i => (σ[i]?).join := rfl
theorem ap_rIxI {K : PySem.W.Frag} {H : Hp} {Q : VK} {z : Str} {i : Int} : rIx K (.str z) (.int i) H Q = ∃ c, z.length ≤ sizeLine ∧ atI z.cps.toList i = some c ∧ Q (.str ⟨#[c]⟩) H := by
  simp only [rIx, rIxL, rIxT, rIxS]
  refine propext ⟨fun h => ?_, fun ⟨c, h⟩ => .inr (.inr ⟨z, i, c, rfl, rfl, h⟩)⟩
  rcases h with ⟨p, xs, j, v, e, _⟩ | ⟨p, xs, j, v, e, _⟩ | ⟨z', i', c, e1, e2, h⟩
  · cases e
  · cases e
  · cases e1; cases e2; exact ⟨c, h⟩
theorem ap_rIxR {K : PySem.W.Frag} {H : Hp} {Q : VK} {p : Addr} {i : Int} : rIx K (.ref p) (.int i) H Q = ∃ xs v, (SqL K H p xs ∨ SqT K H p xs) ∧ atI xs i = some v ∧ Q v H := by
  simp only [rIx, rIxL, rIxT, rIxS]
  refine propext ⟨fun h => ?_, fun ⟨xs, v, h, r⟩ => ?_⟩
  · rcases h with ⟨p', xs, j, v, e1, e2, h1, h2⟩ | ⟨p', xs, j, v, e1, e2, h1, h2⟩ | ⟨z', i', c, e1, e2, h⟩
    · cases e1; cases e2; exact ⟨xs, v, .inl h1, h2⟩
    · cases e1; cases e2; exact ⟨xs, v, .inr h1, h2⟩
    · cases e1
  · rcases h with h | h
    · exact .inl ⟨p, xs, i, v, rfl, rfl, h, r⟩
    · exact .inr (.inl ⟨p, xs, i, v, rfl, rfl, h, r⟩)
theorem atI_in {α : Type} {xs : List α} {i : Int} (h0 : 0 ≤ i) (h1 : i < xs.length) : ∃ v, atI xs i = some v ∧ v ∈ xs := by
  have hlt : i.toNat < xs.length := by omega
  refine ⟨xs[i.toNat], ?_, List.getElem_mem hlt⟩
  unfold atI ixN
  rw [if_pos h0, if_pos h1]
  simp [hlt]
theorem bt_len : bootBuiltins "len" = some (.builtin "len") := by decide +kernel
theorem bt_dict : bootBuiltins "dict" = some (.type "dict") := by decide +kernel
theorem bt_str : bootBuiltins "str" = some (.type "str") := by decide +kernel
section
variable {K : PySem.W.Frag} {H : Hp} {Q : VK} {i j : Int} {x y : Str} {u v : V} {b c : Bool} {p q : Addr} {lo hi : Option Int} {cm : Bool}
theorem ad_ii : rAddU K (.int i) (.int j) H Q = Q (.int (i + j)) H := rfl
theorem ad_ss : rAddU K (.str x) (.str y) H Q = (x.length + y.length ≤ sizeLine ∧ Q (.str (x ++ y)) H) := rfl
theorem ad_rr : rAddU K (.ref p) (.ref q) H Q = rAddR K p q H Q := rfl
theorem mu_ii : rMulU (.int i) (.int j) H Q = (CMul i j ∧ Q (.int (i * j)) H) := rfl
theorem mu_ri : rMulU (.ref p) (.int j) H Q = rRep (.ref p) (.int j) H Q := rfl
theorem eq_ii : rEqU K (.int i) (.int j) H Q = Q (.bl (decide (i = j))) H := rfl
theorem eq_ss : rEqU K (.str x) (.str y) H Q = Q (.bl (decide (x = y))) H := rfl
theorem eq_bb : rEqU K (.bl b) (.bl c) H Q = Q (.bl (decide (b = c))) H := rfl
theorem eq_rx : rEqU K (.ref p) v H Q = ∃ d e, Dn K H (.ref p) d ∧ Dn K H v e ∧ min d.depth e.depth ≤ 60 ∧ Q (.bl (PyData.eqv d e)) H := by cases v <;> rfl
theorem eq_xr : rEqU K v (.ref p) H Q = ∃ d e, Dn K H v d ∧ Dn K H (.ref p) e ∧ min d.depth e.depth ≤ 60 ∧ Q (.bl (PyData.eqv d e)) H := by cases v <;> rfl
theorem ne_ii : rNeU K (.int i) (.int j) H Q = Q (.bl (!decide (i = j))) H := rfl
theorem ne_ss : rNeU K (.str x) (.str y) H Q = Q (.bl (!decide (x = y))) H := rfl
theorem ne_bb : rNeU K (.bl b) (.bl c) H Q = Q (.bl (!decide (b = c))) H := rfl
theorem ne_rx : rNeU K (.ref p) v H Q = ∃ d e, Dn K H (.ref p) d ∧ Dn K H v e ∧ min d.depth e.depth ≤ 60 ∧ Q (.bl (!PyData.eqv d e)) H := by cases v <;> rfl
theorem ne_xr : rNeU K v (.ref p) H Q = ∃ d e, Dn K H v d ∧ Dn K H (.ref p) e ∧ min d.depth e.depth ≤ 60 ∧ Q (.bl (!PyData.eqv d e)) H := by cases v <;> rfl
theorem lt_ii : rLtU (.int i) (.int j) H Q = Q (.bl (decide (i < j))) H := rfl
theorem lt_ss : rLtU (.str x) (.str y) H Q = Q (.bl (decide (x.cps.toList < y.cps.toList))) H := rfl
theorem le_ii : rLeU (.int i) (.int j) H Q = Q (.bl (decide (i ≤ j))) H := rfl
theorem le_ss : rLeU (.str x) (.str y) H Q = Q (.bl (!decide (y.cps.toList < x.cps.toList))) H := rfl
theorem gt_ii : rGtU (.int i) (.int j) H Q = Q (.bl (decide (j < i))) H := rfl
theorem gt_ss : rGtU (.str x) (.str y) H Q = Q (.bl (decide (y.cps.toList < x.cps.toList))) H := rfl
theorem ge_ii : rGeU (.int i) (.int j) H Q = Q (.bl (decide (j ≤ i))) H := rfl
theorem ge_ss : rGeU (.str x) (.str y) H Q = Q (.bl (!decide (x.cps.toList < y.cps.toList))) H := rfl
theorem in_xs : rInU K b u (.str x) H Q = ∃ i, u = .str i ∧ Q (.bl (b.xor (!(Builtin.Str.occurrences x i 0 x.length 1).isEmpty))) H := rfl
theorem in_xr : rInU K b u (.ref p) H Q = rInR K b u p H Q := rfl
theorem sl_s : rSlU K (.str x) lo hi H Q = (x.length ≤ sizeLine ∧ Q (.str (cutS x lo hi)) H) := rfl
theorem sl_r : rSlU K (.ref p) lo hi H Q = rSlR K p lo hi H Q := rfl
theorem len_s : rLenU K [.str x] H Q = (x.length ≤ sizeLine ∧ Q (.int x.length) H) := rfl
theorem len_r : rLenU K [.ref p] H Q = ∃ n : Nat, LenR K H p n ∧ Q (.int n) H := rfl
theorem list_r : rListU K cm [.ref p] H Q = rListR K cm p H Q := rfl
theorem all_r : rAllB cm [.ref p] H Q = ∃ bs : List Bool, cm = true ∧ H p = some (.lst (bs.map V.bl)) ∧ Q (.bl (bs.all id)) H := rfl
theorem isi_t {n : String} : rIsi [u, .ty n] H Q = ∃ T, tyS H u = some T ∧ isTys.contains n = true ∧ Q (.bl (isB T n)) H := rfl
theorem ord_s : rOrd [.str x] H Q = (x.length = 1 ∧ Q (.int (x.cps.getD 0 0 : Nat)) H) := rfl
end
theorem forL {K : PySem.W.Frag} {a : Addr} {xs : List V} {g : TG} {tb : TS} {D : Ends} {σ : St} {H : Hp} (Pv : Nat → St → Hp → Prop) (h0 : Pv 0 σ H) (hl : ∀ i σ H, i ≤ xs.length → Pv i σ H → SqL K H a xs)
    (hs : ∀ i x σ H, xs[i]? = some x → Pv i σ H → g x σ H fun σ2 H2 => tb { D with nx := Pv (i + 1), ct := Pv (i + 1), bk := D.nx } σ2 H2) (hd : ∀ σ H, Pv xs.length σ H → D.nx σ H) : ForIt (Itl K a) g tb D σ H := for_list Pv h0 hl hs hd
theorem forR {lo : Int} {n : Nat} {g : TG} {tb : TS} {D : Ends} {σ : St} {H : Hp} (Pv : Nat → St → Hp → Prop) (h0 : Pv 0 σ H)
    (hs : ∀ i σ H, i < n → Pv i σ H → g (.int (lo + i)) σ H fun σ2 H2 => tb { D with nx := Pv (i + 1), ct := Pv (i + 1), bk := D.nx } σ2 H2) (hd : ∀ σ H, Pv n σ H → D.nx σ H) : ForIt (Itr lo n) g tb D σ H := for_range Pv h0 hs hd
noncomputable def CW (n : Nat) (fr : St) (Pv : Nat → List V → Hp → Prop) (i : Nat) (ys : List V) (σ2 : St) (H2 : Hp) : Prop := i ≤ n ∧ ys.length ≤ i ∧ (∃ v, σ2 = v :: fr) ∧ Pv i ys H2
theorem CW.put {n : Nat} {fr : St} {Pv : Nat → List V → Hp → Prop} {i : Nat} {ys : List V} {y : V} {o : Option V} {H : Hp} (hi : i < n) (hy : ys.length ≤ i) (p : Pv (i + 1) (ys ++ [y]) H) : CW n fr Pv (i + 1) (ys ++ [y]) (o :: fr) H :=
  ⟨hi, by rw [List.length_append, List.length_singleton]; omega, ⟨_, rfl⟩, p⟩
theorem CW.skip {n : Nat} {fr : St} {Pv : Nat → List V → Hp → Prop} {i : Nat} {ys : List V} {o : Option V} {H : Hp} (hi : i < n) (hy : ys.length ≤ i) (p : Pv (i + 1) ys H) : CW n fr Pv (i + 1) ys (o :: fr) H := ⟨hi, Nat.le_succ_of_le hy, ⟨_, rfl⟩, p⟩
theorem compL {K : PySem.W.Frag} {a : Addr} {xs : List V} {ixs : List Nat} {c : TT} {te : TE} {σ : St} {Q : VK} {H1 : Hp} (fr : St) (hfr : compStart 1 ixs σ = none :: fr) (Pv : Addr → Nat → List V → Hp → Prop)
    (h0 : ∀ D, H1 D = none → Pv D 0 [] (upd H1 D (.lst []))) (hl : ∀ D i ys H, H1 D = none → i ≤ xs.length → Pv D i ys H → SqL K H a xs)
    (hs : ∀ D i x ys H, H1 D = none → i < xs.length → xs[i]? = some x → Pv D i ys H → H D = some (.lst ys) → ys.length ≤ i → c (some x :: fr) H fun b H4 =>
      if b = true then te (some x :: fr) H4 fun y H5 => H5 D = some (.lst ys) ∧ ys.length < sizeLine ∧ CW xs.length fr (Pv D) (i + 1) (ys ++ [y]) (some x :: fr) (upd H5 D (.lst (ys ++ [y])))
      else H4 D = some (.lst ys) ∧ CW xs.length fr (Pv D) (i + 1) ys (some x :: fr) H4)
    (hd : ∀ D ys H, H1 D = none → Pv D xs.length ys H → H D = some (.lst ys) → ys.length ≤ xs.length → Q (.ref D) H) : CompIt (Itl K a) 1 ixs (gName 0) c te σ Q H1 := by
  intro D hD
  refine ⟨xs.length, CW xs.length fr (Pv D), ⟨Nat.zero_le _, Nat.zero_le _, ⟨none, hfr⟩, h0 D hD⟩, ?_⟩
  rintro i ys σ2 H2 ⟨hi, hy, ⟨v, rfl⟩, p⟩ hDy
  have q := hl D i ys H2 hD hi p
  by_cases hlt : i < xs.length
  · refine .inr ⟨hlt, ⟨xs, xs[i], q, by simp [hlt]⟩, fun x H' y => ?_⟩
    obtain ⟨e, y⟩ := y
    subst e
    exact hs D i x ys _ hD hlt (y xs q) p hDy hy
  · have e : i = xs.length := by omega
    subst e
    exact .inl ⟨⟨xs, q, Nat.le_refl _⟩, hd D ys H2 hD p hDy hy⟩
theorem compR {lo : Int} {n : Nat} {ixs : List Nat} {c : TT} {te : TE} {σ : St} {Q : VK} {H1 : Hp} (fr : St) (hfr : compStart 1 ixs σ = none :: fr) (Pv : Addr → Nat → List V → Hp → Prop)
    (h0 : ∀ D, H1 D = none → Pv D 0 [] (upd H1 D (.lst [])))
    (hs : ∀ D i ys H, H1 D = none → i < n → Pv D i ys H → H D = some (.lst ys) → ys.length ≤ i → c (some (.int (lo + i)) :: fr) H fun b H4 =>
      if b = true then te (some (.int (lo + i)) :: fr) H4 fun y H5 => H5 D = some (.lst ys) ∧ ys.length < sizeLine ∧ CW n fr (Pv D) (i + 1) (ys ++ [y]) (some (.int (lo + i)) :: fr) (upd H5 D (.lst (ys ++ [y])))
      else H4 D = some (.lst ys) ∧ CW n fr (Pv D) (i + 1) ys (some (.int (lo + i)) :: fr) H4)
    (hd : ∀ D ys H, H1 D = none → Pv D n ys H → H D = some (.lst ys) → ys.length ≤ n → Q (.ref D) H) : CompIt (Itr lo n) 1 ixs (gName 0) c te σ Q H1 := by
  intro D hD
  refine ⟨n, CW n fr (Pv D), ⟨Nat.zero_le _, Nat.zero_le _, ⟨none, hfr⟩, h0 D hD⟩, ?_⟩
  rintro i ys σ2 H2 ⟨hi, hy, ⟨v, rfl⟩, p⟩ hDy
  by_cases hlt : i < n
  · refine .inr ⟨hlt, hlt, fun x H' y => ?_⟩
    obtain ⟨e, y⟩ := y
    subst e y
    exact hs D i ys _ hD hlt p hDy hy
  · have e : i = n := by omega
    subst e
    exact .inl ⟨Nat.le_refl _, hd D ys H2 hD p hDy hy⟩
theorem upd_fresh {H : Hp} {p q : Addr} {o u : HO} (h : H p = some o) (n : H q = none) : upd H q u p = some o := by rw [upd_ne (ne_of_none h n)]; exact h
theorem Same.new {H : Hp} {q : Addr} {u : HO} (n : H q = none) : Same H (upd H q u) := fun _ _ h => upd_fresh h n
theorem Same.put {H0 H : Hp} {q : Addr} {u : HO} (s : Same H0 H) (n : H0 q = none) : Same H0 (upd H q u) := fun b o h => by rw [upd_ne (ne_of_none h n)]; exact s b o h
end L2
set_option maxRecDepth 100000
namespace L2
open PySem PySem.Spec PyProof.Rows
theorem cxK {CX : CXT} {P : Program} {w : World} {K : PySem.W.Frag} {mg : Str → Option Value} {base : Heap} {N : List Str} {q : Str} {sc : Scope} {f : Addr} {cd : Value} {A : Around} {o : List Env} {s : Shared} {H : Hp} {E : XK} : (cxOf CX P w K mg base N q sc f cd A o s H E).K = K := rfl
theorem cxKn {X : Cx} : X.nox.K = X.K := rfl
theorem cxKb {X : Cx} {sc : Scope} {N' : List Str} {C : Addr} {s₃ : Shared} {H₃ : Hp} {fp : List Addr} {pins : List (Addr × Obj)} : (blk X sc N' C s₃ H₃ fp pins).K = X.K := rfl
theorem cxC {CX : CXT} {P : Program} {w : World} {K : PySem.W.Frag} {mg : Str → Option Value} {base : Heap} {N : List Str} {q : Str} {sc : Scope} {f : Addr} {cd : Value} {A : Around} {o : List Env} {s : Shared} {H : Hp} {E : XK} : (cxOf CX P w K mg base N q sc f cd A o s H E).calm = true := rfl
theorem cxCn {X : Cx} : X.nox.calm = X.calm := rfl
theorem cxCb {X : Cx} {sc : Scope} {N' : List Str} {C : Addr} {s₃ : Shared} {H₃ : Hp} {fp : List Addr} {pins : List (Addr × Obj)} : (blk X sc N' C s₃ H₃ fp pins).calm = X.calm := rfl
theorem iteD {c A B : Prop} [Decidable c] (h1 : c → A) (h2 : ¬ c → B) : if decide c = true then A else B := by
  by_cases h : c
  · rw [decide_eq_true h, if_pos rfl]; exact h1 h
  · rw [decide_eq_false h, if_neg Bool.false_ne_true]; exact h2 h
theorem iteN {c A B : Prop} [Decidable c] (h1 : ¬ c → A) (h2 : c → B) : if (!decide c) = true then A else B := by
  by_cases h : c
  · rw [decide_eq_true h]; exact iteF (h2 h)
  · rw [decide_eq_false h]; exact iteT (h1 h)
theorem tyL {K : PySem.W.Frag} {H : Hp} {p : Addr} {xs : List V} (h : H p = some (.lst xs)) : tyV K "list" (.ref p) H := .inl ⟨rfl, _, SqL.of h⟩
theorem appOk {H : Hp} {l : Addr} {xs : List V} {y : V} {Q : VK} (h : H l = some (.lst xs)) (hz : xs.length < sizeLine) (q : Q .non (upd H l (.lst (xs ++ [y])))) : rAppend (.ref l) [y] H Q := ⟨l, xs, y, rfl, rfl, h, hz, q⟩
theorem small100 {n : Nat} (h : n ≤ 1000000) : n < sizeLine := Nat.lt_of_le_of_lt h (by decide)
theorem small100' {n : Nat} (h : n ≤ 1000000) : n ≤ sizeLine := Nat.le_of_lt (small100 h)
structure IsRows (H : Hp) (a : Addr) (rs : List Addr) (zss : List (List Str)) : Prop where
  top : H a = some (.lst (rs.map V.ref))
  row : Paired (fun r (zs : List Str) => H r = some (.lst (zs.map V.str))) rs zss
theorem IsRows.same {H H' : Hp} {a : Addr} {rs : List Addr} {zss : List (List Str)} (R : IsRows H a rs zss) (s : Same H H') : IsRows H' a rs zss := ⟨s _ _ R.top, Paired.mapP R.row fun _ _ h => s _ _ h⟩
theorem Paired.at {α β : Type} {F : α → β → Prop} : ∀ {l₁ : List α} {l₂ : List β} {i : Nat} {a : α}, Paired F l₁ l₂ → l₁[i]? = some a → ∃ b, l₂[i]? = some b ∧ F a b
  | _, _, _, _, .nil, h => by simp at h
  | _, _, 0, _, .cons h t, e => by simp at e; subst e; exact ⟨_, rfl, h⟩
  | _, _, i + 1, _, .cons h t, e => by
    obtain ⟨b, h1, h2⟩ := Paired.at (i := i) t (by simpa using e)
    exact ⟨b, by simpa using h1, h2⟩
theorem depth_strs : ∀ zs : List Str, PyData.depthAll (zs.map PyData.str) = 0
  | [] => rfl
  | z :: zs => by rw [List.map_cons, PyData.depthAll, depth_strs zs, PyData.depth]; rfl
noncomputable def dd (acc : List Str) (z : Str) : List Str := if z ∈ acc then acc else acc ++ [z]
noncomputable def dds (acc zs : List Str) : List Str := zs.foldl dd acc
noncomputable def kvOf (zs : List Str) : List (Key × V) := zs.map fun z => (Sum.inr z, V.bl true)
theorem any_kvOf (z : Str) : ∀ acc : List Str, ((kvOf acc).any fun kv => decide (kv.1 = (Sum.inr z : Key))) = decide (z ∈ acc)
  | [] => by simp [kvOf]
  | y :: acc => by
    have ih := any_kvOf z acc
    unfold kvOf at ih ⊢
    rw [List.map_cons, List.any_cons, ih]
    by_cases e : y = z
    · subst e
      simp
    · have e1 : decide ((Sum.inr y : Key) = Sum.inr z) = false := decide_eq_false fun q => e (Sum.inr.inj q)
      have e2 : decide (z ∈ y :: acc) = decide (z ∈ acc) := by
        by_cases h : z ∈ acc
        · rw [decide_eq_true h, decide_eq_true (List.mem_cons_of_mem _ h)]
        · rw [decide_eq_false h, decide_eq_false]
          intro q
          rcases List.mem_cons.mp q with q | q
          · exact e q.symm
          · exact h q
      rw [e2]
      simp only [e1, Bool.false_or]
theorem putK_kvOf (acc : List Str) (z : Str) : putK (kvOf acc) (Sum.inr z : Key) (.bl true) = kvOf (dd acc z) := by
  unfold putK dd
  rw [any_kvOf]
  by_cases h : z ∈ acc
  · rw [decide_eq_true h, if_pos rfl, if_pos h]
    unfold kvOf
    rw [List.map_map]
    refine List.map_congr_left fun y _ => ?_
    show (if (Sum.inr y : Key) = Sum.inr z then ((Sum.inr y : Key), V.bl true) else (Sum.inr y, V.bl true)) = _
    split <;> rfl
  · rw [decide_eq_false h, if_neg Bool.false_ne_true, if_neg h]
    unfold kvOf
    rw [List.map_append]
    rfl
theorem inV_strs (z : Str) : ∀ acc : List Str, inV (.str z) (acc.map V.str) = decide (z ∈ acc)
  | [] => by simp [inV]
  | y :: acc => by
    have ih := inV_strs z acc
    unfold inV at ih ⊢
    rw [List.map_cons, List.any_cons, ih]
    show ((y == z) || decide (z ∈ acc)) = _
    by_cases e : y = z
    · subst e
      simp
    · have e1 : (y == z) = false := by simpa using e
      rw [e1, Bool.false_or]
      by_cases h : z ∈ acc
      · rw [decide_eq_true h, decide_eq_true (List.mem_cons_of_mem _ h)]
      · rw [decide_eq_false h, decide_eq_false]
        intro q
        rcases List.mem_cons.mp q with q | q
        · exact e q.symm
        · exact h q
theorem flat_strs : ∀ acc : List Str, (acc.map V.str).all flatV = true
  | [] => rfl
  | _ :: acc => by rw [List.map_cons, List.all_cons, flat_strs acc]; rfl
theorem map_at {α β : Type} {f : α → β} {l : List α} {i : Nat} {y : β} (h : (l.map f)[i]? = some y) : ∃ x, l[i]? = some x ∧ y = f x := by
  rw [List.getElem?_map] at h
  cases e : l[i]? with
  | none => rw [e] at h; cases h
  | some x => rw [e] at h; exact ⟨x, rfl, (Option.some.inj h).symm⟩
theorem drawn {xs : List V} {i : Int} (hx : ∀ x ∈ xs, ∃ n, x = V.int n) (h0 : 0 ≤ i) (h1 : i < xs.length) : ∃ n, atI xs i = some (V.int n) := by
  obtain ⟨v, h2, h3⟩ := atI_in h0 h1
  obtain ⟨n, rfl⟩ := hx v h3
  exact ⟨n, h2⟩
theorem drawn2 {xs : List V} {i : Int} (hx : ∀ x ∈ xs, ∃ n, x = V.int n) (h0 : 0 ≤ i) (h1 : i < xs.length) : ∃ n, atI xs i = some (V.int n) ∧ V.int n ∈ xs := by
  obtain ⟨v, h2, h3⟩ := atI_in h0 h1
  obtain ⟨n, rfl⟩ := hx v h3
  exact ⟨n, h2, h3⟩
theorem cutS_list (x : Str) (lo hi : Option Int) : (cutS x lo hi).cps.toList = (x.cps.toList.drop (HT.sIx x.length 0 lo)).take (HT.sIx x.length x.length hi - HT.sIx x.length 0 lo) := by
  unfold cutS
  simp
end L2
set_option maxRecDepth 100000
namespace L2
open PySem PySem.Spec PyProof.Rows
structure QE (X : Cx) (e : Expr) (t : TE) : Prop where
  out : PE X e t
structure QT (X : Cx) (e : Expr) (t : TT) : Prop where
  out : PT X e t
structure QW (X : Cx) (e : Expr) (t : TT) : Prop where
  out : PW X e t
structure QA (X : Cx) (es : List Expr) (t : TA) : Prop where
  out : PA X es t
structure QS (X : Cx) (st : Stmt) (t : TS) : Prop where
  out : PS X st t
structure QSs (X : Cx) (st : List Stmt) (t : TS) : Prop where
  out : PSs X st t
structure QG (X : Cx) (tg : Expr) (t : TG) : Prop where
  out : PG X tg t
structure QI (X : Cx) (tg iter : Expr) (wi : TI) : Prop where
  out : PI X tg iter wi
structure QO (X : Cx) (e : Option Expr) (t : TO) : Prop where
  out : PO X e t
structure QIfs (X : Cx) (ifs : List Expr) (t : TT) : Prop where
  out : PIfs X ifs t
structure QOp (X : Cx) (f : Value → Value → Sem Value) (r : R2) : Prop where
  out : OpR X f r
structure QCall (X : Cx) (f : Value) (r : List V → Hp → VK → Prop) : Prop where
  out : CallR X f r
structure QMt (X : Cx) (id : String) (r : V → List V → Hp → VK → Prop) : Prop where
  out : MtR X id r
structure QIp (X : Cx) (op : Operator) (t : TIp) : Prop where
  out : PIp X op t
section
variable {X : Cx} {a b c e o i value : Expr} {es : List Expr} {ta tb tc te to ti tv : TE} {tA tB' : TT} {t u : TS} {tl : TA} {pos p pos' tpos : Pos} {rest : List Expr} {r r' : R2} {x : Str}
theorem qe_int {i j} : QE X (.Constant (.int i) j pos) (tC (.int i)) := ⟨pe_int⟩
theorem qe_bl {b j} : QE X (.Constant (.bool b) j pos) (tC (.bl b)) := ⟨pe_bl⟩
theorem qe_str {x j} : QE X (.Constant (.str x) j pos) (tC (.str x)) := ⟨pe_str⟩
theorem qe_v {n : Nat} (hN : X.N[n]? = some x) (hv : Vis X.env.scope x) (hd : (x == ("__debug__" : Str)) = false) (hcd : (x == ("__classdict__" : Str)) = false) : QE X (.Name x pos) (tVar n) := ⟨pe_var hN hv hd hcd⟩
theorem qv (n : Nat) (hN : X.N[n]? = some x := by rfl) (hv : Vis X.env.scope x := by first | exact Or.inl rfl | exact Or.inr (Or.inl rfl) | exact Or.inr (Or.inr rfl)) (hd : (x == ("__debug__" : Str)) = false := by decide) (hcd : (x == ("__classdict__" : Str)) = false := by decide) : QE X (.Name x pos) (tVar n) := ⟨pe_var hN hv hd hcd⟩
theorem qe_op {op : Operator} (ho : QOp X (binaryOp op) r) (ha : QE X a ta) (hb : QE X b tb) : QE X (.BinOp a op b pos) (tOp r ta tb) := ⟨pe_op ho.out ha.out hb.out⟩
theorem qe_one {op} (ha : QE X a ta) : QE X (.BoolOp op [a] pos) ta := ⟨pe_one ha.out⟩
theorem qe_and (ha : QE X a ta) (hb : QE X (.BoolOp .And (b :: rest) pos) tb) : QE X (.BoolOp .And (a :: b :: rest) pos) (tAndV ta tb) := ⟨pe_and ha.out hb.out⟩
theorem qe_cmpR {op : CmpOp} (ho : QOp X (compareOp op) r) (ha : QE X a ta) (hb : QE X b tb) (hm : behindInMarks op b = false := by first | exact nomark _ | rfl) : QE X (.Compare a [op] [b] pos) (tOp r ta tb) := ⟨pe_cmpR ho.out ha.out hb.out hm⟩
theorem qe_chain {op op' : CmpOp} (ho : QOp X (compareOp op) r) (ho' : QOp X (compareOp op') r') (ha : QE X a ta) (hb : QE X b tb) (hc : QE X c tc) (hm : lastMarks [op, op'] [b, c] = false := by with_unfolding_all rfl) : QE X (.Compare a [op, op'] [b, c] pos) (tChain r r' ta tb tc) := ⟨pe_chain ho.out ho'.out ha.out hb.out hc.out hm⟩
theorem qa_nil : QA X [] tNil := ⟨pa_nil⟩
theorem qa_c (ha : QE X e te) (hr : QA X es tl) (h : isStar e = false := by rfl) : QA X (e :: es) (tCons te tl) := ⟨pa_c ha.out hr.out h⟩
theorem qe_lst (h : QA X es tl) : QE X (.List es pos) (tLst tl) := ⟨pe_lst h.out⟩
theorem qe_tup {x1} (h : QA X es tl) : QE X (.Tuple es x1 pos) (tTup tl) := ⟨pe_tup h.out⟩
theorem qo_some (h : QE X e te) : QO X (some e) (tPart te) := ⟨po_some h.out⟩
theorem qe_slice {K : PySem.W.Frag} {lo hi : Option Expr} {tlo thi : TO} {p2 : Pos} (he : QE X e te) (hl : QO X lo tlo) (hu : QO X hi thi) (hK : X.K = K := by rfl) : QE X (.Subscript e (.Slice lo hi none p2) pos) (tSl (rSlU K) te tlo thi) := by subst hK; exact ⟨pe_slice p_sl he.out hl.out hu.out⟩
theorem qe_ix {K : PySem.W.Frag} (ha : QE X a ta) (hb : QE X b tb) (hs : PlainIx b := by exact fun _ _ => rfl) (hK : X.K = K := by rfl) : QE X (.Subscript a b pos) (tOp (rIx K) ta tb) := by subst hK; exact ⟨pe_ix ix_seq ha.out hb.out hs⟩
theorem qe_cB {id : String} {rc : List V → Hp → VK → Prop} (hc : QCall X (.builtin id) rc) (hm : X.mg x = none) (hv : bootBuiltins x = some (.builtin id)) (ha : QA X (e :: es) tl) (hg : Gl X x := by rfl) (h1 : isStar e = false := by rfl) (h2 : noStars es = true := by rfl) (hn : x ≠ "__name__" := by decide) (hdb : (x == ("__debug__" : Str)) = false := by decide) :
    QE X (.Call (.Name x p) (e :: es) [] pos) (tCB rc tl) := ⟨pe_cB hc.out hg hm hv ha.out h1 h2 hn hdb⟩
theorem qe_cT {T : String} {rc : List V → Hp → VK → Prop} (hc : QCall X (.type T) rc) (hm : X.mg x = none) (hv : bootBuiltins x = some (.type T)) (ha : QA X (e :: es) tl) (hg : Gl X x := by rfl) (h1 : isStar e = false := by rfl) (h2 : noStars es = true := by rfl) (hn : x ≠ "__name__" := by decide) (hdb : (x == ("__debug__" : Str)) = false := by decide) :
    QE X (.Call (.Name x p) (e :: es) [] pos) (tCB rc tl) := ⟨pe_cT hc.out hg hm hv ha.out h1 h2 hn hdb⟩
theorem qe_mB {K : PySem.W.Frag} {T id : String} {name : Str} {apos cpos : Pos} {rm : V → List V → Hp → VK → Prop} (pa : PlainAttrs T) (slot : Slot T name id) (hty : typeOf (.builtin id) = pure (.type "method_descriptor")) (hm : QMt X id rm) (ho : QE X o to) (ha : QA X (e :: es) tl) (h1 : isStar e = false := by rfl) (h2 : noStars es = true := by rfl) (h3 : decide ((e :: es).length < 30) = true := by rfl) (hbase : attributeBase o name X.env (eval o X.env) = eval o X.env := by rfl) (hline : (apos.endLine == cpos.line) = true := by rfl) (hK : X.K = K := by rfl) : QE X (.Call (.Attribute o name apos) (e :: es) [] cpos) (tBM K T rm to tl) := by subst hK; exact ⟨pe_mB pa slot hty hm.out ho.out ha.out h1 h2 h3 hbase hline⟩
theorem qe_callF {k : Nat} {ps : List Str} {sp : Sp} {dvs : List V} (G : FO X.prog X.w X.K X.mg X.base k x ps dvs sp) (hr : Room k X.A) (ha : QA X (e :: es) tl) (hg : Gl X x := by rfl) (h1 : isStar e = false := by rfl) (h2 : noStars es = true := by rfl) (hdb : (x == ("__debug__" : Str)) = false := by decide) :
    QE X (.Call (.Name x p) (e :: es) [] pos) (tCall sp dvs E0 tl) := ⟨pe_callF G hr ha.out hg h1 h2 hdb⟩
theorem qt_cmpR {op : CmpOp} (ho : QOp X (compareOp op) r) (ha : QE X a ta) (hb : QE X b tb) (hm : behindInMarks op b = false := by first | exact nomark _ | rfl) : QT X (.Compare a [op] [b] pos) (tTest (tOp r ta tb)) := ⟨pt_cmpR ho.out ha.out hb.out hm⟩
theorem qw_and1 (ha : QT X a tA) : QW X (.BoolOp .And [a] pos) tA := ⟨pw_and1 ha.out⟩
theorem qw_and (ha : QT X a tA) (hb : QW X (.BoolOp .And (b :: rest) pos) tB') : QW X (.BoolOp .And (a :: b :: rest) pos) (tAnd tA tB') := ⟨pw_and ha.out hb.out⟩
theorem QW.pt (h : QW X a tA) : QT X a tA := ⟨h.out.pt⟩
theorem qt_tru {K : PySem.W.Frag} (ha : QE X a ta) (he : ∀ whole, isTrue a X.env whole = (do let v ← whole; standAt a.pos; holding [v] (truthy v)) := by intro _; rfl) (hK : X.K = K := by rfl) : QT X a (tTru K ta) := by subst hK; exact ⟨pt_tru ha.out he⟩
variable {st : Stmt} {sts : List Stmt}
theorem qss_nil : QSs X [] tNext := ⟨pss_nil⟩
theorem qss_one (h : QS X st t) : QSs X [st] t := ⟨pss_one h.out⟩
theorem qss_cons (h : QS X st t) (h2 : QSs X sts u) : QSs X (st :: sts) (tSeq t u) := ⟨pss_cons h.out h2.out⟩
theorem qs_ret (he : QE X e te) : QS X (.Return (some e) pos) (tRet te) := ⟨ps_ret he.out⟩
theorem qs_set {n : Nat} (hN : X.N.Nodup) (hi : X.N[n]? = some x) (hx : Loc X.env.scope x) (he : QE X e te) (hs : swapsWith e (some (.Name x pos')) pos.line X.env = pure false := by rfl) (hf : X.fn x = true := by rfl) : QS X (.Assign [.Name x pos'] e pos) (tAsg te (gName n)) := ⟨ps_set hN hi hx he.out hs (.inl hf)⟩
theorem qs_aug {n : Nat} {op : Operator} {tip : TIp} (hN : X.N.Nodup) (hi : X.N[n]? = some x) (hx : Loc X.env.scope x) (he : QE X e te) (ho : QIp X op tip) (hf : X.fn x = true := by rfl) : QS X (.AugAssign (.Name x pos') op e pos) (tAug n te tip) := ⟨ps_aug hN hi hx he.out ho.out (.inl hf)⟩
theorem qs_expr (he : QE X e te) (hs : swapsWith e none pos.line X.env = pure false := by rfl) : QS X (.Expr e pos) (tDrop te) := ⟨ps_expr he.out hs⟩
theorem qs_if {sa sb : List Stmt} (hc : QT X c tA) (ha : QSs X sa t) (hb : QSs X sb u) : QS X (.If c sa sb pos) (tIfS tA t u) := ⟨ps_if hc.out ha.out hb.out⟩
theorem qs_while {body : List Stmt} (hp : PassesOwn (model X.prog X.w) X.A X.env X.xe) (hc : QT X c tA) (hb : QSs X body t) : QS X (.While c body [] pos) (tWhile tA t) := ⟨ps_while hp hc.out hb.out⟩
theorem qs_for {tg iter : Expr} {body : List Stmt} {wi : TI} {g : TG} (hp : PassesOwn (model X.prog X.w) X.A X.env X.xe) (hi : QI X tg iter wi) (hg : QG X tg g) (hb : QSs X body t) (hc : X.calm = true := by rfl) (hs : ∀ x, foldedSetIterable iter X.env x = pure x := by intro _; rfl) : QS X (.For tg iter body [] pos) (tFor wi g t) := ⟨ps_for hp hc hi.out hg.out hb.out hs⟩
theorem qg_name {n : Nat} (hN : X.N.Nodup) (hi : X.N[n]? = some x) (hx : Loc X.env.scope x) (hf : X.fn x = true ∨ X.env.scope.names.lookup x = some .local := by first | exact .inl rfl | exact .inr rfl | assumption) : QG X (.Name x pos) (gName n) := ⟨pg_name hN hi hx hf⟩
variable {tg : Expr}
theorem qi_list {K : PySem.W.Frag} (h : QE X e te) (hK : X.K = K := by rfl) : QI X tg e (iList K te) := by subst hK; exact ⟨pi_list h.out⟩
theorem qi_r1 (hm : X.mg "range" = none) (ha : QA X [a] tl) (hg : Gl X "range" := by rfl) (h1 : isStar a = false := by rfl) : QI X tg (.Call (.Name "range" p) [a] [] pos) (iRng1 tl) := ⟨pi_r1 hg hm ha.out h1⟩
theorem qifs_nil : QIfs X [] tYes := ⟨pifs_nil⟩
variable {sc : Scope} {N' : List Str} {k : Nat} {ixs : List Nat} {ifs : List Expr} {wi : TI} {g : TG} {elt : Expr}
theorem qe_comp (C : CompOk X.N X.env.scope.names sc N' k ixs) (hi : QI X tg e wi) (hg : ∀ C s₃ H₃ fp pins, QG (blk X sc N' C s₃ H₃ fp pins) tg g) (hc : ∀ C s₃ H₃ fp pins, QIfs (blk X sc N' C s₃ H₃ fp pins) ifs tA) (he : ∀ C s₃ H₃ fp pins, QE (blk X sc N' C s₃ H₃ fp pins) elt te)
    (hcalm : X.calm = true := by rfl) (hs : ∀ x, foldedSetIterable e X.env x = pure x := by intro _; rfl) : QE X (.ListComp elt [⟨tg, e, ifs, 0⟩] sc pos) (tComp wi k ixs g tA te) :=
  ⟨pe_comp C hcalm hi.out (fun _ _ _ _ _ => (hg _ _ _ _ _).out) (fun _ _ _ _ _ => (hc _ _ _ _ _).out) (fun _ _ _ _ _ => (he _ _ _ _ _).out) hs⟩
theorem qs_setComp {n : Nat} {spos : Pos} (hN : X.N.Nodup) (hiN : X.N[n]? = some x) (hx : Loc X.env.scope x) (C : CompOk X.N X.env.scope.names sc N' k ixs) (hi : QI X tg e wi) (hg : ∀ C s₃ H₃ fp pins, QG (blk X sc N' C s₃ H₃ fp pins) tg g) (hc : ∀ C s₃ H₃ fp pins, QIfs (blk X sc N' C s₃ H₃ fp pins) ifs tA) (he : ∀ C s₃ H₃ fp pins, QE (blk X sc N' C s₃ H₃ fp pins) elt te)
    (hsw : swapsWith (.ListComp elt [⟨tg, e, ifs, 0⟩] sc pos) (some (.Name x pos')) spos.line X.env = pure true := by rfl) (hcalm : X.calm = true := by rfl) (hf : X.fn x = true := by rfl) (hs : ∀ x, foldedSetIterable e X.env x = pure x := by intro _; rfl) :
    QS X (.Assign [.Name x pos'] (.ListComp elt [⟨tg, e, ifs, 0⟩] sc pos) spos) (tAsg (tComp wi k ixs g tA te) (gName n)) :=
  ⟨ps_setComp hN hiN hx C hcalm hi.out (fun _ _ _ _ _ => (hg _ _ _ _ _).out) (fun _ _ _ _ _ => (hc _ _ _ _ _).out) (fun _ _ _ _ _ => (he _ _ _ _ _).out) hsw (.inl hf) hs⟩
theorem q_add {K : PySem.W.Frag} (hK : X.K = K := by rfl) : QOp X (binaryOp .Add) (rAddU K) := by subst hK; exact ⟨p_add⟩
theorem q_sub : QOp X (binaryOp .Sub) (rI0 fun i j => .int (i - j)) := ⟨p_sub⟩
theorem q_mul : QOp X (binaryOp .Mult) rMulU := ⟨p_mul⟩
theorem q_fdiv : QOp X (binaryOp .FloorDiv) (rI CDiv fun i j => .int (i / j)) := ⟨p_fdiv⟩
theorem q_mod : QOp X (binaryOp .Mod) (rI (fun _ j => 0 < j) fun i j => .int (i % j)) := ⟨p_mod⟩
theorem q_eq {K : PySem.W.Frag} (hu : X.A.units + 64 < cLine) (hK : X.K = K := by rfl) : QOp X (compareOp .Eq) (rEqU K) := by subst hK; exact ⟨p_eq hu⟩
theorem q_ne {K : PySem.W.Frag} (hu : X.A.units + 64 < cLine) (hK : X.K = K := by rfl) : QOp X (compareOp .NotEq) (rNeU K) := by subst hK; exact ⟨p_ne hu⟩
theorem q_lt : QOp X (compareOp .Lt) rLtU := ⟨p_lt⟩
theorem q_le : QOp X (compareOp .LtE) rLeU := ⟨p_le⟩
theorem q_gt : QOp X (compareOp .Gt) rGtU := ⟨p_gt⟩
theorem q_in {K : PySem.W.Frag} (hu : X.A.units + 64 < cLine) (hK : X.K = K := by rfl) : QOp X (compareOp .In) (rInU K false) := by subst hK; exact ⟨p_in hu⟩
theorem q_len {K : PySem.W.Frag} (hK : X.K = K := by rfl) : QCall X (.builtin "len") (rLenU K) := by subst hK; exact ⟨p_len⟩
theorem q_append : QMt X "list.append" rAppend := ⟨fun pins s σ H x xs v us Q I rx rv h => mt_append pins s σ H x xs v us Q I rx rv h⟩
theorem q_iadd : QIp X .Add (ipI fun i j => i + j) := ⟨ip_add⟩
end
end L2
set_option maxRecDepth 100000
namespace L2
open PySem PySem.Spec PyProof.Rows
noncomputable def rInM (neg : Bool) (a : Addr) (kvs : List (Key × V)) : R2 := fun x y H Q => y = .ref a ∧ ∃ k, x = kV k ∧ Q (.bl (neg.xor (valV kvs k).isSome)) H
noncomputable def tDGetM (a : Addr) (kvs : List (Key × V)) (to ti : TE) : TE := fun σ H Q => to σ H fun x H1 => ti σ H1 fun y H2 => x = .ref a ∧ ∃ k v, y = kV k ∧ valV kvs k = some v ∧ Q v H2
section
variable {X : Cx} {a : Addr} {kvs : List (Key × V)} {o i : Expr} {to ti : TE} {pos : Pos}
end
theorem kV_str {z : Str} {k : Key} : (V.str z = kV k) = (k = Sum.inr z) := by
  cases k with
  | inl i => exact propext ⟨fun h => (by cases h), fun h => (by cases h)⟩
  | inr x => exact propext ⟨fun h => (by cases h; rfl), fun h => (by cases h; rfl)⟩
theorem ap_inM {neg : Bool} {a b : Addr} {kvs : List (Key × V)} {z : Str} {H : Hp} {Q : VK} : rInM neg a kvs (.str z) (.ref b) H Q = (V.ref b = V.ref a ∧ Q (.bl (neg.xor (valV kvs (Sum.inr z)).isSome)) H) := by
  unfold rInM
  simp only [kV_str, exists_eq_left]
theorem ap_dgetM {a : Addr} {kvs : List (Key × V)} {to ti : TE} {σ : St} {H : Hp} {Q : VK} : tDGetM a kvs to ti σ H Q = to σ H fun x H1 => ti σ H1 fun y H2 => x = .ref a ∧ ∃ k v, y = kV k ∧ valV kvs k = some v ∧ Q v H2 := rfl
noncomputable def WhileIt (c : TT) (tb : TS) (D : Ends) (σ : St) (H : Hp) : Prop := tWhile c tb D σ H
theorem ap_while {c : TT} {tb : TS} {D : Ends} {σ : St} {H : Hp} : tWhile c tb D σ H = WhileIt c tb D σ H := rfl
theorem whileW {c : TT} {tb : TS} {D : Ends} {σ : St} {H : Hp} (Pv : Nat → St → Hp → Prop) (m : Nat) (h0 : Pv m σ H)
    (hs : ∀ m σ H, Pv m σ H → c σ H fun b H1 => if b = true then ∃ N : St → Hp → Prop, (∀ σ' H', N σ' H' → ∃ m', m' < m ∧ Pv m' σ' H') ∧ tb { D with nx := N, ct := N, bk := D.nx } σ H1 else D.nx σ H1) : WhileIt c tb D σ H := ⟨Pv, ⟨m, h0⟩, hs⟩
noncomputable def rTupR (K : PySem.W.Frag) (p : Addr) (H : Hp) (Q : VK) : Prop := ∃ ys, (SqL K H p ys ∧ ∀ l, H l = none → Q (.ref l) (upd H l (.tup ys))) ∨ (SqT K H p ys ∧ Q (.ref p) H)
theorem rTupR.l {K : PySem.W.Frag} {p : Addr} {H : Hp} {Q : VK} {ys : List V} (h1 : SqL K H p ys) (h : ∀ l, H l = none → Q (.ref l) (upd H l (.tup ys))) : rTupR K p H Q := ⟨ys, .inl ⟨h1, h⟩⟩
theorem rTupR.t {K : PySem.W.Frag} {p : Addr} {H : Hp} {Q : VK} {ys : List V} (h1 : SqT K H p ys) (h : Q (.ref p) H) : rTupR K p H Q := ⟨ys, .inr ⟨h1, h⟩⟩
noncomputable def rTupU (K : PySem.W.Frag) : List V → Hp → VK → Prop
  | [.ref p], H, Q => rTupR K p H Q
  | _, _, _ => False
theorem tup_r {K : PySem.W.Frag} {p : Addr} {H : Hp} {Q : VK} : rTupU K [.ref p] H Q = rTupR K p H Q := rfl
noncomputable def rMin : List V → Hp → VK → Prop := fun xs H Q => ∃ i j, xs = [.int i, .int j] ∧ Q (.int (if j < i then j else i)) H
noncomputable def rMax : List V → Hp → VK → Prop := fun xs H Q => ∃ i j, xs = [.int i, .int j] ∧ Q (.int (if j > i then j else i)) H
theorem min_ii {i j : Int} {H : Hp} {Q : VK} : rMin [.int i, .int j] H Q = Q (.int (if j < i then j else i)) H := propext ⟨fun ⟨_, _, e, q⟩ => (by cases e; exact q), fun q => ⟨_, _, rfl, q⟩⟩
theorem max_ii {i j : Int} {H : Hp} {Q : VK} : rMax [.int i, .int j] H Q = Q (.int (if j > i then j else i)) H := propext ⟨fun ⟨_, _, e, q⟩ => (by cases e; exact q), fun q => ⟨_, _, rfl, q⟩⟩
noncomputable def rCalm (calm : Bool) (r : List V → Hp → VK → Prop) : List V → Hp → VK → Prop := fun xs H Q => calm = true ∧ r xs H Q
theorem ap_calm {r : List V → Hp → VK → Prop} {xs : List V} {H : Hp} {Q : VK} : rCalm true r xs H Q = r xs H Q := propext ⟨fun h => h.2, fun h => ⟨rfl, h⟩⟩
end L2
set_option maxRecDepth 100000
namespace L2
open PySem PySem.Spec PyProof.Rows
open PySem.Builtin PySem.Builtin.Str PySem.StrLaws
noncomputable def tSeqM (t u : TS) : TS := fun D σ H => ∃ M : St → Hp → Prop, t { D with nx := M } σ H ∧ ∀ σ' H', M σ' H' → u D σ' H'
theorem qss_consM {X : Cx} {st : Stmt} {rest : List Stmt} {t u : TS} (h1 : QS X st t) (h2 : QSs X rest u) : QSs X (st :: rest) (tSeqM t u) := ⟨by
  intro pins s σ H D I h
  obtain ⟨M, h, hm⟩ := h
  refine wpAny_execs_cons (thn (h1.out pins s σ H { D with nx := M } I h) fun f s1 q => ?_)
  cases f with
  | next =>
    obtain ⟨σ', H', I', q⟩ := q
    exact h2.out pins s1 σ' H' D I' (hm _ _ q)
  | ret v => exact q
  | brk => exact q
  | cont => exact q⟩
theorem mid {t u : TS} {D : Ends} {σ : St} {H : Hp} (M : St → Hp → Prop) (h : t { D with nx := M } σ H) (h2 : ∀ σ' H', M σ' H' → u D σ' H') : tSeqM t u D σ H := ⟨M, h, h2⟩
theorem ap_disp {trs : List (TE × TE)} {σ : St} {H : Hp} {Q : VK} : tDisp trs σ H Q = ∀ p, H p = none → tPairs trs σ (upd H p (.dK [])) fun ps H2 => H2 p = some (.dK []) ∧ ∃ kvs : List (Key × V), ps = kvs.map (fun kv => (kV kv.1, kv.2)) ∧ kvs.length ≤ 15 ∧ Q (.ref p) (upd H2 p (.dK (mergeK [] kvs))) := rfl
theorem ap_pnil {σ : St} {H : Hp} {Q : List (V × V) → Hp → Prop} : tPairs [] σ H Q = Q [] H := rfl
theorem ap_pcons {tk tv : TE} {r : List (TE × TE)} {σ : St} {H : Hp} {Q : List (V × V) → Hp → Prop} : tPairs ((tk, tv) :: r) σ H Q = tk σ H fun x H1 => tv σ H1 fun y H2 => tPairs r σ H2 fun ps H3 => Q ((x, y) :: ps) H3 := rfl
theorem ap_dget2 {td ty tx : TE} {σ : St} {H : Hp} {Q : VK} : tDGet2 td ty tx σ H Q = td σ H fun x H1 => ∃ a, x = .ref a ∧ IsD H1 a ∧ ty σ H1 fun y H2 => tx σ H2 fun z H3 => ∃ o, DGet H3 a y o ∧ Q (o.getD z) H3 := rfl
theorem sub_one {x : Str} {c i : Nat} : subAt x ⟨#[c]⟩ i = (x.cps.toList[i]? == some c) := by
  rw [subAt_eq]
  show ((x.cps.toList.drop i).take 1 == [c]) = _
  rw [Bool.eq_iff_iff, take1_drop, beq_iff_eq]
end L2
set_option maxRecDepth 100000
namespace L2
open PySem PySem.Spec PyProof.Rows
theorem entry_dict_loop : entryFor table "dict.update.loop" = some Builtin.«dict.update.loop» := entryFor_of_tree (by kernel_rfl)
theorem plain_dict_loop : plainId "dict.update.loop" = true := by decide +kernel
section
variable {prog : Program} {w : World} {A : Around} {R : Result → Shared → Prop} {I : Addr} {fp wr : List Addr} {G : Array GenState → Array GenState → Prop} {n : Nat} {P : Nat → Value → Prop} {St : Nat → Shared → Prop}
variable {K : Type} [DecidableEq K] {knd : KeyKind prog w K}
noncomputable def storedN (ks : Nat → K) (vl : Nat → Value) : Nat → List (K × Value)
  | 0 => []
  | i + 1 => stored (storedN ks vl i) (ks i) (vl i)
theorem storedN_len (ks : Nat → K) (vl : Nat → Value) : ∀ i, (storedN ks vl i).length ≤ i
  | 0 => Nat.le_refl _
  | i + 1 => by
    have h1 := storedN_len ks vl i
    have h2 : (stored (storedN ks vl i) (ks i) (vl i)).length ≤ (storedN ks vl i).length + 1 := by
      unfold stored
      split
      · rw [List.length_map]; omega
      · rw [List.length_append]; exact Nat.le_refl _
    show (stored (storedN ks vl i) (ks i) (vl i)).length ≤ i + 1
    omega
theorem dict_loop (W : WalksS prog w A.in1 I fp wr G n P St) (d : Addr) (hdf : d ∉ fp) (tp : Nat → Addr) (ky vl : Nat → Value) (ks : Nat → K) (hP : ∀ i v, P i v → v = .ref (tp i)) (hk : ∀ i, i < n → knd.is (ks i) (ky i) = true)
    (ht : ∀ i, i < n → tp i ≠ d ∧ tp i ∉ wr) (hn : n ≤ sizeLine) :
    ∀ (k i : Nat) (s : Shared) (j : Int) (t : Tok), n - i = k → i ≤ n → St i s → (∀ i, i < n → IsTup s.heap (tp i) #[ky i, vl i]) → s.heap.DictOf knd d (storedN ks vl i) →
      (∀ s', Moved (d :: wr) G s s' → s'.heap.DictOf knd d (storedN ks vl n) → R (.ok (.ret .none)) s') →
      codeAny (model prog w) A (.builtin "dict.update.loop" ⟨[.ref d, .ref I, .int j t, .none], []⟩) R s := by
  have hdw : d ∉ wr := fun h => hdf (W.sub _ h)
  have hsub : ∀ b ∈ wr, b ∈ d :: wr := fun b hb => List.mem_cons_of_mem _ hb
  intro k
  induction k with
  | zero =>
    intro i s j t hk' hi hst hT hD hR
    have hin : i = n := by omega
    subst hin
    refine codeAny_builtin entry_dict_loop ?_
    rw [Around.under_plainId plain_dict_loop _]
    show wpAny _ A.in1 (pyNext (.ref I) >>= _) _ _ s
    refine wpAny_bind (W.done s _ _ hst fun s' hm => ?_)
    have e0 : Builtin.Dict.addKeywords d [] = pure () := rfl
    show wpAny _ A.in1 (Builtin.Dict.addKeywords d [] >>= fun _ => ret Value.none) _ _ s'
    rw [e0]
    refine wpAny_bind (wpAny_pure (wpAny_pure (hR s' (hm.mono hsub) ?_)))
    obtain ⟨o, es, ep, ho, rest⟩ := hD
    exact ⟨o, es, ep, hm.heap d _ hdw ho, rest⟩
  | succ k ih =>
    intro i s j t hk' hi hst hT hD hR
    have hlt : i < n := by omega
    refine codeAny_builtin entry_dict_loop ?_
    rw [Around.under_plainId plain_dict_loop _]
    show wpAny _ A.in1 (pyNext (.ref I) >>= _) _ _ s
    refine wpAny_bind (W.item i s _ _ hlt hst fun v s' hv hst' hm => ?_)
    obtain rfl := hP i v hv
    have hD' : s'.heap.DictOf knd d (storedN ks vl i) := by
      obtain ⟨o, es, ep, ho, rest⟩ := hD
      exact ⟨o, es, ep, hm.heap d _ hdw ho, rest⟩
    have hT' : ∀ i, i < n → IsTup s'.heap (tp i) #[ky i, vl i] := fun i hi => by
      obtain ⟨o, ho, rest⟩ := hT i hi
      exact ⟨o, hm.heap _ _ (ht i hi).2 ho, rest⟩
    have hTi := hT' i hlt
    obtain ⟨o, ho, hoc, n0, hod⟩ := id hTi
    refine wpAny_bind (wpAny_holding (wpAny_bind (wpAny_tryCatch ?_)))
    unfold Builtin.Dict.pairItems
    refine wpAny_bind (wpAny_typeOf hTi.typeIs ?_)
    rw [if_pos (by decide)]
    refine wpAny_bind (wpAny_seqItems ho hod ?_)
    refine wpAny_pure ?_
    show wpAny _ _ (holding [ky i, vl i] (dictSet d (ky i) (vl i))) _ _ s'
    have hl := storedN_len ks vl i
    refine wpAny_holding (wpAny_dictSet_pairs (hk i hlt) hD' (fun h' hD2 hsb => ?_) (by omega))
    refine wpAny_pure ⟨plainId_quiet plain_dict_loop _, ih (i + 1) _ (j + 1) 0 (by omega) hlt (W.frame _ s' _ _ hst' (Nat.le_succ _) fun b hb o e => ?_) (fun i hi => ?_) hD2 fun s'' hm'' hD'' => ?_⟩
    · rw [hsb.2 b (fun h : b = d => hdf (by rw [← h]; exact hb))]; exact e
    · obtain ⟨o, ho, rest⟩ := hT' i hi
      exact ⟨o, (hsb.2 _ (ht i hi).1).trans ho, rest⟩
    · refine hR s'' (Moved.trans W.gtrans ((hm.mono hsub).then_heap (Nat.le_succ _) fun b o hb e => ?_) hm'') hD''
      rw [hsb.2 b (fun h : b = d => hb (by rw [h]; exact List.mem_cons_self))]; exact e
end
theorem lk_list_ga : typeLookup (.type "list") "__getattribute__" = pure (some (.builtin "list.__getattribute__")) := by rw [typeLookup_type, builtinLookup_eq_fast]; kernel_rfl
theorem lk_list_keys : typeLookup (.type "list") "keys" = pure none := by rw [typeLookup_type, builtinLookup_eq_fast]; kernel_rfl
theorem lk_list_hook : typeLookup (.type "list") "__getattr__" = pure none := by rw [typeLookup_type, builtinLookup_eq_fast]; kernel_rfl
theorem list_no_keys {prog : Program} {w : World} {A : Around} {E : Value → Shared → Prop} {s : Shared} {l : Addr} {o : Obj} {xs : Array Value} {k : Nat} {Q : Option Value → Shared → Prop} (hx : s.heap.get? l = some o) (hc : o.cls = .type "list") (hdat : o.data = .seq xs k) (hd : o.dict = none) (hA : A.handled = none)
    (h : ∀ h' tk, (∀ b o, s.heap.get? b = some o → h'.get? b = some o) → Q none { s with heap := h', toks := tk }) : wpAny (model prog w) A (getAttr? (.ref l) "keys") Q E s := by
  obtain ⟨c, dct, dat, sl⟩ := o
  simp only at hc hdat hd
  subst hc hdat hd
  obtain ⟨hp, g, d, tk, os⟩ := s
  have hT : ∀ tk', (⟨hp, g, d, tk', os⟩ : Shared).TypeIs (.ref l) "list" := fun _ => ⟨_, hx, rfl⟩
  have f4 := F.slot_list_getattribute.bind (.ref l)
  unfold getAttr? getAttrBy? getAttrBy
  refine wpAny_bind (wpAny_mkText (wpAny_bind (wpAny_attempt (wpAny_holding (wpAny_bind (wpAny_typeOf (hT _) ?_))))))
  rw [lk_list_ga]
  refine wpAny_bind (wpAny_pure ?_)
  show wpAny _ _ (getAttrByItsOwn _ _ _ _ _ _) _ _ _
  unfold getAttrByItsOwn
  refine wpAny_bind (wpAny_pure ?_)
  refine wpAny_bind (wpAny_attempt (wpAny_holding ?_))
  show wpAny _ _ (boundAndCalled _ _ _) _ _ _
  unfold boundAndCalled
  rw [f4]
  refine wpAny_bind (wpAny_pure ?_)
  refine call_meets F.slot_list_getattribute (hT _) am_entry_list_getattribute (F.args_list_getattribute_2 _ _) (meets_getattribute_miss_list l xs k sl "keys" _ lk_list_keys (by decide +kernel) (by decide +kernel)) ⟨hx, hA, fun h' tk' e new => ?_⟩
  obtain ⟨t', u', he⟩ := new.there
  have hTe : ∀ tk', (⟨h', g, d, tk', os⟩ : Shared).TypeIs (.ref e) "AttributeError" := fun _ => ⟨_, he, rfl⟩
  show wpAny _ _ (getattributeRaised _ _ _ _ _ _ _) _ _ _
  unfold getattributeRaised
  refine wpAny_bind (wpAny_isInstance (hTe _) sub_AttributeError ?_)
  rw [if_pos rfl]
  show wpAny _ _ (hookBehind _ _ >>= _) _ _ _
  unfold hookBehind
  rw [if_neg (by decide), lk_list_hook]
  refine wpAny_bind (wpAny_pure ?_)
  unfold hookOrError attributeErrorLeaves
  show wpAny _ _ (if (!false) = true then _ else _) _ _ _
  rw [if_pos (by decide)]
  refine wpAny_bind (wpAny_throw ?_)
  show wpAny _ _ (isInstance _ _ >>= _) _ _ _
  refine wpAny_bind (wpAny_isInstance (hTe _) sub_AttributeError ?_)
  rw [if_pos rfl]
  exact wpAny_pure (h h' tk' new.keeps)
section
variable {prog : Program} {w : World} {A : Around} {E : Value → Shared → Prop} {s : Shared} {K : Type} [DecidableEq K] {knd : KeyKind prog w K}
theorem dict_pairs_call {l : Addr} {items : Array Value} {Q : Value → Shared → Prop} (hl : PlainL s.heap l items) (hA : A.handled = none) (tp : Nat → Addr) (ky vl : Nat → Value) (ks : Nat → K) (hP : ∀ (i : Nat) (v : Value), items[i]? = some v → v = Value.ref (tp i)) (hk : ∀ i, i < items.size → knd.is (ks i) (ky i) = true)
    (hT : ∀ i, i < items.size → IsTup s.heap (tp i) #[ky i, vl i]) (hn : items.size ≤ sizeLine)
    (h : ∀ h' tk, (∀ b o, s.heap.get? b = some o → h'.get? b = some o) → h'.DictOf knd s.heap.objs.size (storedN ks vl items.size) → Q (.ref s.heap.objs.size) { s with heap := h', toks := tk }) :
    wpAny (model prog w) A (call (.type "dict") [.ref l]) Q E s := by
  refine callType_codes (Q₁ := fun obj s₁ => obj = .ref s.heap.objs.size ∧ s₁ = { s with heap := s.heap.push { cls := .type "dict", data := .dict #[] } }) F.kt_called_dict (F.kt_typeCall_dict_1 _) F.entry_dict_init (kt_code_dict_new _ ⟨rfl, rfl⟩) ?_
  rintro obj s₁ ⟨rfl, rfl⟩
  have hnew : (s.heap.push { cls := .type "dict", data := .dict #[] }).DictOf knd s.heap.objs.size [] := Heap.DictOf.new s.heap
  obtain ⟨ol, nl, hol, hlc, hld, hldat⟩ := hl
  have hol1 : (s.heap.push { cls := .type "dict", data := .dict #[] }).get? l = some ol := Heap.get?_push_of_some _ hol
  have hlt : l < s.heap.objs.size := Heap.lt_size hol
  refine ⟨hnew.typeIs, F.args_dict_init_2 _ _, ?_⟩
  unfold Builtin.«dict.__init__»
  refine wpAny_bind ?_
  unfold Builtin.Dict.selfAndRest
  refine wpAny_bind (wpAny_notOrdered_dict hnew.typeIs ?_)
  show wpAny _ _ (pure (s.heap.objs.size, [Value.ref l])) _ _ _
  refine wpAny_pure ?_
  show wpAny _ _ (Builtin.Dict.updateFrom "dict.__init__" s.heap.objs.size (.ref l) [] .none) _ _ _
  unfold Builtin.Dict.updateFrom
  refine wpAny_bind (wpAny_typeOf (T := "list") ⟨_, hol1, hlc⟩ ?_)
  rw [if_pos (by decide)]
  refine wpAny_bind (list_no_keys hol1 hlc hldat hld (by simp [hA]) fun h2 tk2 keep2 => ?_)
  rw [if_pos (show (none : Option Value).isNone = true from rfl)]
  refine wpAny_bind (wpAny_rule ?_)
  have hl2 : h2.IsList l items := ⟨ol, keep2 _ _ hol1, hlc, nl, hldat⟩
  refine wpAny_bind (wpAny_pyIter_list hl2 ?_)
  obtain ⟨od, es, ep, hod, restd⟩ := hnew
  have hdlt : s.heap.objs.size < h2.objs.size := Heap.lt_size (keep2 _ _ hod)
  have hne : l ≠ h2.objs.size := Nat.ne_of_lt (Nat.lt_trans hlt hdlt)
  have hh : A.in1.in1.handled = none := by simp [hA]
  have hdf : s.heap.objs.size ∉ [h2.objs.size, l] := by
    simp only [List.mem_cons, List.not_mem_nil, or_false, not_or]
    exact ⟨Nat.ne_of_lt hdlt, Nat.ne_of_gt hlt⟩
  have htl : ∀ i, i < items.size → tp i < s.heap.objs.size := fun i hi => by
    obtain ⟨o, ho, _⟩ := hT i hi
    exact Heap.lt_size ho
  refine wpAny_pure ⟨plainId_quiet plain_dict_loop _, dict_loop ((Walks.list hh _ l hne items).toS) s.heap.objs.size hdf tp ky vl ks hP hk (fun i hi => ⟨Nat.ne_of_lt (htl i hi), ?_⟩) hn (items.size - 0) 0 _ 0 0 (by omega) (Nat.zero_le _) ⟨⟨_, Heap.get?_push_size _ rfl, rfl, rfl⟩, hl2.push _⟩ (fun i hi => ?_) ?_ fun s' hm hD' => ?_⟩
  · simp only [List.mem_cons, List.not_mem_nil, or_false]
    exact Nat.ne_of_lt (Nat.lt_trans (htl i hi) hdlt)
  · obtain ⟨o, ho, rest⟩ := hT i hi
    exact ⟨o, Heap.get?_push_of_some _ (keep2 _ _ (Heap.get?_push_of_some _ ho)), rest⟩
  · exact ⟨od, es, ep, Heap.get?_push_of_some _ (keep2 _ _ hod), restd⟩
  · obtain ⟨h', g', d', tk', os'⟩ := s'
    have eg : g' = s.gens := hm.gens
    have ed : d' = s.drawn := hm.drawn
    have eo : os' = s.os := hm.os
    subst eg ed eo
    refine ⟨rfl, h h' tk' (fun b o hb => hm.heap b o ?_ (Heap.get?_push_of_some _ (keep2 _ _ (Heap.get?_push_of_some _ hb)))) hD'⟩
    have hblt : b < s.heap.objs.size := Heap.lt_size hb
    simp only [List.mem_cons, List.not_mem_nil, or_false, not_or]
    exact ⟨Nat.ne_of_lt hblt, Nat.ne_of_lt (Nat.lt_trans hblt hdlt)⟩
end
noncomputable def rDictP (K : PySem.W.Frag) (calm : Bool) : List V → Hp → VK → Prop := fun xs H Q => calm = true ∧ ∃ (p : Addr) (ts : List Addr) (kxs : List (Key × V)), xs = [.ref p] ∧ SqL K H p (ts.map V.ref) ∧ Paired (fun t kx => SqT K H t [kV kx.1, kx.2]) ts kxs ∧ ∀ d, H d = none → Q (.ref d) (upd H d (.dK (mergeK [] kxs)))
theorem pairs_at {X : Cx} {pins : List (Addr × Obj)} {σ : St} {H : Hp} {s : Shared} (I : Inv X pins σ H s) : ∀ {ts : List Addr} {kxs : List (Key × V)}, Paired (fun t kx => SqT X.K H t [kV kx.1, kx.2]) ts kxs →
    ∃ ws : List (Value × Value), Paired (fun t w => IsTup s.heap t #[w.1, w.2]) ts ws ∧ Paired (fun (kx : Key × V) (w : Value × Value) => keyIs kx.1 w.1 = true ∧ RelV kx.2 w.2) kxs ws
  | _, _, .nil => ⟨[], .nil, .nil⟩
  | _, _, .cons h t => by
    obtain ⟨ws, h1, h2⟩ := pairs_at I t
    obtain ⟨its, r, ht, _⟩ := I.tuple h
    obtain ⟨u1, u2, rfl, r1, r2⟩ := vals2 r
    exact ⟨(u1, u2) :: ws, .cons ht h1, .cons ⟨kV_is (P := X.prog) (w := X.w) r1, r2⟩ h2⟩
theorem refs_at : ∀ {ts : List Addr} {us : List Value}, Vals (ts.map V.ref) us → us = ts.map Value.ref
  | [], _, .nil => rfl
  | t :: ts, _ :: _, .cons h r => by
    rw [List.map_cons, ← refs_at r]
    cases h
    rfl
theorem q_dictP {X : Cx} {K : PySem.W.Frag} {calm : Bool} (hK : X.K = K := by rfl) (hc : X.calm = calm := by rfl) : QCall X (.type "dict") (rDictP K calm) := ⟨by
  subst hK
  intro pins s σ H xs us Q I r h
  obtain ⟨hcm, p, ts, kxs, rfl, hp, hP, q⟩ := h
  obtain ⟨u, rfl, rx⟩ := vals1 r
  cases rx
  obtain ⟨its, r', pl, hz⟩ := I.list hp
  have hits := refs_at r'
  obtain ⟨ws, h1, h2⟩ := pairs_at I hP
  have hl1 : ts.length = ws.length := Paired.length h1
  have hl2 : kxs.length = ws.length := Paired.length h2
  rw [List.length_map] at hz
  have hsz : its.toArray.size = ts.length := by rw [List.size_toArray, hits, List.length_map]
  have hrel : ∀ i, i ≤ ts.length → KV (mergeK [] (kxs.take i)) (storedN (fun i => (kxs.getD i (Sum.inl 0, .non)).1) (fun i => (ws.getD i (.none, .none)).2) i) := by
    intro i
    induction i with
    | zero => intro _; exact .nil
    | succ i ih =>
      intro hi
      have hi1 : i < kxs.length := by omega
      obtain ⟨w', hw, hr⟩ := Paired.at h2 (List.getElem?_eq_getElem hi1)
      have e1 : mergeK [] (kxs.take (i + 1)) = putK (mergeK [] (kxs.take i)) kxs[i].1 kxs[i].2 := by
        unfold mergeK
        rw [List.take_add_one, List.getElem?_eq_getElem hi1, Option.toList_some, List.foldl_append]
        rfl
      rw [e1]
      show KV _ (stored _ (kxs.getD i (Sum.inl 0, .non)).1 (ws.getD i (.none, .none)).2)
      have e2 : (kxs.getD i (Sum.inl 0, .non)) = kxs[i] := by rw [List.getD_eq_getElem?_getD, List.getElem?_eq_getElem hi1]; rfl
      have e3 : (ws.getD i (.none, .none)) = w' := by rw [List.getD_eq_getElem?_getD, hw]; rfl
      rw [e2, e3]
      exact (ih (by omega)).put _ hr.2
  refine dict_pairs_call (knd := mixKind X.prog X.w) pl (I.ok.hd (hc.trans hcm)) (fun i => ts.getD i 0) (fun i => (ws.getD i (.none, .none)).1) (fun i => (ws.getD i (.none, .none)).2) (fun i => (kxs.getD i (Sum.inl 0, .non)).1) (fun i v hv => ?_) (fun i hi => ?_) (fun i hi => ?_) (by omega) fun h' tk keep hD => ?_
  · rw [← Array.getElem?_toList, hits, List.getElem?_map] at hv
    rw [List.getD_eq_getElem?_getD]
    cases e : ts[i]? with
    | none => rw [e] at hv; cases hv
    | some t => rw [e] at hv; cases hv; rfl
  · obtain ⟨w', hw, hr⟩ := Paired.at h2 (List.getElem?_eq_getElem (show i < kxs.length by omega))
    have e2 : (kxs.getD i (Sum.inl 0, .non)) = kxs[i]'(by omega) := by rw [List.getD_eq_getElem?_getD, List.getElem?_eq_getElem (show i < kxs.length by omega)]; rfl
    have e3 : (ws.getD i (.none, .none)) = w' := by rw [List.getD_eq_getElem?_getD, hw]; rfl
    rw [e2, e3]
    exact hr.1
  · have hi' : i < ts.length := by omega
    obtain ⟨w', hw, hr⟩ := Paired.at h1 (List.getElem?_eq_getElem hi')
    have e3 : (ws.getD i (.none, .none)) = w' := by rw [List.getD_eq_getElem?_getD, hw]; rfl
    have e4 : ts.getD i 0 = ts[i] := by rw [List.getD_eq_getElem?_getD, List.getElem?_eq_getElem hi']; rfl
    rw [e3, e4]
    exact hr
  · have hD2 : KV (mergeK [] kxs) (storedN (fun i => (kxs.getD i (Sum.inl 0, .non)).1) (fun i => (ws.getD i (.none, .none)).2) its.toArray.size) := by
      have := hrel ts.length (Nat.le_refl _)
      rw [List.take_of_length_le (by omega)] at this
      rw [hsz]
      exact this
    have hlen := length_mergeK kxs []
    rw [List.length_nil] at hlen
    exact ⟨.ref s.heap.objs.size, _, I.laid (t' := tk) keep (Nat.le_refl _) (dk_new (by omega) (beq_eq_false_iff_ne.mpr (Ne.symm (Nat.ne_of_lt I.big))) hD2 hD), rfl, q _ (I.hok.fresh (Nat.le_refl _))⟩⟩
end L2
set_option maxRecDepth 100000
namespace L2
open PySem PySem.Spec PyProof.Rows
section
variable {X : Cx} {pins : List (Addr × Obj)} {σ : St} {H : Hp} {s : Shared} {h' : Heap}
end
noncomputable def Itz (l1 l2 : Addr) : It :=
  ⟨fun i H => ∃ xs ys x y, H l1 = some (.lst xs) ∧ H l2 = some (.lst ys) ∧ xs[i]? = some x ∧ ys[i]? = some y,
   fun i H v H' => ∃ t xs ys x y, H l1 = some (.lst xs) ∧ H l2 = some (.lst ys) ∧ xs[i]? = some x ∧ ys[i]? = some y ∧ H t = none ∧ v = .ref t ∧ H' = upd H t (.tup [x, y]),
   fun i H => ∃ xs ys, H l1 = some (.lst xs) ∧ H l2 = some (.lst ys) ∧ (xs.length ≤ i ∨ ys.length ≤ i)⟩
section
variable {X : Cx}
noncomputable def iZip (ta : TA) : TI := fun σ H R => ta σ H fun vs H1 => ∃ (l1 l2 : Addr) (xs ys : List V), vs = [.ref l1, .ref l2] ∧ H1 l1 = some (.lst xs) ∧ H1 l2 = some (.lst ys) ∧ R (Itz l1 l2) H1
end
theorem ap_izip {ta : TA} {σ : St} {H : Hp} {R : It → Hp → Prop} : iZip ta σ H R = ta σ H fun vs H1 => ∃ (l1 l2 : Addr) (xs ys : List V), vs = [.ref l1, .ref l2] ∧ H1 l1 = some (.lst xs) ∧ H1 l2 = some (.lst ys) ∧ R (Itz l1 l2) H1 := rfl
noncomputable def Itr3 (lo st : Int) (n : Nat) : It := ⟨fun i _ => i < n, fun i H x H' => H' = H ∧ x = .int (lo + i * st), fun i _ => n ≤ i⟩
noncomputable def tDSetD (td ty tx : TE) : TE := fun σ H Q => td σ H fun x H1 => ∃ a, x = .ref a ∧ IsD H1 a ∧ ty σ H1 fun y H2 => tx σ H2 fun z H3 => ∃ kvs k, H3 a = some (.dK kvs) ∧ kvs.length < sizeLine ∧ y = kV k ∧
  (∀ v, valV kvs k = some v → Q v H3) ∧ (valV kvs k = none → Q z (upd H3 a (.dK (putK kvs k z))))
section
variable {X : Cx} {o e f : Expr} {apos cpos : Pos} {td ty tx : TE} {pins : List (Addr × Obj)} {σ : St} {H : Hp} {s : Shared} {a : Addr} {A : Around} {E : Value → Shared → Prop}
theorem ap_dsetd : tDSetD td ty tx σ H Q = td σ H fun x H1 => ∃ a, x = .ref a ∧ IsD H1 a ∧ ty σ H1 fun y H2 => tx σ H2 fun z H3 => ∃ kvs k, H3 a = some (.dK kvs) ∧ kvs.length < sizeLine ∧ y = kV k ∧
  (∀ v, valV kvs k = some v → Q v H3) ∧ (valV kvs k = none → Q z (upd H3 a (.dK (putK kvs k z)))) := rfl
end
section
variable {X : Cx} {tg : Expr}
noncomputable def rsz (i j k : Int) : Nat := (if i < j then (j - i - 1) / k + 1 else 0).toNat
noncomputable def iRng3 (ta : TA) : TI := fun σ H R => ta σ H fun vs H1 => ∃ i j k : Int, vs = [.int i, .int j, .int k] ∧ (-(2 ^ 60) ≤ i ∧ i < 2 ^ 60 ∧ -(2 ^ 60) ≤ j ∧ j < 2 ^ 60 ∧ 0 < k ∧ k < 1000000) ∧ R (Itr3 i k (rsz i j k)) H1
end
theorem ap_irng3 {ta : TA} {σ : St} {H : Hp} {R : It → Hp → Prop} : iRng3 ta σ H R = ta σ H fun vs H1 => ∃ i j k : Int, vs = [.int i, .int j, .int k] ∧ (-(2 ^ 60) ≤ i ∧ i < 2 ^ 60 ∧ -(2 ^ 60) ≤ j ∧ j < 2 ^ 60 ∧ 0 < k ∧ k < 1000000) ∧ R (Itr3 i k (rsz i j k)) H1 := rfl
section
variable {X : Cx} {pins : List (Addr × Obj)} {σ : St} {H : Hp} {s : Shared} {a : Addr}
end
noncomputable def Itd (a : Addr) (o : Obj) (kvs : List (Key × V)) : It :=
  ⟨fun i H => H a = some (.frz o (.dK kvs)) ∧ i < kvs.length, fun i H x H' => H' = H ∧ ∃ k v, kvs[i]? = some (k, v) ∧ x = kV k, fun i H => H a = some (.frz o (.dK kvs)) ∧ kvs.length ≤ i⟩
noncomputable def Ends.thaw (D : Ends) (a : Addr) (kvs : List (Key × V)) : Ends where
  nx := fun σ H => (∃ o, H a = some (.frz o (.dK kvs))) ∧ D.nx σ (upd H a (.dK kvs))
  rt := fun v H => (∃ o, H a = some (.frz o (.dK kvs))) ∧ D.rt v (upd H a (.dK kvs))
noncomputable def tForD (tl : TE) (g : TG) (tb : TS) : TS := fun D σ H => tl σ H fun x H1 => ∃ a kvs, x = .ref a ∧ H1 a = some (.dK kvs) ∧ ∀ o, ForIt (Itd a o kvs) g tb (D.thaw a kvs) σ (upd H1 a (.frz o (.dK kvs)))
theorem ap_forD {tl : TE} {g : TG} {tb : TS} {D : Ends} {σ : St} {H : Hp} : tForD tl g tb D σ H = tl σ H fun x H1 => ∃ a kvs, x = .ref a ∧ H1 a = some (.dK kvs) ∧ ∀ o, ForIt (Itd a o kvs) g tb (D.thaw a kvs) σ (upd H1 a (.frz o (.dK kvs))) := rfl
end L2
set_option maxRecDepth 100000
namespace L2
open PySem PySem.Spec PyProof.Rows
section
variable {prog : Program} {w : World} {A : Around} {E : Value → Shared → Prop} {h : Heap} {g : Array GenState} {d : Drawn} {t : Nat} {os : OsState}
variable {nm q : Str} {C N : Addr} {bs bm bmB : List Value} {hdct : Bool} {sn : List Str} {sub : List Value} {ab : Bool} {col : Option Bool} {dd : Option Addr} {k0 k1 k2 k3 k5 : Option Value} {B Bn newId nid initId inN : String} {bmN : List Value}
theorem exc_make (Fn : ExcBaseFacts Bn newId inN bmN) (hBn : bmB.contains (.type Bn) = true) (F : ExcBaseFacts B nid initId bmB) (T : OwnTail h bmB bm) {mN : Str → Option Value} {rest : List Value} {f : Addr} {of : Obj} {Q : Value → Shared → Prop}
    (hC : h.get? C = some (excClassObj nm q C N bs bm hdct sn sub ab col dd k0 k1 k2 k3 k5 newId)) (hn : h.Ns N mN) (hni : mN "__init__" = some (.ref f)) (hfo : h.get? f = some of) (hfc : of.cls = .type "function") (hrest : rest.length ≤ sizeLine)
    (hq : codeAny (model prog w) (A.under (.builtin "type.__call__" ⟨.ref C :: rest, []⟩)) (.call (.ref f) ⟨.ref (h.objs.size + 1) :: rest, []⟩) (fun r s' => match r with | .ok (.ret v) => v = .none ∧ Q (.ref (h.objs.size + 1)) s' | .ok _ => False | .error e => E e s')
      ⟨(h.push { cls := .type "tuple", data := .seq rest.toArray }).push { cls := .ref C, data := .fields #[.ref h.objs.size, .none, .none, .none, .bool false, .none] }, g, d, t, os⟩) :
    wpAny (model prog w) A (call (.ref C) rest) Q E ⟨h, g, d, t, os⟩ := by
  have f1 := tc_lookup; have f2 := tc_bind (.ref C)
  have hT : (⟨h, g, d, t, os⟩ : Shared).TypeIs (.ref C) "type" := ⟨_, hC, rfl⟩
  refine wpAny_call (codeAny_of_tree ?_); show wpAny _ _ (callAny (.ref C) _) _ _ _
  repeat (any_goals (first | assumption | with_reducible refine wpAny_loadPart_at hC ?_ | wp_step))
  refine ⟨rfl, ?_⟩
  refine codeAny_call_builtin_at (Code.quiet_builtin _ (by decide +kernel)) entry_typeCall (wpAny_check_type_call_sub hC ?_)
  repeat (first | with_reducible refine wpAny_loadPart_at hC ?_ | with_reducible refine wpAny_madeBy_exc hC ?_ | wp_step)
  refine codeAny_call_builtin_code (Code.quiet_builtin _ Fn.quiet) (wpAny_check_new_subU Fn hBn T hC ?_)
  refine codeAny_exc_new_subU Fn hBn F T hC ?_ hrest
  show wpAny _ _ _ _ _ ⟨(h.push { cls := .type "tuple", data := .seq rest.toArray }).push { cls := .ref C, data := .fields #[.ref h.objs.size, .none, .none, .none, .bool false, .none] }, g, d, t, os⟩
  generalize hh1 : ((h.push { cls := .type "tuple", data := .seq rest.toArray }).push { cls := .ref C, data := .fields #[.ref h.objs.size, .none, .none, .none, .bool false, .none] }) = h1 at hq ⊢
  have keep : ∀ b o, h.get? b = some o → h1.get? b = some o := fun b o e => by rw [← hh1]; exact Heap.get?_push_of_some _ (Heap.get?_push_of_some _ e)
  have hC1 := keep _ _ hC
  have hn1 : h1.Ns N mN := let ⟨o, es, ep, e, r⟩ := hn; ⟨o, es, ep, keep _ _ e, r⟩
  have hget : h1.get? (h.objs.size + 1) = some { cls := .ref C, data := .fields #[.ref h.objs.size, .none, .none, .none, .bool false, .none] } := by rw [← hh1]; heap_get
  have hcC : (Value.ref C :: bm).contains (.ref C) = true := by simp
  have T1 := T.keeps (h' := h1) keep
  unfold isInstance
  repeat (first | with_reducible refine wpAny_loadPart_at hget ?_ | (with_reducible refine wpAny_isSubtype_exc hC1 ?_; rw [hcC]) | wp_step)
  show wpAny _ _ (typeLookup (.ref C) _) _ _ _
  refine wpAny_typeLookup_tail hC1 hn1 T1 F.mroIs F.init.lookup ?_
  rw [hni]
  show wpAny _ _ (holding _ _) _ _ _
  refine wpAny_holding (wpAny_bind (wpAny_bindSpecial_def (keep _ _ hfo) hfc ?_))
  refine wpAny_bind (wpAny_call (codeAny_mono hq fun r s' hr => ?_))
  match r, hr with
  | .error e, z => exact z
  | .ok (.ret v), ⟨e1, z⟩ =>
    subst e1
    refine wpAny_pure ?_
    show wpAny _ _ (ret _) _ _ _
    exact wpAny_pure z
end
end L2
set_option maxRecDepth 100000
namespace L2
open PySem PySem.Spec PyProof.Rows
section
variable {prog : Program} {w : World} {A : Around} {E : Value → Shared → Prop} {h : Heap} {g : Array GenState} {d : Drawn} {t : Nat} {os : OsState}
variable {nm q : Str} {C N : Addr} {bs bm bmB : List Value} {hdct : Bool} {sn : List Str} {sub : List Value} {ab : Bool} {col : Option Bool} {dd : Option Addr} {k0 k1 k2 k3 k5 : Option Value} {B newId nid initId : String}
noncomputable abbrev excObj (C t0 : Addr) (od : Option Addr) : Obj := { cls := .ref C, dict := od, data := .fields #[.ref t0, .none, .none, .none, .bool false, .none] }
theorem exc_init_call (F : ExcBaseFacts B nid initId bmB) (T : OwnTail h bmB bm) {e a0 : Addr} {v : Value} {od : Option Addr} {Q : Value → Shared → Prop}
    (hC : h.get? C = some (excClassObj nm q C N bs bm hdct sn sub ab col dd k0 k1 k2 k3 k5 newId)) (he : h.get? e = some (excObj C a0 od))
    (hq : ∀ h' a1, (∀ b o, b ≠ e → h.get? b = some o → h'.get? b = some o) → h'.get? e = some (excObj C a1 od) → Q .none ⟨h', g, d, t, os⟩) :
    wpAny (model prog w) A (call (.builtin initId) [.ref e, v]) Q E ⟨h, g, d, t, os⟩ := by
  refine wpAny_call (codeAny_call_builtin F.init.plain F.initEntry (wpAny_check_init_subU F T hC he rfl ?_))
  wp_walk
  refine hq _ h.objs.size (fun b o hb hbo => ?_) ?_
  · rw [Heap.get?_update_other _ _ (Ne.symm hb)]
    exact Heap.get?_push_of_some _ hbo
  · rw [Heap.get?_update_self _ (Heap.get?_push_of_some _ he) rfl]
    rfl
end
end L2
set_option maxRecDepth 100000
namespace L2
open PySem PySem.Spec PyProof.Rows
section
variable {M : Model} {A : Around} {E : Value → Shared → Prop} {env : Env}
theorem raise_obj {s : Shared} {x : Sem Value} {Q : Flow → Shared → Prop} (hh : A.handled = none)
    (h : wpAny M A x (fun v s₁ => ∃ (e C t N : Addr) (od : Option Addr) (nm q : Str) (bs bm : List Value) (hdct : Bool) (sn : List Str) (sub : List Value) (ab : Bool) (col : Option Bool) (dd : Option Addr) (k0 k1 k2 k3 k5 : Option Value) (newId : String), v = .ref e ∧
      s₁.heap.get? C = some (excClassObj nm q C N bs bm hdct sn sub ab col dd k0 k1 k2 k3 k5 newId) ∧ bm.contains (.type "BaseException") = true ∧ s₁.heap.get? e = some (excObj C t od) ∧ E (.ref e) s₁) E s) :
    wpAny M A (raiseStmt env (some x) none) Q E s := by
  unfold raiseStmt; refine wpAny_bind (wpAny_mono h (fun v s₁ z => ?_) fun _ _ y => y)
  obtain ⟨e, C, t, N, od, nm, q, bs, bm, hdct, sn, sub, ab, col, dd, k0, k1, k2, k3, k5, newId, rfl, hC, hbase, he, hE⟩ := z
  have hcB : (Value.ref C :: bm).contains (.type "BaseException") = true := by rw [List.contains_cons, hbase, Bool.or_true]
  obtain ⟨hp, g, d, tk, os⟩ := s₁
  repeat (first | with_reducible refine wpAny_loadPart_at he ?_ | with_reducible refine wpAny_loadPart_at hC ?_ | (with_reducible refine wpAny_isSubtype_exc hC ?_; rw [hcB]) | wp_step)
  exact wpAny_raiseNew_none hh hE
end
end L2
set_option maxRecDepth 100000
namespace L2
open PySem PySem.Spec PyProof.Rows PySem.W PySem.Builtin PySem.Builtin.ObjectAttr
noncomputable def overIn (bmB : List Value) : List Value → Bool
  | [] => bmB == []
  | v :: r => (v :: r) == bmB || match v with
    | .ref _ => overIn bmB r
    | _ => false
theorem over_refuse {B : String} {bmB : List Value} (SF : StoreFacts B bmB "object.__setattr__" "object") (self : Value) : ∀ {l : List Value}, overIn bmB l = true → refuseLoop self "__setattr__" l = pure ()
  | [], e => by rw [← SF.passes self, ← beq_iff_eq.mp e]
  | v :: r, e => by
    unfold overIn at e
    rcases Bool.or_eq_true_iff.mp e with z | z
    · rw [beq_iff_eq.mp z]; exact SF.passes self
    · cases v with
      | ref c => rw [refuseLoop_ref]; exact over_refuse SF self z
      | _ => cases z
theorem over_has {B : String} {bmB : List Value} (SF : StoreFacts B bmB "object.__setattr__" "object") : ∀ {l : List Value}, overIn bmB l = true → l.contains (.type "object") = true
  | [], e => by have := SF.hasOwner; rw [beq_iff_eq.mp e] at this; exact this
  | v :: r, e => by
    unfold overIn at e
    rcases Bool.or_eq_true_iff.mp e with z | z
    · rw [beq_iff_eq.mp z]; exact SF.hasOwner
    · cases v with
      | ref c => rw [List.contains_cons, over_has SF z, Bool.or_true]
      | _ => cases z
section
variable {prog : Program} {w : World} {A : Around} {E : Value → Shared → Prop} {h : Heap} {g : Array GenState} {d : Drawn} {t : Nat} {os : OsState} {K : Frag} {C e t0 : Addr} {cd : ClassData} {B : String} {bmB : List Value} {name : Str} {v : Value}
theorem exc_store {Q : Unit → Shared → Prop} (SF : StoreFacts B bmB "object.__setattr__" "object") (X : K.In h) (he : h.get? e = some (excObj C t0 none)) (hc : clsIn K C = some cd) (hd : cd.hasDict = true) (ho : overIn bmB cd.mro = true)
    (hs : findIn K (.ref C) "__setattr__" = some (some (.builtin "object.__setattr__"))) (ht : findIn K (.ref C) name = some none)
    (hq : ∀ h' dx tk, h.objs.size ≤ dx → dx ≠ e → h'.get? e = some (excObj C t0 (some dx)) → h'.Ns1 dx (fun y => if y = name then some v else none) → (∀ b o, b ≠ e → h.get? b = some o → h'.get? b = some o) → Q () ⟨h', g, d, tk, os⟩) :
    wpAny (model prog w) A (setAttr (.ref e) name v) Q E ⟨h, g, d, t, os⟩ := by
  have I : InstAt h e (excObj C t0 none) C none := ⟨he, rfl, rfl, trivial⟩
  refine set_plain (s := ⟨h, g, d, t, os⟩) X I hs ?_
  have ne : cd.mro.isEmpty = false := by
    cases q : cd.mro with
    | nil =>
      rw [q] at ho
      have := SF.hasOwner
      rw [beq_iff_eq.mp ho] at this
      cases this
    | cons _ _ => rfl
  have sb : Looks (model prog w) h (isInstance (.ref e) (.type "object")) true := I.type.andThen (looks_mroIn X (by unfold mroIn; rw [hc, Option.bind_some, if_neg (by rw [ne]; decide), over_has SF ho]))
  refine codeAny_call_builtin SF.slot.plain SF.entry (@check_slot (model prog w) _ _ ⟨h, g, d, t + 1, os⟩ "object.__setattr__" "object" "__setattr__" (.ref e) [.str name t, v] [] _ SF.kind SF.split sb (SF.args (.ref e) (.str name t) v) ?_)
  have hm : Looks (model prog w) h (mroOf (.ref C)) cd.mro := (looks_clsIn X hc).andThen .now
  rw [osa_eq, refuse_eq]
  refine wpAny_bind (wpAny_bind (I.type.here (s := ⟨h, g, d, t + 1, os⟩) (wpAny_bind (hm.here (s := ⟨h, g, d, t + 1, os⟩) ?_))))
  rw [over_refuse SF _ ho]
  refine wpAny_pure (wpAny_bind (I.type.here (s := ⟨h, g, d, t + 1, os⟩) (wpAny_bind ((looks_findIn X ht).here (s := ⟨h, g, d, t + 1, os⟩) (wpAny_bind (m := storeTaker? none) (wpAny_pure ?_))))))
  show wpAny _ _ (ownStreamTells (.ref e) (.ref C) >>= _) _ _ _
  refine wpAny_bind (m := ownStreamTells (.ref e) (.ref C)) (wpAny_pure ?_)
  show wpAny _ _ (ownDictForStores (.ref e) >>= _) _ _ _
  refine wpAny_bind ?_
  show wpAny _ _ (instanceDict e true) _ _ _
  unfold instanceDict
  refine wpAny_bind (wpAny_loadPart (s := ⟨h, g, d, t + 1, os⟩) he ?_)
  dsimp only
  refine wpAny_bind ((looks_clsIn X hc).here (s := ⟨h, g, d, t + 1, os⟩) ?_)
  rw [hd, if_neg (by decide), if_neg (by simp [typeHasDict])]
  have hx₁ : (h.push { cls := .type "dict", data := .dict #[] }).get? e = some (excObj C t0 none) := Heap.get?_push_of_some _ he
  have hxs : e ≠ h.objs.size := Nat.ne_of_lt (Heap.lt_size he)
  refine wpAny_bind (wpAny_alloc' (wpAny_bind (wpAny_update' hx₁ (wpAny_pure ?_))))
  have hgd : ((h.push { cls := .type "dict", data := .dict #[] }).update e fun o => { cls := o.cls, dict := some h.objs.size, data := o.data, slots := o.slots }).get? h.objs.size = some { cls := .type "dict", data := .dict #[] } := (Heap.get?_update_ne _ _ _ _ hxs.symm).trans (Heap.get?_push_at rfl rfl)
  have hge : ((h.push { cls := .type "dict", data := .dict #[] }).update e fun o => { cls := o.cls, dict := some h.objs.size, data := o.data, slots := o.slots }).get? e = some (excObj C t0 (some h.objs.size)) := Heap.get?_update_self _ hx₁ rfl
  have hgo : ∀ b o, b ≠ e → h.get? b = some o → ((h.push { cls := .type "dict", data := .dict #[] }).update e fun o => { cls := o.cls, dict := some h.objs.size, data := o.data, slots := o.slots }).get? b = some o := fun b o hb z => (Heap.get?_update_ne _ _ _ _ hb).trans (Heap.get?_push_of_some _ z)
  generalize ((h.push { cls := .type "dict", data := .dict #[] }).update e fun o => { cls := o.cls, dict := some h.objs.size, data := o.data, slots := o.slots }) = h2 at hgd hge hgo ⊢
  have hnd : h2.Ns h.objs.size (fun _ => none) := ⟨_, #[], _, hgd, rfl, fun e he => absurd he (by simp), fun _ => rfl⟩
  show wpAny _ _ (storeInDict h.objs.size (.str name t) name v) _ _ _
  unfold storeInDict newKeyGuard; refine wpAny_bind (wpAny_pure (wpAny_bind (wpAny_nsSet1 (Heap.Ns1.of_empty hnd) fun h' hn' hs' => ?_)))
  obtain ⟨oD, esD, epD, hoD, hdD, hcD⟩ := hn'.count (Within.cons name v Within.nil)
  refine wpAny_bind (wpAny_lookBehind hoD (by rw [hdD]; exact pastItsLine_dict (Nat.le_trans hcD (by rw [List.length_cons, List.length_nil, sizeLine_eq]; omega))) (wpAny_pure ?_))
  exact hq h' h.objs.size _ (Nat.le_refl _) hxs.symm ((hs'.2 e hxs).trans hge) hn' fun b o hb z => (hs'.2 b (Nat.ne_of_lt (Heap.lt_size z))).trans (hgo b o hb z)
end
end L2
set_option maxRecDepth 100000
namespace L2
open PySem PySem.Spec PyProof.Rows PySem.W
section
variable {M : Model} {A : Around} {E : Value → Shared → Prop} {s : Shared} {K : Frag} {C D e : Addr} {oe : Obj} {b : Bool}
theorem exc_match {Q : Bool → Shared → Prop} (X : K.In s.heap) (he : s.heap.get? e = some oe) (hc : oe.cls = .ref C) {cd : ClassData} (hD : clsIn K D = some cd) (hT : typeIn K (.ref D) = some (.type "type")) (hB : mroIn K D (.type "BaseException") = some true) (hm : mroIn K C (.ref D) = some b) (h : Q b s) :
    wpAny M A (excMatches (.ref e) (.ref D)) Q E s := by
  have t1 : Looks M s.heap (isInstance (.ref D) (.type "tuple")) false := (looks_typeIn X hT).andThen (Looks.of_pure tc_notTuple)
  have t2 : Looks M s.heap (isExcClass (.ref D)) true := by
    unfold isExcClass
    refine Looks.andThen (a := true) ?_ (by rw [if_pos rfl]; exact looks_mroIn X hB)
    show Looks M s.heap (isType (.ref D)) true
    unfold clsIn at hD
    split at hD
    · rename_i ho
      exact (Looks.ld (part := none) (X _ _ ho)).andThen .now
    · cases hD
  have t3 : Looks M s.heap (typeOf (.ref e)) (.ref C) := hc ▸ (Looks.ld he).andThen .now
  unfold excMatches
  refine wpAny_bind (t1.here ?_)
  rw [if_neg (by decide)]
  refine wpAny_bind (wpAny_pure (wpAny_bind ?_))
  rw [List.forIn_cons]
  refine wpAny_bind (wpAny_bind (t2.here (wpAny_pure ?_)))
  refine wpAny_pure (wpAny_bind (t3.here (wpAny_bind ?_)))
  rw [List.forIn_cons]
  refine wpAny_bind (wpAny_bind ((looks_mroIn X hm).here ?_))
  cases b with
  | true => exact wpAny_pure (wpAny_pure (wpAny_pure h))
  | false => exact wpAny_pure (wpAny_pure (wpAny_pure h))
end
end L2
set_option maxRecDepth 100000
namespace L2
open PySem PySem.Spec PyProof.Rows PySem.W PySem.Builtin PySem.Builtin.ObjectAttr
section
variable {prog : Program} {w : World} {A : Around} {E : Value → Shared → Prop} {K : Frag} {h : Heap} {g : Array GenState} {d : Drawn} {t : Nat} {os : OsState} {C e dx : Addr} {ox od : Obj} {name : Str} {v : Value} {expr : Bool} {Q : Value → Shared → Prop}
theorem exc_get (X : K.In h) (I : InstAt h e ox C (some od)) (hga : findIn K (.ref C) "__getattribute__" = some (some (.builtin "BaseException.__getattribute__"))) (hgt : findIn K (.ref C) "__getattr__" = some none) (hB : mroIn K C (.type "BaseException") = some true)
    (hf : findObj K C (some od) name = some (.value v)) (hh : handedIn v = true) (hq : Q v ⟨h, g, d, t + 1, os⟩) : wpAny (model prog w) A (getAttr (.ref e) name expr) Q E ⟨h, g, d, t, os⟩ := by
  have L0 := I.type (M := model prog w)
  have L1 := looks_findIn (M := model prog w) X hga
  have L2 := looks_findIn (M := model prog w) X hgt
  have L3 := looks_find (M := model prog w) X I hf
  have hx2 : (Value.builtin "BaseException.__getattribute__" == Value.builtin "object.__getattribute__") = false := by decide +kernel
  have hx1 : (onTheHeap (Value.ref C) && Value.builtin "BaseException.__getattribute__" == Value.builtin "object.__getattribute__") = false := by rw [hx2]; rfl
  have hx0 : (expr && onTheHeap (Value.builtin "BaseException.__getattribute__")) = false := by cases expr <;> rfl
  unfold getAttr getAttrBy
  refine wpAny_bind (wpAny_mkText (wpAny_holding (wpAny_bind (L0.at (wpAny_bind (L1.at ?_))))))
  dsimp only
  rw [hx1, if_neg (by decide)]
  show wpAny _ _ (getAttrByItsOwn _ _ _ _ _ _) _ _ _
  unfold getAttrByItsOwn; refine wpAny_bind ?_
  show wpAny _ _ (typeLookup (.ref C) "__getattr__") _ _ _
  refine L2.at (wpAny_bind (wpAny_attempt (wpAny_holding ?_)))
  unfold callGetattribute; rw [hx0, if_neg (by decide)]
  unfold boundAndCalled
  have FA : ExcAttrFacts "ValueError" := F.attr_ValueError
  rw [FA.ga.bind (.ref e)]
  refine wpAny_bind (wpAny_pure (wpAny_call ?_))
  have sb : Looks (model prog w) h (isInstance (.ref e) (.type "BaseException")) true := L0.andThen (looks_mroIn X hB)
  refine codeAny_call_builtin FA.ga.plain F.entry_bexc_ga (@check_slot (model prog w) _ _ ⟨h, g, d, t + 1, os⟩ "BaseException.__getattribute__" "BaseException" "__getattribute__" (.ref e) [.str name t] [] _ (by decide +kernel) (by decide +kernel) sb (F.args_bexc_ga _ _) ?_)
  unfold Builtin.«object.__getattribute__»
  have e0 : slotArgs "__getattribute__" 1 ⟨[Value.ref e] ++ [Value.str name t], []⟩ = pure (.ref e, [.str name t]) := rfl
  rw [e0]
  refine wpAny_bind (wpAny_pure ?_)
  show wpAny _ _ (attrName (.str name t) >>= _) _ _ _
  refine wpAny_bind (m := attrName (.str name t)) (wpAny_pure ?_)
  refine wpAny_bind (L0.at (wpAny_bind (L3.at (wpAny_pure ?_))))
  show wpAny _ _ (handedOut v) _ _ _
  rw [handedOut_of hh]; exact wpAny_pure hq
end
end L2
set_option maxRecDepth 100000
namespace L2
open PySem PySem.Spec PyProof.Rows PySem.W PySem.Builtin PySem.Builtin.ObjectAttr
section
variable {prog : Program} {w : World} {A : Around} {E : Value → Shared → Prop} {K : Frag} {h : Heap} {g : Array GenState} {d : Drawn} {t : Nat} {os : OsState} {C e dx : Addr} {ox od : Obj} {Q : Option Value → Shared → Prop}
end
end L2
set_option maxRecDepth 100000
namespace L2
open PySem PySem.Spec PyProof.Rows PySem.W
noncomputable def Flies (h : Heap) (x C dx T : Addr) : Prop := ∃ (vs : Array Value) (oT : Obj) (ts : Array Value), h.get? x = some { cls := .ref C, dict := some dx, data := .fields vs } ∧ vs[1]? = some (.ref T) ∧ T ≠ x ∧ h.get? T = some oT ∧ oT.data = .fields ts ∧ ts[3]? = some .none
section
variable {M : Model} {A : Around} {E : Value → Shared → Prop} {s : Shared} {base : Heap} {env : Env} {outer : List Env} {L x C dx : Addr} {Q : Unit → Shared → Prop}
theorem not_frame {vs : Array Value} {o : Obj} {l : List Env} (hl : s.heap.FunFrames base l) (he : s.heap.get? x = some o) (hd : o.data = .fields vs) : x ∉ l.filterMap (·.frame) := fun hm => by
  obtain ⟨_, o', ho, hn⟩ := hl.mem hm
  rw [he] at ho; cases ho
  exact hn vs hd
theorem exc_entry {oe : Obj} {vs : Array Value} {head : Value} {hadNext : Bool} (hfr : A.frames = some (env :: outer)) (hl : s.heap.FunFrames base (env :: outer)) (hf : env.frame = some L)
    (he : s.heap.get? x = some { cls := .ref C, dict := some dx, data := .fields vs }) (hsz : 1 < vs.size)
    (h : ∀ h' T, s.heap.objs.size ≤ T → Flies h' x C dx T → (∀ b o, b ≠ x → b ∉ (env :: outer).filterMap (·.frame) → s.heap.get? b = some o → h'.get? b = some o) → (∀ b o, b ≠ x → s.heap.get? b = some o → ∃ sl, h'.get? b = some { o with slots := sl }) → Q () { s with heap := h' }) :
    wpAny M A (do let a ← frameOf env; let pl ← entryPlaceOf L hadNext; let b ← EntryCells.newEntry head a .none (rawInt L) .none pl; setField (.ref x) 1 b) (fun _ s' => wpAny M A (setFlight (.ref x) none) Q E s') E s := by
  have hxf := not_frame hl he rfl
  refine wpAny_bind (wpAny_frameOf_fun hfr hl hf fun h₁ hs₁ => wpAny_bind (wpAny_entryPlaceOf fun pl hpl => ?_))
  unfold EntryCells.newEntry newFields; refine wpAny_bind (wpAny_newObj_type ?_ (hpl.sizeOk5 _ _ _ _ _))
  have he₁ : h₁.get? x = some { cls := .ref C, dict := some dx, data := .fields vs } := (hs₁.2.1 x hxf).trans he
  generalize hoT : ({ cls := .type "traceback", dict := none, data := .fields ([head, .ref L, .none, rawInt L, .none] ++ (if pl.isEmpty then List.replicate 6 Value.none else pl)).toArray } : Obj) = oT
  have hTd : ∃ ts : Array Value, oT.data = .fields ts ∧ 3 < ts.size := ⟨_, by rw [← hoT], by simp only [List.size_toArray, List.length_append, List.length_cons, List.length_nil] <;> omega⟩
  obtain ⟨ts, hTd, hT3⟩ := hTd
  have hTf : oT.isFreed = false := by rw [← hoT]; rfl
  have hTe : h₁.objs.size ≠ x := Nat.ne_of_gt (Heap.lt_size he₁)
  have he₂ := Heap.get?_push_of_some (h := h₁) oT he₁
  have hT₂ : (h₁.push oT).get? h₁.objs.size = some oT := Heap.get?_push_size h₁ hTf
  refine wpAny_setField he₂ rfl hsz ?_
  have hd₃ := Obj.data_mapFields (o := { cls := .ref C, dict := some dx, data := .fields vs }) rfl (·.setIfInBounds 1 (Value.ref h₁.objs.size))
  have he₃ := Heap.get?_update_self (Obj.mapFields (·.setIfInBounds 1 (Value.ref h₁.objs.size))) he₂ (Obj.isFreed_of_fields hd₃)
  have hT₃ := (Heap.get?_update_other (h₁.push oT) (Obj.mapFields (·.setIfInBounds 1 (Value.ref h₁.objs.size))) (Ne.symm hTe)).trans hT₂
  unfold setFlight
  refine wpAny_bind (wpAny_field he₃ hd₃ (x := .ref h₁.objs.size) (by simp [hsz]) ?_)
  rw [if_pos (show (Value.ref h₁.objs.size != Value.none) = true from by simp)]
  refine wpAny_setField hT₃ hTd hT3 (h _ h₁.objs.size ?_ ?_ (fun b o hb hbf z => ?_) fun b o hb z => ?_)
  · rw [hs₁.1]; exact Nat.le_refl _
  · refine ⟨_, _, _, (by rw [Heap.get?_update_other _ _ hTe]; exact he₃), ?_, hTe, Heap.get?_update_self _ hT₃ (Obj.isFreed_of_fields (Obj.data_mapFields hTd _)), Obj.data_mapFields hTd _, ?_⟩
    · simp [hsz]
    · simp [hT3]
  · have hbT : h₁.objs.size ≠ b := Nat.ne_of_gt (by rw [hs₁.1]; exact Heap.lt_size z)
    rw [Heap.get?_update_other _ _ hbT, Heap.get?_update_other _ _ (Ne.symm hb)]
    exact Heap.get?_push_of_some _ ((hs₁.2.1 b hbf).trans z)
  · have hbT : h₁.objs.size ≠ b := Nat.ne_of_gt (by rw [hs₁.1]; exact Heap.lt_size z)
    obtain ⟨sl, z'⟩ := hs₁.2.2 b o z
    refine ⟨sl, ?_⟩
    rw [Heap.get?_update_other _ _ hbT, Heap.get?_update_other _ _ (Ne.symm hb)]
    exact Heap.get?_push_of_some _ z'
theorem exc_note1 {t0 : Addr} (hfr : A.frames = some (env :: outer)) (hl : s.heap.FunFrames base (env :: outer)) (hf : env.frame = some L) (he : s.heap.get? x = some (excObj C t0 (some dx)))
    (h : ∀ h' T, s.heap.objs.size ≤ T → Flies h' x C dx T → (∀ b o, b ≠ x → b ∉ (env :: outer).filterMap (·.frame) → s.heap.get? b = some o → h'.get? b = some o) → (∀ b o, b ≠ x → s.heap.get? b = some o → ∃ sl, h'.get? b = some { o with slots := sl }) → Q () { s with heap := h' }) :
    wpAny M A (noteFrame (.ref x) env) (fun _ s' => wpAny M A (setFlight (.ref x) none) Q E s') E s := by
  unfold noteFrame
  simp only [hf]
  refine wpAny_bind (wpAny_field he rfl (x := .none) rfl ?_)
  rw [if_neg (by decide)]
  exact exc_entry (oe := excObj C t0 (some dx)) hfr hl hf he (by simp) h
theorem exc_noteN {T : Addr} (hfr : A.frames = some (env :: outer)) (hl : s.heap.FunFrames base (env :: outer)) (hf : env.frame = some L) (fl : Flies s.heap x C dx T)
    (h : ∀ h' T', s.heap.objs.size ≤ T' → Flies h' x C dx T' → (∀ b o, b ≠ x → b ≠ T → b ∉ (env :: outer).filterMap (·.frame) → s.heap.get? b = some o → h'.get? b = some o) → (∀ b o, b ≠ x → b ≠ T → s.heap.get? b = some o → ∃ sl, h'.get? b = some { o with slots := sl }) → Q () { s with heap := h' }) :
    wpAny M A (noteFrame (.ref x) env) (fun _ s' => wpAny M A (setFlight (.ref x) none) Q E s') E s := by
  obtain ⟨vs, oT, ts, he, h1, hTx, hT, hTd, h3⟩ := fl
  unfold noteFrame
  simp only [hf]
  refine wpAny_bind (wpAny_field he rfl h1 ?_)
  rw [if_pos (show (Value.ref T != Value.none) = true from by simp)]
  refine wpAny_bind (wpAny_field hT hTd h3 ?_)
  rw [if_neg (show ¬ ((Value.none == rawInt L) = true) from by simp [rawInt])]
  refine wpAny_bind (wpAny_setField hT hTd (Array.getElem?_eq_some_iff.mp h3).1 ?_)
  have oth : ∀ b, b ≠ T → (s.heap.update T (Obj.mapFields (·.setIfInBounds 3 Value.none))).get? b = s.heap.get? b := fun b hb => Heap.get?_update_other _ _ (Ne.symm hb)
  have hTf : T ∉ (env :: outer).filterMap (·.frame) := not_frame hl hT hTd
  have hTn : ∀ b o, s.heap.get? b = some o → (∀ vs, o.data ≠ .fields vs) → b ≠ T := fun b o hb hn q => by rw [q, hT] at hb; cases hb; exact hn ts hTd
  refine exc_entry (oe := oT) hfr (hl.of_keeps fun b o hb hn => ⟨o, (oth b (hTn b o hb hn)).trans hb, rfl⟩) hf ((oth x (Ne.symm hTx)).trans he) (Array.getElem?_eq_some_iff.mp h1).1 fun h' T' n' fl' k1 k2 => h h' T' ?_ fl' (fun b o hb hbT hbf z => k1 b o hb hbf ((oth b hbT).trans z)) fun b o hb hbT z => k2 b o hb ((oth b hbT).trans z)
  exact Nat.le_trans (Nat.le_of_eq (Heap.size_update ..).symm) n'
theorem exc_land {T : Addr} (fl : Flies s.heap x C dx T) (h : ∀ h', Flies h' x C dx T → (∀ b o, b ≠ T → s.heap.get? b = some o → h'.get? b = some o) → Q () { s with heap := h' }) : wpAny M A (setFlight (.ref x) none) Q E s := by
  obtain ⟨vs, oT, ts, he, h1, hTx, hT, hTd, h3⟩ := fl
  have h3s : 3 < ts.size := (Array.getElem?_eq_some_iff.mp h3).1
  unfold setFlight
  refine wpAny_bind (wpAny_field he rfl h1 ?_)
  rw [if_pos (show (Value.ref T != Value.none) = true from by simp)]
  refine wpAny_setField hT hTd h3s (h _ ⟨vs, _, _, (Heap.get?_update_other _ _ hTx).trans he, h1, hTx, Heap.get?_update_self _ hT (Obj.isFreed_of_fields (Obj.data_mapFields hTd _)), Obj.data_mapFields hTd _, ?_⟩ fun b o hb z => (Heap.get?_update_other _ _ (Ne.symm hb)).trans z)
  simp [h3s]
end
end L2
set_option maxRecDepth 100000
namespace L2
open PySem PySem.Spec PyProof.Rows
noncomputable def xm (m : Nat) (x C : Addr) : HO := .ext fun h => m ≤ x ∧ ∃ t0, h.get? x = some (excObj C t0 none)
noncomputable def xo (m : Nat) (x C dx : Addr) : HO := .ext fun h => m ≤ x ∧ ∃ t0, h.get? x = some (excObj C t0 (some dx))
noncomputable def xc (x C dx : Addr) : HO := .ext fun h => ∃ o, h.get? x = some o ∧ o.cls = .ref C ∧ o.dict = some dx ∧ PySem.W.notCls o = true
theorem xm_ok {P : Program} {w : World} {H : Hp} {h : Heap} {m : Nat} {x C t0 : Addr} (hm : m ≤ x) (e : h.get? x = some (excObj C t0 none)) : ObjOk P w H h x (xm m x C) := ⟨⟨hm, t0, e⟩, ⟨_, e⟩, fun _ _ z k => ⟨z.1, z.2.elim fun t a => ⟨t, k _ a⟩⟩⟩
theorem xo_ok {P : Program} {w : World} {H : Hp} {h : Heap} {m : Nat} {x C dx t0 : Addr} (hm : m ≤ x) (e : h.get? x = some (excObj C t0 (some dx))) : ObjOk P w H h x (xo m x C dx) := ⟨⟨hm, t0, e⟩, ⟨_, e⟩, fun _ _ z k => ⟨z.1, z.2.elim fun t a => ⟨t, k _ a⟩⟩⟩
theorem xc_ok {P : Program} {w : World} {H : Hp} {h : Heap} {x C dx : Addr} {o : Obj} (e : h.get? x = some o) (h1 : o.cls = .ref C) (h2 : o.dict = some dx) (h3 : PySem.W.notCls o = true) : ObjOk P w H h x (xc x C dx) :=
  ⟨⟨o, e, h1, h2, h3⟩, ⟨_, e⟩, fun _ _ z k => z.elim fun t a => ⟨t, k _ a.1, a.2⟩⟩
theorem HOk.track {P : Program} {w : World} {H : Hp} {h : Heap} {a : Addr} {o : HO} (x : HOk P w H h) (hn : H a = none) (new : ObjOk P w (upd H a o) h a o) : HOk P w (upd H a o) h := fun b u e => by
  by_cases hb : b = a
  · subst hb; rw [upd_same] at e; cases e; exact new
  · rw [upd_ne hb] at e
    exact (x b u e).stay (fun c v _ q => q) (fun c q => by rw [upd_ne (ne_of_none q hn)]; exact q) fun c xs q => by rw [upd_ne (ne_of_none q hn)]; exact q
theorem ns_got {K : PySem.W.Frag} {h : Heap} {N : Addr} {m : Str → Option Value} {n : Str} {v : Value} (X : K.In h) (G : h.Ns N m) (e : PySem.W.nsIn K N n = some (some v)) : m n = some v := by
  obtain ⟨o, es, ep, ho, hd, _, hf⟩ := G; unfold PySem.W.nsIn at e
  split at e
  · rename_i es' n' q
    rw [X _ _ q] at ho; cases ho; cases hd
    split at e
    · rename_i y hy
      cases e
      rw [← hf]
      unfold nsFind findBy; rw [← Array.find?_toList, hy]
      rfl
    · exfalso
      split at e <;> cases e
  · cases e
noncomputable abbrev bmV : List Value := [.type "ValueError", .type "Exception", .type "BaseException", .type "object"]
structure ErrC (K : PySem.W.Frag) (C f : Addr) : Prop where
  ex : ∃ (nm q : Str) (N : Addr) (bs bm : List Value) (sn : List Str) (sub : List Value) (ab : Bool) (col : Option Bool) (dd : Option Addr) (k0 k1 k2 k3 k5 : Option Value),
    K.lookup C = some (excClassObj nm q C N bs bm true sn sub ab col dd k0 k1 k2 k3 k5 "ValueError.__new__") ∧ PySem.W.tailIn K bmV bm = true ∧ overIn bmV (.ref C :: bm) = true ∧ PySem.W.nsOkIn K N = true ∧ PySem.W.nsIn K N "__init__" = some (some (.ref f))
  fn : PySem.W.isFn K (.ref f) = true
  sa : PySem.W.findIn K (.ref C) "__setattr__" = some (some (.builtin "object.__setattr__"))
  ga : PySem.W.findIn K (.ref C) "__getattribute__" = some (some (.builtin "BaseException.__getattribute__"))
  gt : PySem.W.findIn K (.ref C) "__getattr__" = some none
  cl : PySem.W.findIn K (.ref C) "__class__" = some (some (.builtin "object.__class__"))
  bx : PySem.W.mroIn K C (.type "BaseException") = some true
  ob : PySem.W.mroIn K C (.type "object") = some true
  kp : PySem.W.keepIn K (.ref C) = true
theorem ErrC.cls {K : PySem.W.Frag} {C f : Addr} (M : ErrC K C f) : ∃ cd, PySem.W.clsIn K C = some cd ∧ cd.hasDict = true ∧ overIn bmV cd.mro = true := by
  obtain ⟨nm, q, N, bs, bm, sn, sub, ab, col, dd, k0, k1, k2, k3, k5, l, _, o, _, _⟩ := M.ex
  exact ⟨_, by unfold PySem.W.clsIn; rw [l], rfl, o⟩
section
variable {X : Cx} {k : Nat} {f C : Addr} {fd : FuncData} {ps : List Str} {sp : Sp} {x : Str} {p pos : Pos} {e : Expr} {es : List Expr} {t : TA}
noncomputable def tErr (m : Nat) (C : Addr) (sp : Sp) (t : TA) : TE := fun σ H Q => t σ H fun vs H1 => vs.length ≤ 1000 ∧ ∀ x, H1 x = none → sp (.ref x :: vs) (upd H1 x (xm m x C)) (fun v H2 => v = .non ∧ Q (.ref x) H2) E0
theorem run_err {pins : List (Addr × Obj)} {σ : St} {H : Hp} {s : Shared} {Q : VK} {us : List Value} {vs : List V} (M : ErrC X.K C f) (F : FnOk X.prog X.w X.K X.mg X.base CX0 k f fd ps sp) (hr : Room (k + 1) X.A) (hb : Binds X.K fd ps [])
    (I : Inv X pins σ H s) (r : Vals vs us) (hlen : vs.length ≤ 1000) (h : ∀ x, H x = none → sp (.ref x :: vs) (upd H x (xm X.s₀.heap.objs.size x C)) (fun v H2 => v = .non ∧ Q (.ref x) H2) E0) :
    wpAny (model X.prog X.w) X.A (call (.ref C) us) (EP X pins σ Q) X.xe s := by
  have hq := h (s.heap.objs.size + 1) (I.hok.fresh (Nat.le_succ _))
  obtain ⟨nm, q, N, bs, bm, sn, sub, ab, col, dd, k0, k1, k2, k3, k5, l, ht, ho, hok, hi⟩ := M.ex
  have hC := I.kIn _ _ l
  have hN : s.heap.Ns N (s.heap.nsMap N) := .of_isNs (PySem.W.isNs_of_in I.kIn hok)
  have hni := ns_got I.kIn hN hi
  have hf : ∃ o, s.heap.get? f = some o ∧ o.cls = .type "function" := by
    obtain ⟨o, ho, hc⟩ := Option.map_eq_some_iff.mp (beq_iff_eq.mp M.fn)
    exact ⟨o, I.kIn _ _ ho, hc⟩
  obtain ⟨of, hfo, hfc⟩ := hf
  have hl0 := r.length
  have r2 : Vals (V.ref (s.heap.objs.size + 1) :: vs) (Value.ref (s.heap.objs.size + 1) :: us) := .cons rfl r
  have hl : (Value.ref (s.heap.objs.size + 1) :: us ++ []).length = ps.length := by
    have e := r2.length
    rw [F.len _ _ _ _ hq] at e
    rw [List.append_nil]
    exact e.symm
  obtain ⟨h0, g, d, tk, os⟩ := s
  refine exc_make PySem.F.excBase_ValueError (by decide) PySem.F.excBase_ValueError (PySem.W.tail_of_in I.kIn ht) hC hN hni hfo hfc (by rw [← hl0]; exact Nat.le_trans hlen (by decide)) ?_
  have I2 : Inv X pins σ (upd H (h0.objs.size + 1) (xm X.s₀.heap.objs.size (h0.objs.size + 1) C)) ⟨(h0.push { cls := .type "tuple", data := .seq us.toArray }).push (excObj C h0.objs.size none), g, d, tk, os⟩ :=
    I.laid (t' := tk) (fun b u z => Heap.get?_push_of_some _ (Heap.get?_push_of_some _ z)) (Nat.le_succ _) (xm_ok (t0 := h0.objs.size) (Nat.le_succ_of_le I.sz) (by
      have := Heap.get?_push_size (h0.push { cls := .type "tuple", data := .seq us.toArray }) (o := excObj C h0.objs.size none) rfl
      rwa [Heap.size_push] at this))
  refine codeAny_mono (F.run _ X.stack _ _ ⟨Value.ref (h0.objs.size + 1) :: us, []⟩ (Value.ref (h0.objs.size + 1) :: us) _ _ E0 (hr.make C us []) (I2.env0.make C us []) (by have := hb _ (Value.ref (h0.objs.size + 1) :: us) I2.kIn hl; rwa [List.append_nil] at this) r2 hq) fun r s' hq' => ?_
  cases r with
  | error e => exact hq'.elim
  | ok fl =>
    cases fl with
    | ret u =>
      obtain ⟨v, H', I3, rv, ev, q3⟩ := I2.after hq'
      subst ev
      exact ⟨rv, ⟨V.ref (h0.objs.size + 1), H', I3, rfl, q3⟩⟩
    | next => exact False.elim hq'
    | brk => exact False.elim hq'
    | cont => exact False.elim hq'
theorem pe_err (M : ErrC X.K C f) (F : FnOk X.prog X.w X.K X.mg X.base CX0 k f fd ps sp) (hr : Room (k + 1) X.A) (hg : Gl X x) (hm : X.mg x = some (.ref C)) (hb : Binds X.K fd ps [])
    (ha : PA X (e :: es) t) (hdb : (x == ("__debug__" : Str)) = false := by decide) (he : starEach (e :: es) X.env = (false, eval e X.env) :: starEach es X.env := by rfl) (hpl : (backTo pos (starEach es X.env)).any (·.1) = false := by rfl) :
    PE X (.Call (.Name x p) (e :: es) [] pos) (tErr X.s₀.heap.objs.size C sp t) := by
  intro pins s σ H Q I h
  refine wpAny_Call_Name_kw (ld_glob I hg hm ?_ hdb); refine PySem.W.callWith_K (h₀ := X.base) I.ok.mod.kin M.kp (thn (ha pos pins s σ H _ I h) fun us s1 ⟨vs, H1, I1, r, q0, q⟩ => ⟨I1.kIn, run_err M F hr hb I1 r q0 q⟩) he hpl
end
theorem upd_self {H : Hp} {a : Addr} {o : HO} (h : H a = some o) : upd H a o = H := by
  funext b; unfold upd; split
  · rename_i e; rw [e, h]
  · rfl
structure LoreC (K : PySem.W.Frag) (L : Addr) : Prop where
  sp : PySem.W.specialIn K (.ref L) "__getattribute__" = some (some (.builtin "type.__getattribute__"))
  rd : PySem.W.readsIn K L (.type "type") = true
  fc : PySem.W.findCls K (.ref L) (.type "type") "__init__" = some (.val (.builtin "ValueError.__init__"))
noncomputable def tInit (K : PySem.W.Frag) (ta tb : TE) : TE := fun σ H Q => ta σ H fun x H1 => tb σ H1 fun _ H2 => ∃ a m C f, x = .ref a ∧ H2 a = some (xm m a C) ∧ ErrC K C f ∧ Q .non H2
section
variable {X : Cx} {L : Addr} {x : Str} {np ap cp : Pos} {a b : Expr} {ta tb : TE} {pl : Sem Bool}
theorem pe_init (N : LoreC X.K L) (hg : Gl X x) (hm : X.mg x = some (.ref L)) (ha : PE X a ta) (hb : PE X b tb) (hdb : (x == ("__debug__" : Str)) = false := by decide)
    (htr : backTo cp (starEach [a, b] X.env) = [(false, eval a X.env), (false, eval b X.env)] := by rfl)
    (ht : eval (.Call (.Attribute (.Name x np) "__init__" ap) [a, b] [] cp) X.env = (do
      let ov ← eval (.Name x np) X.env
      standAt ap.atName
      let (f, first) ← holding [ov] (getMethod ov "__init__" pl)
      callWith cp f first (backTo cp (starEach [a, b] X.env)) (backToKw cp (keywordEach [] X.env))) := by rfl) :
    PE X (.Call (.Attribute (.Name x np) "__init__" ap) [a, b] [] cp) (tInit X.K ta tb) := by
  intro pins s σ H Q I h
  refine PySem.W.methodCall_KW (pl := pl) (ld_glob I hg hm ?_ hdb) ht
  refine PySem.W.method_cls I.kIn N.sp (PySem.W.cls_value I.kIn N.rd N.fc rfl ?_)
  rw [htr]
  have I0 := I.tok (s.toks + 1)
  refine Calls.callWith_builtin rfl (Calls.evalArgs_plain (Calls.spliced_cons (thn (ha pins _ σ H _ I0 h) fun u s1 ⟨v, H1, I1, rv, q1⟩ => Calls.spliced_cons (thn (hb pins s1 σ H1 _ I1 q1) fun z s2 ⟨y, H2, I2, ry, e, m, C, f, ex, he, M, q2⟩ => Calls.spliced_nil ?_))))
  subst ex
  obtain rfl : u = Value.ref e := rv
  obtain ⟨nm, q, N', bs, bm, sn, sub, ab, col, dd, k0, k1, k2, k3, k5, l, htl, ho, hok, hi⟩ := M.ex
  obtain ⟨hmx, t0, hx⟩ := (I2.hok _ _ he).1
  obtain ⟨h2, g, d, tk, os⟩ := s2
  refine exc_init_call PySem.F.excBase_ValueError (PySem.W.tail_of_in I2.kIn htl) (I2.kIn _ _ l) hx fun h' t1 keep hx' => ?_
  have I3 := I2.write (x := e) (e := e) (t' := tk) (by rw [he]; exact True.intro) (.inl rfl) (fun b u hb z => keep b u hb z) ⟨_, hx'⟩ (xm_ok hmx hx')
  rw [upd_self he] at I3
  exact ⟨.non, H2, I3, rfl, q2⟩
end
end L2
set_option maxRecDepth 100000
namespace L2
open PySem PySem.Spec PyProof.Rows
noncomputable def tFmtI (te : TE) : TE := fun σ H Q => te σ H fun v H1 => ∃ i : Int, v = .int i ∧ i.natAbs < 10 ^ 9 ∧ ∀ z : Str, z.length ≤ 100 → Q (.str z) H1
noncomputable def tParts : List TE → TE
  | [], _, H, Q => ∀ z : Str, Q (.str z) H
  | t :: ts, σ, H, Q => t σ H fun v H1 => ∃ y : Str, v = .str y ∧ y.length ≤ 100000 ∧ tParts ts σ H1 Q
section
variable {X : Cx} {e : Expr} {te : TE} {pos : Pos}
theorem pe_fmtI (he : PE X e te) : PE X (.FormattedValue e (-1) none pos) (tFmtI te) := by
  intro pins s σ H Q I h
  refine wpAny_FormattedValue_plain (thn (he pins s σ H _ I h) fun u s1 ⟨v, H1, I1, rv, i, ev, hi, q⟩ => ?_)
  subst ev
  obtain ⟨t, rfl⟩ := rv
  have hl : i.natAbs.log2 < 1920 := by
    by_cases z : i.natAbs = 0
    · rw [z]; decide
    · exact Nat.lt_trans ((Nat.log2_lt z).mpr (Nat.lt_trans hi (by decide : 10 ^ 9 < 2 ^ 30))) (by decide)
  refine wpAny_formatField_int hl ⟨.str _, H1, (I1.tok _), ⟨_, rfl⟩, q _ ?_⟩
  have := int_text_length_le10 (k := 9) (by decide) hi
  show (Str.ofString (toString i)).length ≤ 100
  rw [PySem.ofString_length]
  omega
inductive PFs (X : Cx) : List Expr → List TE → Prop
  | nil : PFs X [] []
  | cons {e : Expr} {te : TE} {es : List Expr} {ts : List TE} : PE X e te → PFs X es ts → PFs X (e :: es) (te :: ts)
theorem joins_of {pins : List (Addr × Obj)} {σ : St} {Q : VK} : ∀ {es : List Expr} {ts : List TE} (acc : Str) (n : Nat) (s : Shared) (H : Hp), PFs X es ts → Inv X pins σ H s → acc.length + 100000 * es.length ≤ sizeLine → tParts ts σ H Q →
    Joins (model X.prog X.w) X.A X.xe (evalEach es X.env) acc (fun out s₁ => out.length ≤ sizeLine ∧ EP X pins σ Q (.str out s₁.toks) { s₁ with toks := s₁.toks + 1 }) s
  | [], _, acc, n, s, H, .nil, I, hl, h => ⟨by simpa using hl, .str acc, H, I.tok _, ⟨_, rfl⟩, h acc⟩
  | e :: es, _, acc, n, s, H, .cons he hr, I, hl, h => thn (he pins s σ H _ I h) fun u s1 ⟨v, H1, I1, rv, y, ev, hy, q⟩ => by
    subst ev
    obtain ⟨t, rfl⟩ := rv
    rw [List.length_cons] at hl
    have e1 : (acc ++ y).length = acc.length + y.length := strLen_append ..
    exact ⟨y, t, rfl, by omega, joins_of (acc ++ y) n s1 H1 hr I1 (by omega) q⟩
theorem pe_joined {e1 e2 : Expr} {es : List Expr} {ts : List TE} (h : PFs X (e1 :: e2 :: es) ts) (hn : es.length ≤ 2) : PE X (.JoinedStr (e1 :: e2 :: es) pos) (tParts ts) := by
  intro pins s σ H Q I hq
  refine wpAny_JoinedStr (joins_of Str.empty 0 s H h I ?_ hq)
  have : Str.empty.length = 0 := rfl
  rw [this, List.length_cons, List.length_cons, sizeLine_eq]
  omega
end
noncomputable def sXFld (K : PySem.W.Frag) (ta tv : TE) (f : Str) : TS := fun D σ H => tv σ H fun y H1 => ta σ H1 fun x H2 => ∃ a m C g, x = .ref a ∧ H2 a = some (xm m a C) ∧ ErrC K C g ∧ NoAttr K C f ∧ ∀ dx, H2 dx = none → dx ≠ a → D.nx σ (upd (upd H2 a (xo m a C dx)) dx (.xd [(f, y)]))
section
variable {X : Cx} {o value : Expr} {ta tv : TE} {f : Str} {ap pos : Pos}
theorem Inv.xstore {pins : List (Addr × Obj)} {σ : St} {H : Hp} {s : Shared} {h' : Heap} {m : Nat} {a C dx t0 : Addr} {y : V} {u : Value} {t' : Nat} (I : Inv X pins σ H s) (e : H a = some (xm m a C)) (hd : s.heap.objs.size ≤ dx) (ne : dx ≠ a)
    (hx : h'.get? a = some (excObj C t0 (some dx))) (hn : h'.Ns1 dx (fun z => if z = f then some u else none)) (k : ∀ b o, b ≠ a → s.heap.get? b = some o → h'.get? b = some o) (ry : RelV y u) :
    Inv X pins σ (upd (upd H a (xo m a C dx)) dx (.xd [(f, y)])) { s with heap := h', toks := t' } := by
  have hdn : H dx = none := I.hok.fresh hd
  have hmx : m ≤ a := (I.hok _ _ e).1.1
  have mu : Mut (H a) := by rw [e]; exact True.intro
  have hdn1 : upd H a (xo m a C dx) dx = none := by rw [upd_ne ne]; exact hdn
  have w1 : Un X.fs [] H (upd H a (xo m a C dx)) s.heap h' := Un.write mu (.inl rfl) k ⟨_, hx⟩
  have old : ∀ b o, s.heap.get? b = some o → b ≠ dx := fun b o z q => by rw [q] at z; exact absurd (Heap.lt_size z) (Nat.not_lt.mpr hd)
  refine I.un ⟨w1.keep, w1.slot, fun b o z n hb => ?_, w1.there, fun b xs z => ?_, fun b o v z => ?_, fun b ps z => ?_⟩ (HOk.track (I.hok.write mu (.inl rfl) k ⟨_, hx⟩ (xo_ok hmx hx)) hdn1 ⟨_, hn, fun g => ?_⟩)
  · rw [upd_ne (old b o z)]; exact w1.free b o z n hb
  · rw [upd_ne (ne_of_none (w1.tups b xs z) hdn1)]; exact w1.tups b xs z
  · rw [upd_ne (ne_of_none (w1.frzs b o v z) hdn1)]; exact w1.frzs b o v z
  · obtain ⟨more, q⟩ := w1.tbls b ps z
    exact ⟨more, by rw [upd_ne (ne_of_none q hdn1)]; exact q⟩
  · show RelO ([(f, y)].lookup g) (if g = f then some u else none)
    by_cases q : g = f
    · rw [if_pos q, q, List.lookup_cons_self]; exact ry
    · rw [if_neg q, List.lookup_cons, show (g == f) = false from beq_eq_false_iff_ne.mpr q]; exact True.intro
theorem ps_xfld (ha : PE X o ta) (hv : PE X value tv) (hs : swapsWith value (some (.Attribute o f ap)) pos.line X.env = pure false) : PS X (.Assign [.Attribute o f ap] value pos) (sXFld X.K ta tv f) := by
  intro pins s σ H D I h
  refine plainObj_wpAny_Assign_Attribute (thn (hv pins s σ H _ I h) fun u s1 ⟨y, H1, I1, ry, q⟩ => thn (ha pins s1 σ H1 _ I1 q) fun ov s2 ⟨x, H2, I2, rx, a, m, C, g, ex, he, M, n, q2⟩ => ?_) hs
  subst ex
  obtain rfl : ov = Value.ref a := rx
  obtain ⟨cd, hc, hd, ho⟩ := M.cls
  obtain ⟨_, t0, hx⟩ := (I2.hok _ _ he).1
  obtain ⟨h2, gg, d, tk, os⟩ := s2
  refine exc_store PySem.F.store_ValueError I2.kIn hx hc hd ho M.sa n fun h' dx tk' n1 n2 hx' hn keep => ?_
  have I3 := I2.xstore (t' := tk') he n1 n2 hx' hn keep ry
  exact ⟨σ, _, I3, q2 dx (I2.hok.fresh n1) n2⟩
end
end L2
set_option maxRecDepth 100000
namespace L2
open PySem PySem.Spec PyProof.Rows
noncomputable def del (H : Hp) (x : Addr) : Hp := fun b => if b = x then none else H b
theorem del_same {H : Hp} {x : Addr} : del H x x = none := by unfold del; rw [if_pos rfl]
theorem del_ne {H : Hp} {b x : Addr} (h : b ≠ x) : del H x b = H b := by unfold del; rw [if_neg h]
theorem del_some {H : Hp} {b x : Addr} {o : HO} (h : del H x b = some o) : b ≠ x ∧ H b = some o := by
  by_cases e : b = x
  · rw [e, del_same] at h; cases h
  · rw [del_ne e] at h; exact ⟨e, h⟩
noncomputable def CX1 (P : Program) (w : World) : CXT := fun outer H s E e s' => ∃ (x C dx T : Addr) (H' : Hp), e = .ref x ∧ s'.os = s.os ∧ AllBare s'.gens ∧ Un (frs outer) [] H H' s.heap s'.heap ∧ HOk P w H' s'.heap ∧ s.heap.objs.size ≤ x ∧ s.heap.objs.size ≤ T ∧ H' x = none ∧ H' T = none ∧ Flies s'.heap x C dx T ∧ E (.ref C) (some dx) H'
section
variable {P : Program} {w : World} {K : PySem.W.Frag} {mg : Str → Option Value} {base : Heap} {N : List Str} {qual : Str} {scope : Scope} {f : Addr} {cd : Value} {A : Around} {outer : List Env} {s s1 : Shared} {H H1 : Hp} {E : XK} {pins : List (Addr × Obj)} {σ : St} {x C dx : Addr}
theorem throws (I : Inv (cxOf (CX1 P w) P w K mg base N qual scope f cd A outer s H E) pins σ H1 s1) (e : H1 x = some (xo s.heap.objs.size x C dx)) (hE : E (.ref C) (some dx) (del H1 x)) :
    (cxOf (CX1 P w) P w K mg base N qual scope f cd A outer s H E).xe (.ref x) s1 := by
  obtain ⟨hm, t0, hx⟩ := (I.hok _ _ e).1
  have B : Un (frs outer) [] H H1 s.heap s1.heap := I.base
  have old : ∀ b o, s.heap.get? b = some o → b ≠ x := fun b o z q => by rw [q] at z; exact absurd (Heap.lt_size z) (Nat.not_lt.mpr hm)
  have hfr : ∀ b o, s.heap.get? b = some o → b ∉ frs outer → b ∉ frs ((envOfC qual scope s.heap.objs.size f cd) :: outer) := fun b o z n q => by
    have z1 : b ∈ (envOfC qual scope s.heap.objs.size f cd).locals :: frs outer := I.stkSub b q
    rcases List.mem_cons.mp z1 with r | r
    · have : b < (envOfC qual scope s.heap.objs.size f cd).locals := Nat.lt_of_lt_of_le (Heap.lt_size z) I.ok.above
      rw [r] at this; exact absurd this (Nat.lt_irrefl _)
    · exact n r
  show wpAny _ _ (leaving _ _) _ _ _
  unfold leaving
  refine wpAny_bind (exc_note1 (s := s1) I.ok.frames I.stack (L := s.heap.objs.size) rfl hx fun h' T nT fl k1 k2 => ?_)
  have szl : s.heap.objs.size ≤ s1.heap.objs.size := I.sz
  refine ⟨x, C, dx, T, del H1 x, rfl, I.os, I.bare, ⟨fun b o z n hb hb' => ?_, fun b o z n hb hb' => ?_, fun b o z n hb' => ?_, fun b o z hb' => ?_, fun b xs z => ?_, fun b o v z => ?_, fun b ps z => ?_⟩, fun b u q => ?_, hm, Nat.le_trans szl nT, del_same, ?_, fl, hE⟩
  · exact k1 b o (old b o z) (hfr b o z hb) (B.keep b o z n hb hb')
  · obtain ⟨sl, q⟩ := B.slot b o z n hb hb'
    obtain ⟨sl', q'⟩ := k2 b _ (old b o z) q
    exact ⟨sl', q'⟩
  · rw [del_ne (old b o z)]; exact B.free b o z n hb'
  · obtain ⟨o', q⟩ := B.there b o z hb'
    obtain ⟨sl', q'⟩ := k2 b o' (old b o z) q
    exact ⟨_, q'⟩
  · have q := B.tups b xs z
    rw [del_ne (fun r => by rw [r, e] at q; cases q)]; exact q
  · have q := B.frzs b o v z
    rw [del_ne (fun r => by rw [r, e] at q; cases q)]; exact q
  · obtain ⟨more, q⟩ := B.tbls b ps z
    exact ⟨more, by rw [del_ne (fun r => by rw [r, e] at q; cases q)]; exact q⟩
  · obtain ⟨n1, q1⟩ := del_some q
    refine (I.hok b u q1).stay (fun c v hc z => ?_) (fun c z => by rw [del_ne (fun r => by rw [r, e] at z; cases z)]; exact z) fun c xs z => by rw [del_ne (fun r => by rw [r, e] at z; cases z)]; exact z
    have hcH : ∃ o, H1 c = some o := by
      rcases hc with r | r
      · rw [r]; exact ⟨_, q1⟩
      · exact ⟨_, r⟩
    obtain ⟨oc, hcH⟩ := hcH
    refine k1 c v (fun r => ?_) (fun r => ?_) z
    · rcases hc with r' | r'
      · exact n1 (r'.symm.trans r)
      · rw [r, e] at r'; cases r'
    · have := I.stkFree c r
      rw [hcH] at this; cases this
  · rw [del_ne (fun r => by
      have hlt := Heap.lt_size hx
      rw [← r] at hlt
      exact absurd hlt (Nat.not_lt.mpr nT))]
    exact I.hok.fresh nT
end
noncomputable def tRaise (K : PySem.W.Frag) (m : Nat) (E : XK) (te : TE) : TS := fun _ σ H => te σ H fun v H1 => ∃ x C dx f, v = .ref x ∧ H1 x = some (xo m x C dx) ∧ ErrC K C f ∧ E (.ref C) (some dx) (del H1 x)
section
variable {X : Cx} {m : Nat} {E : XK} {e : Expr} {te : TE} {pos : Pos}
theorem ps_raise (hx : ∀ (pins : List (Addr × Obj)) (σ : St) (H : Hp) (s : Shared) (x C dx : Addr), Inv X pins σ H s → H x = some (xo m x C dx) → E (.ref C) (some dx) (del H x) → X.xe (.ref x) s) (hc : X.calm = true) (he : PE X e te) : PS X (.Raise (some e) none pos) (tRaise X.K m E te) := by
  intro pins s σ H D I h
  rw [arm_exec_Raise]
  refine wpAny_bind (wpAny_standAt (raise_obj (I.ok.hd hc) (wpAny_bind (thn (he pins s σ H _ I h) fun u s1 z => wpAny_bind (wpAny_standAt (wpAny_pure ?_))))))
  obtain ⟨v, H1, I1, rv, x, C, dx, f, ev, ex, M, hE⟩ := z
  subst ev
  obtain rfl : u = Value.ref x := rv
  obtain ⟨nm, q, N, bs, bm, sn, sub, ab, col, dd, k0, k1, k2, k3, k5, l, htl, ho, hok, hi⟩ := M.ex
  obtain ⟨_, t0, hx'⟩ := (I1.hok _ _ ex).1
  exact ⟨x, C, t0, N, some dx, nm, q, bs, bm, true, sn, sub, ab, col, dd, k0, k1, k2, k3, k5, _, rfl, I1.kIn _ _ l, (PySem.W.tail_of_in I1.kIn htl).hasType (by decide), hx', hx pins σ H1 s1 x C dx I1 ex hE⟩
end
section
variable {P : Program} {w : World} {K : PySem.W.Frag} {mg : Str → Option Value} {base : Heap}
theorem FunD.okX {x qual : Str} {st : Stmt} {f : Addr} {fd : FuncData} {N ps : List Str} {k : Nat} {sp : Sp} (F : FunD K x qual st f fd) (S : FnScope N ps (defScope st)) (len : ∀ vs H Q E, sp vs H Q E → vs.length = ps.length)
    (hbody : ∀ (cdv : Value) (A : Around) (outer : List Env) (s : Shared) (H : Hp) (vs : List V) (Q : VK) (E : XK), Room k (A.deeper (envOfC qual (defScope st) s.heap.objs.size f cdv)) → sp vs H Q E →
      ∃ t, PSs (cxOf (CX1 P w) P w K mg base N qual (defScope st) f cdv A outer s H E) (defBody st) t ∧ t { nx := fun _ H' => Q .non H', rt := Q } (start N vs) H) : FnOk P w K mg base (CX1 P w) (k + 1) f fd ps sp := by
  obtain ⟨oc, od, dV, kV, doc, pm, an, cdv, ct, osl, rfl, lk, hcd⟩ := F.ex
  exact fn_of lk hcd S len fun A outer s H vs Q E hr hsp => hbody cdv A outer s H vs Q E hr hsp
end
section
variable {P : Program} {w : World} {K : PySem.W.Frag} {mg : Str → Option Value} {base : Heap} {N : List Str} {qual : Str} {scope : Scope} {f : Addr} {cd : Value} {A : Around} {outer : List Env} {s s1 : Shared} {H H1 : Hp} {E : XK} {pins : List (Addr × Obj)} {σ : St}
theorem passes1 : Passes (CX1 P w) (cxOf (CX1 P w) P w K mg base N qual scope f cd A outer s H E) E := by
  intro pins σ H1 s1 e s' I ⟨x, C, dx, T, H', ee, os', bare', un, hok, nx, nT, hx, hT, fl, hE⟩
  subst ee
  have I' := I.call' (ch := []) os' un hok bare' (fun b z => absurd z (by simp))
  have B : Un (frs outer) [] H H' s.heap s'.heap := I'.base
  have szl : s.heap.objs.size ≤ s1.heap.objs.size := I.sz
  have old : ∀ (y : Addr), s1.heap.objs.size ≤ y → ∀ b o, s.heap.get? b = some o → b ≠ y := fun y hy b o z q => by rw [q] at z; exact absurd (Heap.lt_size z) (Nat.not_lt.mpr (Nat.le_trans szl hy))
  have hfr : ∀ b o, s.heap.get? b = some o → b ∉ frs outer → b ∉ frs ((envOfC qual scope s.heap.objs.size f cd) :: outer) := fun b o z n q => by
    have z1 : b ∈ (envOfC qual scope s.heap.objs.size f cd).locals :: frs outer := I.stkSub b q
    rcases List.mem_cons.mp z1 with r | r
    · have : b < (envOfC qual scope s.heap.objs.size f cd).locals := Nat.lt_of_lt_of_le (Heap.lt_size z) I.ok.above
      rw [r] at this; exact absurd this (Nat.lt_irrefl _)
    · exact n r
  show wpAny _ _ (leaving _ _) _ _ _
  unfold leaving
  refine wpAny_bind (exc_noteN (s := s') I'.ok.frames I'.stack (L := s.heap.objs.size) rfl fl fun h' T' nT' fl' k1 k2 => ?_)
  refine ⟨x, C, dx, T', H', rfl, I'.os, I'.bare, ⟨fun b o z n hb hb' => ?_, fun b o z n hb hb' => ?_, fun b o z n hb' => B.free b o z n hb', fun b o z hb' => ?_, B.tups, B.frzs, B.tbls⟩, fun b u q => ?_, Nat.le_trans szl nx, ?_, hx, I'.hok.fresh nT', fl', hE⟩
  · exact k1 b o (old x nx b o z) (old T nT b o z) (hfr b o z hb) (B.keep b o z n hb hb')
  · obtain ⟨sl, q⟩ := B.slot b o z n hb hb'
    obtain ⟨sl', q'⟩ := k2 b _ (old x nx b o z) (old T nT b o z) q
    exact ⟨sl', q'⟩
  · obtain ⟨o', q⟩ := B.there b o z hb'
    obtain ⟨sl', q'⟩ := k2 b o' (old x nx b o z) (old T nT b o z) q
    exact ⟨_, q'⟩
  · refine (I'.hok b u q).stay (fun c v hc z => ?_) (fun c z => z) fun c xs z => z
    have hcH : ∃ o, H' c = some o := by
      rcases hc with r | r
      · rw [r]; exact ⟨_, q⟩
      · exact ⟨_, r⟩
    obtain ⟨oc, hcH⟩ := hcH
    refine k1 c v (fun r => ?_) (fun r => ?_) (fun r => ?_) z
    · rw [r, hx] at hcH; cases hcH
    · rw [r, hT] at hcH; cases hcH
    · have := I'.stkFree c r
      rw [hcH] at this; cases this
  · exact Nat.le_trans I'.sz nT'
end
end L2
set_option maxRecDepth 100000
namespace L2
open PySem PySem.Spec PyProof.Rows
noncomputable abbrev Cx.inExc (X : Cx) (x : Addr) (xe : Value → Shared → Prop) : Cx := { X with A := X.A.mark (some (.ref x)), calm := false, xe := xe }
section
variable {X : Cx} {pins : List (Addr × Obj)} {σ : St} {H : Hp} {s : Shared}
theorem Inv.inExc (I : Inv X pins σ H s) (x : Addr) (xe : Value → Shared → Prop) : Inv (X.inExc x xe) pins σ H s :=
  ⟨⟨I.ok.mod, I.ok.kind, I.ok.glob, I.ok.blt, I.ok.above, I.ok.inj, I.ok.has, I.ok.cab, (fun z => by cases z), I.ok.frames, I.ok.stk, I.ok.exf, I.ok.bs, I.ok.bsz, I.ok.noex, I.ok.exfs, I.ok.funs, I.ok.frf⟩, I.os, I.bare, I.base, I.loc, I.cell, I.free, I.freeC, I.pin, I.hok, I.len⟩
theorem Inv.outExc {x : Addr} {xe : Value → Shared → Prop} (hd : X.calm = true → X.A.handled = none) (I : Inv (X.inExc x xe) pins σ H s) : Inv X pins σ H s :=
  ⟨⟨I.ok.mod, I.ok.kind, I.ok.glob, I.ok.blt, I.ok.above, I.ok.inj, I.ok.has, I.ok.cab, hd, I.ok.frames, I.ok.stk, I.ok.exf, I.ok.bs, I.ok.bsz, I.ok.noex, I.ok.exfs, I.ok.funs, I.ok.frf⟩, I.os, I.bare, I.base, I.loc, I.cell, I.free, I.freeC, I.pin, I.hok, I.len⟩
theorem Inv.beyond {b : Addr} {s' : Shared} (I : Inv X pins σ H s) (h : s.heap.objs.size ≤ b) : (b ∈ X.ex ∨ X.s₀.heap.objs.size ≤ b) ∧ b ≠ X.env.locals ∧ (∀ x c, X.env.cells.lookup x = some c → c ≠ b) ∧ ∀ p ∈ X.pn ++ pins, p.1 ≠ b := by
  refine ⟨.inr (Nat.le_trans I.sz h), fun e => ?_, fun x c z e => ?_, fun p hp e => ?_⟩
  · have := I.lt
    rw [← e] at this; exact absurd this (Nat.not_lt.mpr h)
  · obtain ⟨v, o, ho, _⟩ := I.cell x c z
    have := Heap.lt_size ho
    rw [e] at this; exact absurd this (Nat.not_lt.mpr h)
  · have := Heap.lt_size (I.pin p hp).1
    rw [e] at this; exact absurd this (Nat.not_lt.mpr h)
theorem name_gone {M : Model} {A : Around} {E : Value → Shared → Prop} {i : Nat} {n : Str} {pos : Pos} {Q : Unit → Shared → Prop} (I : Inv X pins σ H s) (hN : X.N.Nodup) (hi : X.N[i]? = some n) (hk : X.env.kindOf n = some .local)
    (h : ∀ s', Inv X pins (σ.set i none) H s' → Q () s') : wpAny M A (do bindName X.env n .none; unbindBehindTheSuite X.env n pos) Q E s := by
  obtain ⟨m, hn, hl⟩ := I.loc
  have hcls : (X.env.scope.kind == .class || (X.env.scope.kind == .module && X.env.locals != X.env.globals)) = false := by rw [I.ok.kind]; rfl
  refine wpAny_nameGoes_keeps hk hn hcls fun h' v hn' hs => h _ ?_
  have cne := I.cne
  have k : ∀ b o, b ≠ X.env.locals → s.heap.get? b = some o → h'.get? b = some o := fun b o hb z => (hs.2 b hb).trans z
  have neL : ∀ b o, X.s₀.heap.get? b = some o → b ≠ X.env.locals := fun b o e => Nat.ne_of_lt (Nat.lt_of_lt_of_le (Heap.lt_size e) I.ok.above)
  have B := I.base
  refine ⟨I.ok, I.os, I.bare, ⟨fun b o z n hb hx => k b o (neL b o z) (B.keep b o z n hb hx), fun b o z n hb hx => ?_, B.free, fun b o z hx => ?_, B.tups, B.frzs, B.tbls⟩, ⟨_, hn', fun j y u h1 h2 h3 => ?_⟩, fun y c z => ?_, I.free, I.freeC, fun p hp => ?_, fun b u e => ?_, ?_⟩
  · obtain ⟨sl, q⟩ := B.slot b o z n hb hx
    exact ⟨sl, k b _ (neL b o z) q⟩
  · obtain ⟨o', q⟩ := B.there b o z hx
    exact ⟨o', k b o' (neL b o z) q⟩
  · have hij : i ≠ j := fun e => by
      subst e
      rw [List.getElem?_set_self (by rw [I.len]; exact (List.getElem?_eq_some_iff.mp hi).1)] at h2
      cases h2
    rw [List.getElem?_set_ne hij] at h2
    obtain ⟨u', r, lk⟩ := hl j y u h1 h2 h3
    have hyn : y ≠ n := fun e => hij (nodup_ix hN (by rw [hi, ← e]) h1)
    refine ⟨u', r, ?_⟩
    rcases lk with ⟨a, b⟩ | ⟨a, c, b, d⟩
    · exact .inl ⟨a, by show (if y = n then v else m y) = _; rw [if_neg hyn]; exact b⟩
    · obtain ⟨o, ho, hd⟩ := d
      exact .inr ⟨a, c, b, o, k c o (cne y c b) ho, hd⟩
  · obtain ⟨v', o, ho, hd⟩ := I.cell y c z
    exact ⟨v', o, k c o (cne y c z) ho, hd⟩
  · obtain ⟨a, b, c, d, e⟩ := I.pin p hp
    exact ⟨k _ _ c a, b, c, d, e⟩
  · refine (I.hok b u e).stay (fun c v' hc z => k c v' (fun r => ?_) z) (fun _ z => z) fun _ _ z => z
    have := I.free
    rcases hc with r' | r'
    · rw [← r, r', e] at this; cases this
    · rw [← r, r'] at this; cases this
  · rw [List.length_set]; exact I.len
end
end L2
set_option maxRecDepth 100000
namespace L2
open PySem PySem.Spec PyProof.Rows
section
variable {X : Cx} {pins : List (Addr × Obj)} {σ : St} {H : Hp} {s s' : Shared} {E : XK} {e : Value} {Dn n : Str} {dp hp : Pos} {i : Nat} {b₀ : Stmt} {suite : List Stmt} {ts : TS} {D : Ends} {DC : Addr} {cd : ClassData}
theorem Inv.held {H' : Hp} {h2 : Heap} {x C dx T T2 : Addr} (I1 : Inv X pins σ H' s') (hbx : (x ∈ X.ex ∨ X.s₀.heap.objs.size ≤ x) ∧ x ≠ X.env.locals ∧ (∀ y c, X.env.cells.lookup y = some c → c ≠ x) ∧ ∀ p ∈ X.pn ++ pins, p.1 ≠ x) (hbT : (T ∈ X.ex ∨ X.s₀.heap.objs.size ≤ T) ∧ T ≠ X.env.locals ∧ (∀ y c, X.env.cells.lookup y = some c → c ≠ T) ∧ ∀ p ∈ X.pn ++ pins, p.1 ≠ T)
    (hx : H' x = none) (hT : H' T = none) (fl2 : Flies h2 x C dx T2) (k1 : ∀ b o, b ≠ x → b ≠ T → b ∉ X.stack.filterMap (·.frame) → s'.heap.get? b = some o → h2.get? b = some o) (k2 : ∀ b o, b ≠ x → b ≠ T → s'.heap.get? b = some o → ∃ sl, h2.get? b = some { o with slots := sl }) :
    Inv X pins σ (upd H' x (xc x C dx)) { s' with heap := h2 } := by
  obtain ⟨vs, oT, tsl, he, h1, hTx, hT2, hTd, h3⟩ := fl2
  have fr : ∀ b, b ≠ X.env.locals → b ∉ X.fs → b ∉ X.stack.filterMap (·.frame) := fun b hL hf q => by
    rcases List.mem_cons.mp (I1.stkSub b q) with r | r
    · exact hL r
    · exact hf r
  refine I1.step (g' := s'.gens) (d' := s'.drawn) (t' := s'.toks) (ch := [x, T]) (fun b hb => ?_) (fun b o hL hf hc z _ => k1 b o (fun r => hc (by simp [r])) (fun r => hc (by simp [r])) (fr b hL hf) z) (fun b o hL hf hc z _ => k2 b o (fun r => hc (by simp [r])) (fun r => hc (by simp [r])) z) (fun b o hc z n => ?_) (fun b o hc z => ?_) (fun b xs z => ?_) (fun b o u z => ?_) (fun b ps z => ?_) (fun m hm => ?_) (HOk.track (fun b u q => ?_) hx (xc_ok he rfl rfl rfl)) I1.bare
  · rcases List.mem_cons.mp hb with r | r
    · rw [r]; exact hbx
    · rw [List.mem_singleton.mp r]; exact hbT
  · rw [upd_ne (fun r => hc (by simp [r]))]; exact n
  · obtain ⟨sl, q⟩ := k2 b o (fun r => hc (by simp [r])) (fun r => hc (by simp [r])) z
    exact ⟨_, q⟩
  · rw [upd_ne (ne_of_none z hx)]; exact z
  · rw [upd_ne (ne_of_none z hx)]; exact z
  · exact ⟨#[], by rw [upd_ne (ne_of_none z hx), z]; simp⟩
  · obtain ⟨o, es, ep, ho, r⟩ := hm
    obtain ⟨sl, q⟩ := k2 _ o (Ne.symm hbx.2.1) (Ne.symm hbT.2.1) ho
    exact ⟨_, es, ep, q, r⟩
  · refine (I1.hok b u q).stay (fun c v hc z => ?_) (fun c z => z) fun c xs z => z
    have hcH : ∃ o, H' c = some o := by
      rcases hc with r | r
      · rw [r]; exact ⟨_, q⟩
      · exact ⟨_, r⟩
    obtain ⟨oc, hcH⟩ := hcH
    refine k1 c v (ne_of_none hcH hx) (ne_of_none hcH hT) (fun r => ?_) z
    have := I1.stkFree c r
    rw [hcH] at this; cases this
theorem Inv.other {h2 : Heap} {T : Addr} (I : Inv X pins σ H s) (hb : (T ∈ X.ex ∨ X.s₀.heap.objs.size ≤ T) ∧ T ≠ X.env.locals ∧ (∀ y c, X.env.cells.lookup y = some c → c ≠ T) ∧ ∀ p ∈ X.pn ++ pins, p.1 ≠ T) (hT : H T = none) (k : ∀ b o, b ≠ T → s.heap.get? b = some o → h2.get? b = some o) : Inv X pins σ H { s with heap := h2 } :=
  I.turned (t' := s.toks) k hT hb.2.1 hb.1 hb.2.2.1 hb.2.2.2
theorem catch1 (hstk : X.stack = X.env :: X.outer) (hfm : X.env.frame = some X.env.locals) (I : Inv X pins σ H s) (c : CX1 X.prog X.w X.stack H s E e s')
    (hg : Gl X Dn) (hm : X.mg Dn = some (.ref DC)) (hDc : PySem.W.clsIn X.K DC = some cd) (hDt : PySem.W.typeIn X.K (.ref DC) = some (.type "type")) (hDb : PySem.W.mroIn X.K DC (.type "BaseException") = some true)
    (hN : X.N.Nodup) (hi : X.N[i]? = some n) (hk : X.env.kindOf n = some .local) (hs : ∀ x xe, PSs (X.inExc x xe) (b₀ :: suite) ts)
    (hE : ∀ C dx H', E (.ref C) (some dx) H' → PySem.W.mroIn X.K C (.ref DC) = some true ∧ ∀ x, H' x = none → ts { nx := fun σ' H'' => D.nx (σ'.set i none) H'', rt := fun _ _ => False } (σ.set i (some (.ref x))) (upd H' x (xc x C dx)))
    (hdb : (Dn == ("__debug__" : Str)) = false := by decide) :
    wpAny (model X.prog X.w) X.A (noteFrame e X.env) (fun _ s₂ => wpAny (model X.prog X.w) X.A (setFlight e none) (fun _ s₃ => wpAny (model X.prog X.w) X.A (handleBy e X.env [.ExceptHandler (some (.Name Dn dp)) (some n) (b₀ :: suite) hp]) (SP X pins D) X.xe s₃) X.xe s₂) X.xe s' := by
  obtain ⟨x, C, dx, T, H', ee, os', bare', un, hok, nx, nT, hx, hT, fl, hE'⟩ := c
  subst ee
  obtain ⟨hmat, hread⟩ := hE C dx H' hE'
  have I1 := I.call' (ch := []) os' un hok bare' (fun b z => absurd z (by simp))
  have bx := I.beyond (s' := s) nx
  have bT := I.beyond (s' := s) nT
  have hfr : X.A.frames = some (X.env :: X.outer) := by rw [← hstk]; exact I.ok.frames
  have hfl : s'.heap.FunFrames X.base (X.env :: X.outer) := by rw [← hstk]; exact I1.stack
  refine exc_noteN (s := s') hfr hfl hfm fl fun h2 T2 nT2 fl2 k1 k2 => ?_
  rw [← hstk] at k1
  have I2 := I1.held bx bT hx hT fl2 k1 k2
  have bT2 := I1.beyond (s' := s) nT2
  have hT2 : upd H' x (xc x C dx) T2 = none := by
    obtain ⟨_, _, _, _, _, hTx, _⟩ := fl2
    rw [upd_ne hTx]; exact I1.hok.fresh nT2
  refine wpAny_handleBy_cons (codeAny_handlers_test ?_) (by intro q; cases q)
  have I3 := I2.inExc x X.xe
  have hmatch : ∀ (s2 : Shared), s2 = { s' with heap := h2 } → True := fun _ _ => trivial
  refine ld_glob I3 hg hm ?_ hdb
  obtain ⟨vs, oT, tsl, he2, r2⟩ := id fl2
  refine exc_match (s := { s' with heap := h2 }) I2.kIn he2 rfl hDc hDt hDb hmat ?_
  refine codeAny_handlers_suite_as (exc_land (s := { s' with heap := h2 }) fl2 fun h3 fl3 k3 => ?_)
  have I4 := I2.other bT2 hT2 k3
  refine store_ok I4 hN hi (.inl hk) (v := .ref x) rfl (fun s5 I5 => ?_) (.inr hk)
  refine wpAny_mono (hs x _ pins s5 _ _ _ (I5.inExc x _) (hread x hx)) (fun f s6 q => ?_) fun _ _ z => z
  cases f with
  | next =>
    obtain ⟨σ6, H6, I6, q6⟩ := q
    exact name_gone (I6.outExc I.ok.hd) hN hi hk fun s7 I7 => ⟨_, H6, I7, q6⟩
  | ret u => obtain ⟨_, _, _, _, _, z⟩ := q; exact z.elim
  | brk => obtain ⟨_, _, _, z⟩ := q; exact z.elim
  | cont => obtain ⟨_, _, _, z⟩ := q; exact z.elim
end
end L2
set_option maxRecDepth 100000
namespace L2
open PySem PySem.Spec PyProof.Rows
section
variable {X : Cx} {pins : List (Addr × Obj)} {σ : St} {H : Hp} {s : Shared} {E : XK} {k : Nat} {f : Addr} {fd : FuncData} {ps : List Str} {sp : Sp} {g : Str} {gp cp : Pos} {e : Expr} {es : List Expr} {t : TA} {Q : VK} {XE : Value → Shared → Prop} {dvs : List V} {ds : List Value}
theorem call_at (F : FnOk X.prog X.w X.K X.mg X.base (CX1 X.prog X.w) k f fd ps sp) (hr : Room k X.A) (hg : Gl X g) (hm : X.mg g = some (.ref f)) (hk : PySem.W.keepIn X.K (.ref f) = true) (hb : Binds X.K fd ps ds) (hd : Vals dvs ds)
    (ha : PA (X.wish XE) (e :: es) t) (I : Inv X pins σ H s) (h : t σ H fun vs H1 => sp (vs ++ dvs) H1 Q E) (hx : ∀ H1 s1 e' s', Inv X pins σ H1 s1 → CX1 X.prog X.w X.stack H1 s1 E e' s' → XE e' s')
    (hdb : (g == ("__debug__" : Str)) = false := by decide) (he : starEach (e :: es) X.env = (false, eval e X.env) :: starEach es X.env := by rfl) (hpl : (backTo cp (starEach es X.env)).any (·.1) = false := by rfl) :
    wpAny (model X.prog X.w) X.A (eval (.Call (.Name g gp) (e :: es) [] cp) X.env) (EP X pins σ Q) XE s := by
  refine wpAny_Call_Name_kw (ld_glob I hg hm ?_ hdb)
  refine PySem.W.callWith_K (h₀ := X.base) I.ok.mod.kin hk (thn (ha cp pins s σ H _ (I.wish XE) h) fun us s1 z => ?_) he hpl
  obtain ⟨vs, H1, I1, r, q⟩ := z
  have I1 := I1.unwish
  refine ⟨I1.kIn, ?_⟩
  have r2 : Vals (vs ++ dvs) (us ++ ds) := r.append hd
  have hl : (us ++ ds).length = ps.length := by rw [← r2.length]; exact F.len _ _ _ _ q
  refine wpAny_call (codeAny_mono (F.run X.A X.stack s1 H1 ⟨us, []⟩ (us ++ ds) (vs ++ dvs) Q E hr I1.env0 (hb s1 us I1.kIn hl) r2 q) fun r s' hq => ?_)
  cases r with
  | error e' => exact hx H1 s1 e' s' I1 hq
  | ok fl =>
    cases fl with
    | ret u => exact I1.after hq
    | next => exact False.elim hq
    | brk => exact False.elim hq
    | cont => exact False.elim hq
end
noncomputable def tCatch (K : PySem.W.Frag) (DC : Addr) (i : Nat) (ts : TS) (D : Ends) (σ : St) : XK := fun cls dx H' => ∃ C d, cls = .ref C ∧ dx = some d ∧ PySem.W.mroIn K C (.ref DC) = some true ∧ ∀ x, H' x = none → ts { nx := fun σ' H'' => D.nx (σ'.set i none) H'', rt := fun _ _ => False } (σ.set i (some (.ref x))) (upd H' x (xc x C d))
noncomputable def tTryE (K : PySem.W.Frag) (sp : Sp) (dvs : List V) (t : TA) (DC : Addr) (i : Nat) (ts : TS) : TS := fun D σ H => t σ H fun vs H1 => sp (vs ++ dvs) H1 (fun _ H2 => D.nx σ H2) (tCatch K DC i ts D σ)
noncomputable def tTryA (K : PySem.W.Frag) (sp : Sp) (dvs : List V) (t : TA) (j : Nat) (DC : Addr) (i : Nat) (ts : TS) : TS := fun D σ H => t σ H fun vs H1 => sp (vs ++ dvs) H1 (fun v H2 => D.nx (σ.set j (some v)) H2) (tCatch K DC i ts D σ)
structure CatchC (K : PySem.W.Frag) (DC : Addr) : Prop where
  cl : ∃ cd, PySem.W.clsIn K DC = some cd
  ty : PySem.W.typeIn K (.ref DC) = some (.type "type")
  bx : PySem.W.mroIn K DC (.type "BaseException") = some true
section
variable {X : Cx} {k : Nat} {f DC : Addr} {fd : FuncData} {ps : List Str} {sp : Sp} {g Dn n y : Str} {gp cp ep dp hp pos yp : Pos} {e : Expr} {es : List Expr} {t : TA} {i j : Nat} {b₀ : Stmt} {suite : List Stmt} {ts : TS} {dvs : List V} {ds : List Value}
theorem ps_tryA (F : FnOk X.prog X.w X.K X.mg X.base (CX1 X.prog X.w) k f fd ps sp) (hr : Room k X.A) (hg : Gl X g) (hm : X.mg g = some (.ref f)) (hk : PySem.W.keepIn X.K (.ref f) = true) (hb : Binds X.K fd ps ds) (hd : Vals dvs ds) (ha : ∀ XE, PA (X.wish XE) (e :: es) t)
    (hstk : X.stack = X.env :: X.outer) (hfm : X.env.frame = some X.env.locals) (hgD : Gl X Dn) (hmD : X.mg Dn = some (.ref DC)) (CC : CatchC X.K DC) (hN : X.N.Nodup) (hj : X.N[j]? = some y) (hy : Loc X.env.scope y) (hi : X.N[i]? = some n) (hkn : X.env.kindOf n = some .local) (hs : ∀ x xe, PSs (X.inExc x xe) (b₀ :: suite) ts)
    (hdb : (g == ("__debug__" : Str)) = false := by decide) (hdD : (Dn == ("__debug__" : Str)) = false := by decide) (he : starEach (e :: es) X.env = (false, eval e X.env) :: starEach es X.env := by rfl) (hpl : (backTo cp (starEach es X.env)).any (·.1) = false := by rfl)
    (hsw : swapsWith (.Call (.Name g gp) (e :: es) [] cp) (some (.Name y yp)) ep.line X.env = pure false := by rfl) (hf : X.fn y = true ∨ X.env.scope.names.lookup y = some .local := by first | exact .inl rfl | exact .inr rfl | assumption) :
    PS X (.Try [.Assign [.Name y yp] (.Call (.Name g gp) (e :: es) [] cp) ep] [.ExceptHandler (some (.Name Dn dp)) (some n) (b₀ :: suite) hp] [] [] pos) (tTryA X.K sp dvs t j DC i ts) := by
  intro pins s σ H D I h
  obtain ⟨cd, hcd⟩ := CC.cl
  refine wpAny_Try_except (wpAny_execs_cons (wpAny_Assign_Name (wpAny_mono (call_at F hr hg hm hk hb hd (ha _) I h (fun H1 s1 e' s' I1 c => catch1 hstk hfm I1 c hgD hmD hcd CC.ty CC.bx hN hi hkn hs (fun C dx H' hE => ?_) hdD) hdb he hpl) (fun u s1 z => ?_) fun _ _ z => z) hsw))
  · obtain ⟨C', d', e1, e2, h1, h2⟩ := hE
    cases e1; cases e2
    exact ⟨h1, h2⟩
  · obtain ⟨v, H1, I1, rv, q⟩ := z
    exact store_ok I1 hN hj hy rv (fun s2 I2 => wpAny_execs_nil (wpAny_execs_nil ⟨_, H1, I2, q⟩)) hf
end
noncomputable def tXGet (K : PySem.W.Frag) (ta : TE) (f : Str) : TE := fun σ H Q => ta σ H fun x H1 => ∃ a C dx g fs v, x = .ref a ∧ H1 a = some (xc a C dx) ∧ H1 dx = some (.xd fs) ∧ ErrC K C g ∧ NoAttr K C f ∧ fs.lookup f = some v ∧ Q v H1
section
variable {X : Cx} {e : Expr} {te : TE} {f : Str} {pos : Pos}
theorem exc_at {pins : List (Addr × Obj)} {σ : St} {H : Hp} {s : Shared} {a C dx : Addr} {fs : List (Str × V)} (I : Inv X pins σ H s) (h1 : H a = some (xc a C dx)) (h2 : H dx = some (.xd fs)) :
    ∃ (ox od : Obj) (mA : Str → Option Value), PySem.W.InstAt s.heap a ox C (some od) ∧ (∀ name, PySem.W.lookIn name od = some (mA name)) ∧ ∀ g, RelO (fs.lookup g) (mA g) := by
  obtain ⟨o, ho, hc, hd, hn⟩ := (I.hok _ _ h1).1
  obtain ⟨mA, ns, rel⟩ := I.hok _ _ h2
  obtain ⟨od, hod, hl⟩ := lookIn_ns ns
  refine ⟨o, od, mA, ⟨ho, hc, hn, ?_⟩, hl, rel⟩
  rw [hd]
  exact hod
theorem pe_xget (he : PE X e te) (hb : attributeBase e f X.env (eval e X.env) = eval e X.env) : PE X (.Attribute e f pos) (tXGet X.K te f) := by
  intro pins s σ H Q I h
  refine attr_of hb (thn (he pins s σ H _ I h) fun u s1 z => ?_)
  obtain ⟨x, H1, I1, rx, a, C, dx, g, fs, v, ex, h1, h2, M, n, l, q⟩ := z
  subst ex
  obtain rfl : u = Value.ref a := rx
  obtain ⟨ox, od, mA, J, hl, rel⟩ := exc_at I1 h1 h2
  obtain ⟨u, hu, ru⟩ := RelO.some_of (v := v) (o := mA f) (by rw [← l]; exact rel f)
  obtain ⟨cd, hc, hd, _⟩ := M.cls
  obtain ⟨hh, g', d, tk, os⟩ := s1
  refine exc_get I1.kIn J M.ga M.gt M.bx (PySem.W.findObj_own (by unfold PySem.W.hasDictIn; rw [hc]; exact hd) n rfl (by rw [hl, hu])) (handed_of ru) ?_
  exact ⟨v, H1, I1.tok _, ru, q⟩
end
end L2
set_option maxRecDepth 100000
namespace L2
open PySem PySem.Spec PyProof.Rows
noncomputable def FOX (P : Program) (w : World) (K : PySem.W.Frag) (mg : Str → Option Value) (base : Heap) (k : Nat) (x : Str) (ps : List Str) (dvs : List V) (sp : Sp) : Prop :=
  ∃ f fd, FnOk P w K mg base (CX1 P w) k f fd ps sp ∧ mg x = some (.ref f) ∧ PySem.W.keepIn K (.ref f) = true ∧ ∃ ds, Binds K fd ps ds ∧ Vals dvs ds
noncomputable def EO (P : Program) (w : World) (K : PySem.W.Frag) (mg : Str → Option Value) (base : Heap) (k : Nat) (C : Addr) (x : Str) (ps : List Str) (sp : Sp) : Prop :=
  ∃ f fd, FnOk P w K mg base CX0 k f fd ps sp ∧ mg x = some (.ref C) ∧ ErrC K C f ∧ Binds K fd ps []
noncomputable def spErrI (K : PySem.W.Frag) (C : Addr) (fld : Str) : Sp := fun vs H Q _ => ∃ m x i f, vs = [.ref x, .int i] ∧ H x = some (xm m x C) ∧ ErrC K C f ∧ NoAttr K C fld ∧ i.natAbs < 10 ^ 9 ∧ ∀ dx, H dx = none → dx ≠ x → Q .non (upd (upd H x (xo m x C dx)) dx (.xd [(fld, .int i)]))
section
variable {X : Cx} {K : PySem.W.Frag} {k : Nat} {C : Addr} {ps : List Str} {sp : Sp} {x : Str} {p pos np ap cp ep dp hp yp gp : Pos} {e a b : Expr} {es : List Expr} {t : TA} {te ta tb tv : TE} {m : Nat} {E : XK}
theorem qe_err (G : EO X.prog X.w X.K X.mg X.base k C x ps sp) (hr : Room (k + 1) X.A) (ha : QA X (e :: es) t) (hg : Gl X x := by rfl) (hm : X.s₀.heap.objs.size = m := by rfl) (hdb : (x == ("__debug__" : Str)) = false := by decide)
    (he : starEach (e :: es) X.env = (false, eval e X.env) :: starEach es X.env := by rfl) (hpl : (backTo pos (starEach es X.env)).any (·.1) = false := by rfl) : QE X (.Call (.Name x p) (e :: es) [] pos) (tErr m C sp t) := by
  subst hm
  obtain ⟨f, fd, F, hmg, M, hb⟩ := G
  exact ⟨pe_err M F hr hg hmg hb ha.out hdb he hpl⟩
theorem qe_init {L : Addr} {pl : Sem Bool} (N : LoreC X.K L) (hm : X.mg x = some (.ref L)) (ha : QE X a ta) (hb : QE X b tb) (hK : X.K = K := by rfl) (hg : Gl X x := by rfl) (hdb : (x == ("__debug__" : Str)) = false := by decide)
    (htr : backTo cp (starEach [a, b] X.env) = [(false, eval a X.env), (false, eval b X.env)] := by rfl)
    (ht : eval (.Call (.Attribute (.Name x np) "__init__" ap) [a, b] [] cp) X.env = (do
      let ov ← eval (.Name x np) X.env
      standAt ap.atName
      let (f, first) ← holding [ov] (getMethod ov "__init__" pl)
      callWith cp f first (backTo cp (starEach [a, b] X.env)) (backToKw cp (keywordEach [] X.env))) := by rfl) : QE X (.Call (.Attribute (.Name x np) "__init__" ap) [a, b] [] cp) (tInit K ta tb) := by
  subst hK
  exact ⟨pe_init N hg hm ha.out hb.out hdb htr ht⟩
theorem qe_fmtI (he : QE X e te) : QE X (.FormattedValue e (-1) none pos) (tFmtI te) := ⟨pe_fmtI he.out⟩
theorem qe_joined2 {t1 t2 : TE} (h1 : QE X a t1) (h2 : QE X b t2) : QE X (.JoinedStr [a, b] pos) (tParts [t1, t2]) := ⟨pe_joined (.cons h1.out (.cons h2.out .nil)) (by decide)⟩
theorem qs_xfld {f : Str} (ha : QE X a ta) (hv : QE X b tv) (hK : X.K = K := by rfl) (hs : swapsWith b (some (.Attribute a f ap)) pos.line X.env = pure false := by rfl) : QS X (.Assign [.Attribute a f ap] b pos) (sXFld K ta tv f) := by
  subst hK
  exact ⟨ps_xfld ha.out hv.out hs⟩
theorem qs_raise (hx : ∀ (pins : List (Addr × Obj)) (σ : St) (H : Hp) (s : Shared) (x C dx : Addr), Inv X pins σ H s → H x = some (xo m x C dx) → E (.ref C) (some dx) (del H x) → X.xe (.ref x) s) (he : QE X e te) (hK : X.K = K := by rfl) (hc : X.calm = true := by rfl) : QS X (.Raise (some e) none pos) (tRaise K m E te) := by
  subst hK
  exact ⟨ps_raise hx hc he.out⟩
theorem qe_callX {dvs : List V} (G : FOX X.prog X.w X.K X.mg X.base k x ps dvs sp) (hr : Room k X.A) (hx : Passes (CX1 X.prog X.w) X E) (ha : QA X (e :: es) t) (hg : Gl X x := by rfl) (hdb : (x == ("__debug__" : Str)) = false := by decide)
    (he : starEach (e :: es) X.env = (false, eval e X.env) :: starEach es X.env := by rfl) (hpl : (backTo pos (starEach es X.env)).any (·.1) = false := by rfl) : QE X (.Call (.Name x p) (e :: es) [] pos) (tCall sp dvs E t) := by
  obtain ⟨f, fd, F, hm, hk, ds, hb, hd⟩ := G
  exact ⟨pe_call F hr hg hm hk hb hd hx ha.out hdb he hpl⟩
theorem qe_xget {f : Str} (he : QE X e te) (hK : X.K = K := by rfl) (hb : attributeBase e f X.env (eval e X.env) = eval e X.env := by rfl) : QE X (.Attribute e f pos) (tXGet K te f) := by
  subst hK
  exact ⟨pe_xget he.out hb⟩
variable {DC : Addr} {Dn n y : Str} {i j : Nat} {b₀ : Stmt} {suite : List Stmt} {ts : TS} {dvs : List V} {N : List Str} {S : Scope}
theorem qs_tryA (G : FOX X.prog X.w X.K X.mg X.base k x ps dvs sp) (hr : Room k X.A) (ha : ∀ XE, QA (X.wish XE) (e :: es) t) (hmD : X.mg Dn = some (.ref DC)) (CC : CatchC X.K DC) (hN : X.N.Nodup) (hj : X.N[j]? = some y) (hy : Loc X.env.scope y) (hi : X.N[i]? = some n) (hkn : X.env.kindOf n = some .local) (hs : ∀ x xe, QSs (X.inExc x xe) (b₀ :: suite) ts)
    (hK : X.K = K := by rfl) (hstk : X.stack = X.env :: X.outer := by rfl) (hfm : X.env.frame = some X.env.locals := by rfl) (hg : Gl X x := by rfl) (hgD : Gl X Dn := by rfl)
    (hdb : (x == ("__debug__" : Str)) = false := by decide) (hdD : (Dn == ("__debug__" : Str)) = false := by decide) (he : starEach (e :: es) X.env = (false, eval e X.env) :: starEach es X.env := by rfl) (hpl : (backTo cp (starEach es X.env)).any (·.1) = false := by rfl)
    (hsw : swapsWith (.Call (.Name x gp) (e :: es) [] cp) (some (.Name y yp)) ep.line X.env = pure false := by rfl) (hf : X.fn y = true ∨ X.env.scope.names.lookup y = some .local := by first | exact .inl rfl | exact .inr rfl | assumption) :
    QS X (.Try [.Assign [.Name y yp] (.Call (.Name x gp) (e :: es) [] cp) ep] [.ExceptHandler (some (.Name Dn dp)) (some n) (b₀ :: suite) hp] [] [] pos) (tTryA K sp dvs t j DC i ts) := by
  subst hK
  obtain ⟨f, fd, F, hm, hk, ds, hb, hd⟩ := G
  exact ⟨ps_tryA F hr hg hm hk hb hd (fun XE => (ha XE).out) hstk hfm hgD hmD CC hN hj hy hi hkn (fun x xe => (hs x xe).out) hdb hdD he hpl hsw hf⟩
end
section
variable {σ : St} {H : Hp} {Q : VK} {D : Ends} {m : Nat} {C DC : Addr} {sp : Sp} {t : TA} {te ta tb tv : TE} {K : PySem.W.Frag} {E : XK} {f : Str} {i j : Nat} {ts : TS} {dvs : List V} {tl : List TE}
theorem ap_err : tErr m C sp t σ H Q = t σ H fun vs H1 => vs.length ≤ 1000 ∧ ∀ x, H1 x = none → sp (.ref x :: vs) (upd H1 x (xm m x C)) (fun v H2 => v = .non ∧ Q (.ref x) H2) E0 := rfl
theorem ap_raise : tRaise K m E te D σ H = te σ H fun v H1 => ∃ x C dx f, v = .ref x ∧ H1 x = some (xo m x C dx) ∧ ErrC K C f ∧ E (.ref C) (some dx) (del H1 x) := rfl
theorem ap_init : tInit K ta tb σ H Q = ta σ H fun x H1 => tb σ H1 fun _ H2 => ∃ a m C f, x = .ref a ∧ H2 a = some (xm m a C) ∧ ErrC K C f ∧ Q .non H2 := rfl
theorem ap_fmtI : tFmtI te σ H Q = te σ H fun v H1 => ∃ i : Int, v = .int i ∧ i.natAbs < 10 ^ 9 ∧ ∀ z : Str, z.length ≤ 100 → Q (.str z) H1 := rfl
theorem ap_parts0 : tParts [] σ H Q = ∀ z : Str, Q (.str z) H := rfl
theorem ap_parts : tParts (te :: tl) σ H Q = te σ H fun v H1 => ∃ y : Str, v = .str y ∧ y.length ≤ 100000 ∧ tParts tl σ H1 Q := rfl
theorem ap_xfld : sXFld K ta tv f D σ H = tv σ H fun y H1 => ta σ H1 fun x H2 => ∃ a m C g, x = .ref a ∧ H2 a = some (xm m a C) ∧ ErrC K C g ∧ NoAttr K C f ∧ ∀ dx, H2 dx = none → dx ≠ a → D.nx σ (upd (upd H2 a (xo m a C dx)) dx (.xd [(f, y)])) := rfl
theorem ap_xget : tXGet K ta f σ H Q = ta σ H fun x H1 => ∃ a C dx g fs v, x = .ref a ∧ H1 a = some (xc a C dx) ∧ H1 dx = some (.xd fs) ∧ ErrC K C g ∧ NoAttr K C f ∧ fs.lookup f = some v ∧ Q v H1 := rfl
theorem ap_tryE : tTryE K sp dvs t DC i ts D σ H = t σ H fun vs H1 => sp (vs ++ dvs) H1 (fun _ H2 => D.nx σ H2) (tCatch K DC i ts D σ) := rfl
theorem ap_tryA : tTryA K sp dvs t j DC i ts D σ H = t σ H fun vs H1 => sp (vs ++ dvs) H1 (fun v H2 => D.nx (σ.set j (some v)) H2) (tCatch K DC i ts D σ) := rfl
end
theorem nsOk_of {K : PySem.W.Frag} {N : Addr} {c : Value} {d : Option Addr} {es : Array DictEntry} {n : Nat} {sl : Array (Option Value)} (h : K.lookup N = some ⟨c, d, .dict es n, sl⟩) (ha : (es.toList.all fun e => match e.key with | .str _ _ => true | _ => false) = true) : PySem.W.nsOkIn K N = true := by
  unfold PySem.W.nsOkIn
  rw [h]
  show (es.all _) = true
  rw [← Array.all_toList]
  exact ha
theorem tail_one {K : PySem.W.Frag} {A : Addr} {bmB : List Value} {c : Value} {d : Option Addr} {cd : ClassData} {sl : Array (Option Value)} (h : K.lookup A = some ⟨c, d, .cls cd, sl⟩) (h1 : PySem.W.nsOkIn K cd.ns = true) (h2 : PySem.W.nsIn K cd.ns "__init__" = some none) : PySem.W.tailIn K bmB (.ref A :: bmB) = true := by
  unfold PySem.W.tailIn
  dsimp only
  rw [h]
  have h3 : PySem.W.tailIn K bmB bmB = true := by
    cases bmB with
    | nil => rfl
    | cons v r =>
      unfold PySem.W.tailIn
      rw [beq_self_eq_true]
      rfl
  simp only [h1, h2, h3, beq_self_eq_true, Bool.and_self, Bool.or_true]
end L2
set_option maxRecDepth 100000
namespace L2
open PySem PySem.Spec PyProof.Rows
open PySem.Builtin PySem.Builtin.Str PySem.StrLaws
theorem occ_any {s sub : Str} {hi : Nat} (h1 : sub.length = 1) : ∀ (n a : Nat) (st : Array Nat × Nat), st.snd ≤ a →
    (forIn (List.range' a n) st (occBody s sub hi 1)).run.fst.toList.isEmpty = (st.fst.toList.isEmpty && (List.range' a n).all fun i => !(decide (i + 1 ≤ hi) && subAt s sub i))
  | 0, a, st, _ => by simp
  | n + 1, a, st, h2 => by
    rw [List.range'_succ, List.forIn_cons, List.all_cons]
    unfold occBody
    by_cases hc : a + 1 ≤ hi ∧ subAt s sub a = true
    · have e0 : (!(decide (a + 1 ≤ hi) && subAt s sub a)) = false := by rw [decide_eq_true hc.1, hc.2]; rfl
      rw [e0, Bool.false_and, Bool.and_false]
      by_cases hs : st.fst.size < 1
      · rw [if_pos ⟨⟨⟨hs, h2⟩, by omega⟩, hc.2⟩]
        have := occ_any (s := s) (hi := hi) h1 n (a + 1) (st.fst.push a, a + sub.length) (by simp only; omega)
        refine this.trans ?_
        rw [Array.toList_push]
        simp
      · rw [if_neg (fun h => hs h.1.1.1)]
        have := occ_any (s := s) (hi := hi) h1 n (a + 1) (st.fst, st.snd) (by simp only; omega)
        refine this.trans ?_
        have e1 : st.fst.toList.isEmpty = false := by
          cases e : st.fst.toList with
          | nil =>
            have := congrArg List.length e
            simp at this
            rw [this] at hs
            simp at hs
          | cons x r => rfl
        rw [e1]
        rfl
    · rw [if_neg (fun h => hc ⟨by omega, h.2⟩)]
      have := occ_any (s := s) (hi := hi) h1 n (a + 1) (st.fst, st.snd) (by simp only; omega)
      refine this.trans ?_
      have e0 : (!(decide (a + 1 ≤ hi) && subAt s sub a)) = true := by
        cases e : (decide (a + 1 ≤ hi) && subAt s sub a) with
        | false => rfl
        | true => rw [Bool.and_eq_true, decide_eq_true_eq] at e; exact absurd e hc
      rw [e0, Bool.true_and]
theorem in_one (x : Str) (c : Nat) : (!(occurrences x ⟨#[c]⟩ 0 x.length 1).isEmpty) = decide (c ∈ x.cps.toList) := by
  rw [occ_eq, occ_any rfl _ _ _ (Nat.le_refl 0)]
  rw [Bool.eq_iff_iff, decide_eq_true_eq]
  have hl : x.cps.toList.length = x.length := by simp [Str.length]
  constructor
  · intro h
    rw [Bool.not_eq_true', Bool.and_eq_false_iff] at h
    rcases h with h | h
    · cases h
    · rw [List.all_eq_false] at h
      obtain ⟨i, _, h⟩ := h
      rw [Bool.not_not_eq, Bool.and_eq_true, sub_one, beq_iff_eq] at h
      exact List.mem_of_getElem? h.2
  · intro h
    obtain ⟨i, hi⟩ := List.mem_iff_getElem?.mp h
    have hlt : i < x.length := by rw [← hl]; exact (List.getElem?_eq_some_iff.mp hi).1
    rw [Bool.not_eq_true', Bool.and_eq_false_iff]
    refine .inr (List.all_eq_false.mpr ⟨i, by simp [List.mem_range']; omega, ?_⟩)
    rw [sub_one, hi, decide_eq_true (by omega)]
    simp
noncomputable def rStrI : List V → Hp → VK → Prop := fun xs H Q => ∃ n, xs = [.int n] ∧ n.natAbs.log2 < 1920 ∧ Q (.str (Str.ofString (toString n))) H
theorem q_strI {X : Cx} : QCall X (.type "str") rStrI := ⟨by
  intro pins s σ H xs us Q I r h
  obtain ⟨n, rfl, hn, q⟩ := h
  cases r with
  | cons r1 r2 =>
    cases r2
    obtain ⟨t, rfl⟩ := r1
    exact PySem.P.str_of_int hn ⟨.str _, H, I.tok _, ⟨_, rfl⟩, q⟩⟩
theorem digits_len : ∀ (k fuel n : Nat) (ds : List Char), n < 10 ^ (k + 1) → (Nat.toDigitsCore 10 fuel n ds).length ≤ k + 1 + ds.length
  | k, 0, n, ds, _ => by simp [Nat.toDigitsCore]
  | 0, fuel + 1, n, ds, h => by
    unfold Nat.toDigitsCore
    have : n / 10 = 0 := by omega
    simp only [this, if_true, List.length_cons]
    omega
  | k + 1, fuel + 1, n, ds, h => by
    unfold Nat.toDigitsCore
    simp only
    split
    · simp; omega
    · have := digits_len k fuel (n / 10) (Nat.digitChar (n % 10) :: ds) (by rw [Nat.div_lt_iff_lt_mul (by decide)]; rw [Nat.pow_succ] at h; exact h)
      simp at this ⊢
      omega
theorem ok_ofString (s : String) : ∀ c ∈ (Str.ofString s).cps.toList, c < 1114112 := by
  rw [Str.ofString_eq_toList]
  intro c hc
  obtain ⟨x, _, rfl⟩ := List.mem_map.mp hc
  have := x.valid
  rcases this with h | ⟨_, h⟩
  · exact Nat.lt_trans h (by decide)
  · exact h
theorem len_strI {n : Int} (h0 : 0 ≤ n) (h : n < 100000) : (Str.ofString (toString n)).length ≤ 5 := by
  rw [ofString_len]
  cases n with
  | ofNat m =>
    have h1 : m < 100000 := by have h3 : (m : Int) < 100000 := h; omega
    have := digits_len 4 (m + 1) m [] h1
    show (Nat.repr m).length ≤ 5
    simpa [Nat.repr, Nat.toDigits] using this
  | negSucc m => simp at h0
noncomputable def rMulT : V → V → Hp → VK → Prop := fun x y H Q => ∃ z n, x = .str z ∧ y = .int n ∧ MulOk z n ∧ Q (.str (Txt.mul z n)) H
theorem q_mulT {X : Cx} : QOp X (binaryOp .Mult) rMulT := ⟨by
  intro pins s σ H x y v u Q I rx ry h
  obtain ⟨z, n, rfl, rfl, h1, q⟩ := h
  obtain ⟨t, rfl⟩ := rx
  obtain ⟨t2, rfl⟩ := ry
  exact SB.mul h1 fun t' k => ⟨.str _, H, I.tok k, ⟨_, rfl⟩, q⟩⟩
end L2
open L2 in
local macro_rules | `(tactic| walk_at "rd") => `(tactic| simp only [↓ap_var, ↓ap_c, ↓ap_next, ↓ap_seq, ↓ap_break, ↓ap_cont, ↓ap_drop, ↓ap_ret, ↓ap_retN, ↓ap_ifS, ↓ap_asg, ↓ap_name, ↓ap_op, ↓ap_test, ↓ap_tB, ↓ap_not, ↓ap_and, ↓ap_or, ↓ap_andV, ↓ap_orV, ↓ap_notV, ↓ap_notT, ↓ap_if, ↓ap_chain, ↓ap_cb, ↓ap_cons, ↓ap_nil, ↓ap_call, ↓ap_tup, ↓ap_lst, ↓ap_sl, ↓ap_nopart, ↓ap_part, ↓ap_for, ↓ap_comp, ↓ap_ilist, ↓ap_itup, ↓ap_istr, ↓ap_irng1, ↓ap_irng2, ↓ap_bm, ↓ap_bm0, ↓ap_aug, ↓ap_gtup, ↓ap_gnil, ↓ap_gcons, ↓ap_gsub, ↓ap_un, ↓ap_rU, ↓ap_ipI, ↓ap_yes, ↓ap_dnew, ↓ap_dget, ↓ap_dput, ↓ap_daug, ↓ap_never, ↓ap_rSub, ↓ap_rFdiv, ↓ap_rMod, ↓ap_tTru, tyV_str, truV_bl, truV_int, truV_str, truV_non, ↓ad_ii, ↓ad_ss, ↓ad_rr, ↓mu_ii, ↓mu_ri, ↓eq_ii, ↓eq_ss, ↓eq_bb, ↓eq_rx, ↓eq_xr, ↓ne_ii, ↓ne_ss, ↓ne_bb, ↓ne_rx, ↓ne_xr, ↓L2.lt_ii, ↓L2.lt_ss, ↓le_ii, ↓le_ss, ↓gt_ii, ↓gt_ss, ↓ge_ii, ↓ge_ss, ↓in_xs, ↓in_xr, ↓sl_s, ↓sl_r, ↓len_s, ↓len_r, ↓list_r, ↓all_r, ↓isi_t, ↓ord_s, ↓ap_inM, ↓ap_dgetM, kV_str, ↓ap_while, ↓tup_r, ↓ap_calm, ↓min_ii, ↓max_ii, ↓ap_disp, ↓ap_pnil, ↓ap_pcons, ↓ap_dget2, ↓ap_rIxI, ↓ap_rIxR, ↓ap_err, ↓ap_raise, ↓ap_init, ↓ap_fmtI, ↓ap_parts0, ↓ap_parts, ↓ap_xfld, ↓ap_xget, ↓ap_tryE, ↓ap_tryA, ↓ap_izip, ↓ap_irng3, ↓ap_forD, ↓ap_dsetd, start_eq, compStart_eq, cxK, cxKn, cxKb, cxC, cxCn, cxCb, List.map_cons, List.map_nil, List.length_cons, List.length_nil, Nat.sub_self, Nat.reduceAdd, Nat.reduceSub, Nat.zero_add, Nat.add_one_sub_one, List.replicate_zero, List.replicate_succ, List.append_nil, List.nil_append, List.cons_append, List.getElem?_cons_zero, List.getElem?_cons_succ, List.set_cons_zero, List.set_cons_succ, Option.some.injEq, Option.join_some, Option.join_none, exists_eq_left', exists_eq_left, exists_eq', exists_eq, reduceCtorEq, false_and, and_false, exists_false, exists_const, false_or, or_false, true_and, and_true, V.str.injEq, V.int.injEq, V.bl.injEq, V.ref.injEq, V.ty.injEq, List.cons.injEq, exists_and_left, exists_and_right, and_assoc, if_true, if_false, Bool.false_eq_true, Bool.not_true, Bool.not_false, ite_true, ite_false, Int.reduceLT, Int.reduceLE, Nat.zero_le])
namespace K05
open PySem PySem.Spec PyProof.Rows L2
set_option maxRecDepth 100000
set_option maxHeartbeats 4000000
noncomputable def top (i : Nat) : Stmt := PySem.Challenge.pw_sortlore_k05_figures_by_worth.main.body.getD i (.Pass ⟨0, 0, 0, 0⟩)
noncomputable abbrev s_NoSign___init__ : Stmt := inClass (top 2) 0
noncomputable abbrev s_is_figure : Stmt := top 4
noncomputable abbrev s_figures_at : Stmt := top 5
noncomputable abbrev s_part_at : Stmt := top 6
noncomputable abbrev s_cut : Stmt := top 7
noncomputable abbrev s_l_cell_at : Stmt := top 9
noncomputable abbrev s_l_sign : Stmt := top 10
noncomputable abbrev s_l_known : Stmt := top 11
noncomputable abbrev s_l_text : Stmt := top 12
noncomputable abbrev s_l_end : Stmt := top 13
noncomputable abbrev s_l_cut : Stmt := top 14
noncomputable abbrev s_l_asked : Stmt := top 15
noncomputable abbrev s_l_left_out : Stmt := top 16
noncomputable abbrev s_law : Stmt := top 17
noncomputable def visB (S : Scope) (x : Str) : Bool := decide (S.names.lookup x = some .local) || decide (S.names.lookup x = some .cell) || decide (S.names.lookup x = some .free)
theorem qvd {X : Cx} {pos : Pos} {N : List Str} {S : Scope} {x : Str} {n : Nat} (hN : X.N = N) (hs : X.env.scope = S) (h : (decide (N[n]? = some x) && visB S x && !(x == ("__debug__" : Str)) && !(x == ("__classdict__" : Str))) = true) : QE X (.Name x pos) (tVar n) := by
  subst hN hs
  simp only [visB, Bool.and_eq_true, Bool.or_eq_true, decide_eq_true_eq, Bool.not_eq_true'] at h
  exact qe_v h.1.1.1 (h.1.1.2.elim (fun z => z.elim .inl fun z => .inr (.inl z)) fun z => .inr (.inr z)) h.1.2 h.2
theorem len1 {α : Type} {F : List α → Prop} (h : ∀ a, F [a]) : ∀ us : List α, us.length = 1 → F us
  | [a], _ => h a
theorem len2 {α : Type} {F : List α → Prop} (h : ∀ a b, F [a, b]) : ∀ us : List α, us.length = 2 → F us
  | [a, b], _ => h a b
theorem len3 {α : Type} {F : List α → Prop} (h : ∀ a b c, F [a, b, c]) : ∀ us : List α, us.length = 3 → F us
  | [a, b, c], _ => h a b c
theorem len4 {α : Type} {F : List α → Prop} (h : ∀ a b c d, F [a, b, c, d]) : ∀ us : List α, us.length = 4 → F us
  | [a, b, c, d], _ => h a b c d
structure Txt (P : Program) (w : World) (K : PySem.W.Frag) (mg : Str → Option Value) (C_NoSign : Addr) : Prop where
  lore : ∃ L, mg "LoreError" = some (.ref L) ∧ LoreC K L
  na_NoSign : NoAttr K C_NoSign "at"
  er_NoSign : ∃ f, ErrC K C_NoSign f
  cn : PySem.W.specialIn K (.builtin "object.__class__") "__get__" = some (some (.builtin "getset_descriptor.__get__"))
  ct : PySem.W.takesIn K (.builtin "object.__class__") = some true
  c_NoSign : ∃ a, mg "NoSign" = some (.ref a) ∧ CatchC K a ∧ PySem.W.mroIn K C_NoSign (.ref a) = some true
  b_dict : mg "dict" = none
  b_len : mg "len" = none
  b_range : mg "range" = none
  b_str : mg "str" = none
noncomputable def spLaw (K : PySem.W.Frag) : Sp := fun vs H Q _ => ∃ (a : Addr) (ns : List Int), vs = [.ref a] ∧ SqL K H a (ns.map V.int) ∧ ns.length ≤ 63 ∧ ∀ H', Q (.bl true) H'
theorem lt_one {c d : Nat} : (([c] : List Nat) < [d]) ↔ c < d := by
  constructor
  · intro h
    cases h with
    | rel h => exact h
    | cons h => cases h
  · intro h
    exact List.Lex.rel h
theorem two_of {us : List Value} {d : Value} (h : (us ++ [d]).length = 3) : ∃ u1 u2, us = [u1, u2] := by
  match us, h with
  | [a, b], _ => exact ⟨a, b, rfl⟩
  | [], h => simp at h
  | [_], h => simp at h
  | _ :: _ :: _ :: r, h => simp at h
noncomputable def one (c : Nat) : Str := ⟨#[c]⟩
noncomputable def two (c d : Nat) : Str := ⟨#[c, d]⟩
theorem val_kvOf (g : List Str) (z : Str) : (valV (kvOf g) (Sum.inr z)).isSome = decide (z ∈ g) := by
  rw [← any_kvOf]
  unfold valV
  rw [Option.isSome_map, List.isSome_find?]
theorem cutS_at {z : Str} {pre y rest : List Nat} (h : z.cps.toList = pre ++ (y ++ rest)) : cutS z (some (pre.length : Int)) (some ((pre.length : Int) + (y.length : Int))) = ⟨y.toArray⟩ := by
  have hl : z.length = pre.length + (y.length + rest.length) := by
    have := congrArg List.length h
    simp [Str.length] at this ⊢
    omega
  apply Str.ext'
  apply Array.toList_inj.mp
  rw [cutS_list, h]
  have e1 : HT.sIx z.length 0 (some (pre.length : Int)) = pre.length := by rw [HT.sIx_nat]; omega
  have e2 : HT.sIx z.length z.length (some ((pre.length : Int) + (y.length : Int))) = pre.length + y.length := by
    rw [show (pre.length : Int) + (y.length : Int) = ((pre.length + y.length : Nat) : Int) by omega, HT.sIx_nat]
    omega
  rw [e1, e2, List.drop_left, show pre.length + y.length - pre.length = y.length by omega, List.take_left]
theorem cutS_last {z : Str} {pre : List Nat} {c : Nat} (h : z.cps.toList = pre ++ [c]) : cutS z (some (pre.length : Int)) (some ((pre.length : Int) + 2)) = one c := by
  have hl : z.length = pre.length + 1 := by
    have := congrArg List.length h
    simp [Str.length] at this ⊢
    omega
  apply Str.ext'
  apply Array.toList_inj.mp
  rw [cutS_list, h]
  have e1 : HT.sIx z.length 0 (some (pre.length : Int)) = pre.length := by rw [HT.sIx_nat]; omega
  have e2 : HT.sIx z.length z.length (some ((pre.length : Int) + 2)) = pre.length + 1 := by
    rw [show (pre.length : Int) + 2 = ((pre.length + 2 : Nat) : Int) by omega, HT.sIx_nat]
    omega
  rw [e1, e2, List.drop_left, show pre.length + 1 - pre.length = 1 by omega]
  rfl
theorem atI_mid {pre r : List Nat} {c : Nat} : atI (pre ++ c :: r) (pre.length : Int) = some c := atI_nat (by rw [List.getElem?_append_right (Nat.le_refl _), Nat.sub_self]; rfl)
theorem mem_dds (x : Str) : ∀ (zs acc : List Str), x ∈ dds acc zs ↔ x ∈ acc ∨ x ∈ zs
  | [], acc => by simp [dds]
  | z :: zs, acc => by
    show x ∈ dds (dd acc z) zs ↔ _
    rw [mem_dds x zs]
    unfold dd
    by_cases h : z ∈ acc
    · rw [if_pos h, List.mem_cons]
      constructor
      · rintro (h1 | h1)
        · exact .inl h1
        · exact .inr (.inr h1)
      · rintro (h1 | rfl | h1)
        · exact .inl h1
        · exact .inl h
        · exact .inr h1
    · rw [if_neg h, List.mem_append, List.mem_singleton, List.mem_cons, or_assoc]
theorem merge_kvOf : ∀ (zs acc : List Str), mergeK (kvOf acc) (kvOf zs) = kvOf (dds acc zs)
  | [], acc => rfl
  | z :: zs, acc => by
    show mergeK (putK (kvOf acc) (Sum.inr z) (.bl true)) (kvOf zs) = kvOf (dds (dd acc z) zs)
    rw [putK_kvOf, merge_kvOf zs]
noncomputable def cellF (ns : List Int) (k : Int) : Int := if k < (ns.length : Int) then ns.getD k.toNat 0 else 0
noncomputable def spCellF (K : PySem.W.Frag) : Sp := fun vs H Q _ => ∃ (a : Addr) (ns : List Int) (k : Int), vs = [.ref a, .int k] ∧ SqL K H a (ns.map V.int) ∧ 0 ≤ k ∧ Q (.int (cellF ns k)) H
noncomputable def figB (c : Nat) : Bool := decide (48 ≤ c) && decide (c ≤ 57)
noncomputable def spIsFig : Sp := fun vs H Q _ => ∃ c, vs = [.str ⟨#[c]⟩] ∧ Q (.bl (figB c)) H
noncomputable def spFigAt : Sp := fun vs H Q _ => ∃ (z : Str) (pre rest : List Nat), vs = [.str z, .int pre.length] ∧ z.length ≤ 1000 ∧ z.cps.toList = pre ++ rest ∧ Q (.str ⟨(rest.takeWhile figB).toArray⟩) H
theorem three_of {us : List Value} (h : (us ++ []).length = 3) : ∃ u1 u2 u3, us = [u1, u2, u3] := by
  match us, h with
  | [a, b, c], _ => exact ⟨a, b, c, rfl⟩
  | [], h => simp at h
  | [_], h => simp at h
  | [_, _], h => simp at h
  | _ :: _ :: _ :: _ :: r, h => simp at h
theorem lenL (z : Str) : z.cps.toList.length = z.length := by simp [Str.length]
noncomputable def okS (z : Str) : Prop := ∀ c ∈ z.cps.toList, PyData.strOk (one c) = true
noncomputable def partG (g : List Str) : List Nat → Option Str
  | [] => none
  | [c] => if one c ∈ g then some (one c) else none
  | c :: d :: _ => if two c d ∈ g then some (two c d) else if one c ∈ g then some (one c) else none
theorem partG_one (g : List Str) (c : Nat) : partG g [c] = if one c ∈ g then some (one c) else none := rfl
theorem partG_two (g : List Str) (c d : Nat) (r : List Nat) : partG g (c :: d :: r) = if two c d ∈ g then some (two c d) else if one c ∈ g then some (one c) else none := rfl
theorem raised {H : Hp} {x dx C : Addr} {m : Nat} {fld : Str} {v : V} (nx : H x = none) (nd : upd H x (xm m x C) dx = none) (ne : dx ≠ x) :
    upd (upd (upd H x (xm m x C)) x (xo m x C dx)) dx (.xd [(fld, v)]) x = some (xo m x C dx) ∧ Same H (del (upd (upd (upd H x (xm m x C)) x (xo m x C dx)) dx (.xd [(fld, v)])) x) ∧ del (upd (upd (upd H x (xm m x C)) x (xo m x C dx)) dx (.xd [(fld, v)])) x dx = some (.xd [(fld, v)]) := by
  rw [upd_ne ne] at nd
  refine ⟨by rw [upd_ne ne.symm, upd_same], fun b o h => ?_, by rw [del_ne ne, upd_same]⟩
  have h1 : b ≠ x := ne_of_none h nx
  rw [del_ne h1, upd_ne (ne_of_none h nd), upd_ne h1, upd_ne h1]
  exact h
noncomputable def partF (w : Bool) (g : List Str) : List Nat → Option Str
  | [] => none
  | c :: r => if (w && figB c) = true then some ⟨((c :: r).takeWhile figB).toArray⟩ else partG g (c :: r)
theorem partF_cons (w : Bool) (g : List Str) (c : Nat) (r : List Nat) : partF w g (c :: r) = if (w && figB c) = true then some ⟨((c :: r).takeWhile figB).toArray⟩ else partG g (c :: r) := rfl
theorem partG_some {g : List Str} {y : Str} : ∀ {l : List Nat}, partG g l = some y → ∃ rest, l = y.cps.toList ++ rest ∧ 1 ≤ y.length
  | [], h => by cases h
  | [c], h => by
    rw [partG_one] at h
    by_cases hc : one c ∈ g
    · rw [if_pos hc] at h
      cases h
      exact ⟨[], rfl, by show 1 ≤ 1; decide⟩
    · rw [if_neg hc] at h; cases h
  | c :: d :: r, h => by
    rw [partG_two] at h
    by_cases h2 : two c d ∈ g
    · rw [if_pos h2] at h
      cases h
      exact ⟨r, rfl, by show 1 ≤ 2; decide⟩
    · rw [if_neg h2] at h
      by_cases hc : one c ∈ g
      · rw [if_pos hc] at h
        cases h
        exact ⟨d :: r, rfl, by show 1 ≤ 1; decide⟩
      · rw [if_neg hc] at h; cases h
theorem partG_congr {g g' : List Str} (h : ∀ x, x ∈ g ↔ x ∈ g') : ∀ l, partG g l = partG g' l
  | [] => rfl
  | [c] => by
    rw [partG_one, partG_one]
    by_cases hc : one c ∈ g
    · rw [if_pos hc, if_pos ((h _).mp hc)]
    · rw [if_neg hc, if_neg (fun z => hc ((h _).mpr z))]
  | c :: d :: r => by
    rw [partG_two, partG_two]
    by_cases h2 : two c d ∈ g
    · rw [if_pos h2, if_pos ((h _).mp h2)]
    · rw [if_neg h2, if_neg (fun z => h2 ((h _).mpr z))]
      by_cases hc : one c ∈ g
      · rw [if_pos hc, if_pos ((h _).mp hc)]
      · rw [if_neg hc, if_neg (fun z => hc ((h _).mpr z))]
theorem partF_congr {w : Bool} {g g' : List Str} (h : ∀ x, x ∈ g ↔ x ∈ g') (l : List Nat) : partF w g l = partF w g' l := by
  cases l with
  | nil => rfl
  | cons c r => rw [partF_cons, partF_cons, partG_congr h]
theorem partF_some {w : Bool} {g : List Str} {y : Str} {l : List Nat} (h : partF w g l = some y) : ∃ rest, l = y.cps.toList ++ rest ∧ 1 ≤ y.length := by
  cases l with
  | nil => cases h
  | cons c r =>
    rw [partF_cons] at h
    by_cases hw : (w && figB c) = true
    · rw [if_pos hw] at h
      cases h
      rw [Bool.and_eq_true] at hw
      refine ⟨(c :: r).dropWhile figB, (List.takeWhile_append_dropWhile).symm, ?_⟩
      show 1 ≤ ((c :: r).takeWhile figB).length
      rw [List.takeWhile_cons_of_pos hw.2]
      simp
    · rw [if_neg hw] at h
      exact partG_some h
noncomputable def cutFn (w : Bool) (g : List Str) : Nat → List Nat → Nat × List Str
  | 0, _ => (0, [])
  | n + 1, l => match partF w g l with
    | none => (0, [])
    | some y => ((cutFn w g n (l.drop y.length)).1 + y.length, y :: (cutFn w g n (l.drop y.length)).2)
noncomputable def cutF (w : Bool) (g : List Str) (l : List Nat) : Nat × List Str := cutFn w g l.length l
theorem cutFn_fuel (w : Bool) (g : List Str) : ∀ (n m : Nat) (l : List Nat), l.length ≤ n → l.length ≤ m → cutFn w g n l = cutFn w g m l
  | 0, 0, _, _, _ => rfl
  | 0, m + 1, l, h, _ => by
    have : l = [] := List.length_eq_zero_iff.mp (by omega)
    subst this
    rfl
  | n + 1, 0, l, _, h => by
    have : l = [] := List.length_eq_zero_iff.mp (by omega)
    subst this
    rfl
  | n + 1, m + 1, l, h1, h2 => by
    cases e : partF w g l with
    | none => show (match partF w g l with | none => _ | some y => _) = (match partF w g l with | none => _ | some y => _); rw [e]
    | some y =>
      obtain ⟨rest, e1, e2⟩ := partF_some e
      have hd : (l.drop y.length).length = l.length - y.length := List.length_drop
      have := cutFn_fuel w g n m (l.drop y.length) (by omega) (by omega)
      show (match partF w g l with | none => _ | some y => _) = (match partF w g l with | none => _ | some y => _)
      rw [e]
      dsimp only
      rw [this]
theorem cutF_none {w : Bool} {g : List Str} {l : List Nat} (h : partF w g l = none) : cutF w g l = (0, []) := by
  unfold cutF
  cases hl : l.length with
  | zero => rfl
  | succ n =>
    show (match partF w g l with | none => _ | some y => _) = _
    rw [h]
theorem cutF_nil (w : Bool) (g : List Str) : cutF w g [] = (0, []) := rfl
theorem cutF_some {w : Bool} {g : List Str} {y : Str} {l : List Nat} (h : partF w g l = some y) : ∃ rest, l = y.cps.toList ++ rest ∧ cutF w g l = ((cutF w g rest).1 + y.length, y :: (cutF w g rest).2) ∧ 1 ≤ y.length := by
  obtain ⟨rest, e1, e2⟩ := partF_some h
  refine ⟨rest, e1, ?_, e2⟩
  have el : l.length = y.length + rest.length := by rw [e1, List.length_append, lenL]
  have ed : l.drop y.length = rest := by rw [e1, ← lenL, List.drop_left]
  unfold cutF
  cases hl : l.length with
  | zero => omega
  | succ k =>
    show (match partF w g l with | none => _ | some y => _) = _
    rw [h]
    dsimp only
    rw [ed, cutFn_fuel w g k rest.length rest (by omega) (Nat.le_refl _)]
theorem cutF_congr {w : Bool} {g g' : List Str} (h : ∀ x, x ∈ g ↔ x ∈ g') (l : List Nat) : cutF w g l = cutF w g' l := by
  have : ∀ n l, cutFn w g n l = cutFn w g' n l := by
    intro n
    induction n with
    | zero => intro l; rfl
    | succ n ih =>
      intro l
      show (match partF w g l with | none => _ | some y => _) = (match partF w g' l with | none => _ | some y => _)
      rw [partF_congr h]
      cases partF w g' l with
      | none => rfl
      | some y => dsimp only; rw [ih]
  exact this _ _
theorem cutF_facts {w : Bool} {g : List Str} : ∀ (n : Nat) (l : List Nat), l.length ≤ n → (cutF w g l).1 ≤ l.length ∧ (cutF w g l).2.length ≤ l.length ∧ ∀ y ∈ (cutF w g l).2, ∀ c ∈ y.cps.toList, c ∈ l
  | 0, l, h => by
    have : l = [] := List.length_eq_zero_iff.mp (by omega)
    subst this
    rw [cutF_nil]
    exact ⟨Nat.le_refl _, Nat.le_refl _, by simp⟩
  | n + 1, l, h => by
    cases e : partF w g l with
    | none => rw [cutF_none e]; exact ⟨Nat.zero_le _, Nat.zero_le _, by simp⟩
    | some y =>
      obtain ⟨rest, e1, e2, e3⟩ := cutF_some e
      have hl : l.length = y.length + rest.length := by rw [e1, List.length_append, lenL]
      obtain ⟨a, b, c⟩ := cutF_facts (w := w) (g := g) n rest (by omega)
      rw [e2]
      refine ⟨by dsimp only; omega, by dsimp only; rw [List.length_cons]; omega, fun z hz x hx => ?_⟩
      rw [e1]
      rcases List.mem_cons.mp hz with r | r
      · rw [r] at hx; exact List.mem_append.mpr (.inl hx)
      · exact List.mem_append.mpr (.inr (c z r x hx))
noncomputable def WholeF (w : Bool) (g : List Str) (z : Str) : Prop := (cutF w g z.cps.toList).1 = z.length
noncomputable def spPart5 (CN : Addr) : Sp := fun vs H Q E => ∃ (d : Addr) (z : Str) (g : List Str) (pre : List Nat) (c : Nat) (r : List Nat) (w : Bool), vs = [.ref d, .str z, .int pre.length, .bl w] ∧ H d = some (.dK (kvOf g)) ∧ z.length ≤ 1000 ∧ z.cps.toList = pre ++ c :: r ∧
  (∀ y, partF w g (c :: r) = some y → Q (.str y) H) ∧ (partF w g (c :: r) = none → ∀ dx H', Same H H' → H' dx = some (.xd [("at", .int pre.length)]) → E (.ref CN) (some dx) H')
noncomputable def spCut5 (K : PySem.W.Frag) (CN : Addr) : Sp := fun vs H Q E => ∃ (a : Addr) (z : Str) (ks : List Str) (w : Bool), vs = [.ref a, .str z, .bl w] ∧ SqL K H a (ks.map V.str) ∧ ks.length ≤ 1000 ∧ z.length ≤ 1000 ∧
  (WholeF w ks z → ∀ l H', H l = none → Same H H' → H' l = some (.lst ((cutF w ks z.cps.toList).2.map V.str)) → Q (.ref l) H') ∧
  (¬ WholeF w ks z → ∀ dx H', Same H H' → H' dx = some (.xd [("at", .int (cutF w ks z.cps.toList).1)]) → E (.ref CN) (some dx) H')
noncomputable def spSign5 (K : PySem.W.Frag) : Sp := fun vs H Q _ => ∃ (a : Addr) (ns : List Int) (k : Int), vs = [.ref a, .int k] ∧ SqL K H a (ns.map V.int) ∧ 0 ≤ k ∧ k < 1000 ∧ ∀ c H', Same H H' → PyData.strOk (one c) = true → Q (.str (one c)) H'
noncomputable def spKnown5 (K : PySem.W.Frag) : Sp := fun vs H Q _ => ∃ (a : Addr) (ns : List Int), vs = [.ref a] ∧ SqL K H a (ns.map V.int) ∧ ∀ (l : Addr) (ks : List Str) (H' : Hp), Same H H' → H' l = some (.lst (ks.map V.str)) → ks.length ≤ 100 → Q (.ref l) H'
noncomputable def spText5 (K : PySem.W.Frag) : Sp := fun vs H Q _ => ∃ (a : Addr) (ns : List Int), vs = [.ref a] ∧ SqL K H a (ns.map V.int) ∧ ns.length ≤ 63 ∧ ∀ (z : Str) H', Same H H' → z.length ≤ 1000 → okS z → Q (.str z) H'
noncomputable def lenO : Option Str → Nat
  | none => 0
  | some y => y.length
noncomputable def spEnd (K : PySem.W.Frag) : Sp := fun vs H Q _ => ∃ (a : Addr) (z : Str) (ks : List Str) (pre : List Nat) (c : Nat) (r : List Nat) (w : Bool), vs = [.ref a, .str z, .int pre.length, .bl w] ∧ SqL K H a (ks.map V.str) ∧ z.length ≤ 1000 ∧ z.cps.toList = pre ++ c :: r ∧ Q (.int ((pre.length + lenO (partF w ks (c :: r)) : Nat) : Int)) H
noncomputable def Told (w : Bool) (ks : List Str) (z : Str) (H : Hp) (t : Addr) : Prop := (WholeF w ks z → ∃ l, H t = some (.tup [.str "cut", .ref l]) ∧ H l = some (.lst ((cutF w ks z.cps.toList).2.map V.str))) ∧ (¬ WholeF w ks z → H t = some (.tup [.str "at", .int (cutF w ks z.cps.toList).1]))
noncomputable def spTold (K : PySem.W.Frag) : Sp := fun vs H Q _ => ∃ (a : Addr) (z : Str) (ks : List Str) (w : Bool), vs = [.ref a, .str z, .bl w] ∧ SqL K H a (ks.map V.str) ∧ ks.length ≤ 1000 ∧ z.length ≤ 1000 ∧ ∀ t H', Same H H' → Told w ks z H' t → Q (.ref t) H'
noncomputable def spLeft (K : PySem.W.Frag) : Sp := fun vs H Q _ => ∃ (a : Addr) (z : Str) (ks : List Str), vs = [.ref a, .str z] ∧ SqL K H a (ks.map V.str) ∧ ks.length ≤ 1000 ∧ z.length ≤ 1000 ∧ ∀ t H', Same H H' → Told false ks z H' t → Q (.ref t) H'
theorem ok_of_okS {y : Str} (h : okS y) : PyData.strOk y = true := by
  unfold PyData.strOk
  rw [← Array.all_toList, List.all_eq_true]
  intro c hc
  have := h c hc
  unfold PyData.strOk one at this
  simpa using this
theorem Told.eq {K : PySem.W.Frag} {w : Bool} {ks : List Str} {z : Str} {H H' : Hp} {t t' : Addr} (h : Told w ks z H t) (S : Same H H') (h' : Told w ks z H' t') (hz : okS z) : ∃ d, Dn K H' (.ref t) d ∧ Dn K H' (.ref t') d ∧ d.depth ≤ 60 ∧ d.eqv d = true := by
  have ok : ∀ y ∈ (cutF w ks z.cps.toList).2, PyData.strOk y = true := fun y hy => ok_of_okS fun c hc => hz c ((cutF_facts (w := w) (g := ks) _ z.cps.toList (Nat.le_refl _)).2.2 y hy c hc)
  by_cases W : WholeF w ks z
  · obtain ⟨l, h1, h2⟩ := h.1 W
    obtain ⟨l', h1', h2'⟩ := h'.1 W
    refine ⟨_, .tup (.of (S _ _ h1)) (.cons (.str _ (by decide +kernel)) (.cons (.lst (.of (S _ _ h2)) (DnAll.strs ok)) .nil)), .tup (.of h1') (.cons (.str _ (by decide +kernel)) (.cons (.lst (.of h2') (DnAll.strs ok)) .nil)), ?_, ?_⟩
    · simp [PyData.depth, PyData.depthAll, depth_strs]
    · simp [PyData.eqv, PyData.eqvAll, eqvAll_strs]
  · exact ⟨_, .tup (.of (S _ _ (h.2 W))) (.cons (.str _ (by decide +kernel)) (.cons (.int _) .nil)), .tup (.of (h'.2 W)) (.cons (.str _ (by decide +kernel)) (.cons (.int _) .nil)), by simp [PyData.depth, PyData.depthAll], by simp [PyData.eqv, PyData.eqvAll]⟩
theorem log_ok {n : Int} (h : 0 ≤ n ∧ n < 100000) : n.natAbs.log2 < 1920 := by
  have h1 : n.natAbs < 100000 := by omega
  generalize n.natAbs = m at h1
  by_cases h0 : m = 0
  · rw [h0]; decide
  · exact (Nat.log2_lt h0).mpr (Nat.lt_of_lt_of_le h1 (Nat.le_trans (by decide : 100000 ≤ 2 ^ 17) (Nat.pow_le_pow_right (by decide) (by decide))))
theorem M7_mul : MulOk (Str.ofString "0070") 40 := ⟨by decide, fun _ _ => by decide +kernel, fun _ _ => by decide +kernel⟩
theorem M7_len : (Txt.mul (Str.ofString "0070") 40).length = 160 := by decide +kernel
theorem M7_ok : okS (Txt.mul (Str.ofString "0070") 40) := by unfold okS; decide +kernel
noncomputable def S5 : Str := Str.ofString "!\"#$&'()*+,-./:;<=>?@ABCDEFGHIJKLMNOPQRSTUVWXYZ[\\]^_`abcdefghijklmnopqrstuvwxyz{|}~"
theorem S5_len : S5.length = 83 := by decide +kernel
theorem S5_ok : ∀ c ∈ S5.cps.toList, PyData.strOk (one c) = true := by decide +kernel
noncomputable def D5 : Str := Str.ofString "0123456789"
theorem D5_list : D5.cps.toList = [48, 49, 50, 51, 52, 53, 54, 55, 56, 57] := by decide +kernel
theorem D5_ok : ∀ c ∈ D5.cps.toList, PyData.strOk (one c) = true := by decide +kernel
theorem D5_fig (c : Nat) : decide (c ∈ D5.cps.toList) = figB c := by
  rw [D5_list]
  unfold figB
  rw [Bool.eq_iff_iff, Bool.and_eq_true, decide_eq_true_eq, decide_eq_true_eq, decide_eq_true_eq]
  simp only [List.mem_cons, List.not_mem_nil, or_false]
  omega
theorem D5_at {i : Int} (h0 : 0 ≤ i) (h1 : i < 10) : ∃ c, atI D5.cps.toList i = some c ∧ PyData.strOk (one c) = true := by
  obtain ⟨c, h2, h3⟩ := atI_in (xs := D5.cps.toList) (i := i) h0 (by rw [D5_list]; simpa using h1)
  exact ⟨c, h2, D5_ok c h3⟩
theorem S5_at {i : Int} (h0 : 0 ≤ i) (h1 : i < 83) : ∃ c, atI S5.cps.toList i = some c ∧ PyData.strOk (one c) = true := by
  obtain ⟨c, h2, h3⟩ := atI_in (xs := S5.cps.toList) (i := i) h0 (by rw [lenL, S5_len]; exact h1)
  exact ⟨c, h2, S5_ok c h3⟩
theorem okS_app {x y : Str} (hx : okS x) (hy : okS y) : okS (x ++ y) := fun c hc => by
  rw [Str.cps_append, Array.toList_append] at hc
  rcases List.mem_append.mp hc with h | h
  · exact hx c h
  · exact hy c h
theorem okS_one {c : Nat} (h : PyData.strOk (one c) = true) : okS (one c) := fun d hd => by
  have : d = c := by simpa [one] using hd
  rw [this]; exact h
theorem okS_ofString (s : String) : okS (Str.ofString s) := fun c hc => by
  have := ok_ofString s c hc
  unfold PyData.strOk one
  simpa using this
section
variable {P : Program} {w : World} {K : PySem.W.Frag} {mg : Str → Option Value} {base : Heap} {C_NoSign : Addr}
theorem sc_NoSign___init__ : FnScope ["self", "at"] ["self", "at"] (defScope s_NoSign___init__) := ⟨rfl, rfl, rfl, by decide +kernel, rfl, by decide +kernel, by decide +kernel⟩
theorem v_NoSign___init___0 {X : Cx} {pos : Pos} (hN : X.N = (["self", "at"] : List Str)) (hs : X.env.scope = defScope s_NoSign___init__) : QE X (.Name "self" pos) (tVar 0) := qvd hN hs (by decide +kernel)
theorem v_NoSign___init___1 {X : Cx} {pos : Pos} (hN : X.N = (["self", "at"] : List Str)) (hs : X.env.scope = defScope s_NoSign___init__) : QE X (.Name "at" pos) (tVar 1) := qvd hN hs (by decide +kernel)
theorem ok_NoSign___init__ {f : Addr} {fd : FuncData} (F : FunD K "__init__" "NoSign.__init__" s_NoSign___init__ f fd) (T : Txt P w K mg C_NoSign) : FnOk P w K mg base CX0 1 f fd ["self", "at"] (spErrI K C_NoSign "at") := by
  refine F.ok sc_NoSign___init__ (fun vs H Q E h => ?_) (fun cdv A outer s H vs Q E hr h => ?_)
  · (obtain ⟨m, x, i, f, rfl, _⟩ := h; rfl)
  · have hu1 := hu_of hr
    have hu := hr.units
    obtain ⟨aL, mL, NL⟩ := T.lore
    refine ⟨_, QSs.out (qss_cons (qs_expr (qe_init NL mL (v_NoSign___init___0 rfl rfl) (qe_joined2 qe_str (qe_fmtI (v_NoSign___init___1 rfl rfl))) (K := K)))
      (qss_one (qs_xfld (v_NoSign___init___0 rfl rfl) (v_NoSign___init___1 rfl rfl) (K := K)))), ?_⟩
    obtain ⟨m, x, i, f, rfl, hx, M, n, hi, q⟩ := h
    walk_at "rd"
    exact ⟨by decide, hi, fun z hz => ⟨by omega, fun z2 => ⟨m, C_NoSign, hx, ⟨f, M⟩, m, C_NoSign, hx, ⟨f, M⟩, n, q⟩⟩⟩
theorem sc_is_figure : FnScope ["sign"] ["sign"] (defScope s_is_figure) := ⟨rfl, rfl, rfl, by decide +kernel, rfl, by decide +kernel, by decide +kernel⟩
theorem v_is_figure_0 {X : Cx} {pos : Pos} (hN : X.N = (["sign"] : List Str)) (hs : X.env.scope = defScope s_is_figure) : QE X (.Name "sign" pos) (tVar 0) := qvd hN hs (by decide +kernel)
theorem ok_is_figure {f : Addr} {fd : FuncData} (F : FunD K "is_figure" "is_figure" s_is_figure f fd) (T : Txt P w K mg C_NoSign) : FnOk P w K mg base CX0 1 f fd ["sign"] spIsFig := by
  refine F.ok sc_is_figure (fun vs H Q E h => ?_) (fun cdv A outer s H vs Q E hr h => ?_)
  · (obtain ⟨c, rfl, _⟩ := h; rfl)
  · have hu1 := hu_of hr
    have hu := hr.units
    refine ⟨_, QSs.out (qss_one (qs_ret (qe_chain q_le q_le qe_str (v_is_figure_0 rfl rfl) qe_str))), ?_⟩
    obtain ⟨c, rfl, q⟩ := h
    walk_at "rd"
    have e1 : (Str.ofString "0").cps.toList = [48] := by decide +kernel
    have e2 : (Str.ofString "9").cps.toList = [57] := by decide +kernel
    rw [e1, e2]
    simp only [lt_one]
    refine iteN (fun h1 => ?_) fun h1 => ?_
    · have e : figB c = !decide (57 < c) := by
        unfold figB
        rw [decide_eq_true (by omega : 48 ≤ c)]
        by_cases h2 : c ≤ 57
        · rw [decide_eq_true h2, decide_eq_false (by omega : ¬ 57 < c)]; rfl
        · rw [decide_eq_false h2, decide_eq_true (by omega : 57 < c)]; rfl
      rw [e] at q
      exact q
    · have e : figB c = false := by unfold figB; rw [decide_eq_false (by omega : ¬ 48 ≤ c)]; rfl
      rw [e] at q
      exact q
theorem sc_figures_at : FnScope ["text", "at", "end"] ["text", "at"] (defScope s_figures_at) := ⟨rfl, rfl, rfl, by decide +kernel, rfl, by decide +kernel, by decide +kernel⟩
theorem v_figures_at_0 {X : Cx} {pos : Pos} (hN : X.N = (["text", "at", "end"] : List Str)) (hs : X.env.scope = defScope s_figures_at) : QE X (.Name "text" pos) (tVar 0) := qvd hN hs (by decide +kernel)
theorem v_figures_at_1 {X : Cx} {pos : Pos} (hN : X.N = (["text", "at", "end"] : List Str)) (hs : X.env.scope = defScope s_figures_at) : QE X (.Name "at" pos) (tVar 1) := qvd hN hs (by decide +kernel)
theorem v_figures_at_2 {X : Cx} {pos : Pos} (hN : X.N = (["text", "at", "end"] : List Str)) (hs : X.env.scope = defScope s_figures_at) : QE X (.Name "end" pos) (tVar 2) := qvd hN hs (by decide +kernel)
theorem l_figures_at_2 : Loc (defScope s_figures_at) "end" := by unfold L2.Loc; decide +kernel
theorem ok_figures_at {f : Addr} {fd : FuncData} (F : FunD K "figures_at" "figures_at" s_figures_at f fd) (T : Txt P w K mg C_NoSign) (G_is_figure : FO P w K mg base 1 "is_figure" ["sign"] [] spIsFig) : FnOk P w K mg base CX0 2 f fd ["text", "at"] spFigAt := by
  refine F.ok sc_figures_at (fun vs H Q E h => ?_) (fun cdv A outer s H vs Q E hr h => ?_)
  · (obtain ⟨z, pre, rest, rfl, _⟩ := h; rfl)
  · have hu1 := hu_of hr
    have hu := hr.units
    refine ⟨_, QSs.out (qss_cons (qs_set (n := 2) sc_figures_at.nd rfl l_figures_at_2 (v_figures_at_1 rfl rfl))
      (qss_cons (qs_while PassesOwn.never (QW.pt (qw_and (qt_cmpR q_lt (v_figures_at_2 rfl rfl) (qe_cB (q_len (K := K)) T.b_len bt_len (qa_c (v_figures_at_0 rfl rfl) qa_nil))) (qw_and1 (qt_tru (K := K) (qe_callF G_is_figure (hr.mono (by decide)) (qa_c (qe_ix (K := K) (v_figures_at_0 rfl rfl) (v_figures_at_2 rfl rfl)) qa_nil)))))) (qss_one (qs_aug (n := 2) sc_figures_at.nd rfl l_figures_at_2 qe_int q_iadd)))
      (qss_one (qs_ret (qe_slice (K := K) (v_figures_at_0 rfl rfl) (qo_some (v_figures_at_1 rfl rfl)) (qo_some (v_figures_at_2 rfl rfl))))))), ?_⟩
    obtain ⟨z, pre, rest, rfl, hz, hzl, q⟩ := h
    walk_at "rd"
    have hlen : z.length = pre.length + rest.length := by
      have := congrArg List.length hzl
      simp [Str.length] at this ⊢
      omega
    have hsz : z.length ≤ sizeLine := small100' (by omega)
    refine whileW (fun m σ H2 => ∃ (run left : List Nat), σ = [some (.str z), some (.int pre.length), some (.int ((pre ++ run).length : Nat))] ∧ H2 = H ∧ rest = run ++ left ∧ rest.takeWhile figB = run ++ left.takeWhile figB ∧ m = left.length) rest.length ⟨[], rest, by simp, rfl, rfl, rfl, rfl⟩ ?_
    rintro m σ H2 ⟨run, left, rfl, rfl, hr, htw, rfl⟩
    have hzl' : z.cps.toList = pre ++ (run ++ left) := by rw [hzl, hr]
    have hrl : rest.length = run.length + left.length := by rw [hr, List.length_append]
    have ecut : cutS z (some (pre.length : Int)) (some (((pre ++ run).length : Nat) : Int)) = ⟨run.toArray⟩ := by
      have := cutS_at (y := run) (rest := left) hzl'
      rw [show (((pre ++ run).length : Nat) : Int) = (pre.length : Int) + (run.length : Int) by rw [List.length_append]; omega]
      exact this
    have hpr : (pre ++ run).length = pre.length + run.length := List.length_append
    walk_at "rd"
    refine ⟨hsz, iteD (fun hlt => ⟨hsz, ?_⟩) fun hge => ⟨hsz, ?_⟩⟩
    · cases left with
      | nil => simp at hrl; omega
      | cons c l2 =>
        refine ⟨c, ?_, c, rfl, figB c, rfl, ?_⟩
        · rw [hzl', ← List.append_assoc]; exact atI_mid
        by_cases hf : figB c = true
        · rw [hf]
          refine iteT ⟨_, fun _ _ h => h, l2.length, by simp, run ++ [c], by simp; omega, rfl, l2, by rw [hr]; simp, ?_, rfl⟩
          rw [htw, List.takeWhile_cons_of_pos hf]
          simp
        · rw [Bool.not_eq_true] at hf
          rw [hf]
          refine iteF ⟨hsz, ?_⟩
          rw [ecut]
          rw [htw, List.takeWhile_cons_of_neg (by simp [hf]), List.append_nil] at q
          exact q
    · have hl0 : left = [] := List.length_eq_zero_iff.mp (by omega)
      rw [htw, hl0, List.takeWhile_nil, List.append_nil] at q
      rw [ecut]
      exact q
theorem sc_part_at : FnScope ["known", "text", "at", "figures", "two"] ["known", "text", "at", "figures"] (defScope s_part_at) := ⟨rfl, rfl, rfl, by decide +kernel, rfl, by decide +kernel, by decide +kernel⟩
theorem v_part_at_0 {X : Cx} {pos : Pos} (hN : X.N = (["known", "text", "at", "figures", "two"] : List Str)) (hs : X.env.scope = defScope s_part_at) : QE X (.Name "known" pos) (tVar 0) := qvd hN hs (by decide +kernel)
theorem v_part_at_1 {X : Cx} {pos : Pos} (hN : X.N = (["known", "text", "at", "figures", "two"] : List Str)) (hs : X.env.scope = defScope s_part_at) : QE X (.Name "text" pos) (tVar 1) := qvd hN hs (by decide +kernel)
theorem v_part_at_2 {X : Cx} {pos : Pos} (hN : X.N = (["known", "text", "at", "figures", "two"] : List Str)) (hs : X.env.scope = defScope s_part_at) : QE X (.Name "at" pos) (tVar 2) := qvd hN hs (by decide +kernel)
theorem v_part_at_3 {X : Cx} {pos : Pos} (hN : X.N = (["known", "text", "at", "figures", "two"] : List Str)) (hs : X.env.scope = defScope s_part_at) : QE X (.Name "figures" pos) (tVar 3) := qvd hN hs (by decide +kernel)
theorem v_part_at_4 {X : Cx} {pos : Pos} (hN : X.N = (["known", "text", "at", "figures", "two"] : List Str)) (hs : X.env.scope = defScope s_part_at) : QE X (.Name "two" pos) (tVar 4) := qvd hN hs (by decide +kernel)
theorem l_part_at_4 : Loc (defScope s_part_at) "two" := by unfold L2.Loc; decide +kernel
theorem ok_part_at {f : Addr} {fd : FuncData} (F : FunD K "part_at" "part_at" s_part_at f fd) (T : Txt P w K mg C_NoSign) (G_NoSign___init__ : EO P w K mg base 1 C_NoSign "NoSign" ["self", "at"] (spErrI K C_NoSign "at")) (G_is_figure : FO P w K mg base 1 "is_figure" ["sign"] [] spIsFig) (G_figures_at : FO P w K mg base 2 "figures_at" ["text", "at"] [] spFigAt) : FnOk P w K mg base (CX1 P w) 3 f fd ["known", "text", "at", "figures"] (spPart5 C_NoSign) := by
  refine F.okX sc_part_at (fun vs H Q E h => ?_) (fun cdv A outer s H vs Q E hr h => ?_)
  · (obtain ⟨d, z, g, pre, c, r, w, rfl, _⟩ := h; rfl)
  · have hu1 := hu_of hr
    have hu := hr.units
    refine ⟨_, QSs.out (qss_cons (qs_if (QW.pt (qw_and (qt_tru (K := K) (v_part_at_3 rfl rfl)) (qw_and1 (qt_tru (K := K) (qe_callF G_is_figure (hr.mono (by decide)) (qa_c (qe_ix (K := K) (v_part_at_1 rfl rfl) (v_part_at_2 rfl rfl)) qa_nil)))))) (qss_one (qs_ret (qe_callF G_figures_at (hr.mono (by decide)) (qa_c (v_part_at_1 rfl rfl) (qa_c (v_part_at_2 rfl rfl) qa_nil))))) qss_nil)
      (qss_cons (qs_set (n := 4) sc_part_at.nd rfl l_part_at_4 (qe_slice (K := K) (v_part_at_1 rfl rfl) (qo_some (v_part_at_2 rfl rfl)) (qo_some (qe_op (q_add (K := K)) (v_part_at_2 rfl rfl) qe_int))))
      (qss_cons (qs_if (qt_cmpR (q_in (K := K) hu) (v_part_at_4 rfl rfl) (v_part_at_0 rfl rfl)) (qss_one (qs_ret (v_part_at_4 rfl rfl))) qss_nil)
      (qss_cons (qs_if (qt_cmpR (q_in (K := K) hu) (qe_ix (K := K) (v_part_at_1 rfl rfl) (v_part_at_2 rfl rfl)) (v_part_at_0 rfl rfl)) (qss_one (qs_ret (qe_ix (K := K) (v_part_at_1 rfl rfl) (v_part_at_2 rfl rfl)))) qss_nil)
      (qss_one (qs_raise (fun _ _ _ _ _ _ _ I h1 h2 => throws I h1 h2) (qe_err G_NoSign___init__ (hr.mono (by decide)) (qa_c (v_part_at_2 rfl rfl) qa_nil)) (K := K))))))), ?_⟩
    obtain ⟨d, z, g, pre, c, r, w, rfl, hd, hz, hzl, q1, q2⟩ := h
    obtain ⟨fN, MN⟩ := T.er_NoSign
    walk_at "rd"
    have hsz : z.length ≤ sizeLine := small100' (by omega)
    have hpre : pre.length < 1000 := by
      have := congrArg List.length hzl
      simp [Str.length] at this hz
      omega
    have ha : atI z.cps.toList (pre.length : Int) = some c := by rw [hzl]; exact atI_mid
    cases w with
    | false =>
      have hpf : partF false g (c :: r) = partG g (c :: r) := by rw [partF_cons, Bool.false_and, if_neg Bool.false_ne_true]
      rw [hpf] at q1 q2
      refine iteF ?_
      have fin : partG g (c :: r) = none → ∀ (x : Addr), H x = none → spErrI K C_NoSign "at" [V.ref x, V.int pre.length] (upd H x (xm s.heap.objs.size x C_NoSign)) (fun v H2 => v = V.non ∧ ∃ x_1 x_2, H2 x = some (xo s.heap.objs.size x x_1 x_2) ∧ (∃ x, ErrC K x_1 x) ∧ E (Value.ref x_1) (some x_2) (del H2 x)) E0 := fun hn x nx =>
        ⟨s.heap.objs.size, x, pre.length, fN, rfl, upd_same, MN, T.na_NoSign, by omega, fun dx nd ne => ⟨rfl, C_NoSign, dx, (raised nx nd ne).1, ⟨fN, MN⟩, q2 hn dx _ (raised nx nd ne).2.1 (raised nx nd ne).2.2⟩⟩
      have one' : ∀ (h2 : partG g (c :: r) = if one c ∈ g then some (one c) else none), rInR K false (V.str (one c)) d H fun x H' => ∃ k, x = V.bl k ∧ if k = true then z.length ≤ sizeLine ∧ ∃ x, atI z.cps.toList (pre.length : Int) = some x ∧ Q (V.str { cps := #[x] }) H' else 1 ≤ 1000 ∧ ∀ (x : Addr), H' x = none → spErrI K C_NoSign "at" [V.ref x, V.int pre.length] (upd H' x (xm s.heap.objs.size x C_NoSign)) (fun v H2 => v = V.non ∧ ∃ x_1 x_2, H2 x = some (xo s.heap.objs.size x x_1 x_2) ∧ (∃ x, ErrC K x_1 x) ∧ E (Value.ref x_1) (some x_2) (del H2 x)) E0 := fun h2 => by
        refine rInR.d (DGet.k (k := Sum.inr (one c)) hd) ⟨_, rfl, ?_⟩
        rw [val_kvOf, Bool.false_xor]
        refine iteD (fun h => ⟨hsz, c, ha, q1 _ (by rw [h2, if_pos h]; rfl)⟩) fun h => ⟨by decide, fin (by rw [h2, if_neg h])⟩
      cases r with
      | nil =>
        rw [cutS_last hzl]
        refine ⟨hsz, rInR.d (DGet.k (k := Sum.inr (one c)) hd) ⟨_, rfl, ?_⟩⟩
        rw [val_kvOf, Bool.false_xor]
        exact iteD (fun h => q1 _ (by rw [partG_one, if_pos h])) fun h => ⟨hsz, c, ha, one' (partG_one g c)⟩
      | cons e r =>
        have ec : cutS z (some (pre.length : Int)) (some ((pre.length : Int) + 2)) = two c e := cutS_at (y := [c, e]) (rest := r) hzl
        rw [ec]
        refine ⟨hsz, rInR.d (DGet.k (k := Sum.inr (two c e)) hd) ⟨_, rfl, ?_⟩⟩
        rw [val_kvOf, Bool.false_xor]
        exact iteD (fun h => q1 _ (by rw [partG_two, if_pos h])) fun h => ⟨hsz, c, ha, one' (by rw [partG_two, if_neg h])⟩
    | true =>
      refine iteT ⟨hsz, c, ha, c, rfl, figB c, rfl, ?_⟩
      by_cases hf : figB c = true
      · rw [hf]
        exact iteT ⟨z, pre, c :: r, rfl, hz, hzl, q1 _ (by rw [partF_cons, Bool.true_and, if_pos hf])⟩
      · have hpf : partF true g (c :: r) = partG g (c :: r) := by rw [partF_cons, Bool.true_and, if_neg hf]
        rw [Bool.not_eq_true] at hf
        rw [hf]
        rw [hpf] at q1 q2
        refine iteF ?_
        have fin : partG g (c :: r) = none → ∀ (x : Addr), H x = none → spErrI K C_NoSign "at" [V.ref x, V.int pre.length] (upd H x (xm s.heap.objs.size x C_NoSign)) (fun v H2 => v = V.non ∧ ∃ x_1 x_2, H2 x = some (xo s.heap.objs.size x x_1 x_2) ∧ (∃ x, ErrC K x_1 x) ∧ E (Value.ref x_1) (some x_2) (del H2 x)) E0 := fun hn x nx =>
          ⟨s.heap.objs.size, x, pre.length, fN, rfl, upd_same, MN, T.na_NoSign, by omega, fun dx nd ne => ⟨rfl, C_NoSign, dx, (raised nx nd ne).1, ⟨fN, MN⟩, q2 hn dx _ (raised nx nd ne).2.1 (raised nx nd ne).2.2⟩⟩
        have one' : ∀ (h2 : partG g (c :: r) = if one c ∈ g then some (one c) else none), rInR K false (V.str (one c)) d H fun x H' => ∃ k, x = V.bl k ∧ if k = true then z.length ≤ sizeLine ∧ ∃ x, atI z.cps.toList (pre.length : Int) = some x ∧ Q (V.str { cps := #[x] }) H' else 1 ≤ 1000 ∧ ∀ (x : Addr), H' x = none → spErrI K C_NoSign "at" [V.ref x, V.int pre.length] (upd H' x (xm s.heap.objs.size x C_NoSign)) (fun v H2 => v = V.non ∧ ∃ x_1 x_2, H2 x = some (xo s.heap.objs.size x x_1 x_2) ∧ (∃ x, ErrC K x_1 x) ∧ E (Value.ref x_1) (some x_2) (del H2 x)) E0 := fun h2 => by
          refine rInR.d (DGet.k (k := Sum.inr (one c)) hd) ⟨_, rfl, ?_⟩
          rw [val_kvOf, Bool.false_xor]
          refine iteD (fun h => ⟨hsz, c, ha, q1 _ (by rw [h2, if_pos h]; rfl)⟩) fun h => ⟨by decide, fin (by rw [h2, if_neg h])⟩
        cases r with
        | nil =>
          rw [cutS_last hzl]
          refine ⟨hsz, rInR.d (DGet.k (k := Sum.inr (one c)) hd) ⟨_, rfl, ?_⟩⟩
          rw [val_kvOf, Bool.false_xor]
          exact iteD (fun h => q1 _ (by rw [partG_one, if_pos h])) fun h => ⟨hsz, c, ha, one' (partG_one g c)⟩
        | cons e r =>
          have ec : cutS z (some (pre.length : Int)) (some ((pre.length : Int) + 2)) = two c e := cutS_at (y := [c, e]) (rest := r) hzl
          rw [ec]
          refine ⟨hsz, rInR.d (DGet.k (k := Sum.inr (two c e)) hd) ⟨_, rfl, ?_⟩⟩
          rw [val_kvOf, Bool.false_xor]
          exact iteD (fun h => q1 _ (by rw [partG_two, if_pos h])) fun h => ⟨hsz, c, ha, one' (by rw [partG_two, if_neg h])⟩
theorem sc_cut : FnScope ["known", "text", "figures", "pieces", "parts", "at", "part"] ["known", "text", "figures"] (defScope s_cut) := ⟨rfl, rfl, rfl, by decide +kernel, rfl, by decide +kernel, by decide +kernel⟩
theorem v_cut_0 {X : Cx} {pos : Pos} (hN : X.N = (["known", "text", "figures", "pieces", "parts", "at", "part"] : List Str)) (hs : X.env.scope = defScope s_cut) : QE X (.Name "known" pos) (tVar 0) := qvd hN hs (by decide +kernel)
theorem v_cut_1 {X : Cx} {pos : Pos} (hN : X.N = (["known", "text", "figures", "pieces", "parts", "at", "part"] : List Str)) (hs : X.env.scope = defScope s_cut) : QE X (.Name "text" pos) (tVar 1) := qvd hN hs (by decide +kernel)
theorem v_cut_2 {X : Cx} {pos : Pos} (hN : X.N = (["known", "text", "figures", "pieces", "parts", "at", "part"] : List Str)) (hs : X.env.scope = defScope s_cut) : QE X (.Name "figures" pos) (tVar 2) := qvd hN hs (by decide +kernel)
theorem v_cut_3 {X : Cx} {pos : Pos} (hN : X.N = (["known", "text", "figures", "pieces", "parts", "at", "part"] : List Str)) (hs : X.env.scope = defScope s_cut) : QE X (.Name "pieces" pos) (tVar 3) := qvd hN hs (by decide +kernel)
theorem v_cut_4 {X : Cx} {pos : Pos} (hN : X.N = (["known", "text", "figures", "pieces", "parts", "at", "part"] : List Str)) (hs : X.env.scope = defScope s_cut) : QE X (.Name "parts" pos) (tVar 4) := qvd hN hs (by decide +kernel)
theorem v_cut_5 {X : Cx} {pos : Pos} (hN : X.N = (["known", "text", "figures", "pieces", "parts", "at", "part"] : List Str)) (hs : X.env.scope = defScope s_cut) : QE X (.Name "at" pos) (tVar 5) := qvd hN hs (by decide +kernel)
theorem v_cut_6 {X : Cx} {pos : Pos} (hN : X.N = (["known", "text", "figures", "pieces", "parts", "at", "part"] : List Str)) (hs : X.env.scope = defScope s_cut) : QE X (.Name "part" pos) (tVar 6) := qvd hN hs (by decide +kernel)
theorem l_cut_3 : Loc (defScope s_cut) "pieces" := by unfold L2.Loc; decide +kernel
theorem l_cut_4 : Loc (defScope s_cut) "parts" := by unfold L2.Loc; decide +kernel
theorem l_cut_5 : Loc (defScope s_cut) "at" := by unfold L2.Loc; decide +kernel
theorem l_cut_6 : Loc (defScope s_cut) "part" := by unfold L2.Loc; decide +kernel
theorem ok_cut {f : Addr} {fd : FuncData} (F : FunD K "cut" "cut" s_cut f fd) (T : Txt P w K mg C_NoSign) (G_part_at : FOX P w K mg base 3 "part_at" ["known", "text", "at", "figures"] [] (spPart5 C_NoSign)) : FnOk P w K mg base (CX1 P w) 4 f fd ["known", "text", "figures"] (spCut5 K C_NoSign) := by
  refine F.okX sc_cut (fun vs H Q E h => ?_) (fun cdv A outer s H vs Q E hr h => ?_)
  · (obtain ⟨a, z, ks, w, rfl, _⟩ := h; rfl)
  · have hu1 := hu_of hr
    have hu := hr.units
    refine ⟨_, QSs.out (qss_cons (qs_set (n := 3) sc_cut.nd rfl l_cut_3 (qe_cT (q_dictP (K := K) (calm := true)) T.b_dict bt_dict (qa_c (qe_comp  (⟨rfl, by decide +kernel, by decide +kernel, by decide +kernel, by decide +kernel, rfl, by decide +kernel, by decide +kernel⟩ : CompOk ["known", "text", "figures", "pieces", "parts", "at", "part"] (defScope s_cut).names _ ["piece"] 1 []) (qi_list (K := K) (v_cut_0 rfl rfl)) (fun _ _ _ _ _ => qg_name (n := 0) (show List.Nodup (["piece"] : List Str) by decide +kernel) rfl (Or.inl rfl)) (fun _ _ _ _ _ => qifs_nil) (fun _ _ _ _ _ => (qe_tup (qa_c (qv 0) (qa_c qe_bl qa_nil))))) qa_nil)))
      (qss_cons (qs_set (n := 4) sc_cut.nd rfl l_cut_4 (qe_lst qa_nil))
      (qss_cons (qs_set (n := 5) sc_cut.nd rfl l_cut_5 qe_int)
      (qss_cons (qs_while PassesOwn.leaving (qt_cmpR q_lt (v_cut_5 rfl rfl) (qe_cB (q_len (K := K)) T.b_len bt_len (qa_c (v_cut_1 rfl rfl) qa_nil))) (qss_cons (qs_set (n := 6) sc_cut.nd rfl l_cut_6 (qe_callX G_part_at (hr.mono (by decide)) passes1 (qa_c (v_cut_3 rfl rfl) (qa_c (v_cut_1 rfl rfl) (qa_c (v_cut_5 rfl rfl) (qa_c (v_cut_2 rfl rfl) qa_nil))))))
      (qss_cons (qs_expr (qe_mB (K := K) PySem.F.plainAttrs_list PySem.F.slot_list_append PySem.F.type_list_append q_append (v_cut_4 rfl rfl) (qa_c (v_cut_6 rfl rfl) qa_nil)))
      (qss_one (qs_aug (n := 5) sc_cut.nd rfl l_cut_5 (qe_cB (q_len (K := K)) T.b_len bt_len (qa_c (v_cut_6 rfl rfl) qa_nil)) q_iadd)))))
      (qss_one (qs_ret (v_cut_4 rfl rfl))))))), ?_⟩
    obtain ⟨a, z, ks, w, rfl, hS, hkl, hz, q1, q2⟩ := h
    walk_at "rd"
    refine ⟨⟨_, hS⟩, compL (xs := ks.map V.str) [] rfl (fun D i ys H4 => ∃ ts : List Addr, ys = ts.map V.ref ∧ Paired (fun t k => H4 t = some (.tup [V.str k, V.bl true])) ts (ks.take i) ∧ Same H H4) (fun D nD => ⟨[], rfl, .nil, Same.new nD⟩) (by rintro D i ys H4 nD _ ⟨_, _, _, S⟩; exact S.seq hS) ?_ ?_⟩
    · rintro D i x ys H4 nD hi hx ⟨ts, rfl, P, S⟩ hD hy
      obtain ⟨k, hk, rfl⟩ := map_at hx
      rw [List.length_map] at hi
      walk_at "rd"
      refine ⟨by decide, fun t nt => ⟨upd_fresh hD nt, small100 (by omega), CW.put (by rw [List.length_map]; exact hi) hy ⟨ts ++ [t], by rw [List.map_append]; rfl, ?_, Same.put (fun b o h => upd_fresh (S b o h) nt) nD⟩⟩⟩
      have hDt : D ≠ t := fun e => by rw [e, nt] at hD; cases hD
      rw [List.take_add_one, hk, Option.toList_some]
      refine Paired.snoc (Paired.mapP P fun r k h => ?_) (by rw [upd_ne hDt.symm, upd_same])
      rw [upd_ne (fun e => by rw [e, hD] at h; cases h)]
      exact upd_fresh h nt
    rintro D ys H4 nD ⟨ts, rfl, P, S⟩ hD hy
    rw [List.length_map, List.take_length] at P
    have P2 : Paired (fun t (kx : Key × V) => SqT K H4 t [kV kx.1, kx.2]) ts (kvOf ks) := by
      clear hD hy nD S hkl hS q1 q2
      induction P with
      | nil => exact .nil
      | cons h t ih => exact .cons (.of h) ih
    refine ⟨rfl, D, ts, kvOf ks, rfl, .of hD, P2, fun d nd => ?_⟩
    rw [show mergeK [] (kvOf ks) = kvOf (dds [] ks) from merge_kvOf ks []]
    have S1 : Same H (upd H4 d (.dK (kvOf (dds [] ks)))) := fun b o h => upd_fresh (S b o h) nd
    have hd : upd H4 d (.dK (kvOf (dds [] ks))) d = some (.dK (kvOf (dds [] ks))) := upd_same
    generalize upd H4 d (.dK (kvOf (dds [] ks))) = H5 at S1 hd
    have hcg : ∀ l, cutF w (dds [] ks) l = cutF w ks l := cutF_congr fun x => by rw [mem_dds]; simp
    generalize dds [] ks = g at hd hcg
    refine fun p np => whileW (fun m σ H6 => ∃ (pre rest : List Nat) (ps : List Str) (u : Option V), σ = [some (.ref a), some (.str z), some (.bl w), some (.ref d), some (.ref p), some (.int pre.length), u] ∧ Same H5 H6 ∧ H6 p = some (.lst (ps.map V.str)) ∧ z.cps.toList = pre ++ rest ∧ (cutF w g z.cps.toList).1 = pre.length + (cutF w g rest).1 ∧ (cutF w g z.cps.toList).2 = ps ++ (cutF w g rest).2 ∧ ps.length ≤ pre.length ∧ m = rest.length) z.cps.toList.length
      ⟨[], z.cps.toList, [], none, rfl, Same.new np, upd_same, rfl, by simp, rfl, Nat.zero_le _, rfl⟩ ?_
    rintro m σ H6 ⟨pre, rest, ps, u, rfl, S6, h6, hzl, hc1, hc2, hpl, rfl⟩
    have hlen : z.length = pre.length + rest.length := by
      have := congrArg List.length hzl
      simp [Str.length] at this ⊢
      omega
    walk_at "rd"
    refine ⟨small100' (by omega), iteD (fun hlt => ?_) fun hge => ?_⟩
    · cases rest with
      | nil => simp at hlen; omega
      | cons c r =>
        refine ⟨_, fun _ _ h => h, d, z, g, pre, c, r, w, rfl, S6 _ _ hd, hz, hzl, fun y hy => ?_, fun hn dx H7 S7 hdx => ?_⟩
        · obtain ⟨rest', e1, e2, e3⟩ := cutF_some hy
          rw [e2] at hc1 hc2
          have el : y.cps.toList.length = y.length := by simp [Str.length]
          have erl : (c :: r).length = y.length + rest'.length := by rw [e1, List.length_append, el]
          refine ⟨tyL h6, appOk h6 (by rw [List.length_map]; exact small100 (by omega)) ?_⟩
          walk_at "rd"
          refine ⟨small100' (by omega), rest'.length, by rw [List.length_cons] at erl; omega, pre ++ y.cps.toList, by rw [List.length_append, el]; omega, S6.put np, rest', ps ++ [y], by rw [upd_same, List.map_append]; rfl, hzl.trans (by rw [List.append_assoc]; exact congrArg (pre ++ ·) e1), by rw [List.length_append, el, hc1]; dsimp only; omega, by rw [hc2, List.append_assoc]; rfl, by rw [List.length_append, List.length_append, el, List.length_singleton]; omega, rfl⟩
        · rw [cutF_none hn] at hc1
          have hn1 : (cutF w ks z.cps.toList).1 = pre.length := by rw [← hcg, hc1]; rfl
          refine q2 (fun hw => ?_) dx H7 (S1.trans (S6.trans S7)) (by rw [hn1]; exact hdx)
          unfold WholeF at hw
          rw [hn1] at hw
          simp at hlen
          omega
    · have hr : rest = [] := List.length_eq_zero_iff.mp (by omega)
      rw [hr] at hc1 hc2
      have hw : WholeF w ks z := by
        unfold WholeF
        rw [← hcg, hc1, hlen, hr]
        rfl
      refine q1 hw p H6 (S1.free np) (S1.trans S6) ?_
      rw [h6, ← hcg, hc2]
      show some (HO.lst (ps.map V.str)) = some (HO.lst ((ps ++ []).map V.str))
      rw [List.append_nil]
theorem sc_l_cell_at : FnScope ["_law_script", "_law_k"] ["_law_script", "_law_k"] (defScope s_l_cell_at) := ⟨rfl, rfl, rfl, by decide +kernel, rfl, by decide +kernel, by decide +kernel⟩
theorem v_l_cell_at_0 {X : Cx} {pos : Pos} (hN : X.N = (["_law_script", "_law_k"] : List Str)) (hs : X.env.scope = defScope s_l_cell_at) : QE X (.Name "_law_script" pos) (tVar 0) := qvd hN hs (by decide +kernel)
theorem v_l_cell_at_1 {X : Cx} {pos : Pos} (hN : X.N = (["_law_script", "_law_k"] : List Str)) (hs : X.env.scope = defScope s_l_cell_at) : QE X (.Name "_law_k" pos) (tVar 1) := qvd hN hs (by decide +kernel)
theorem ok_l_cell_at {f : Addr} {fd : FuncData} (F : FunD K "_law_cell_at" "_law_cell_at" s_l_cell_at f fd) (T : Txt P w K mg C_NoSign) : FnOk P w K mg base CX0 1 f fd ["_law_script", "_law_k"] (spCellF K) := by
  refine F.ok sc_l_cell_at (fun vs H Q E h => ?_) (fun cdv A outer s H vs Q E hr h => ?_)
  · (obtain ⟨a, ns, k, rfl, _⟩ := h; rfl)
  · have hu1 := hu_of hr
    have hu := hr.units
    refine ⟨_, QSs.out (qss_cons (qs_if (qt_cmpR q_lt (v_l_cell_at_1 rfl rfl) (qe_cB (q_len (K := K)) T.b_len bt_len (qa_c (v_l_cell_at_0 rfl rfl) qa_nil))) (qss_one (qs_ret (qe_ix (K := K) (v_l_cell_at_0 rfl rfl) (v_l_cell_at_1 rfl rfl)))) qss_nil)
      (qss_one (qs_ret qe_int))), ?_⟩
    obtain ⟨a, ns, k, rfl, hS, hk, q⟩ := h
    walk_at "rd"
    unfold cellF at q
    refine ⟨ns.length, .inl ⟨_, hS, by rw [List.length_map]⟩, iteD (fun hlt => ?_) fun hge => ?_⟩
    · rw [if_pos hlt] at q
      have hi : k.toNat < ns.length := by omega
      refine ⟨_, .inl hS, V.int (ns.getD k.toNat 0), ?_, q⟩
      have e : ((k.toNat : Nat) : Int) = k := by omega
      have h1 : atI (ns.map V.int) ((k.toNat : Nat) : Int) = some (V.int (ns.getD k.toNat 0)) := atI_nat (by rw [List.getElem?_map, List.getD_eq_getElem?_getD, List.getElem?_eq_getElem hi]; rfl)
      rw [e] at h1
      exact h1
    · rw [if_neg hge] at q
      exact q
theorem sc_l_sign : FnScope ["_law_script", "_law_k", "_law_some", "_law_step"] ["_law_script", "_law_k"] (defScope s_l_sign) := ⟨rfl, rfl, rfl, by decide +kernel, rfl, by decide +kernel, by decide +kernel⟩
theorem v_l_sign_0 {X : Cx} {pos : Pos} (hN : X.N = (["_law_script", "_law_k", "_law_some", "_law_step"] : List Str)) (hs : X.env.scope = defScope s_l_sign) : QE X (.Name "_law_script" pos) (tVar 0) := qvd hN hs (by decide +kernel)
theorem v_l_sign_1 {X : Cx} {pos : Pos} (hN : X.N = (["_law_script", "_law_k", "_law_some", "_law_step"] : List Str)) (hs : X.env.scope = defScope s_l_sign) : QE X (.Name "_law_k" pos) (tVar 1) := qvd hN hs (by decide +kernel)
theorem v_l_sign_2 {X : Cx} {pos : Pos} (hN : X.N = (["_law_script", "_law_k", "_law_some", "_law_step"] : List Str)) (hs : X.env.scope = defScope s_l_sign) : QE X (.Name "_law_some" pos) (tVar 2) := qvd hN hs (by decide +kernel)
theorem v_l_sign_3 {X : Cx} {pos : Pos} (hN : X.N = (["_law_script", "_law_k", "_law_some", "_law_step"] : List Str)) (hs : X.env.scope = defScope s_l_sign) : QE X (.Name "_law_step" pos) (tVar 3) := qvd hN hs (by decide +kernel)
theorem l_l_sign_2 : Loc (defScope s_l_sign) "_law_some" := by unfold L2.Loc; decide +kernel
theorem l_l_sign_3 : Loc (defScope s_l_sign) "_law_step" := by unfold L2.Loc; decide +kernel
theorem ok_l_sign {f : Addr} {fd : FuncData} (F : FunD K "_law_sign" "_law_sign" s_l_sign f fd) (T : Txt P w K mg C_NoSign) (G_l_cell_at : FO P w K mg base 1 "_law_cell_at" ["_law_script", "_law_k"] [] (spCellF K)) : FnOk P w K mg base CX0 2 f fd ["_law_script", "_law_k"] (spSign5 K) := by
  refine F.ok sc_l_sign (fun vs H Q E h => ?_) (fun cdv A outer s H vs Q E hr h => ?_)
  · (obtain ⟨a, ns, k, rfl, _⟩ := h; rfl)
  · have hu1 := hu_of hr
    have hu := hr.units
    refine ⟨_, QSs.out (qss_cons (qs_set (n := 2) sc_l_sign.nd rfl l_l_sign_2 qe_str)
      (qss_cons (qs_set (n := 3) sc_l_sign.nd rfl l_l_sign_3 (qe_ix (K := K) (qe_lst (qa_c qe_int (qa_c qe_int (qa_c qe_int (qa_c qe_int (qa_c qe_int (qa_c qe_int (qa_c qe_int (qa_c qe_int qa_nil))))))))) (qe_op q_mod (qe_callF G_l_cell_at (hr.mono (by decide)) (qa_c (v_l_sign_0 rfl rfl) (qa_c qe_int qa_nil))) qe_int)))
      (qss_one (qs_ret (qe_ix (K := K) (v_l_sign_2 rfl rfl) (qe_op q_mod (qe_op (q_add (K := K)) (qe_callF G_l_cell_at (hr.mono (by decide)) (qa_c (v_l_sign_0 rfl rfl) (qa_c qe_int qa_nil))) (qe_op q_mul (v_l_sign_1 rfl rfl) (v_l_sign_3 rfl rfl))) qe_int)))))), ?_⟩
    obtain ⟨a, ns, k, rfl, hS, hk, hk2, q⟩ := h
    walk_at "rd"
    refine ⟨by decide, fun p np => ⟨a, ns, 1, rfl, (Same.new np).seq hS, by decide, _, rfl, _, .inl (.of upd_same), ?_⟩⟩
    obtain ⟨mu, hmu, hmu2⟩ := drawn2 (xs := [V.int 1, V.int 2, V.int 5, V.int 7, V.int 13, V.int 31, V.int 40, V.int 82]) (i := cellF ns 1 % 8) (by simp) (by omega) (by simp only [List.length_cons, List.length_nil]; omega)
    have hmu3 : 0 ≤ mu ∧ mu ≤ 82 := by
      simp at hmu2
      omega
    refine ⟨_, hmu, a, ns, 0, rfl, (Same.new np).seq hS, by decide, ?_⟩
    walk_at "rd"
    obtain ⟨c, h1, h2⟩ := S5_at (i := (cellF ns 0 + k * mu) % 83) (by omega) (by omega)
    exact ⟨.inr ⟨by omega, by omega⟩, (show S5.length ≤ sizeLine by rw [S5_len]; decide), c, h1, q c _ (Same.new np) h2⟩
theorem sc_l_known : FnScope ["_law_script", "_law_cell", "_law_one", "_law_other", "_law_known_here", "_law_more", "_law_k"] ["_law_script"] (defScope s_l_known) := ⟨rfl, rfl, rfl, by decide +kernel, rfl, by decide +kernel, by decide +kernel⟩
theorem v_l_known_0 {X : Cx} {pos : Pos} (hN : X.N = (["_law_script", "_law_cell", "_law_one", "_law_other", "_law_known_here", "_law_more", "_law_k"] : List Str)) (hs : X.env.scope = defScope s_l_known) : QE X (.Name "_law_script" pos) (tVar 0) := qvd hN hs (by decide +kernel)
theorem v_l_known_1 {X : Cx} {pos : Pos} (hN : X.N = (["_law_script", "_law_cell", "_law_one", "_law_other", "_law_known_here", "_law_more", "_law_k"] : List Str)) (hs : X.env.scope = defScope s_l_known) : QE X (.Name "_law_cell" pos) (tVar 1) := qvd hN hs (by decide +kernel)
theorem v_l_known_2 {X : Cx} {pos : Pos} (hN : X.N = (["_law_script", "_law_cell", "_law_one", "_law_other", "_law_known_here", "_law_more", "_law_k"] : List Str)) (hs : X.env.scope = defScope s_l_known) : QE X (.Name "_law_one" pos) (tVar 2) := qvd hN hs (by decide +kernel)
theorem v_l_known_3 {X : Cx} {pos : Pos} (hN : X.N = (["_law_script", "_law_cell", "_law_one", "_law_other", "_law_known_here", "_law_more", "_law_k"] : List Str)) (hs : X.env.scope = defScope s_l_known) : QE X (.Name "_law_other" pos) (tVar 3) := qvd hN hs (by decide +kernel)
theorem v_l_known_4 {X : Cx} {pos : Pos} (hN : X.N = (["_law_script", "_law_cell", "_law_one", "_law_other", "_law_known_here", "_law_more", "_law_k"] : List Str)) (hs : X.env.scope = defScope s_l_known) : QE X (.Name "_law_known_here" pos) (tVar 4) := qvd hN hs (by decide +kernel)
theorem v_l_known_5 {X : Cx} {pos : Pos} (hN : X.N = (["_law_script", "_law_cell", "_law_one", "_law_other", "_law_known_here", "_law_more", "_law_k"] : List Str)) (hs : X.env.scope = defScope s_l_known) : QE X (.Name "_law_more" pos) (tVar 5) := qvd hN hs (by decide +kernel)
theorem v_l_known_6 {X : Cx} {pos : Pos} (hN : X.N = (["_law_script", "_law_cell", "_law_one", "_law_other", "_law_known_here", "_law_more", "_law_k"] : List Str)) (hs : X.env.scope = defScope s_l_known) : QE X (.Name "_law_k" pos) (tVar 6) := qvd hN hs (by decide +kernel)
theorem l_l_known_1 : Loc (defScope s_l_known) "_law_cell" := by unfold L2.Loc; decide +kernel
theorem l_l_known_2 : Loc (defScope s_l_known) "_law_one" := by unfold L2.Loc; decide +kernel
theorem l_l_known_3 : Loc (defScope s_l_known) "_law_other" := by unfold L2.Loc; decide +kernel
theorem l_l_known_4 : Loc (defScope s_l_known) "_law_known_here" := by unfold L2.Loc; decide +kernel
theorem l_l_known_5 : Loc (defScope s_l_known) "_law_more" := by unfold L2.Loc; decide +kernel
theorem l_l_known_6 : Loc (defScope s_l_known) "_law_k" := by unfold L2.Loc; decide +kernel
theorem ok_l_known {f : Addr} {fd : FuncData} (F : FunD K "_law_known" "_law_known" s_l_known f fd) (T : Txt P w K mg C_NoSign) (G_l_cell_at : FO P w K mg base 1 "_law_cell_at" ["_law_script", "_law_k"] [] (spCellF K)) (G_l_sign : FO P w K mg base 2 "_law_sign" ["_law_script", "_law_k"] [] (spSign5 K)) : FnOk P w K mg base CX0 3 f fd ["_law_script"] (spKnown5 K) := by
  refine F.ok sc_l_known (fun vs H Q E h => ?_) (fun cdv A outer s H vs Q E hr h => ?_)
  · (obtain ⟨a, ns, rfl, _⟩ := h; rfl)
  · have hu1 := hu_of hr
    have hu := hr.units
    refine ⟨_, QSs.out (qss_cons (qs_set (n := 1) sc_l_known.nd rfl l_l_known_1 (qe_callF G_l_cell_at (hr.mono (by decide)) (qa_c (v_l_known_0 rfl rfl) (qa_c qe_int qa_nil))))
      (qss_cons (qs_set (n := 2) sc_l_known.nd rfl l_l_known_2 (qe_ix (K := K) qe_str (qe_op q_mod (qe_op q_fdiv (v_l_known_1 rfl rfl) qe_int) qe_int)))
      (qss_cons (qs_set (n := 3) sc_l_known.nd rfl l_l_known_3 (qe_ix (K := K) qe_str (qe_op q_mod (qe_op q_fdiv (v_l_known_1 rfl rfl) qe_int) qe_int)))
      (qss_cons (qs_setComp (n := 4) sc_l_known.nd rfl l_l_known_4 (⟨rfl, by decide +kernel, by decide +kernel, by decide +kernel, by decide +kernel, rfl, by decide +kernel, by decide +kernel⟩ : CompOk ["_law_script", "_law_cell", "_law_one", "_law_other", "_law_known_here", "_law_more", "_law_k"] (defScope s_l_known).names _ ["_law_k", "_law_script"] 1 [0]) (qi_r1 T.b_range (qa_c qe_int qa_nil)) (fun _ _ _ _ _ => qg_name (n := 0) (show List.Nodup (["_law_k", "_law_script"] : List Str) by decide +kernel) rfl (Or.inl rfl)) (fun _ _ _ _ _ => qifs_nil) (fun _ _ _ _ _ => (qe_callF G_l_sign (hr.mono (by decide)) (qa_c (qv 1) (qa_c (qv 0) qa_nil)))))
      (qss_cons (qs_set (n := 5) sc_l_known.nd rfl l_l_known_5 (qe_lst (qa_c (qe_lst (qa_c (v_l_known_2 rfl rfl) (qa_c (v_l_known_3 rfl rfl) qa_nil))) (qa_c (qe_lst (qa_c (qe_op (q_add (K := K)) (qe_ix (K := K) (v_l_known_4 rfl rfl) qe_int) (v_l_known_2 rfl rfl)) qa_nil)) (qa_c (qe_lst (qa_c (qe_op (q_add (K := K)) (v_l_known_3 rfl rfl) (qe_ix (K := K) (v_l_known_4 rfl rfl) qe_int)) qa_nil)) (qa_c (qe_lst (qa_c (qe_op (q_add (K := K)) (v_l_known_2 rfl rfl) (v_l_known_3 rfl rfl)) qa_nil)) qa_nil))))))
      (qss_cons (qs_for PassesOwn.never (qi_r1 T.b_range (qa_c qe_int qa_nil)) (qg_name (n := 6) sc_l_known.nd rfl l_l_known_6 (.inl rfl)) (qss_cons (qs_if (qt_cmpR (q_eq (K := K) hu) (qe_op q_mod (v_l_known_1 rfl rfl) qe_int) qe_int) (qss_one (qs_set (n := 4) sc_l_known.nd rfl l_l_known_4 (qe_op (q_add (K := K)) (v_l_known_4 rfl rfl) (qe_ix (K := K) (v_l_known_5 rfl rfl) (v_l_known_6 rfl rfl))))) qss_nil)
      (qss_one (qs_set (n := 1) sc_l_known.nd rfl l_l_known_1 (qe_op q_fdiv (v_l_known_1 rfl rfl) qe_int)))))
      (qss_one (qs_ret (v_l_known_4 rfl rfl))))))))), ?_⟩
    obtain ⟨a, ns, rfl, hS, q⟩ := h
    walk_at "rd"
    have dz : D5.length ≤ sizeLine := by rw [← lenL, D5_list]; decide
    refine ⟨a, ns, 2, rfl, hS, by decide, _, rfl, dz, ?_⟩
    generalize cellF ns 2 = i
    obtain ⟨x1, h1, o1⟩ := D5_at (i := i / 16 % 10) (by omega) (by omega)
    obtain ⟨x2, h2, o2⟩ := D5_at (i := i / 160 % 10) (by omega) (by omega)
    refine ⟨x1, h1, i, rfl, dz, x2, h2, by decide, by decide, compR [some (.ref a)] rfl (fun D j ys H4 => ∃ zs : List Str, ys = zs.map V.str ∧ zs.length = j ∧ (∀ z ∈ zs, z.length = 1) ∧ Same H H4) (fun D nD => ⟨[], rfl, rfl, by simp, Same.new nD⟩) ?_ ?_⟩
    · rintro D j ys H4 nD hi ⟨zs, rfl, hzl, hz, S⟩ hD hy
      have hj3 : j < 3 := hi
      walk_at "rd"
      refine ⟨a, ns, _, rfl, S.seq hS, by omega, by omega, fun c H5 S5 hc => ⟨S5 _ _ hD, by rw [List.length_map]; exact small100 (by omega), CW.put hi hy ⟨zs ++ [one c], by rw [List.map_append]; rfl, by rw [List.length_append, hzl]; rfl, fun z hz2 => ?_, (S.trans S5).put nD⟩⟩⟩
      rcases List.mem_append.mp hz2 with h | h
      · exact hz z h
      · rw [List.mem_singleton.mp h]; rfl
    rintro D ys H4 nD ⟨zs, rfl, hzl, hz, S⟩ hD hy
    have hz3 : zs.length = 3 := hzl
    obtain ⟨y0, y1, y2, rfl⟩ : ∃ y0 y1 y2, zs = [y0, y1, y2] := by
      match zs, hz3 with
      | [y0, y1, y2], _ => exact ⟨y0, y1, y2, rfl⟩
    have l0 : y0.length = 1 := hz y0 (by simp)
    have l1 : y1.length = 1 := hz y1 (by simp)
    refine ⟨by decide, fun p1 n1 => ?_⟩
    walk_at "rd"
    refine ⟨_, .inl (.of (upd_fresh hD n1)), V.str y0, rfl, ?_⟩
    walk_at "rd"
    refine ⟨by rw [l0]; show 1 + 1 ≤ sizeLine; decide, by decide, fun p2 n2 => ⟨_, .inl (.of (upd_fresh (upd_fresh hD n1) n2)), V.str y1, rfl, ?_⟩⟩
    walk_at "rd"
    refine ⟨by rw [l1]; show 1 + 1 ≤ sizeLine; decide, by decide, fun p3 n3 => ⟨by show 1 + 1 ≤ sizeLine; decide, by decide, fun p4 n4 => ⟨by decide, fun p5 n5 => ⟨by decide, by decide, ?_⟩⟩⟩⟩
    have e1 : upd (upd (upd (upd (upd H4 p1 (HO.lst [V.str ⟨#[x1]⟩, V.str ⟨#[x2]⟩])) p2 (HO.lst [V.str (y0 ++ ⟨#[x1]⟩)])) p3 (HO.lst [V.str (⟨#[x2]⟩ ++ y1)])) p4 (HO.lst [V.str (⟨#[x1]⟩ ++ ⟨#[x2]⟩)])) p5 (HO.lst [V.ref p1, V.ref p2, V.ref p3, V.ref p4]) p1 = some (HO.lst [V.str ⟨#[x1]⟩, V.str ⟨#[x2]⟩]) := upd_fresh (upd_fresh (upd_fresh (upd_fresh upd_same n2) n3) n4) n5
    have e2 : upd (upd (upd (upd (upd H4 p1 (HO.lst [V.str ⟨#[x1]⟩, V.str ⟨#[x2]⟩])) p2 (HO.lst [V.str (y0 ++ ⟨#[x1]⟩)])) p3 (HO.lst [V.str (⟨#[x2]⟩ ++ y1)])) p4 (HO.lst [V.str (⟨#[x1]⟩ ++ ⟨#[x2]⟩)])) p5 (HO.lst [V.ref p1, V.ref p2, V.ref p3, V.ref p4]) p2 = some (HO.lst [V.str (y0 ++ ⟨#[x1]⟩)]) := upd_fresh (upd_fresh (upd_fresh upd_same n3) n4) n5
    have e3 : upd (upd (upd (upd (upd H4 p1 (HO.lst [V.str ⟨#[x1]⟩, V.str ⟨#[x2]⟩])) p2 (HO.lst [V.str (y0 ++ ⟨#[x1]⟩)])) p3 (HO.lst [V.str (⟨#[x2]⟩ ++ y1)])) p4 (HO.lst [V.str (⟨#[x1]⟩ ++ ⟨#[x2]⟩)])) p5 (HO.lst [V.ref p1, V.ref p2, V.ref p3, V.ref p4]) p3 = some (HO.lst [V.str (⟨#[x2]⟩ ++ y1)]) := upd_fresh (upd_fresh upd_same n4) n5
    have e4 : upd (upd (upd (upd (upd H4 p1 (HO.lst [V.str ⟨#[x1]⟩, V.str ⟨#[x2]⟩])) p2 (HO.lst [V.str (y0 ++ ⟨#[x1]⟩)])) p3 (HO.lst [V.str (⟨#[x2]⟩ ++ y1)])) p4 (HO.lst [V.str (⟨#[x1]⟩ ++ ⟨#[x2]⟩)])) p5 (HO.lst [V.ref p1, V.ref p2, V.ref p3, V.ref p4]) p4 = some (HO.lst [V.str (⟨#[x1]⟩ ++ ⟨#[x2]⟩)]) := upd_fresh upd_same n5
    have e5 : upd (upd (upd (upd (upd H4 p1 (HO.lst [V.str ⟨#[x1]⟩, V.str ⟨#[x2]⟩])) p2 (HO.lst [V.str (y0 ++ ⟨#[x1]⟩)])) p3 (HO.lst [V.str (⟨#[x2]⟩ ++ y1)])) p4 (HO.lst [V.str (⟨#[x1]⟩ ++ ⟨#[x2]⟩)])) p5 (HO.lst [V.ref p1, V.ref p2, V.ref p3, V.ref p4]) p5 = some (HO.lst [V.ref p1, V.ref p2, V.ref p3, V.ref p4]) := upd_same
    have S9 : Same H (upd (upd (upd (upd (upd H4 p1 (HO.lst [V.str ⟨#[x1]⟩, V.str ⟨#[x2]⟩])) p2 (HO.lst [V.str (y0 ++ ⟨#[x1]⟩)])) p3 (HO.lst [V.str (⟨#[x2]⟩ ++ y1)])) p4 (HO.lst [V.str (⟨#[x1]⟩ ++ ⟨#[x2]⟩)])) p5 (HO.lst [V.ref p1, V.ref p2, V.ref p3, V.ref p4])) := fun b o h => upd_fresh (upd_fresh (upd_fresh (upd_fresh (upd_fresh (S b o h) n1) n2) n3) n4) n5
    have hD9 : upd (upd (upd (upd (upd H4 p1 (HO.lst [V.str ⟨#[x1]⟩, V.str ⟨#[x2]⟩])) p2 (HO.lst [V.str (y0 ++ ⟨#[x1]⟩)])) p3 (HO.lst [V.str (⟨#[x2]⟩ ++ y1)])) p4 (HO.lst [V.str (⟨#[x1]⟩ ++ ⟨#[x2]⟩)])) p5 (HO.lst [V.ref p1, V.ref p2, V.ref p3, V.ref p4]) D = some (.lst ([y0, y1, y2].map V.str)) := upd_fresh (upd_fresh (upd_fresh (upd_fresh (upd_fresh hD n1) n2) n3) n4) n5
    generalize upd (upd (upd (upd (upd H4 p1 (HO.lst [V.str ⟨#[x1]⟩, V.str ⟨#[x2]⟩])) p2 (HO.lst [V.str (y0 ++ ⟨#[x1]⟩)])) p3 (HO.lst [V.str (⟨#[x2]⟩ ++ y1)])) p4 (HO.lst [V.str (⟨#[x1]⟩ ++ ⟨#[x2]⟩)])) p5 (HO.lst [V.ref p1, V.ref p2, V.ref p3, V.ref p4]) = H9 at e1 e2 e3 e4 e5 S9 hD9
    have more : ∀ k : Nat, k < 4 → ∃ (pk : Addr) (mk : List Str), atI [V.ref p1, V.ref p2, V.ref p3, V.ref p4] (0 + (k : Int)) = some (V.ref pk) ∧ H9 pk = some (.lst (mk.map V.str)) ∧ mk.length ≤ 2 := fun k hk => by
      match k, hk with
      | 0, _ => exact ⟨p1, [(⟨#[x1]⟩ : Str), (⟨#[x2]⟩ : Str)], rfl, e1, Nat.le_refl 2⟩
      | 1, _ => exact ⟨p2, [y0 ++ (⟨#[x1]⟩ : Str)], rfl, e2, Nat.le_succ 1⟩
      | 2, _ => exact ⟨p3, [(⟨#[x2]⟩ : Str) ++ y1], rfl, e3, Nat.le_succ 1⟩
      | 3, _ => exact ⟨p4, [(⟨#[x1]⟩ : Str) ++ (⟨#[x2]⟩ : Str)], rfl, e4, Nat.le_succ 1⟩
      | k + 4, h => omega
    refine forR (fun k σ H5 => ∃ (ci : Int) (kn : Addr) (ks : List Str) (u : Option V), σ = [some (.ref a), some (.int ci), some (.str ⟨#[x1]⟩), some (.str ⟨#[x2]⟩), some (.ref kn), some (.ref p5), u] ∧ Same H9 H5 ∧ H5 kn = some (.lst (ks.map V.str)) ∧ ks.length ≤ 3 + 2 * k) ⟨i, D, [y0, y1, y2], none, rfl, fun _ _ h => h, hD9, by simp⟩ ?_ ?_
    · rintro k σ H5 hk ⟨ci, kn, ks, u, rfl, S5, hkn, hl⟩
      have hk4 : k < 4 := hk
      obtain ⟨pk, mk, hat, hpk, hmk⟩ := more k hk4
      walk_at "rd"
      refine iteD (fun _ => ⟨_, .inl (.of (S5 _ _ e5)), _, hat, ?_⟩) fun _ => ⟨S5, ks, hkn, by omega⟩
      walk_at "rd"
      exact rAddR.l hkn (S5 _ _ hpk) (by rw [List.length_map, List.length_map]; exact small100' (by omega)) fun p6 n6 => ⟨p6, rfl, fun b o h => upd_fresh (S5 b o h) n6, ks ++ mk, by rw [upd_same, List.map_append], by rw [List.length_append]; omega⟩
    · rintro σ H5 ⟨ci, kn, ks, u, rfl, S5, hkn, hl⟩
      have hl4 : ks.length ≤ 3 + 2 * 4 := hl
      walk_at "rd"
      exact q kn ks H5 (S9.trans S5) hkn (by omega)
theorem sc_l_text : FnScope ["_law_script", "_law_text_here", "_law_cell"] ["_law_script"] (defScope s_l_text) := ⟨rfl, rfl, rfl, by decide +kernel, rfl, by decide +kernel, by decide +kernel⟩
theorem v_l_text_0 {X : Cx} {pos : Pos} (hN : X.N = (["_law_script", "_law_text_here", "_law_cell"] : List Str)) (hs : X.env.scope = defScope s_l_text) : QE X (.Name "_law_script" pos) (tVar 0) := qvd hN hs (by decide +kernel)
theorem v_l_text_1 {X : Cx} {pos : Pos} (hN : X.N = (["_law_script", "_law_text_here", "_law_cell"] : List Str)) (hs : X.env.scope = defScope s_l_text) : QE X (.Name "_law_text_here" pos) (tVar 1) := qvd hN hs (by decide +kernel)
theorem v_l_text_2 {X : Cx} {pos : Pos} (hN : X.N = (["_law_script", "_law_text_here", "_law_cell"] : List Str)) (hs : X.env.scope = defScope s_l_text) : QE X (.Name "_law_cell" pos) (tVar 2) := qvd hN hs (by decide +kernel)
theorem l_l_text_1 : Loc (defScope s_l_text) "_law_text_here" := by unfold L2.Loc; decide +kernel
theorem l_l_text_2 : Loc (defScope s_l_text) "_law_cell" := by unfold L2.Loc; decide +kernel
theorem ok_l_text {f : Addr} {fd : FuncData} (F : FunD K "_law_text" "_law_text" s_l_text f fd) (T : Txt P w K mg C_NoSign) (G_l_cell_at : FO P w K mg base 1 "_law_cell_at" ["_law_script", "_law_k"] [] (spCellF K)) (G_l_sign : FO P w K mg base 2 "_law_sign" ["_law_script", "_law_k"] [] (spSign5 K)) : FnOk P w K mg base CX0 3 f fd ["_law_script"] (spText5 K) := by
  refine F.ok sc_l_text (fun vs H Q E h => ?_) (fun cdv A outer s H vs Q E hr h => ?_)
  · (obtain ⟨a, ns, rfl, _⟩ := h; rfl)
  · have hu1 := hu_of hr
    have hu := hr.units
    refine ⟨_, QSs.out (qss_cons (qs_set (n := 1) sc_l_text.nd rfl l_l_text_1 qe_str)
      (qss_cons (qs_for PassesOwn.never (qi_list (K := K) (qe_slice (K := K) (v_l_text_0 rfl rfl) (qo_some qe_int) (qo_some qe_int))) (qg_name (n := 2) sc_l_text.nd rfl l_l_text_2 (.inl rfl)) (qss_one (qs_if (qt_cmpR q_lt (qe_op q_mod (v_l_text_2 rfl rfl) qe_int) qe_int) (qss_one (qs_set (n := 1) sc_l_text.nd rfl l_l_text_1 (qe_op (q_add (K := K)) (v_l_text_1 rfl rfl) (qe_callF G_l_sign (hr.mono (by decide)) (qa_c (v_l_text_0 rfl rfl) (qa_c (qe_op q_mod (qe_op q_fdiv (v_l_text_2 rfl rfl) qe_int) qe_int) qa_nil)))))) (qss_one (qs_if (qt_cmpR (q_eq (K := K) hu) (qe_op q_mod (v_l_text_2 rfl rfl) qe_int) qe_int) (qss_one (qs_set (n := 1) sc_l_text.nd rfl l_l_text_1 (qe_op (q_add (K := K)) (v_l_text_1 rfl rfl) (qe_cT q_strI T.b_str bt_str (qa_c (qe_op q_mod (qe_op q_fdiv (v_l_text_2 rfl rfl) qe_int) qe_int) qa_nil))))) (qss_one (qs_set (n := 1) sc_l_text.nd rfl l_l_text_1 (qe_op (q_add (K := K)) (v_l_text_1 rfl rfl) (qe_ix (K := K) qe_str (qe_op q_mod (qe_op q_fdiv (qe_callF G_l_cell_at (hr.mono (by decide)) (qa_c (v_l_text_0 rfl rfl) (qa_c qe_int qa_nil))) (qe_ix (K := K) (qe_lst (qa_c qe_int (qa_c qe_int qa_nil))) (qe_op q_sub (qe_op q_mod (v_l_text_2 rfl rfl) qe_int) qe_int))) qe_int))))))))))
      (qss_cons (qs_if (qt_cmpR (q_eq (K := K) hu) (qe_op q_mod (qe_op q_fdiv (qe_callF G_l_cell_at (hr.mono (by decide)) (qa_c (v_l_text_0 rfl rfl) (qa_c qe_int qa_nil))) qe_int) qe_int) qe_int) (qss_one (qs_set (n := 1) sc_l_text.nd rfl l_l_text_1 (qe_op (q_add (K := K)) (v_l_text_1 rfl rfl) (qe_op q_mulT qe_str qe_int)))) qss_nil)
      (qss_one (qs_ret (v_l_text_1 rfl rfl)))))), ?_⟩
    obtain ⟨a, ns, rfl, hS, hl, q⟩ := h
    walk_at "rd"
    refine rSlR.l hS fun l nl => ?_
    have S3 : Same H (upd H l (HO.lst (cutV (ns.map V.int) (some 3) (some 23)))) := Same.new nl
    have hl3 : upd H l (HO.lst (cutV (ns.map V.int) (some 3) (some 23))) l = some (HO.lst (cutV (ns.map V.int) (some 3) (some 23))) := upd_same
    generalize upd H l (HO.lst (cutV (ns.map V.int) (some 3) (some 23))) = H3 at S3 hl3
    have hcut : (cutV (ns.map V.int) (some 3) (some 23)).length ≤ 63 := by
      have := cutV_length (ns.map V.int) (some 3) (some 23)
      rw [List.length_map] at this
      omega
    refine ⟨l, rfl, ⟨_, .of hl3⟩, forL (xs := cutV (ns.map V.int) (some 3) (some 23)) (fun i σ H4 => ∃ (z : Str) (u : Option V), σ = [some (.ref a), some (.str z), u] ∧ Same H3 H4 ∧ z.length ≤ 5 * i ∧ okS z) ⟨Str.ofString "", none, rfl, fun _ _ h => h, by decide, okS_ofString _⟩ (by rintro i σ H4 _ ⟨_, _, _, S, _⟩; exact .of (S _ _ hl3)) ?_ ?_⟩
    · rintro i x σ H4 hx ⟨z, u, rfl, S, hzl, hzo⟩
      obtain ⟨n, rfl⟩ : ∃ n, x = V.int n := by
        have hm : x ∈ ns.map V.int := by
          have := List.mem_of_getElem? hx
          unfold cutV at this
          exact List.mem_of_mem_drop (List.mem_of_mem_take this)
        obtain ⟨n, _, rfl⟩ := List.mem_map.mp hm
        exact ⟨n, rfl⟩
      have hi : i < 63 := Nat.lt_of_lt_of_le (List.getElem?_eq_some_iff.mp hx).1 hcut
      have put : ∀ (y : Str) (H5 : Hp), y.length ≤ 5 → okS y → Same H3 H5 → z.length + y.length ≤ sizeLine ∧ Same H3 H5 ∧ (z ++ y).length ≤ 5 * (i + 1) ∧ okS (z ++ y) := fun y H5 h1 h2 h3 => ⟨small100' (by omega), h3, by rw [Str.length_append]; omega, okS_app hzo h2⟩
      walk_at "rd"
      refine iteD (fun h5 => ⟨a, ns, _, rfl, (S3.trans S).seq hS, by omega, by omega, fun c H5 S5 hc => ?_⟩) fun h5 => iteD (fun h2 => ⟨_, rfl, log_ok ⟨by omega, by omega⟩, ?_⟩) fun h2 => ⟨a, ns, 2, rfl, (S3.trans S).seq hS, by decide, by decide, fun p np => ?_⟩
      · walk_at "rd"
        exact put (one c) H5 (by show 1 ≤ 5; decide) (okS_one hc) (S.trans S5)
      · walk_at "rd"
        exact put _ H4 (len_strI (by omega) (by omega)) (okS_ofString _) S
      · obtain ⟨mu, hmu, hmu2⟩ := drawn2 (xs := [V.int 16, V.int 160]) (i := n % 5 - 3) (by simp) (by omega) (by simp only [List.length_cons, List.length_nil]; omega)
        have hmu3 : 0 < mu ∧ mu < 1000 := by
          simp at hmu2
          omega
        have dz : D5.length ≤ sizeLine := by rw [← lenL, D5_list]; decide
        obtain ⟨x, hx1, hx2⟩ := D5_at (i := cellF ns 2 / mu % 10) (by omega) (by omega)
        exact ⟨_, .inl (.of upd_same), _, hmu, _, rfl, mu, rfl, hmu3.1, by omega, dz, x, hx1, put (one x) _ (by show 1 ≤ 5; decide) (okS_one hx2) (S.trans (Same.new np))⟩
    · rintro σ H4 ⟨z, u, rfl, S, hzl, hzo⟩
      have hz63 : z.length ≤ 5 * 63 := Nat.le_trans hzl (Nat.mul_le_mul_left 5 hcut)
      walk_at "rd"
      refine ⟨a, ns, 1, rfl, (S3.trans S).seq hS, by decide, _, rfl, iteD (fun _ => ⟨_, _, rfl, rfl, M7_mul, ?_⟩) fun _ => q z H4 (S3.trans S) (by omega) hzo⟩
      walk_at "rd"
      exact ⟨small100' (by rw [M7_len]; omega), q _ H4 (S3.trans S) (by rw [Str.length_append, M7_len]; omega) (okS_app hzo M7_ok)⟩
theorem sc_l_end : FnScope ["_law_known_here", "_law_text_here", "_law_at", "_law_worth", "_law_end_here"] ["_law_known_here", "_law_text_here", "_law_at", "_law_worth"] (defScope s_l_end) := ⟨rfl, rfl, rfl, by decide +kernel, rfl, by decide +kernel, by decide +kernel⟩
theorem v_l_end_0 {X : Cx} {pos : Pos} (hN : X.N = (["_law_known_here", "_law_text_here", "_law_at", "_law_worth", "_law_end_here"] : List Str)) (hs : X.env.scope = defScope s_l_end) : QE X (.Name "_law_known_here" pos) (tVar 0) := qvd hN hs (by decide +kernel)
theorem v_l_end_1 {X : Cx} {pos : Pos} (hN : X.N = (["_law_known_here", "_law_text_here", "_law_at", "_law_worth", "_law_end_here"] : List Str)) (hs : X.env.scope = defScope s_l_end) : QE X (.Name "_law_text_here" pos) (tVar 1) := qvd hN hs (by decide +kernel)
theorem v_l_end_2 {X : Cx} {pos : Pos} (hN : X.N = (["_law_known_here", "_law_text_here", "_law_at", "_law_worth", "_law_end_here"] : List Str)) (hs : X.env.scope = defScope s_l_end) : QE X (.Name "_law_at" pos) (tVar 2) := qvd hN hs (by decide +kernel)
theorem v_l_end_3 {X : Cx} {pos : Pos} (hN : X.N = (["_law_known_here", "_law_text_here", "_law_at", "_law_worth", "_law_end_here"] : List Str)) (hs : X.env.scope = defScope s_l_end) : QE X (.Name "_law_worth" pos) (tVar 3) := qvd hN hs (by decide +kernel)
theorem v_l_end_4 {X : Cx} {pos : Pos} (hN : X.N = (["_law_known_here", "_law_text_here", "_law_at", "_law_worth", "_law_end_here"] : List Str)) (hs : X.env.scope = defScope s_l_end) : QE X (.Name "_law_end_here" pos) (tVar 4) := qvd hN hs (by decide +kernel)
theorem l_l_end_4 : Loc (defScope s_l_end) "_law_end_here" := by unfold L2.Loc; decide +kernel
theorem ok_l_end {f : Addr} {fd : FuncData} (F : FunD K "_law_end" "_law_end" s_l_end f fd) (T : Txt P w K mg C_NoSign) : FnOk P w K mg base CX0 1 f fd ["_law_known_here", "_law_text_here", "_law_at", "_law_worth"] (spEnd K) := by
  refine F.ok sc_l_end (fun vs H Q E h => ?_) (fun cdv A outer s H vs Q E hr h => ?_)
  · (obtain ⟨a, z, ks, pre, c, r, w, rfl, _⟩ := h; rfl)
  · have hu1 := hu_of hr
    have hu := hr.units
    refine ⟨_, QSs.out (qss_cons (qs_set (n := 4) sc_l_end.nd rfl l_l_end_4 (v_l_end_2 rfl rfl))
      (qss_consM (qs_while PassesOwn.never (QW.pt (qw_and (qt_tru (K := K) (v_l_end_3 rfl rfl)) (qw_and (qt_cmpR q_lt (v_l_end_4 rfl rfl) (qe_cB (q_len (K := K)) T.b_len bt_len (qa_c (v_l_end_1 rfl rfl) qa_nil))) (qw_and1 (qt_cmpR (q_in (K := K) hu) (qe_ix (K := K) (v_l_end_1 rfl rfl) (v_l_end_4 rfl rfl)) qe_str))))) (qss_one (qs_set (n := 4) sc_l_end.nd rfl l_l_end_4 (qe_op (q_add (K := K)) (v_l_end_4 rfl rfl) qe_int))))
      (qss_cons (qs_if (qt_cmpR q_gt (v_l_end_4 rfl rfl) (v_l_end_2 rfl rfl)) (qss_one (qs_ret (v_l_end_4 rfl rfl))) qss_nil)
      (qss_cons (qs_if (QW.pt (qw_and (qt_cmpR q_lt (qe_op (q_add (K := K)) (v_l_end_2 rfl rfl) qe_int) (qe_cB (q_len (K := K)) T.b_len bt_len (qa_c (v_l_end_1 rfl rfl) qa_nil))) (qw_and1 (qt_cmpR (q_in (K := K) hu) (qe_slice (K := K) (v_l_end_1 rfl rfl) (qo_some (v_l_end_2 rfl rfl)) (qo_some (qe_op (q_add (K := K)) (v_l_end_2 rfl rfl) qe_int))) (v_l_end_0 rfl rfl))))) (qss_one (qs_ret (qe_op (q_add (K := K)) (v_l_end_2 rfl rfl) qe_int))) qss_nil)
      (qss_cons (qs_if (qt_cmpR (q_in (K := K) hu) (qe_ix (K := K) (v_l_end_1 rfl rfl) (v_l_end_2 rfl rfl)) (v_l_end_0 rfl rfl)) (qss_one (qs_ret (qe_op (q_add (K := K)) (v_l_end_2 rfl rfl) qe_int))) qss_nil)
      (qss_one (qs_ret (v_l_end_2 rfl rfl)))))))), ?_⟩
    obtain ⟨a, z, ks, pre, c, r, w, rfl, hS, hz, hzl, q⟩ := h
    have hlen : z.length = pre.length + (c :: r).length := by
      have := congrArg List.length hzl
      rw [lenL, List.length_append] at this
      exact this
    have hsz : z.length ≤ sizeLine := small100' (by omega)
    have ha : atI z.cps.toList (pre.length : Int) = some c := by rw [hzl]; exact atI_mid
    walk_at "rd"
    refine mid (fun σ H2 => ∃ run : List Nat, σ = [some (.ref a), some (.str z), some (.int pre.length), some (.bl w), some (.int ((pre ++ run).length : Nat))] ∧ H2 = H ∧ run = if w = true then (c :: r).takeWhile figB else []) ?_ ?_
    · walk_at "rd"
      refine whileW (fun m σ H2 => ∃ (run left : List Nat), σ = [some (.ref a), some (.str z), some (.int pre.length), some (.bl w), some (.int ((pre ++ run).length : Nat))] ∧ H2 = H ∧ c :: r = run ++ left ∧ (c :: r).takeWhile figB = run ++ left.takeWhile figB ∧ (w = false → run = []) ∧ m = left.length) (c :: r).length ⟨[], c :: r, by simp, rfl, rfl, rfl, fun _ => rfl, rfl⟩ ?_
      rintro m σ H2 ⟨run, left, rfl, rfl, hr, htw, hwf, rfl⟩
      have hzl' : z.cps.toList = pre ++ (run ++ left) := by rw [hzl, hr]
      have hrl : (c :: r).length = run.length + left.length := by rw [hr, List.length_append]
      have hpr : (pre ++ run).length = pre.length + run.length := List.length_append
      walk_at "rd"
      cases w with
      | false => exact iteF ⟨[], by rw [hwf rfl], rfl⟩
      | true =>
        refine iteT ⟨hsz, iteD (fun hlt => ⟨hsz, ?_⟩) fun hge => ?_⟩
        · cases left with
          | nil =>
            rw [List.length_nil] at hrl
            omega
          | cons x l2 =>
            refine ⟨x, by rw [hzl', ← List.append_assoc]; exact atI_mid, ?_⟩
            rw [show Str.ofString "0123456789" = D5 from rfl, in_one, D5_fig, Bool.false_xor]
            by_cases hf : figB x = true
            · rw [hf]
              refine iteT ⟨_, fun _ _ h => h, l2.length, by simp, run ++ [x], by simp; omega, rfl, l2, by rw [hr]; simp, ?_, fun h => absurd h (by decide), rfl⟩
              rw [htw, List.takeWhile_cons_of_pos hf]
              simp
            · rw [Bool.not_eq_true] at hf
              rw [hf]
              refine iteF ⟨run, rfl, ?_⟩
              rw [if_pos rfl, htw, List.takeWhile_cons_of_neg (by simp [hf]), List.append_nil]
        · have hl0 : left = [] := List.length_eq_zero_iff.mp (by omega)
          refine ⟨run, rfl, ?_⟩
          rw [if_pos rfl, htw, hl0, List.takeWhile_nil, List.append_nil]
    · rintro σ H2 ⟨run, rfl, rfl, hrun⟩
      have hpr : (pre ++ run).length = pre.length + run.length := List.length_append
      have num : ∀ (k : Nat) (o : Option Str), lenO o = k → Q (.int ((pre.length + lenO o : Nat) : Int)) H2 → Q (.int ((pre.length : Int) + (k : Int))) H2 := fun k o e h => by
        rw [show ((pre.length + lenO o : Nat) : Int) = (pre.length : Int) + (k : Int) by omega] at h
        exact h
      walk_at "rd"
      by_cases hw : (w && figB c) = true
      · have hpf : partF w ks (c :: r) = some ⟨((c :: r).takeWhile figB).toArray⟩ := by rw [partF_cons, if_pos hw]
        rw [Bool.and_eq_true] at hw
        rw [if_pos hw.1] at hrun
        rw [hpf] at q
        have h1 : lenO (some (⟨((c :: r).takeWhile figB).toArray⟩ : Str)) = run.length := by rw [hrun]; rfl
        have h2 : 1 ≤ run.length := by rw [hrun, List.takeWhile_cons_of_pos hw.2]; simp
        rw [h1, ← hpr] at q
        exact iteD (fun _ => q) fun h => absurd (by omega) h
      · have hpf : partF w ks (c :: r) = partG ks (c :: r) := by rw [partF_cons, if_neg hw]
        have hrun0 : run = [] := by
          rw [hrun]
          cases w with
          | false => rfl
          | true => rw [Bool.true_and] at hw; rw [if_pos rfl, List.takeWhile_cons_of_neg hw]
        rw [hpf] at q
        refine iteD (fun h => absurd h (by rw [hrun0, List.append_nil]; omega)) fun _ => ⟨hsz, ?_⟩
        cases r with
        | nil =>
          refine iteD (fun h2 => ?_) fun _ => ⟨hsz, c, ha, rInR.l (.inl hS) rfl (flat_strs _) ⟨_, rfl, ?_⟩⟩
          · simp at hlen; omega
          · rw [inV_strs, Bool.false_xor]
            rw [partG_one] at q
            refine iteD (fun h1 => ?_) fun h1 => ?_
            · rw [if_pos (show one c ∈ ks from h1)] at q
              exact num 1 _ rfl q
            · rw [if_neg (show ¬ one c ∈ ks from h1)] at q
              exact q
        | cons e r =>
          have ec : cutS z (some (pre.length : Int)) (some ((pre.length : Int) + 2)) = two c e := cutS_at (y := [c, e]) (rest := r) hzl
          rw [ec]
          rw [partG_two] at q
          refine iteD (fun _ => ⟨hsz, rInR.l (.inl hS) rfl (flat_strs _) ⟨_, rfl, ?_⟩⟩) fun h2 => ?_
          · rw [inV_strs, Bool.false_xor]
            refine iteD (fun h2 => ?_) fun h2 => ⟨hsz, c, ha, rInR.l (.inl hS) rfl (flat_strs _) ⟨_, rfl, ?_⟩⟩
            · rw [if_pos h2] at q
              exact num 2 _ rfl q
            · rw [inV_strs, Bool.false_xor]
              rw [if_neg h2] at q
              refine iteD (fun h1 => ?_) fun h1 => ?_
              · rw [if_pos (show one c ∈ ks from h1)] at q
                exact num 1 _ rfl q
              · rw [if_neg (show ¬ one c ∈ ks from h1)] at q
                exact q
          · simp at hlen; omega
theorem sc_l_cut : FnScope ["_law_known_here", "_law_text_here", "_law_worth", "_law_parts", "_law_at", "_law_end_here"] ["_law_known_here", "_law_text_here", "_law_worth"] (defScope s_l_cut) := ⟨rfl, rfl, rfl, by decide +kernel, rfl, by decide +kernel, by decide +kernel⟩
theorem v_l_cut_0 {X : Cx} {pos : Pos} (hN : X.N = (["_law_known_here", "_law_text_here", "_law_worth", "_law_parts", "_law_at", "_law_end_here"] : List Str)) (hs : X.env.scope = defScope s_l_cut) : QE X (.Name "_law_known_here" pos) (tVar 0) := qvd hN hs (by decide +kernel)
theorem v_l_cut_1 {X : Cx} {pos : Pos} (hN : X.N = (["_law_known_here", "_law_text_here", "_law_worth", "_law_parts", "_law_at", "_law_end_here"] : List Str)) (hs : X.env.scope = defScope s_l_cut) : QE X (.Name "_law_text_here" pos) (tVar 1) := qvd hN hs (by decide +kernel)
theorem v_l_cut_2 {X : Cx} {pos : Pos} (hN : X.N = (["_law_known_here", "_law_text_here", "_law_worth", "_law_parts", "_law_at", "_law_end_here"] : List Str)) (hs : X.env.scope = defScope s_l_cut) : QE X (.Name "_law_worth" pos) (tVar 2) := qvd hN hs (by decide +kernel)
theorem v_l_cut_3 {X : Cx} {pos : Pos} (hN : X.N = (["_law_known_here", "_law_text_here", "_law_worth", "_law_parts", "_law_at", "_law_end_here"] : List Str)) (hs : X.env.scope = defScope s_l_cut) : QE X (.Name "_law_parts" pos) (tVar 3) := qvd hN hs (by decide +kernel)
theorem v_l_cut_4 {X : Cx} {pos : Pos} (hN : X.N = (["_law_known_here", "_law_text_here", "_law_worth", "_law_parts", "_law_at", "_law_end_here"] : List Str)) (hs : X.env.scope = defScope s_l_cut) : QE X (.Name "_law_at" pos) (tVar 4) := qvd hN hs (by decide +kernel)
theorem v_l_cut_5 {X : Cx} {pos : Pos} (hN : X.N = (["_law_known_here", "_law_text_here", "_law_worth", "_law_parts", "_law_at", "_law_end_here"] : List Str)) (hs : X.env.scope = defScope s_l_cut) : QE X (.Name "_law_end_here" pos) (tVar 5) := qvd hN hs (by decide +kernel)
theorem l_l_cut_3 : Loc (defScope s_l_cut) "_law_parts" := by unfold L2.Loc; decide +kernel
theorem l_l_cut_4 : Loc (defScope s_l_cut) "_law_at" := by unfold L2.Loc; decide +kernel
theorem l_l_cut_5 : Loc (defScope s_l_cut) "_law_end_here" := by unfold L2.Loc; decide +kernel
theorem ok_l_cut {f : Addr} {fd : FuncData} (F : FunD K "_law_cut" "_law_cut" s_l_cut f fd) (T : Txt P w K mg C_NoSign) (G_l_end : FO P w K mg base 1 "_law_end" ["_law_known_here", "_law_text_here", "_law_at", "_law_worth"] [] (spEnd K)) : FnOk P w K mg base CX0 2 f fd ["_law_known_here", "_law_text_here", "_law_worth"] (spTold K) := by
  refine F.ok sc_l_cut (fun vs H Q E h => ?_) (fun cdv A outer s H vs Q E hr h => ?_)
  · (obtain ⟨a, z, ks, w, rfl, _⟩ := h; rfl)
  · have hu1 := hu_of hr
    have hu := hr.units
    refine ⟨_, QSs.out (qss_cons (qs_set (n := 3) sc_l_cut.nd rfl l_l_cut_3 (qe_lst qa_nil))
      (qss_cons (qs_set (n := 4) sc_l_cut.nd rfl l_l_cut_4 qe_int)
      (qss_cons (qs_while PassesOwn.never (qt_cmpR q_lt (v_l_cut_4 rfl rfl) (qe_cB (q_len (K := K)) T.b_len bt_len (qa_c (v_l_cut_1 rfl rfl) qa_nil))) (qss_cons (qs_set (n := 5) sc_l_cut.nd rfl l_l_cut_5 (qe_callF G_l_end (hr.mono (by decide)) (qa_c (v_l_cut_0 rfl rfl) (qa_c (v_l_cut_1 rfl rfl) (qa_c (v_l_cut_4 rfl rfl) (qa_c (v_l_cut_2 rfl rfl) qa_nil))))))
      (qss_cons (qs_if (qt_cmpR (q_eq (K := K) hu) (v_l_cut_5 rfl rfl) (v_l_cut_4 rfl rfl)) (qss_one (qs_ret (qe_tup (qa_c qe_str (qa_c (v_l_cut_4 rfl rfl) qa_nil))))) qss_nil)
      (qss_cons (qs_expr (qe_mB (K := K) PySem.F.plainAttrs_list PySem.F.slot_list_append PySem.F.type_list_append q_append (v_l_cut_3 rfl rfl) (qa_c (qe_slice (K := K) (v_l_cut_1 rfl rfl) (qo_some (v_l_cut_4 rfl rfl)) (qo_some (v_l_cut_5 rfl rfl))) qa_nil)))
      (qss_one (qs_set (n := 4) sc_l_cut.nd rfl l_l_cut_4 (v_l_cut_5 rfl rfl)))))))
      (qss_one (qs_ret (qe_tup (qa_c qe_str (qa_c (v_l_cut_3 rfl rfl) qa_nil)))))))), ?_⟩
    obtain ⟨a, z, ks, w, rfl, hS, hkl, hz, q⟩ := h
    walk_at "rd"
    intro p np
    refine whileW (fun m σ H6 => ∃ (pre rest : List Nat) (ps : List Str) (u : Option V), σ = [some (.ref a), some (.str z), some (.bl w), some (.ref p), some (.int pre.length), u] ∧ Same H H6 ∧ H6 p = some (.lst (ps.map V.str)) ∧ z.cps.toList = pre ++ rest ∧ (cutF w ks z.cps.toList).1 = pre.length + (cutF w ks rest).1 ∧ (cutF w ks z.cps.toList).2 = ps ++ (cutF w ks rest).2 ∧ ps.length ≤ pre.length ∧ m = rest.length) z.cps.toList.length
      ⟨[], z.cps.toList, [], none, rfl, Same.new np, upd_same, rfl, by simp, rfl, Nat.zero_le _, rfl⟩ ?_
    rintro m σ H6 ⟨pre, rest, ps, u, rfl, S6, h6, hzl, hc1, hc2, hpl, rfl⟩
    have hlen : z.length = pre.length + rest.length := by
      have := congrArg List.length hzl
      rw [lenL, List.length_append] at this
      exact this
    have hsz : z.length ≤ sizeLine := small100' (by omega)
    walk_at "rd"
    refine ⟨hsz, iteD (fun hlt => ?_) fun hge => ?_⟩
    · cases rest with
      | nil => simp at hlen; omega
      | cons c r =>
        refine ⟨_, fun _ _ h => h, a, z, ks, pre, c, r, w, rfl, S6.seq hS, hz, hzl, ?_⟩
        cases e : partF w ks (c :: r) with
        | none =>
          rw [cutF_none e] at hc1 hc2
          walk_at "rd"
          refine iteD (fun _ => ⟨by decide, fun t nt => ?_⟩) fun hne => absurd (by show ((pre.length + 0 : Nat) : Int) = pre.length; omega) hne
          have hw : ¬ WholeF w ks z := fun h => by
            unfold WholeF at h
            rw [hc1] at h
            have h2 : pre.length = z.length := h
            omega
          exact q t _ (S6.trans (Same.new nt)) ⟨fun h => absurd h hw, fun _ => by rw [upd_same, hc1]; rfl⟩
        | some y =>
          obtain ⟨rest', e1, e2, e3⟩ := cutF_some e
          rw [e2] at hc1 hc2
          have ec : cutS z (some (pre.length : Int)) (some ((pre.length + y.length : Nat) : Int)) = y := by
            have := cutS_at (z := z) (pre := pre) (y := y.cps.toList) (rest := rest') (hzl.trans (congrArg (pre ++ ·) e1))
            rw [lenL] at this
            rw [show ((pre.length + y.length : Nat) : Int) = (pre.length : Int) + (y.length : Int) by omega]
            exact this
          have erl : (c :: r).length = y.length + rest'.length := by rw [e1, List.length_append, lenL]
          walk_at "rd"
          refine iteD (fun h => absurd h (by show ¬ ((pre.length + y.length : Nat) : Int) = pre.length; omega)) fun _ => ⟨tyL h6, hsz, ?_⟩
          rw [show lenO (some y) = y.length from rfl, ec]
          refine appOk h6 (by rw [List.length_map]; exact small100 (by omega)) ?_
          exact ⟨rest'.length, by (rw [List.length_cons] at erl; omega), pre ++ y.cps.toList, by rw [List.length_append, lenL], S6.put np, rest', ps ++ [y], by rw [upd_same, List.map_append]; rfl, hzl.trans (by rw [List.append_assoc]; exact congrArg (pre ++ ·) e1), by rw [List.length_append, lenL, hc1]; dsimp only; omega, by rw [hc2, List.append_assoc]; rfl, by rw [List.length_append, List.length_append, lenL, List.length_singleton]; omega, rfl⟩
    · have hr : rest = [] := List.length_eq_zero_iff.mp (by omega)
      rw [hr, cutF_nil] at hc1 hc2
      refine ⟨by decide, fun t nt => ?_⟩
      have hw : WholeF w ks z := by
        unfold WholeF
        rw [hc1, hlen, hr]
        rfl
      refine q t _ (S6.trans (Same.new nt)) ⟨fun _ => ⟨p, upd_same, ?_⟩, fun h => absurd hw h⟩
      rw [upd_fresh h6 nt, hc2]
      show some (HO.lst (ps.map V.str)) = some (HO.lst ((ps ++ []).map V.str))
      rw [List.append_nil]
theorem sc_l_asked : FnScope ["_law_known_here", "_law_text_here", "_law_worth", "_law_word", "_law_found", "e"] ["_law_known_here", "_law_text_here", "_law_worth"] (defScope s_l_asked) := ⟨rfl, rfl, rfl, by decide +kernel, rfl, by decide +kernel, by decide +kernel⟩
theorem v_l_asked_0 {X : Cx} {pos : Pos} (hN : X.N = (["_law_known_here", "_law_text_here", "_law_worth", "_law_word", "_law_found", "e"] : List Str)) (hs : X.env.scope = defScope s_l_asked) : QE X (.Name "_law_known_here" pos) (tVar 0) := qvd hN hs (by decide +kernel)
theorem v_l_asked_1 {X : Cx} {pos : Pos} (hN : X.N = (["_law_known_here", "_law_text_here", "_law_worth", "_law_word", "_law_found", "e"] : List Str)) (hs : X.env.scope = defScope s_l_asked) : QE X (.Name "_law_text_here" pos) (tVar 1) := qvd hN hs (by decide +kernel)
theorem v_l_asked_2 {X : Cx} {pos : Pos} (hN : X.N = (["_law_known_here", "_law_text_here", "_law_worth", "_law_word", "_law_found", "e"] : List Str)) (hs : X.env.scope = defScope s_l_asked) : QE X (.Name "_law_worth" pos) (tVar 2) := qvd hN hs (by decide +kernel)
theorem v_l_asked_3 {X : Cx} {pos : Pos} (hN : X.N = (["_law_known_here", "_law_text_here", "_law_worth", "_law_word", "_law_found", "e"] : List Str)) (hs : X.env.scope = defScope s_l_asked) : QE X (.Name "_law_word" pos) (tVar 3) := qvd hN hs (by decide +kernel)
theorem v_l_asked_4 {X : Cx} {pos : Pos} (hN : X.N = (["_law_known_here", "_law_text_here", "_law_worth", "_law_word", "_law_found", "e"] : List Str)) (hs : X.env.scope = defScope s_l_asked) : QE X (.Name "_law_found" pos) (tVar 4) := qvd hN hs (by decide +kernel)
theorem v_l_asked_5 {X : Cx} {pos : Pos} (hN : X.N = (["_law_known_here", "_law_text_here", "_law_worth", "_law_word", "_law_found", "e"] : List Str)) (hs : X.env.scope = defScope s_l_asked) : QE X (.Name "e" pos) (tVar 5) := qvd hN hs (by decide +kernel)
theorem l_l_asked_3 : Loc (defScope s_l_asked) "_law_word" := by unfold L2.Loc; decide +kernel
theorem l_l_asked_4 : Loc (defScope s_l_asked) "_law_found" := by unfold L2.Loc; decide +kernel
theorem k_l_asked_5 : (defScope s_l_asked).names.lookup ("e" : Str) = some .local := by decide +kernel
theorem ok_l_asked {f : Addr} {fd : FuncData} (F : FunD K "_law_asked" "_law_asked" s_l_asked f fd) (T : Txt P w K mg C_NoSign) (G3_cut : FOX P w K mg base 4 "cut" ["known", "text", "figures"] [] (spCut5 K C_NoSign)) : FnOk P w K mg base CX0 5 f fd ["_law_known_here", "_law_text_here", "_law_worth"] (spTold K) := by
  refine F.ok sc_l_asked (fun vs H Q E h => ?_) (fun cdv A outer s H vs Q E hr h => ?_)
  · (obtain ⟨a, z, ks, w, rfl, _⟩ := h; rfl)
  · have hu1 := hu_of hr
    have hu := hr.units
    obtain ⟨d_NoSign, md_NoSign, CC_NoSign, mr_NoSign⟩ := T.c_NoSign
    refine ⟨_, QSs.out (qss_cons (qs_set (n := 3) sc_l_asked.nd rfl l_l_asked_3 qe_str)
      (qss_cons (qs_tryA G3_cut (hr.mono (by decide)) (fun _ => (qa_c (v_l_asked_0 rfl rfl) (qa_c (v_l_asked_1 rfl rfl) (qa_c (v_l_asked_2 rfl rfl) qa_nil)))) md_NoSign CC_NoSign sc_l_asked.nd (j := 4) rfl l_l_asked_4 (i := 5) rfl k_l_asked_5 (fun _ _ => (qss_cons (qs_set (n := 3) sc_l_asked.nd rfl l_l_asked_3 qe_str)
      (qss_one (qs_set (n := 4) sc_l_asked.nd rfl l_l_asked_4 (qe_xget (v_l_asked_5 rfl rfl) (K := K)))))) (K := K))
      (qss_one (qs_ret (qe_tup (qa_c (v_l_asked_3 rfl rfl) (qa_c (v_l_asked_4 rfl rfl) qa_nil))))))), ?_⟩
    obtain ⟨a, z, ks, w, rfl, hS, hkl, hz, q⟩ := h
    obtain ⟨fN, MN⟩ := T.er_NoSign
    walk_at "rd"
    refine ⟨a, z, ks, w, rfl, hS, hkl, hz, fun hw l H1 nl S1 hl => ⟨by decide, fun p np => ?_⟩, fun hw dx H1 S1 hdx => ⟨C_NoSign, dx, rfl, rfl, mr_NoSign, fun x nx => ?_⟩⟩
    · refine q p _ (S1.trans (Same.new np)) ⟨fun _ => ⟨l, upd_same, upd_fresh hl np⟩, fun h => absurd hw h⟩
    · walk_at "rd"
      exact ⟨C_NoSign, dx, upd_same, fN, _, upd_fresh hdx nx, MN, T.na_NoSign, _, rfl, by decide, fun p np => q p _ (S1.trans ((Same.new nx).trans (Same.new np))) ⟨fun h => absurd h hw, fun _ => upd_same⟩⟩
theorem sc_l_left_out : FnScope ["_law_known_here", "_law_text_here", "_law_word", "_law_found", "e"] ["_law_known_here", "_law_text_here"] (defScope s_l_left_out) := ⟨rfl, rfl, rfl, by decide +kernel, rfl, by decide +kernel, by decide +kernel⟩
theorem v_l_left_out_0 {X : Cx} {pos : Pos} (hN : X.N = (["_law_known_here", "_law_text_here", "_law_word", "_law_found", "e"] : List Str)) (hs : X.env.scope = defScope s_l_left_out) : QE X (.Name "_law_known_here" pos) (tVar 0) := qvd hN hs (by decide +kernel)
theorem v_l_left_out_1 {X : Cx} {pos : Pos} (hN : X.N = (["_law_known_here", "_law_text_here", "_law_word", "_law_found", "e"] : List Str)) (hs : X.env.scope = defScope s_l_left_out) : QE X (.Name "_law_text_here" pos) (tVar 1) := qvd hN hs (by decide +kernel)
theorem v_l_left_out_2 {X : Cx} {pos : Pos} (hN : X.N = (["_law_known_here", "_law_text_here", "_law_word", "_law_found", "e"] : List Str)) (hs : X.env.scope = defScope s_l_left_out) : QE X (.Name "_law_word" pos) (tVar 2) := qvd hN hs (by decide +kernel)
theorem v_l_left_out_3 {X : Cx} {pos : Pos} (hN : X.N = (["_law_known_here", "_law_text_here", "_law_word", "_law_found", "e"] : List Str)) (hs : X.env.scope = defScope s_l_left_out) : QE X (.Name "_law_found" pos) (tVar 3) := qvd hN hs (by decide +kernel)
theorem v_l_left_out_4 {X : Cx} {pos : Pos} (hN : X.N = (["_law_known_here", "_law_text_here", "_law_word", "_law_found", "e"] : List Str)) (hs : X.env.scope = defScope s_l_left_out) : QE X (.Name "e" pos) (tVar 4) := qvd hN hs (by decide +kernel)
theorem l_l_left_out_2 : Loc (defScope s_l_left_out) "_law_word" := by unfold L2.Loc; decide +kernel
theorem l_l_left_out_3 : Loc (defScope s_l_left_out) "_law_found" := by unfold L2.Loc; decide +kernel
theorem k_l_left_out_4 : (defScope s_l_left_out).names.lookup ("e" : Str) = some .local := by decide +kernel
theorem ok_l_left_out {f : Addr} {fd : FuncData} (F : FunD K "_law_left_out" "_law_left_out" s_l_left_out f fd) (T : Txt P w K mg C_NoSign) (G_cut : FOX P w K mg base 4 "cut" ["known", "text", "figures"] [.bl false] (spCut5 K C_NoSign)) : FnOk P w K mg base CX0 5 f fd ["_law_known_here", "_law_text_here"] (spLeft K) := by
  refine F.ok sc_l_left_out (fun vs H Q E h => ?_) (fun cdv A outer s H vs Q E hr h => ?_)
  · (obtain ⟨a, z, ks, rfl, _⟩ := h; rfl)
  · have hu1 := hu_of hr
    have hu := hr.units
    obtain ⟨d_NoSign, md_NoSign, CC_NoSign, mr_NoSign⟩ := T.c_NoSign
    refine ⟨_, QSs.out (qss_cons (qs_set (n := 2) sc_l_left_out.nd rfl l_l_left_out_2 qe_str)
      (qss_cons (qs_tryA G_cut (hr.mono (by decide)) (fun _ => (qa_c (v_l_left_out_0 rfl rfl) (qa_c (v_l_left_out_1 rfl rfl) qa_nil))) md_NoSign CC_NoSign sc_l_left_out.nd (j := 3) rfl l_l_left_out_3 (i := 4) rfl k_l_left_out_4 (fun _ _ => (qss_cons (qs_set (n := 2) sc_l_left_out.nd rfl l_l_left_out_2 qe_str)
      (qss_one (qs_set (n := 3) sc_l_left_out.nd rfl l_l_left_out_3 (qe_xget (v_l_left_out_4 rfl rfl) (K := K)))))) (K := K))
      (qss_one (qs_ret (qe_tup (qa_c (v_l_left_out_2 rfl rfl) (qa_c (v_l_left_out_3 rfl rfl) qa_nil))))))), ?_⟩
    obtain ⟨a, z, ks, rfl, hS, hkl, hz, q⟩ := h
    obtain ⟨fN, MN⟩ := T.er_NoSign
    walk_at "rd"
    refine ⟨a, z, ks, false, rfl, hS, hkl, hz, fun hw l H1 nl S1 hl => ⟨by decide, fun p np => ?_⟩, fun hw dx H1 S1 hdx => ⟨C_NoSign, dx, rfl, rfl, mr_NoSign, fun x nx => ?_⟩⟩
    · refine q p _ (S1.trans (Same.new np)) ⟨fun _ => ⟨l, upd_same, upd_fresh hl np⟩, fun h => absurd hw h⟩
    · walk_at "rd"
      exact ⟨C_NoSign, dx, upd_same, fN, _, upd_fresh hdx nx, MN, T.na_NoSign, _, rfl, by decide, fun p np => q p _ (S1.trans ((Same.new nx).trans (Same.new np))) ⟨fun h => absurd h hw, fun _ => upd_same⟩⟩
theorem sc_law : FnScope ["_law_script", "_law_known_here", "_law_text_here", "_law_plain"] ["_law_script"] (defScope s_law) := ⟨rfl, rfl, rfl, by decide +kernel, rfl, by decide +kernel, by decide +kernel⟩
theorem v_law_0 {X : Cx} {pos : Pos} (hN : X.N = (["_law_script", "_law_known_here", "_law_text_here", "_law_plain"] : List Str)) (hs : X.env.scope = defScope s_law) : QE X (.Name "_law_script" pos) (tVar 0) := qvd hN hs (by decide +kernel)
theorem v_law_1 {X : Cx} {pos : Pos} (hN : X.N = (["_law_script", "_law_known_here", "_law_text_here", "_law_plain"] : List Str)) (hs : X.env.scope = defScope s_law) : QE X (.Name "_law_known_here" pos) (tVar 1) := qvd hN hs (by decide +kernel)
theorem v_law_2 {X : Cx} {pos : Pos} (hN : X.N = (["_law_script", "_law_known_here", "_law_text_here", "_law_plain"] : List Str)) (hs : X.env.scope = defScope s_law) : QE X (.Name "_law_text_here" pos) (tVar 2) := qvd hN hs (by decide +kernel)
theorem v_law_3 {X : Cx} {pos : Pos} (hN : X.N = (["_law_script", "_law_known_here", "_law_text_here", "_law_plain"] : List Str)) (hs : X.env.scope = defScope s_law) : QE X (.Name "_law_plain" pos) (tVar 3) := qvd hN hs (by decide +kernel)
theorem l_law_1 : Loc (defScope s_law) "_law_known_here" := by unfold L2.Loc; decide +kernel
theorem l_law_2 : Loc (defScope s_law) "_law_text_here" := by unfold L2.Loc; decide +kernel
theorem l_law_3 : Loc (defScope s_law) "_law_plain" := by unfold L2.Loc; decide +kernel
theorem ok_law {f : Addr} {fd : FuncData} (F : FunD K "law" "law" s_law f fd) (T : Txt P w K mg C_NoSign) (G_l_known : FO P w K mg base 3 "_law_known" ["_law_script"] [] (spKnown5 K)) (G_l_text : FO P w K mg base 3 "_law_text" ["_law_script"] [] (spText5 K)) (G_l_cut : FO P w K mg base 2 "_law_cut" ["_law_known_here", "_law_text_here", "_law_worth"] [] (spTold K)) (G_l_asked : FO P w K mg base 5 "_law_asked" ["_law_known_here", "_law_text_here", "_law_worth"] [] (spTold K)) (G_l_left_out : FO P w K mg base 5 "_law_left_out" ["_law_known_here", "_law_text_here"] [] (spLeft K)) : FnOk P w K mg base CX0 6 f fd ["_law_script"] (spLaw K) := by
  refine F.ok sc_law (fun vs H Q E h => ?_) (fun cdv A outer s H vs Q E hr h => ?_)
  · (obtain ⟨a, ns, rfl, _⟩ := h; rfl)
  · have hu1 := hu_of hr
    have hu := hr.units
    refine ⟨_, QSs.out (qss_cons (qs_set (n := 1) sc_law.nd rfl l_law_1 (qe_callF G_l_known (hr.mono (by decide)) (qa_c (v_law_0 rfl rfl) qa_nil)))
      (qss_cons (qs_set (n := 2) sc_law.nd rfl l_law_2 (qe_callF G_l_text (hr.mono (by decide)) (qa_c (v_law_0 rfl rfl) qa_nil)))
      (qss_cons (qs_if (qt_cmpR (q_ne (K := K) hu) (qe_callF G_l_asked (hr.mono (by decide)) (qa_c (v_law_1 rfl rfl) (qa_c (v_law_2 rfl rfl) (qa_c qe_bl qa_nil)))) (qe_callF G_l_cut (hr.mono (by decide)) (qa_c (v_law_1 rfl rfl) (qa_c (v_law_2 rfl rfl) (qa_c qe_bl qa_nil))))) (qss_one (qs_ret qe_bl)) qss_nil)
      (qss_cons (qs_set (n := 3) sc_law.nd rfl l_law_3 (qe_callF G_l_cut (hr.mono (by decide)) (qa_c (v_law_1 rfl rfl) (qa_c (v_law_2 rfl rfl) (qa_c qe_bl qa_nil)))))
      (qss_one (qs_ret (qe_and (qe_cmpR (q_eq (K := K) hu) (qe_callF G_l_asked (hr.mono (by decide)) (qa_c (v_law_1 rfl rfl) (qa_c (v_law_2 rfl rfl) (qa_c qe_bl qa_nil)))) (v_law_3 rfl rfl)) (qe_one (qe_cmpR (q_eq (K := K) hu) (qe_callF G_l_left_out (hr.mono (by decide)) (qa_c (v_law_1 rfl rfl) (qa_c (v_law_2 rfl rfl) qa_nil))) (v_law_3 rfl rfl)))))))))), ?_⟩
    obtain ⟨a, ns, rfl, hS, hlen, q⟩ := h
    walk_at "rd"
    refine ⟨a, ns, rfl, hS, fun kl ks H1 S1 hkl hkn => ⟨a, ns, rfl, S1.seq hS, hlen, fun z H2 S2 hz hzo => ?_⟩⟩
    have k2 := S2 _ _ hkl
    refine ⟨kl, z, ks, true, rfl, .of k2, by omega, hz, fun t1 H3 S3 T1 => ⟨kl, z, ks, true, rfl, .of (S3 _ _ k2), by omega, hz, fun t2 H4 S4 T2 => ?_⟩⟩
    have k4 := S4 _ _ (S3 _ _ k2)
    obtain ⟨d, d1, d2, d3, d4⟩ := T1.eq (K := K) S4 T2 hzo
    walk_at "rd"
    refine ⟨d, d1, d, d2, by omega, ?_⟩
    rw [d4]
    refine iteF ⟨kl, z, ks, false, rfl, .of k4, by omega, hz, fun t3 H5 S5 T3 => ⟨kl, z, ks, false, rfl, .of (S5 _ _ k4), by omega, hz, fun t4 H6 S6 T4 => ?_⟩⟩
    have k6 := S6 _ _ (S5 _ _ k4)
    obtain ⟨e, e1, e2, e3, e4⟩ := T3.eq (K := K) S6 T4 hzo
    walk_at "rd"
    refine ⟨e, e2, e, e1, by omega, ?_⟩
    rw [e4]
    refine iteT ⟨kl, z, ks, rfl, .of k6, by omega, hz, fun t5 H7 S7 T5 => ?_⟩
    obtain ⟨g, g1, g2, g3, g4⟩ := T3.eq (K := K) (S6.trans S7) T5 hzo
    refine ⟨g, g2, g, g1, by omega, ?_⟩
    rw [g4]
    exact q H7
end
theorem all_mk {l : PySem.W.OpenLaw} {w : World} {K : PySem.W.Frag} {h : Heap} {mg : Str → Option Value} {fa C_NoSign : Addr} (X : K.In h) (G : h.Ns mainGlobals mg) (hfa : mg "law" = some (.ref fa))
    {f0 : Addr} {od0 an0 : Option Addr} {sl0 : Array (Option Value)} {oc0 kV0 dc0 pm0 cd0 ct0 : Value}
    (i0 : PySem.W.isFn K (.ref f0) = true)
    (l0 : K.lookup f0 = some ⟨oc0, od0, .func (PySem.W.fnOf "__init__" "NoSign.__init__" (defArgs s_NoSign___init__) (defBody s_NoSign___init__) (defScope s_NoSign___init__) .none kV0 dc0 pm0 an0 cd0 ct0), sl0⟩) (c0 : PySem.W.codeIn K cd0 "NoSign.__init__" = true) (k0 : PySem.W.keepIn K (.ref f0) = true)
    {f1 : Addr} {od1 an1 : Option Addr} {sl1 : Array (Option Value)} {oc1 kV1 dc1 pm1 cd1 ct1 : Value}
    (a1 : PySem.W.nsIn K mainGlobals "is_figure" = some (some (.ref f1)))
    (l1 : K.lookup f1 = some ⟨oc1, od1, .func (PySem.W.fnOf "is_figure" "is_figure" (defArgs s_is_figure) (defBody s_is_figure) (defScope s_is_figure) .none kV1 dc1 pm1 an1 cd1 ct1), sl1⟩) (c1 : PySem.W.codeIn K cd1 "is_figure" = true) (k1 : PySem.W.keepIn K (.ref f1) = true)
    {f2 : Addr} {od2 an2 : Option Addr} {sl2 : Array (Option Value)} {oc2 kV2 dc2 pm2 cd2 ct2 : Value}
    (a2 : PySem.W.nsIn K mainGlobals "figures_at" = some (some (.ref f2)))
    (l2 : K.lookup f2 = some ⟨oc2, od2, .func (PySem.W.fnOf "figures_at" "figures_at" (defArgs s_figures_at) (defBody s_figures_at) (defScope s_figures_at) .none kV2 dc2 pm2 an2 cd2 ct2), sl2⟩) (c2 : PySem.W.codeIn K cd2 "figures_at" = true) (k2 : PySem.W.keepIn K (.ref f2) = true)
    {f3 : Addr} {od3 an3 : Option Addr} {sl3 : Array (Option Value)} {oc3 kV3 dc3 pm3 cd3 ct3 : Value}
    (a3 : PySem.W.nsIn K mainGlobals "part_at" = some (some (.ref f3)))
    (l3 : K.lookup f3 = some ⟨oc3, od3, .func (PySem.W.fnOf "part_at" "part_at" (defArgs s_part_at) (defBody s_part_at) (defScope s_part_at) .none kV3 dc3 pm3 an3 cd3 ct3), sl3⟩) (c3 : PySem.W.codeIn K cd3 "part_at" = true) (k3 : PySem.W.keepIn K (.ref f3) = true)
    {f4 : Addr} {od4 an4 : Option Addr} {sl4 : Array (Option Value)} {oc4 kV4 dc4 pm4 cd4 ct4 : Value}
    {tD4 : Addr} {nD4 : Nat} {cD4 : Value} {oD4 : Option Addr} {sD4 : Array (Option Value)} (dl4 : K.lookup tD4 = some ⟨cD4, oD4, .seq #[.bool false] nD4, sD4⟩)
    (a4 : PySem.W.nsIn K mainGlobals "cut" = some (some (.ref f4)))
    (l4 : K.lookup f4 = some ⟨oc4, od4, .func (PySem.W.fnOf "cut" "cut" (defArgs s_cut) (defBody s_cut) (defScope s_cut) (.ref tD4) kV4 dc4 pm4 an4 cd4 ct4), sl4⟩) (c4 : PySem.W.codeIn K cd4 "cut" = true) (k4 : PySem.W.keepIn K (.ref f4) = true)
    {f5 : Addr} {od5 an5 : Option Addr} {sl5 : Array (Option Value)} {oc5 kV5 dc5 pm5 cd5 ct5 : Value}
    (a5 : PySem.W.nsIn K mainGlobals "_law_cell_at" = some (some (.ref f5)))
    (l5 : K.lookup f5 = some ⟨oc5, od5, .func (PySem.W.fnOf "_law_cell_at" "_law_cell_at" (defArgs s_l_cell_at) (defBody s_l_cell_at) (defScope s_l_cell_at) .none kV5 dc5 pm5 an5 cd5 ct5), sl5⟩) (c5 : PySem.W.codeIn K cd5 "_law_cell_at" = true) (k5 : PySem.W.keepIn K (.ref f5) = true)
    {f6 : Addr} {od6 an6 : Option Addr} {sl6 : Array (Option Value)} {oc6 kV6 dc6 pm6 cd6 ct6 : Value}
    (a6 : PySem.W.nsIn K mainGlobals "_law_sign" = some (some (.ref f6)))
    (l6 : K.lookup f6 = some ⟨oc6, od6, .func (PySem.W.fnOf "_law_sign" "_law_sign" (defArgs s_l_sign) (defBody s_l_sign) (defScope s_l_sign) .none kV6 dc6 pm6 an6 cd6 ct6), sl6⟩) (c6 : PySem.W.codeIn K cd6 "_law_sign" = true) (k6 : PySem.W.keepIn K (.ref f6) = true)
    {f7 : Addr} {od7 an7 : Option Addr} {sl7 : Array (Option Value)} {oc7 kV7 dc7 pm7 cd7 ct7 : Value}
    (a7 : PySem.W.nsIn K mainGlobals "_law_known" = some (some (.ref f7)))
    (l7 : K.lookup f7 = some ⟨oc7, od7, .func (PySem.W.fnOf "_law_known" "_law_known" (defArgs s_l_known) (defBody s_l_known) (defScope s_l_known) .none kV7 dc7 pm7 an7 cd7 ct7), sl7⟩) (c7 : PySem.W.codeIn K cd7 "_law_known" = true) (k7 : PySem.W.keepIn K (.ref f7) = true)
    {f8 : Addr} {od8 an8 : Option Addr} {sl8 : Array (Option Value)} {oc8 kV8 dc8 pm8 cd8 ct8 : Value}
    (a8 : PySem.W.nsIn K mainGlobals "_law_text" = some (some (.ref f8)))
    (l8 : K.lookup f8 = some ⟨oc8, od8, .func (PySem.W.fnOf "_law_text" "_law_text" (defArgs s_l_text) (defBody s_l_text) (defScope s_l_text) .none kV8 dc8 pm8 an8 cd8 ct8), sl8⟩) (c8 : PySem.W.codeIn K cd8 "_law_text" = true) (k8 : PySem.W.keepIn K (.ref f8) = true)
    {f9 : Addr} {od9 an9 : Option Addr} {sl9 : Array (Option Value)} {oc9 kV9 dc9 pm9 cd9 ct9 : Value}
    (a9 : PySem.W.nsIn K mainGlobals "_law_end" = some (some (.ref f9)))
    (l9 : K.lookup f9 = some ⟨oc9, od9, .func (PySem.W.fnOf "_law_end" "_law_end" (defArgs s_l_end) (defBody s_l_end) (defScope s_l_end) .none kV9 dc9 pm9 an9 cd9 ct9), sl9⟩) (c9 : PySem.W.codeIn K cd9 "_law_end" = true) (k9 : PySem.W.keepIn K (.ref f9) = true)
    {f10 : Addr} {od10 an10 : Option Addr} {sl10 : Array (Option Value)} {oc10 kV10 dc10 pm10 cd10 ct10 : Value}
    (a10 : PySem.W.nsIn K mainGlobals "_law_cut" = some (some (.ref f10)))
    (l10 : K.lookup f10 = some ⟨oc10, od10, .func (PySem.W.fnOf "_law_cut" "_law_cut" (defArgs s_l_cut) (defBody s_l_cut) (defScope s_l_cut) .none kV10 dc10 pm10 an10 cd10 ct10), sl10⟩) (c10 : PySem.W.codeIn K cd10 "_law_cut" = true) (k10 : PySem.W.keepIn K (.ref f10) = true)
    {f11 : Addr} {od11 an11 : Option Addr} {sl11 : Array (Option Value)} {oc11 kV11 dc11 pm11 cd11 ct11 : Value}
    (a11 : PySem.W.nsIn K mainGlobals "_law_asked" = some (some (.ref f11)))
    (l11 : K.lookup f11 = some ⟨oc11, od11, .func (PySem.W.fnOf "_law_asked" "_law_asked" (defArgs s_l_asked) (defBody s_l_asked) (defScope s_l_asked) .none kV11 dc11 pm11 an11 cd11 ct11), sl11⟩) (c11 : PySem.W.codeIn K cd11 "_law_asked" = true) (k11 : PySem.W.keepIn K (.ref f11) = true)
    {f12 : Addr} {od12 an12 : Option Addr} {sl12 : Array (Option Value)} {oc12 kV12 dc12 pm12 cd12 ct12 : Value}
    (a12 : PySem.W.nsIn K mainGlobals "_law_left_out" = some (some (.ref f12)))
    (l12 : K.lookup f12 = some ⟨oc12, od12, .func (PySem.W.fnOf "_law_left_out" "_law_left_out" (defArgs s_l_left_out) (defBody s_l_left_out) (defScope s_l_left_out) .none kV12 dc12 pm12 an12 cd12 ct12), sl12⟩) (c12 : PySem.W.codeIn K cd12 "_law_left_out" = true) (k12 : PySem.W.keepIn K (.ref f12) = true)
    {f13 : Addr} {od13 an13 : Option Addr} {sl13 : Array (Option Value)} {oc13 kV13 dc13 pm13 cd13 ct13 : Value}
    (a13 : PySem.W.nsIn K mainGlobals "law" = some (some (.ref f13)))
    (l13 : K.lookup f13 = some ⟨oc13, od13, .func (PySem.W.fnOf "law" "law" (defArgs s_law) (defBody s_law) (defScope s_law) .none kV13 dc13 pm13 an13 cd13 ct13), sl13⟩) (c13 : PySem.W.codeIn K cd13 "law" = true) (k13 : PySem.W.keepIn K (.ref f13) = true)
    {N_NoSign : Addr} {nm_NoSign q_NoSign : Str} {bs_NoSign bm_NoSign sub_NoSign : List Value} {sn_NoSign : List Str} {ab_NoSign : Bool} {col_NoSign : Option Bool} {dd_NoSign : Option Addr} {k0_NoSign k1_NoSign k2_NoSign k3_NoSign k5_NoSign : Option Value}
    (aE_NoSign : PySem.W.nsIn K mainGlobals "NoSign" = some (some (.ref C_NoSign))) (lE_NoSign : K.lookup C_NoSign = some (excClassObj nm_NoSign q_NoSign C_NoSign N_NoSign bs_NoSign bm_NoSign true sn_NoSign sub_NoSign ab_NoSign col_NoSign dd_NoSign k0_NoSign k1_NoSign k2_NoSign k3_NoSign k5_NoSign "ValueError.__new__"))
    (t1_NoSign : PySem.W.tailIn K bmV bm_NoSign = true) (t2_NoSign : overIn bmV (.ref C_NoSign :: bm_NoSign) = true) (t3_NoSign : PySem.W.nsOkIn K N_NoSign = true) (t4_NoSign : PySem.W.nsIn K N_NoSign "__init__" = some (some (.ref f0)))
    (sa_NoSign : PySem.W.findIn K (.ref C_NoSign) "__setattr__" = some (some (.builtin "object.__setattr__")))
    (ga_NoSign : PySem.W.findIn K (.ref C_NoSign) "__getattribute__" = some (some (.builtin "BaseException.__getattribute__")))
    (gt_NoSign : PySem.W.findIn K (.ref C_NoSign) "__getattr__" = some (none))
    (cl_NoSign : PySem.W.findIn K (.ref C_NoSign) "__class__" = some (some (.builtin "object.__class__")))
    (bx_NoSign : PySem.W.mroIn K C_NoSign (.type "BaseException") = some true) (ob_NoSign : PySem.W.mroIn K C_NoSign (.type "object") = some true) (kp_NoSign : PySem.W.keepIn K (.ref C_NoSign) = true) (nE_NoSign : PySem.W.findIn K (.ref C_NoSign) "at" = some none)
    {aL : Addr} (eL : PySem.W.nsIn K mainGlobals "LoreError" = some (some (.ref aL))) (eL1 : PySem.W.specialIn K (.ref aL) "__getattribute__" = some (some (.builtin "type.__getattribute__"))) (eL2 : PySem.W.readsIn K aL (.type "type") = true) (eL3 : PySem.W.findCls K (.ref aL) (.type "type") "__init__" = some (.val (.builtin "ValueError.__init__")))
    (ecn : PySem.W.specialIn K (.builtin "object.__class__") "__get__" = some (some (.builtin "getset_descriptor.__get__"))) (ect : PySem.W.takesIn K (.builtin "object.__class__") = some true)
    {d_NoSign : Addr} {cd_NoSign : ClassData} (aD_NoSign : PySem.W.nsIn K mainGlobals "NoSign" = some (some (.ref d_NoSign))) (D1_NoSign : PySem.W.clsIn K d_NoSign = some cd_NoSign) (D2_NoSign : PySem.W.typeIn K (.ref d_NoSign) = some (.type "type")) (D3_NoSign : PySem.W.mroIn K d_NoSign (.type "BaseException") = some true) (D4_NoSign : PySem.W.mroIn K C_NoSign (.ref d_NoSign) = some true)
    (z_dict : PySem.W.nsIn K mainGlobals "dict" = some none)
    (z_len : PySem.W.nsIn K mainGlobals "len" = some none)
    (z_range : PySem.W.nsIn K mainGlobals "range" = some none)
    (z_str : PySem.W.nsIn K mainGlobals "str" = some none)
    : ∃ fd : FuncData, (∀ (s : Shared) (v : Value), BindsTo s fd ⟨[v], []⟩ [("_law_script", v)]) ∧ ∀ base : Heap, K.In base → base.Ns mainGlobals mg → FnOk l.prog w K mg base CX0 6 fa fd ["_law_script"] (spLaw K) := by
  have e := hfa.symm.trans (PySem.W.mg_of X G a13)
  cases e
  have M_NoSign : ErrC K C_NoSign f0 := ⟨⟨_, _, _, _, _, _, _, _, _, _, _, _, _, _, _, lE_NoSign, t1_NoSign, t2_NoSign, t3_NoSign, t4_NoSign⟩, i0, sa_NoSign, ga_NoSign, gt_NoSign, cl_NoSign, bx_NoSign, ob_NoSign, kp_NoSign⟩
  have T : Txt l.prog w K mg C_NoSign := ⟨⟨aL, PySem.W.mg_of X G eL, ⟨eL1, eL2, eL3⟩⟩, nE_NoSign, ⟨_, M_NoSign⟩, ecn, ect, ⟨d_NoSign, PySem.W.mg_of X G aD_NoSign, ⟨⟨_, D1_NoSign⟩, D2_NoSign, D3_NoSign⟩, D4_NoSign⟩, PySem.W.mg_none_of X G z_dict, PySem.W.mg_none_of X G z_len, PySem.W.mg_none_of X G z_range, PySem.W.mg_none_of X G z_str⟩
  have F0 := funD_mk (st := s_NoSign___init__) l0 c0
  have F1 := funD_mk (st := s_is_figure) l1 c1
  have F2 := funD_mk (st := s_figures_at) l2 c2
  have F3 := funD_mk (st := s_part_at) l3 c3
  have F4 := funD_mk (st := s_cut) l4 c4
  have F5 := funD_mk (st := s_l_cell_at) l5 c5
  have F6 := funD_mk (st := s_l_sign) l6 c6
  have F7 := funD_mk (st := s_l_known) l7 c7
  have F8 := funD_mk (st := s_l_text) l8 c8
  have F9 := funD_mk (st := s_l_end) l9 c9
  have F10 := funD_mk (st := s_l_cut) l10 c10
  have F11 := funD_mk (st := s_l_asked) l11 c11
  have F12 := funD_mk (st := s_l_left_out) l12 c12
  have F13 := funD_mk (st := s_law) l13 c13
  refine ⟨PySem.W.fnOf "law" "law" (defArgs s_law) (defBody s_law) (defScope s_law) .none kV13 dc13 pm13 an13 cd13 ct13, fun s v => .of_eq rfl, fun base hb hn => ?_⟩
  have G_NoSign___init__ : EO l.prog w K mg base 1 C_NoSign "NoSign" ["self", "at"] (spErrI K C_NoSign "at") := ⟨_, _, ok_NoSign___init__ F0 T, PySem.W.mg_of X G aE_NoSign, M_NoSign, .all (len2 fun _ _ => rfl)⟩
  have G_is_figure : FO l.prog w K mg base 1 "is_figure" ["sign"] [] spIsFig := ⟨_, _, ok_is_figure F1 T, PySem.W.mg_of X G a1, k1, [], .all (len1 fun _ => rfl), .nil⟩
  have G_figures_at : FO l.prog w K mg base 2 "figures_at" ["text", "at"] [] spFigAt := ⟨_, _, ok_figures_at F2 T G_is_figure, PySem.W.mg_of X G a2, k2, [], .all (len2 fun _ _ => rfl), .nil⟩
  have G_part_at : FOX l.prog w K mg base 3 "part_at" ["known", "text", "at", "figures"] [] (spPart5 C_NoSign) := ⟨_, _, ok_part_at F3 T G_NoSign___init__ G_is_figure G_figures_at, PySem.W.mg_of X G a3, k3, [], .all (len4 fun _ _ _ _ => rfl), .nil⟩
  have G_cut : FOX l.prog w K mg base 4 "cut" ["known", "text", "figures"] [.bl false] (spCut5 K C_NoSign) := ⟨_, _, ok_cut F4 T G_part_at, PySem.W.mg_of X G a4, k4, [.bool false], (fun s us hin hl => by obtain ⟨u1, u2, rfl⟩ := two_of hl; exact PySem.W.binds_K hin rfl dl4 rfl rfl rfl), .cons rfl .nil⟩
  have G3_cut : FOX l.prog w K mg base 4 "cut" ["known", "text", "figures"] [] (spCut5 K C_NoSign) := ⟨_, _, ok_cut F4 T G_part_at, PySem.W.mg_of X G a4, k4, [], (fun s us hin hl => by obtain ⟨u1, u2, u3, rfl⟩ := three_of hl; exact PySem.W.binds_K hin rfl dl4 rfl rfl rfl), .nil⟩
  have G_l_cell_at : FO l.prog w K mg base 1 "_law_cell_at" ["_law_script", "_law_k"] [] (spCellF K) := ⟨_, _, ok_l_cell_at F5 T, PySem.W.mg_of X G a5, k5, [], .all (len2 fun _ _ => rfl), .nil⟩
  have G_l_sign : FO l.prog w K mg base 2 "_law_sign" ["_law_script", "_law_k"] [] (spSign5 K) := ⟨_, _, ok_l_sign F6 T G_l_cell_at, PySem.W.mg_of X G a6, k6, [], .all (len2 fun _ _ => rfl), .nil⟩
  have G_l_known : FO l.prog w K mg base 3 "_law_known" ["_law_script"] [] (spKnown5 K) := ⟨_, _, ok_l_known F7 T G_l_cell_at G_l_sign, PySem.W.mg_of X G a7, k7, [], .all (len1 fun _ => rfl), .nil⟩
  have G_l_text : FO l.prog w K mg base 3 "_law_text" ["_law_script"] [] (spText5 K) := ⟨_, _, ok_l_text F8 T G_l_cell_at G_l_sign, PySem.W.mg_of X G a8, k8, [], .all (len1 fun _ => rfl), .nil⟩
  have G_l_end : FO l.prog w K mg base 1 "_law_end" ["_law_known_here", "_law_text_here", "_law_at", "_law_worth"] [] (spEnd K) := ⟨_, _, ok_l_end F9 T, PySem.W.mg_of X G a9, k9, [], .all (len4 fun _ _ _ _ => rfl), .nil⟩
  have G_l_cut : FO l.prog w K mg base 2 "_law_cut" ["_law_known_here", "_law_text_here", "_law_worth"] [] (spTold K) := ⟨_, _, ok_l_cut F10 T G_l_end, PySem.W.mg_of X G a10, k10, [], .all (len3 fun _ _ _ => rfl), .nil⟩
  have G_l_asked : FO l.prog w K mg base 5 "_law_asked" ["_law_known_here", "_law_text_here", "_law_worth"] [] (spTold K) := ⟨_, _, ok_l_asked F11 T G3_cut, PySem.W.mg_of X G a11, k11, [], .all (len3 fun _ _ _ => rfl), .nil⟩
  have G_l_left_out : FO l.prog w K mg base 5 "_law_left_out" ["_law_known_here", "_law_text_here"] [] (spLeft K) := ⟨_, _, ok_l_left_out F12 T G_cut, PySem.W.mg_of X G a12, k12, [], .all (len2 fun _ _ => rfl), .nil⟩
  exact ok_law F13 T G_l_known G_l_text G_l_cut G_l_asked G_l_left_out
theorem walk {l : PySem.W.OpenLaw} {q : Program} {loose : List Str} {XP : (Str → Option Value) → Heap → Prop} {YP : World → Heap → Prop} {d : DefRec} {K : Params → PySem.W.Frag} (hn : l.most = some 63) (hdf : d.params.defaults = [])
    (hY : ∀ (w : World) (h : Heap), YP w h → (K w.params).In h)
    (F : ∀ (w : World) (mg : Str → Option Value) (fa : Addr) (h : Heap), (K w.params).In h → h.Ns mainGlobals mg → mg d.name = some (.ref fa) →
      ∃ fd : FuncData, (∀ (s : Shared) (u : Value), BindsTo s fd ⟨[u], []⟩ [("_law_script", u)]) ∧ ∀ base : Heap, (K w.params).In base → base.Ns mainGlobals mg → FnOk l.prog w (K w.params) mg base CX0 6 fa fd ["_law_script"] (spLaw (K w.params))) :
    PySem.W.WalkO q loose XP YP l.row.toRowW d [] (fun f vs => PySem.call f vs) :=
  L2.walk_of (n := 63) (k := 6) (x := "_law_script") (CX := fun _ => CX0) (sp := fun w => spLaw (K w.params)) hn (by decide) hdf ⟨rfl, by decide, by decide⟩ hY F (fun _ _ a ns hl _ hS => ⟨a, ns, rfl, hS, hl, fun _ => rfl⟩) fun _ _ _ _ _ z => z
end K05
open PySem PySem.W PyProof.Rows
set_option maxRecDepth 100000 in
set_option maxHeartbeats 0 in
theorem PySem.Challenge.cw_sortlore_k05_figures_by_worth_holds : PySem.Challenge.rw_sortlore_k05_figures_by_worth.Holds := by
  w_on; o_law; k_head; (case hw => w_witness2)
  k_fill
  refine K05.walk (l := PySem.Challenge.rw_sortlore_k05_figures_by_worth) rfl rfl (fun w h Y => PySem.W.kIn_of Y) ?F
  case F =>
    intro w mg fa h KX G hmg
    refine' K05.all_mk KX G hmg ?i0 ?l0 ?c0 ?k0 ?a1 ?l1 ?c1 ?k1 ?a2 ?l2 ?c2 ?k2 ?a3 ?l3 ?c3 ?k3 ?dl4 ?a4 ?l4 ?c4 ?k4 ?a5 ?l5 ?c5 ?k5 ?a6 ?l6 ?c6 ?k6 ?a7 ?l7 ?c7 ?k7 ?a8 ?l8 ?c8 ?k8 ?a9 ?l9 ?c9 ?k9 ?a10 ?l10 ?c10 ?k10 ?a11 ?l11 ?c11 ?k11 ?a12 ?l12 ?c12 ?k12 ?a13 ?l13 ?c13 ?k13 ?aE_NoSign ?lE_NoSign ?t1_NoSign ?t2_NoSign ?t3_NoSign ?t4_NoSign ?sa_NoSign ?ga_NoSign ?gt_NoSign ?cl_NoSign ?bx_NoSign ?ob_NoSign ?kp_NoSign ?nE_NoSign ?eL ?eL1 ?eL2 ?eL3 ?ecn ?ect ?aD_NoSign ?D1_NoSign ?D2_NoSign ?D3_NoSign ?D4_NoSign ?z_dict ?z_len ?z_range ?z_str
    (case aE_NoSign => k_is)
    (case lE_NoSign => k_is)
    (case t4_NoSign => k_is)
    (case i0 => k_is)
    (case l0 => k_is)
    (case c0 => k_is)
    (case k0 => k_is)
    (case a1 => k_is)
    (case l1 => k_is)
    (case c1 => k_is)
    (case k1 => k_is)
    (case a2 => k_is)
    (case l2 => k_is)
    (case c2 => k_is)
    (case k2 => k_is)
    (case a3 => k_is)
    (case l3 => k_is)
    (case c3 => k_is)
    (case k3 => k_is)
    (case a4 => k_is)
    (case l4 => k_is)
    (case c4 => k_is)
    (case k4 => k_is)
    (case a5 => k_is)
    (case l5 => k_is)
    (case c5 => k_is)
    (case k5 => k_is)
    (case a6 => k_is)
    (case l6 => k_is)
    (case c6 => k_is)
    (case k6 => k_is)
    (case a7 => k_is)
    (case l7 => k_is)
    (case c7 => k_is)
    (case k7 => k_is)
    (case a8 => k_is)
    (case l8 => k_is)
    (case c8 => k_is)
    (case k8 => k_is)
    (case a9 => k_is)
    (case l9 => k_is)
    (case c9 => k_is)
    (case k9 => k_is)
    (case a10 => k_is)
    (case l10 => k_is)
    (case c10 => k_is)
    (case k10 => k_is)
    (case a11 => k_is)
    (case l11 => k_is)
    (case c11 => k_is)
    (case k11 => k_is)
    (case a12 => k_is)
    (case l12 => k_is)
    (case c12 => k_is)
    (case k12 => k_is)
    (case a13 => k_is)
    (case l13 => k_is)
    (case c13 => k_is)
    (case k13 => k_is)
    (case t1_NoSign => refine' L2.tail_one ?tl1 ?tl2 ?tl3; (case tl1 => k_is); (case tl3 => k_is); (case tl2 => refine' L2.nsOk_of ?nk1 ?nk2; (case nk1 => k_is); (case nk2 => rfl)))
    (case t2_NoSign => rfl)
    (case t3_NoSign => refine' L2.nsOk_of ?nk1 ?nk2; (case nk1 => k_is); (case nk2 => rfl))
    (case sa_NoSign => k_is)
    (case ga_NoSign => k_is)
    (case gt_NoSign => k_is)
    (case cl_NoSign => k_is)
    (case bx_NoSign => k_is)
    (case ob_NoSign => k_is)
    (case kp_NoSign => k_is)
    (case nE_NoSign => k_is)
    (case eL => k_is)
    (case eL1 => k_is)
    (case eL2 => k_is)
    (case eL3 => k_is)
    (case ecn => k_is)
    (case ect => k_is)
    (case aD_NoSign => k_is)
    (case D1_NoSign => k_is)
    (case D2_NoSign => k_is)
    (case D3_NoSign => k_is)
    (case D4_NoSign => k_is)
    (case z_dict => k_is)
    (case z_len => k_is)
    (case z_range => k_is)
    (case z_str => k_is)
    (case dl4 => k_is)
