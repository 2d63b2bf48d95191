import PyProof.Rows.All
import Wide.All
import OpenK.AllK
import Wide.FinOn
import Lean
import PyProof.EqAt
import PyProof.EqKinds
import PyProof.TupleCall
import KE.IntBitsLaws
import PySem.Challenge.RW_bellwrite_k66_a_keen_hearer
set_option Elab.async false
set_option linter.all false
set_option maxRecDepth 100000
set_option maxHeartbeats 4000000
set_option genSizeOf false
namespace L2
open PySem PySem.Spec PyProof.Rows
abbrev Key := Sum Int Str
noncomputable def keyIs : Key → Value → Bool
  | .inl k, v => Value.isInt k v
  | .inr x, v => Value.isStrOf x v
noncomputable def keyH (w : World) : Key → Int
  | .inl k => hashInt k
  | .inr x => hashStr w x
theorem keyIs_shape : ∀ {k : Key} {v : Value}, keyIs k v = true → (∃ i t, k = Sum.inl i ∧ v = Value.int i t) ∨ (∃ x t, k = Sum.inr x ∧ v = Value.str x t)
  | .inl i, v, h => by
    obtain ⟨t, e⟩ := Value.isInt_shape (k := i) (v := v) h
    exact .inl ⟨i, t, rfl, e⟩
  | .inr x, v, h => by
    obtain ⟨t, e⟩ := Value.isStrOf_shape (x := x) (v := v) h
    exact .inr ⟨x, t, rfl, e⟩
theorem key_ll (a b : Int) : decide ((Sum.inl a : Key) = Sum.inl b) = (a == b) := by
  by_cases e : a = b
  · subst e; simp
  · have h : ¬ (Sum.inl a : Key) = Sum.inl b := fun q => e (Sum.inl.inj q)
    rw [decide_eq_false h]
    exact (beq_eq_false_iff_ne.mpr e).symm
theorem key_rr (a b : Str) : decide ((Sum.inr a : Key) = Sum.inr b) = decide (a = b) := by
  by_cases e : a = b
  · subst e; simp
  · have h : ¬ (Sum.inr a : Key) = Sum.inr b := fun q => e (Sum.inr.inj q)
    rw [decide_eq_false h, decide_eq_false e]
theorem key_lr (a : Int) (b : Str) : decide ((Sum.inl a : Key) = Sum.inr b) = false := decide_eq_false (fun q => nomatch q)
theorem key_rl (a : Str) (b : Int) : decide ((Sum.inr a : Key) = Sum.inl b) = false := decide_eq_false (fun q => nomatch q)
noncomputable def mixKind (prog : Program) (w : World) : PySem.KeyKind prog w Key where
  is := keyIs
  hash := keyH w
  inj := fun v a b ha hb => by
    rcases keyIs_shape ha with ⟨i, t, rfl, rfl⟩ | ⟨x, t, rfl, rfl⟩
    · rcases keyIs_shape hb with ⟨j, u, rfl, e⟩ | ⟨y, u, rfl, e⟩
      · injection e with e1 _; rw [e1]
      · exact nomatch e
    · rcases keyIs_shape hb with ⟨j, u, rfl, e⟩ | ⟨y, u, rfl, e⟩
      · exact nomatch e
      · injection e with e1 _; rw [e1]
  byValue := fun k v h => by
    rcases keyIs_shape h with ⟨i, t, rfl, rfl⟩ | ⟨x, t, rfl, rfl⟩ <;> rfl
  pyHash := fun hv h => by
    rcases keyIs_shape hv with ⟨i, t, rfl, rfl⟩ | ⟨x, t, rfl, rfl⟩
    · exact wpAny_pyHash_int h
    · exact wpAny_pyHash_str h
  eqBool := fun hu hv h => by
    rcases keyIs_shape hu with ⟨i, t, rfl, rfl⟩ | ⟨x, t, rfl, rfl⟩
    · rcases keyIs_shape hv with ⟨j, u, rfl, rfl⟩ | ⟨y, u, rfl, rfl⟩
      · rw [key_ll] at h; exact wpAny_eqBool_int h
      · rw [key_lr] at h; exact SeqAt.EqAt.int_str i t y u _ _ _ _ h
    · rcases keyIs_shape hv with ⟨j, u, rfl, rfl⟩ | ⟨y, u, rfl, rfl⟩
      · rw [key_rl] at h; exact SeqAt.EqAt.str_int x t j u _ _ _ _ h
      · rw [key_rr] at h; exact wpAny_eqBool_str h
  «strs» := fun k x t v h => by
    rcases keyIs_shape h with ⟨i, u, rfl, e⟩ | ⟨y, u, rfl, e⟩
    · exact nomatch e
    · injection e with e1 _
      subst e1
      cases v <;> rfl
end L2
namespace L2
open PySem PySem.Spec PyProof.Rows
inductive V where
  | non | bl (b : Bool) | int (i : Int) | str (x : Str) | byt (b : Array UInt8) | flt (b : UInt64) | ref (a : Addr) | ty (n : String)
  deriving DecidableEq
noncomputable def RelV : V → Value → Prop
  | .non, u => u = Value.none
  | .bl b, u => u = Value.bool b
  | .int i, u => ∃ t, u = Value.int i t
  | .str x, u => ∃ t, u = Value.str x t
  | .byt b, u => ∃ t, u = Value.bytes b t
  | .flt b, u => ∃ t, u = Value.float b t
  | .ref a, u => u = Value.ref a
  | .ty n, u => u = Value.type n
abbrev Vals : List V → List Value → Prop := Paired RelV
theorem Vals.length {xs : List V} {us : List Value} (r : Vals xs us) : xs.length = us.length := Paired.length r
theorem Vals.get : ∀ {xs : List V} {us : List Value} {i : Nat} {x : V}, Vals xs us → xs[i]? = some x → ∃ u, us[i]? = some u ∧ RelV x u
  | _, _, _, _, .nil, e => by simp at e
  | _, _, 0, _, .cons r _, e => by simp at e; subst e; exact ⟨_, rfl, r⟩
  | _, _, i + 1, x, .cons _ t, e => by
    obtain ⟨u, h1, h2⟩ := Vals.get (i := i) (x := x) t (by simpa using e)
    exact ⟨u, by simpa using h1, h2⟩
theorem Vals.set {x : V} {u : Value} (r : RelV x u) : ∀ {xs : List V} {us : List Value} (i : Nat), Vals xs us → Vals (xs.set i x) (us.set i u)
  | _, _, _, .nil => .nil
  | _, _, 0, .cons _ t => .cons r t
  | _, _, i + 1, .cons q t => .cons q (Vals.set r i t)
theorem Vals.append : ∀ {xs ys : List V} {us ws : List Value}, Vals xs us → Vals ys ws → Vals (xs ++ ys) (us ++ ws)
  | _, _, _, _, .nil, s => s
  | _, _, _, _, .cons r t, s => .cons r (Vals.append t s)
theorem Vals.take : ∀ {xs : List V} {us : List Value} (n : Nat), Vals xs us → Vals (xs.take n) (us.take n)
  | _, _, 0, _ => .nil
  | _, _, _ + 1, .nil => .nil
  | _, _, n + 1, .cons r t => .cons r (Vals.take n t)
theorem Vals.drop : ∀ {xs : List V} {us : List Value} (n : Nat), Vals xs us → Vals (xs.drop n) (us.drop n)
  | _, _, 0, r => r
  | _, _, _ + 1, .nil => .nil
  | _, _, n + 1, .cons _ t => Vals.drop n t
theorem Vals.none_of : ∀ {xs : List V} {us : List Value} {i : Nat}, Vals xs us → xs[i]? = none → us[i]? = none := fun {xs us i} r e => by
  have h1 := r.length
  have h2 : xs.length ≤ i := List.getElem?_eq_none_iff.mp e
  exact List.getElem?_eq_none_iff.mpr (by omega)
noncomputable def RelO : Option V → Option Value → Prop
  | some v, some u => RelV v u
  | none, none => True
  | _, _ => False
noncomputable def KV {κ : Type} : List (κ × V) → List (κ × Value) → Prop := Paired fun (p : κ × V) (q : κ × Value) => p.1 = q.1 ∧ RelV p.2 q.2
noncomputable def kV : Key → V
  | .inl i => .int i
  | .inr x => .str x
inductive HO where
  | lst (xs : List V)
  | tup (xs : List V)
  | dK (kvs : List (Key × V)) | dT (kvs : List (List Key × V))
  | set (S : Int → Bool) (n : Nat)
  | ins (C dx : Addr) (fs : List (Str × V))
  | own (x : Addr)
  | xd (fs : List (Str × V))
  | met (f x : Addr)
  | rng (lo hi : Int)
  | frz (o : Obj) (u : HO)
  | tbl (ps : Array Value)
  | ext (φ : Heap → Prop)
abbrev Hp := Addr → Option HO
noncomputable def upd (H : Hp) (a : Addr) (o : HO) : Hp := fun b => if b = a then some o else H b
theorem upd_same {H : Hp} {a : Addr} {o : HO} : upd H a o a = some o := by unfold upd; rw [if_pos rfl]
theorem upd_ne {H : Hp} {a b : Addr} {o : HO} (h : b ≠ a) : upd H a o b = H b := by unfold upd; rw [if_neg h]
theorem upd_upd {H : Hp} {a : Addr} {o u : HO} : upd (upd H a o) a u = upd H a u := by
  funext b; unfold upd; split <;> rfl
theorem ne_of_none {H : Hp} {a b : Addr} {o : HO} (h : H a = some o) (h' : H b = none) : a ≠ b := by
  intro e; subst e; rw [h] at h'; cases h'
section
variable (P : Program) (w : World)
noncomputable def ObjOk (H : Hp) (h : Heap) (a : Addr) : HO → Prop
  | .lst xs => xs.length ≤ sizeLine ∧ ∃ (its : List Value) (n : Nat), Vals xs its ∧ h.get? a = some { cls := .type "list", data := .seq its.toArray n }
  | .tup xs => xs.length ≤ sizeLine ∧ ∃ its : List Value, Vals xs its ∧ IsTup h a its.toArray
  | .dK kvs => kvs.length ≤ sizeLine ∧ (a == sysModules) = false ∧ ∃ vs, KV kvs vs ∧ h.DictOf (mixKind P w) a vs
  | .dT kvs => kvs.length ≤ sizeLine ∧ (a == sysModules) = false ∧ ∃ xs : List (List Key × Addr × Value),
      Paired (fun (p : List Key × V) (q : List Key × Addr × Value) => p.1 = q.1 ∧ H q.2.1 = some (.tup (p.1.map kV)) ∧ RelV p.2 q.2.2) kvs xs ∧
      ∃ o es ep, h.get? a = some o ∧ o.ExactDict ∧ o.data = .dict es ep ∧ es.toList = xs.map (entryOfKey (tupleKind (mixKind P w))) ∧ (xs.map (·.1)).Nodup
  | .set S n => h.SetOf (intKind P w) a S n
  | .ins C dx fs => H dx = some (.own a) ∧ fs.length ≤ 1000 ∧ dx ≠ a ∧ h.get? a = some (PySem.W.instObj C dx) ∧
      ∃ mA, h.Ns1 dx mA ∧ (∀ f, RelO (fs.lookup f) (mA f)) ∧ PySem.Within mA (fs.map (·.1))
  | .own _ => ∃ o, h.get? a = some o
  | .xd fs => ∃ mA, h.Ns1 a mA ∧ ∀ f, RelO (fs.lookup f) (mA f)
  | .rng lo hi => ∃ t u v, h.get? a = some { cls := .type "range", data := .fields #[.int lo t, .int hi u, .int 1 v] }
  | .frz o u => h.get? a = some o ∧ ObjOk H h a u
  | .tbl ps => h.get? a = some { cls := .none, data := .fields ps }
  | .met f x => h.get? a = some (PySem.W.methodObj (.ref f) (.ref x))
  | .ext φ => φ h ∧ (∃ o, h.get? a = some o) ∧ ∀ h1 h2 : Heap, φ h1 → (∀ o, h1.get? a = some o → h2.get? a = some o) → φ h2
noncomputable def HOk (H : Hp) (h : Heap) : Prop := ∀ a o, H a = some o → ObjOk P w H h a o
end
section
variable {P : Program} {w : World} {H H' : Hp} {h h' : Heap} {a : Addr} {o : HO}
theorem ObjOk.lt (x : ObjOk P w H h a o) : a < h.objs.size := by
  cases o with
  | lst xs => obtain ⟨_, _, _, _, e⟩ := x; exact Heap.lt_size e
  | tup xs => obtain ⟨_, _, _, p⟩ := x; exact p.lt
  | dK kvs => obtain ⟨_, _, _, _, o, _, _, e, _⟩ := x; exact Heap.lt_size e
  | dT kvs => obtain ⟨_, _, _, _, o, _, _, e, _⟩ := x; exact Heap.lt_size e
  | set S n => obtain ⟨o, _, _, _, e, _⟩ := x; exact Heap.lt_size e
  | ins C dx fs => obtain ⟨_, _, _, e, _⟩ := x; exact Heap.lt_size e
  | own y => obtain ⟨_, e⟩ := x; exact Heap.lt_size e
  | xd fs => obtain ⟨_, ⟨_, _, _, e, _⟩, _⟩ := x; exact Heap.lt_size e
  | rng lo hi => obtain ⟨_, _, _, e⟩ := x; exact Heap.lt_size e
  | frz ob u => obtain ⟨e, _⟩ := x; exact Heap.lt_size e
  | tbl ps => exact Heap.lt_size (show h.get? a = some _ from x)
  | met f y => exact Heap.lt_size (show h.get? a = some _ from x)
  | ext φ => obtain ⟨_, ⟨_, e⟩, _⟩ := x; exact Heap.lt_size e
theorem Paired.mapP {α β : Type} {F G : α → β → Prop} : ∀ {l₁ : List α} {l₂ : List β}, Paired F l₁ l₂ → (∀ a b, F a b → G a b) → Paired G l₁ l₂
  | _, _, .nil, _ => .nil
  | _, _, .cons r t, f => .cons (f _ _ r) (Paired.mapP t f)
theorem Paired.imp' {α β : Type} {F G : α → β → Prop} (f : ∀ a b, F a b → G a b) {l₁ : List α} {l₂ : List β} (r : Paired F l₁ l₂) : Paired G l₁ l₂ := Paired.mapP r f
theorem ObjOk.stay (x : ObjOk P w H h a o) (k : ∀ b u, (b = a ∨ H b = some (.own a)) → h.get? b = some u → h'.get? b = some u)
    (ho : ∀ b, H b = some (.own a) → H' b = some (.own a)) (ht : ∀ b xs, H b = some (.tup xs) → H' b = some (.tup xs)) : ObjOk P w H' h' a o := by
  induction o with
  | lst xs => obtain ⟨z, its, n, r, e⟩ := x; exact ⟨z, its, n, r, k _ _ (.inl rfl) e⟩
  | tup xs => obtain ⟨z, its, r, ob, e, c⟩ := x; exact ⟨z, its, r, ob, k _ _ (.inl rfl) e, c⟩
  | dK kvs => obtain ⟨z, y, vs, r, ob, es, ep, e, c⟩ := x; exact ⟨z, y, vs, r, ob, es, ep, k _ _ (.inl rfl) e, c⟩
  | dT kvs =>
    obtain ⟨z, y, xs, r, ob, es, ep, e, c⟩ := x
    exact ⟨z, y, xs, Paired.mapP r fun p q z => ⟨z.1, ht _ _ z.2.1, z.2.2⟩, ob, es, ep, k _ _ (.inl rfl) e, c⟩
  | set S n => obtain ⟨ob, es, ep, t, e, c⟩ := x; exact ⟨ob, es, ep, t, k _ _ (.inl rfl) e, c⟩
  | ins C dx fs =>
    obtain ⟨d, z, ne, e, mA, ⟨od, es, ep, e2, c⟩, r⟩ := x
    exact ⟨ho _ d, z, ne, k _ _ (.inl rfl) e, mA, ⟨od, es, ep, k _ _ (.inr d) e2, c⟩, r⟩
  | own y => obtain ⟨ob, e⟩ := x; exact ⟨ob, k _ _ (.inl rfl) e⟩
  | xd fs => obtain ⟨mA, ⟨od, es, ep, e, c⟩, r⟩ := x; exact ⟨mA, ⟨od, es, ep, k _ _ (.inl rfl) e, c⟩, r⟩
  | rng lo hi => obtain ⟨t, u, v, e⟩ := x; exact ⟨t, u, v, k _ _ (.inl rfl) e⟩
  | frz ob u ih => obtain ⟨e, q⟩ := x; exact ⟨k _ _ (.inl rfl) e, ih q⟩
  | tbl ps =>
    have e : h.get? a = some { cls := .none, data := .fields ps } := x
    show h'.get? a = some { cls := .none, data := .fields ps }
    exact k a _ (.inl rfl) e
  | met f y =>
    have e : h.get? a = some (PySem.W.methodObj (.ref f) (.ref y)) := x
    show h'.get? a = some (PySem.W.methodObj (.ref f) (.ref y))
    exact k a _ (.inl rfl) e
  | ext φ => obtain ⟨p, ⟨o, e⟩, st⟩ := x; exact ⟨st _ _ p fun o q => k _ _ (.inl rfl) q, ⟨o, k _ _ (.inl rfl) e⟩, st⟩
theorem HOk.lt (x : HOk P w H h) (e : H a = some o) : a < h.objs.size := (x a o e).lt
theorem HOk.fresh (x : HOk P w H h) (e : h.objs.size ≤ a) : H a = none := by
  cases q : H a with
  | none => rfl
  | some u => exact absurd (Nat.lt_of_lt_of_le (x.lt q) e) (Nat.lt_irrefl _)
theorem HOk.kept (x : HOk P w H h) (k : ∀ b u, h.get? b = some u → h'.get? b = some u) : HOk P w H h' := fun a o e =>
  (x a o e).stay (fun b u _ q => k b u q) (fun _ q => q) fun _ _ q => q
theorem HOk.laid (x : HOk P w H h) (k : ∀ b u, h.get? b = some u → h'.get? b = some u) (hp : h.objs.size ≤ a) (new : ObjOk P w (upd H a o) h' a o) : HOk P w (upd H a o) h' := fun b u e => by
  have hn := x.fresh hp
  by_cases hb : b = a
  · subst hb; rw [upd_same] at e; cases e; exact new
  · rw [upd_ne hb] at e
    exact (x b u e).stay (fun c v _ q => k c v q) (fun c q => by rw [upd_ne (ne_of_none q hn)]; exact q) fun c xs q => by rw [upd_ne (ne_of_none q hn)]; exact q
end
noncomputable def Rd (H : Hp) (a : Addr) (u : HO) : Prop := H a = some u ∨ ∃ o, H a = some (.frz o u)
theorem Rd.of {H : Hp} {a : Addr} {u : HO} (h : H a = some u) : Rd H a u := .inl h
theorem Rd.ok {P : Program} {w : World} {H : Hp} {h : Heap} {a : Addr} {u : HO} (r : Rd H a u) (x : HOk P w H h) : ObjOk P w H h a u := by
  rcases r with r | ⟨o, r⟩
  · exact x a u r
  · obtain ⟨_, q⟩ := x a _ r
    exact q
noncomputable def Mut : Option HO → Prop
  | some (.lst _) => True
  | some (.dK _) => True
  | some (.dT _) => True
  | some (.set _ _) => True
  | some (.ins _ _ _) => True
  | some (.ext _) => True
  | _ => False
section
variable {P : Program} {w : World} {H : Hp} {h h' : Heap} {x e : Addr} {o' : HO}
theorem HOk.write (ok : HOk P w H h) (mu : Mut (H x)) (he : e = x ∨ H e = some (.own x)) (k : ∀ b u, b ≠ e → h.get? b = some u → h'.get? b = some u) (heo : ∃ u, h'.get? e = some u)
    (new : ObjOk P w (upd H x o') h' x o') : HOk P w (upd H x o') h' := fun b u q => by
  have nown : ∀ c y, H c = some (.own y) → c ≠ x := fun c y r z => by subst z; rw [r] at mu; exact mu
  have ntup : ∀ c xs, H c = some (.tup xs) → c ≠ x := fun c xs r z => by subst z; rw [r] at mu; exact mu
  by_cases hb : b = x
  · subst hb; rw [upd_same] at q; cases q; exact new
  · rw [upd_ne hb] at q
    by_cases hbe : b = e
    · have q' : H b = some (.own x) := by
        rcases he with z | z
        · exact absurd (hbe.trans z) hb
        · rw [hbe]; exact z
      rw [q] at q'; cases q'
      obtain ⟨v, hv⟩ := heo
      exact ⟨v, by rw [hbe]; exact hv⟩
    · refine (ok b u q).stay (fun c v hc r => k c v ?_ r) (fun c r => by rw [upd_ne (nown c b r)]; exact r) fun c xs r => by rw [upd_ne (ntup c xs r)]; exact r
      rcases hc with rfl | hc
      · exact hbe
      · rintro rfl
        rcases he with z | z
        · exact nown c b hc z
        · rw [hc] at z; cases z; exact hb rfl
end
structure Un (fs ex : List Addr) (H H' : Hp) (h h' : Heap) : Prop where
  keep : ∀ b o, h.get? b = some o → H b = none → b ∉ fs → b ∉ ex → h'.get? b = some o
  slot : ∀ b o, h.get? b = some o → H b = none → b ∈ fs → b ∉ ex → ∃ sl, h'.get? b = some { o with slots := sl }
  free : ∀ b o, h.get? b = some o → H b = none → b ∉ ex → H' b = none
  there : ∀ b o, h.get? b = some o → b ∉ ex → ∃ o', h'.get? b = some o'
  tups : ∀ b xs, H b = some (.tup xs) → H' b = some (.tup xs)
  frzs : ∀ b o u, H b = some (.frz o u) → H' b = some (.frz o u)
  tbls : ∀ b ps, H b = some (.tbl ps) → ∃ more, H' b = some (.tbl (ps ++ more))
section
variable {fs fs' ex ex' : List Addr} {H H1 H2 : Hp} {h h1 h2 h' : Heap} {a x e : Addr} {o : HO}
theorem Un.any (u : Un fs ex H H1 h h1) {b : Addr} {ob : Obj} (q : h.get? b = some ob) (n : H b = none) (hx : b ∉ ex) : ∃ sl, h1.get? b = some { ob with slots := sl } := by
  by_cases hb : b ∈ fs
  · exact u.slot b ob q n hb hx
  · exact ⟨ob.slots, u.keep b ob q n hb hx⟩
theorem Un.trans (a : Un fs ex H H1 h h1) (b : Un fs ex H1 H2 h1 h2) : Un fs ex H H2 h h2 where
  keep := fun c ob q n hc hx => b.keep c ob (a.keep c ob q n hc hx) (a.free c ob q n hx) hc hx
  slot := fun c ob q n hc hx => by
    obtain ⟨sl, e1⟩ := a.slot c ob q n hc hx
    obtain ⟨sl', e2⟩ := b.slot c _ e1 (a.free c ob q n hx) hc hx
    exact ⟨sl', e2⟩
  free := fun c ob q n hx => by
    obtain ⟨o', e1⟩ := a.there c ob q hx
    exact b.free c o' e1 (a.free c ob q n hx) hx
  there := fun c ob q hx => by
    obtain ⟨o', e1⟩ := a.there c ob q hx
    exact b.there c o' e1 hx
  tups := fun c xs q => b.tups c xs (a.tups c xs q)
  frzs := fun c ob xs q => b.frzs c ob xs (a.frzs c ob xs q)
  tbls := fun c ps q => by
    obtain ⟨m1, e1⟩ := a.tbls c ps q
    obtain ⟨m2, e2⟩ := b.tbls c _ e1
    exact ⟨m1 ++ m2, by rw [e2, Array.append_assoc]⟩
theorem Un.kept (k : ∀ b u, h.get? b = some u → h'.get? b = some u) : Un fs ex H H h h' :=
  ⟨fun b ob q _ _ _ => k b ob q, fun b ob q _ _ _ => ⟨ob.slots, k b ob q⟩, fun _ _ _ n _ => n, fun b ob q _ => ⟨ob, k b ob q⟩, fun _ _ q => q, fun _ _ _ q => q, fun _ ps q => ⟨#[], by rw [q]; simp⟩⟩
theorem Un.refl : Un fs ex H H h h := Un.kept fun _ _ q => q
theorem Un.laid (k : ∀ b u, h.get? b = some u → h'.get? b = some u) (hp : h.objs.size ≤ a) (hn : H a = none) : Un fs ex H (upd H a o) h h' where
  keep := fun b u q _ _ _ => k b u q
  slot := fun b u q _ _ _ => ⟨u.slots, k b u q⟩
  free := fun b u q n _ => by rw [upd_ne (Nat.ne_of_lt (Nat.lt_of_lt_of_le (Heap.lt_size q) hp))]; exact n
  there := fun b u q _ => ⟨u, k b u q⟩
  tups := fun b xs q => by rw [upd_ne (ne_of_none q hn)]; exact q
  frzs := fun b u xs q => by rw [upd_ne (ne_of_none q hn)]; exact q
  tbls := fun b ps q => ⟨#[], by rw [upd_ne (ne_of_none q hn), q]; simp⟩
theorem Un.write (mu : Mut (H x)) (he : e = x ∨ H e = some (.own x)) (k : ∀ b u, b ≠ e → h.get? b = some u → h'.get? b = some u) (heo : ∃ u, h'.get? e = some u) : Un fs ex H (upd H x o) h h' := by
  have hx : ∀ b, H b = none → b ≠ x := fun b n z => by subst z; rw [n] at mu; exact mu
  have hb : ∀ b, H b = none → b ≠ e := fun b n z => by
    subst z
    rcases he with r | r
    · exact hx b n r
    · rw [n] at r; cases r
  have hm : ∀ b u, H b = some u → ¬ Mut (some u) → b ≠ x := fun b u q nm z => by subst z; rw [q] at mu; exact nm mu
  refine ⟨fun b u q n _ _ => k b u (hb b n) q, fun b u q n _ _ => ⟨u.slots, k b u (hb b n) q⟩, fun b u q n _ => by rw [upd_ne (hx b n)]; exact n, fun b u q _ => ?_,
    fun b xs q => by rw [upd_ne (hm b _ q fun z => z)]; exact q, fun b u xs q => by rw [upd_ne (hm b _ q fun z => z)]; exact q, fun b ps q => ⟨#[], by rw [upd_ne (hm b _ q fun z => z), q]; simp⟩⟩
  by_cases hbe : b = e
  · subst hbe; exact heo
  · exact ⟨u, k b u hbe q⟩
theorem Un.mono (u : Un fs ex H H1 h h1) (hs : ∀ b ∈ fs, b ∈ fs') (hx : ∀ b ∈ ex, b ∈ ex') : Un fs' ex' H H1 h h1 :=
  ⟨fun b ob q n hb he => u.keep b ob q n (fun z => hb (hs b z)) fun z => he (hx b z), fun _ _ q n _ he => u.any q n fun z => he (hx _ z), fun b ob q n he => u.free b ob q n fun z => he (hx b z), fun b ob q he => u.there b ob q fun z => he (hx b z), u.tups, u.frzs, u.tbls⟩
end
noncomputable def trk (h : Heap) (H : Hp) : List Addr := (List.range h.objs.size).filter fun a => (H a).isSome
noncomputable def hidT (h : Heap) (H : Hp) : Heap := PySem.W.hideAll h (trk h H)
theorem hidT_size (h : Heap) (H : Hp) : (hidT h H).objs.size = h.objs.size := PySem.W.hideAll_size _ _
theorem hidT_get {h : Heap} {H : Hp} {b : Addr} {o : Obj} (e : h.get? b = some o) (n : H b = none) : (hidT h H).get? b = some o :=
  PySem.W.hideAll_get _ e fun hm => by
    have q : (H b).isSome = true := (List.mem_filter.mp hm).2
    rw [n] at q; simp at q
theorem of_hidT {h : Heap} {H : Hp} {b : Addr} {o : Obj} (e : (hidT h H).get? b = some o) : h.get? b = some o ∧ H b = none := by
  have e' : h.get? b = some o := PySem.W.of_hideAll (trk h H) e
  refine ⟨e', ?_⟩
  cases q : H b with
  | none => rfl
  | some x =>
    have hm : b ∈ trk h H := List.mem_filter.mpr ⟨List.mem_range.mpr (Heap.lt_size e'), by simp [q]⟩
    have z : (hidT h H).get? b = none := PySem.W.hideAll_none (trk h H) hm
    rw [z] at e; cases e
noncomputable def allNews (g h : Heap) (L : Addr) : List (Addr × Obj) := (List.range h.objs.size).filterMap fun a => if a = L ∨ (g.get? a).isSome = true then none else (h.get? a).map fun o => (a, o)
noncomputable def rest (g h : Heap) (L d : Addr) : List (Addr × Obj) := (allNews g h L).filter fun p => decide (p.1 ≠ d)
end L2
namespace L2
open PySem PySem.Spec PyProof.Rows
structure Mod (K : PySem.W.Frag) (mg : Str → Option Value) (base : Heap) : Prop where
  kin : K.In base
  glob : base.Ns mainGlobals mg
  blt : ∃ mb, base.Ns builtinsNs mb ∧ ∀ x : Str, x ≠ "__name__" → mb x = bootBuiltins x
  nolimit : base.NoLimit
  seer : base.NoSeer
structure Cx where
  prog : Program
  w : World
  K : PySem.W.Frag
  mg : Str → Option Value
  base : Heap
  A : Around
  N : List Str
  s₀ : Shared
  H₀ : Hp
  env : Env
  outer : List Env
  stack : List Env
  ex : List Addr
  fn : Str → Bool
  calm : Bool
  pn : List (Addr × Obj)
  xe : Value → Shared → Prop
def frs (l : List Env) : List Addr := l.filterMap (·.frame)
abbrev Cx.fs (X : Cx) : List Addr := frs X.outer
noncomputable def Vis (sc : Scope) (x : Str) : Prop := sc.names.lookup x = some .local ∨ sc.names.lookup x = some .cell ∨ sc.names.lookup x = some .free
noncomputable def Loc (sc : Scope) (x : Str) : Prop := sc.names.lookup x = some .local ∨ sc.names.lookup x = some .cell
noncomputable def Look (env : Env) (h : Heap) (m : Str → Option Value) (x : Str) (u : Value) : Prop :=
  (env.kindOf x = some .local ∧ m x = some u) ∨ ((env.kindOf x = some .cell ∨ env.kindOf x = some .free) ∧ ∃ c, env.cells.lookup x = some c ∧ h.IsCell c (some u))
structure Cx.Ok (X : Cx) : Prop where
  mod : Mod X.K X.mg X.base
  kind : X.env.scope.kind = .function
  glob : X.env.globals = mainGlobals
  blt : X.env.builtins = builtinsNs
  above : X.s₀.heap.objs.size ≤ X.env.locals
  inj : ∀ x y c, X.env.cells.lookup x = some c → X.env.cells.lookup y = some c → x = y
  has : ∀ x, (X.env.kindOf x = some .cell ∨ X.env.kindOf x = some .free) → ∃ c, X.env.cells.lookup x = some c
  cab : ∀ x c, X.fn x = true → X.env.cells.lookup x = some c → X.s₀.heap.objs.size ≤ c
  hd : X.calm = true → X.A.handled = none
  frames : X.A.frames = some X.stack
  stk : X.stack = X.outer ∨ (X.stack = X.env :: X.outer ∧ X.env.frame = some X.env.locals)
  exf : ∀ b ∈ X.ex, b ≠ X.env.locals ∧ ∀ x c, X.env.cells.lookup x = some c → c ≠ b
  bs : ∀ b o, X.base.get? b = some o → X.s₀.heap.get? b = some o ∧ X.H₀ b = none
  bsz : X.base.objs.size ≤ X.s₀.heap.objs.size
  noex : ∀ b o, X.base.get? b = some o → b ∉ X.ex
  exfs : ∀ b ∈ X.ex, b ∉ X.fs
  funs : X.s₀.heap.FunFrames X.base X.outer
  frf : ∀ b ∈ X.fs, X.H₀ b = none
structure Inv (X : Cx) (pins : List (Addr × Obj)) (σ : List (Option V)) (H : Hp) (s : Shared) : Prop where
  ok : X.Ok
  os : s.os = X.s₀.os
  bare : AllBare s.gens
  base : Un X.fs X.ex X.H₀ H X.s₀.heap s.heap
  loc : ∃ m, s.heap.Ns X.env.locals m ∧ ∀ (i : Nat) (x : Str) (v : V), X.N[i]? = some x → σ[i]? = some (some v) → Vis X.env.scope x → ∃ u, RelV v u ∧ Look X.env s.heap m x u
  cell : ∀ x c, X.env.cells.lookup x = some c → ∃ v, s.heap.IsCell c v
  free : H X.env.locals = none
  freeC : ∀ x c, X.env.cells.lookup x = some c → H c = none
  pin : ∀ p ∈ X.pn ++ pins, s.heap.get? p.1 = some p.2 ∧ H p.1 = none ∧ p.1 ≠ X.env.locals ∧ p.1 ∉ X.fs ∧ ∀ v, p.2.data ≠ .cell v
  hok : HOk X.prog X.w H s.heap
  len : σ.length = X.N.length
section
variable {X : Cx} {pins : List (Addr × Obj)} {σ : List (Option V)} {H H' : Hp} {s : Shared} {h' : Heap}
theorem Cx.Ok.nofr (ok : X.Ok) {b : Addr} {o : Obj} (e : X.base.get? b = some o) : b ∉ X.fs := fun hb => by
  have := (ok.funs.mem hb).1
  rw [e] at this; cases this
theorem Inv.bs (I : Inv X pins σ H s) : ∀ b o, X.base.get? b = some o → s.heap.get? b = some o ∧ H b = none := fun b o e =>
  ⟨I.base.keep b o (I.ok.bs b o e).1 (I.ok.bs b o e).2 (I.ok.nofr e) (I.ok.noex b o e), I.base.free b o (I.ok.bs b o e).1 (I.ok.bs b o e).2 (I.ok.noex b o e)⟩
theorem Inv.bk (I : Inv X pins σ H s) : ∀ b o, X.base.get? b = some o → s.heap.get? b = some o := fun b o e => (I.bs b o e).1
theorem Inv.mod (I : Inv X pins σ H s) : Mod X.K X.mg X.base := I.ok.mod
theorem Inv.kIn (I : Inv X pins σ H s) : X.K.In s.heap := I.ok.mod.kin.keeps I.bk
theorem Inv.nolimit (I : Inv X pins σ H s) : s.heap.NoLimit := I.ok.mod.nolimit.keeps I.bk
theorem Inv.fr (I : Inv X pins σ H s) : ∃ m, Fr X.base X.env.locals s.heap m :=
  let ⟨m, hn, _⟩ := I.loc
  ⟨m, hn, I.bk, Nat.le_trans I.ok.bsz I.ok.above⟩
theorem Inv.lt (I : Inv X pins σ H s) : X.env.locals < s.heap.objs.size := let ⟨_, hn, _⟩ := I.loc; hn.lt
theorem Inv.sz (I : Inv X pins σ H s) : X.s₀.heap.objs.size ≤ s.heap.objs.size := Nat.le_trans I.ok.above (Nat.le_of_lt I.lt)
theorem Inv.nofs (I : Inv X pins σ H s) {a : Addr} (h : s.heap.objs.size ≤ a) : a ∉ X.fs := fun hb => by
  obtain ⟨_, o, ho, _⟩ := I.ok.funs.mem hb
  exact absurd (Nat.lt_of_lt_of_le (Heap.lt_size ho) (Nat.le_trans I.sz h)) (Nat.lt_irrefl _)
theorem Inv.cne (I : Inv X pins σ H s) : ∀ x c, X.env.cells.lookup x = some c → c ≠ X.env.locals := fun x c e z => by
  obtain ⟨v, o, ho, hd⟩ := I.cell x c e
  obtain ⟨m, ⟨o', es, ep, ho', hd', _⟩, _⟩ := I.loc
  rw [z, ho'] at ho; cases ho; rw [hd'] at hd; cases hd
theorem Inv.funs (I : Inv X pins σ H s) : s.heap.FunFrames X.base X.outer := by
  have all : ∀ (l : List Env), (∀ b ∈ frs l, b ∈ X.fs) → X.s₀.heap.FunFrames X.base l → s.heap.FunFrames X.base l := by
    intro l
    induction l with
    | nil => intro _ _; trivial
    | cons env r ih =>
      intro hs hl
      obtain ⟨hk, ⟨L, o, hf, hn, ho, hd⟩, hr⟩ := hl
      have hL : L ∈ X.fs := hs L (by unfold frs; rw [List.filterMap_cons, hf]; exact List.mem_cons_self)
      obtain ⟨sl, e⟩ := I.base.slot L o ho (I.ok.frf L hL) hL fun z => I.ok.exfs L z hL
      exact ⟨hk, ⟨L, _, hf, hn, e, hd⟩, ih (fun b hb => hs b (by unfold frs; rw [List.filterMap_cons, hf]; exact List.mem_cons_of_mem _ hb)) hr⟩
  exact all X.outer (fun _ hb => hb) I.ok.funs
theorem Inv.stack (I : Inv X pins σ H s) : s.heap.FunFrames X.base X.stack := by
  rcases I.ok.stk with e | ⟨e, hf⟩
  · rw [e]; exact I.funs
  · rw [e]
    obtain ⟨m, hn, _⟩ := I.loc
    refine .cons (by rw [I.ok.kind]; decide) hf hn ?_ I.funs
    exact Heap.get?_none_of_le (Nat.le_trans I.ok.bsz I.ok.above)
theorem Inv.stkSub (I : Inv X pins σ H s) : ∀ b ∈ frs X.stack, b ∈ X.env.locals :: X.fs := fun b hb => by
  rcases I.ok.stk with e | ⟨e, hf⟩
  · rw [e] at hb; exact List.mem_cons_of_mem _ hb
  · rw [e] at hb
    unfold frs at hb
    rw [List.filterMap_cons, hf] at hb
    exact hb
theorem Inv.stkFree (I : Inv X pins σ H s) : ∀ b ∈ frs X.stack, H b = none := fun b hb => by
  rcases List.mem_cons.mp (I.stkSub b hb) with e | hb
  · rw [e]; exact I.free
  · obtain ⟨_, o, ho, _⟩ := I.ok.funs.mem hb
    exact I.base.free b o ho (I.ok.frf b hb) fun z => I.ok.exfs b z hb
theorem Inv.step {g' : Array GenState} {t' : Nat} {d' : Drawn} {ch : List Addr} (I : Inv X pins σ H s)
    (hch : ∀ b ∈ ch, (b ∈ X.ex ∨ X.s₀.heap.objs.size ≤ b) ∧ b ≠ X.env.locals ∧ (∀ x c, X.env.cells.lookup x = some c → c ≠ b) ∧ ∀ p ∈ X.pn ++ pins, p.1 ≠ b)
    (keep : ∀ b o, b ≠ X.env.locals → b ∉ X.fs → b ∉ ch → s.heap.get? b = some o → H b = none → h'.get? b = some o)
    (slot : ∀ b o, b ≠ X.env.locals → b ∈ X.fs → b ∉ ch → s.heap.get? b = some o → H b = none → ∃ sl, h'.get? b = some { o with slots := sl }) (free : ∀ b o, b ∉ ch → s.heap.get? b = some o → H b = none → H' b = none)
    (there : ∀ b o, b ∉ ch → s.heap.get? b = some o → ∃ o', h'.get? b = some o')
    (tups : ∀ b xs, H b = some (.tup xs) → H' b = some (.tup xs)) (frzs : ∀ b o u, H b = some (.frz o u) → H' b = some (.frz o u)) (tbls : ∀ b ps, H b = some (.tbl ps) → ∃ more, H' b = some (.tbl (ps ++ more)))
    (ns : ∀ m, s.heap.Ns X.env.locals m → h'.Ns X.env.locals m) (hok : HOk X.prog X.w H' h') (hg : AllBare g') :
    Inv X pins σ H' { s with heap := h', gens := g', drawn := d', toks := t' } := by
  have neL : ∀ b o, X.s₀.heap.get? b = some o → b ≠ X.env.locals := fun b o e => Nat.ne_of_lt (Nat.lt_of_lt_of_le (Heap.lt_size e) I.ok.above)
  have neC : ∀ b o, X.s₀.heap.get? b = some o → b ∉ X.ex → b ∉ ch := fun b o e hx hb => by
    rcases (hch b hb).1 with z | z
    · exact hx z
    · exact absurd (Nat.lt_of_lt_of_le (Heap.lt_size e) z) (Nat.lt_irrefl _)
  have cellK : ∀ x c, X.env.cells.lookup x = some c → ∀ v, s.heap.IsCell c v → h'.IsCell c v := fun x c e v ⟨o, ho, hd⟩ => by
    have nch : c ∉ ch := fun z => (hch c z).2.2.1 x c e rfl
    by_cases hc : c ∈ X.fs
    · obtain ⟨sl, q⟩ := slot c o (I.cne x c e) hc nch ho (I.freeC x c e)
      exact ⟨_, q, hd⟩
    · exact ⟨o, keep c o (I.cne x c e) hc nch ho (I.freeC x c e), hd⟩
  refine ⟨I.ok, I.os, hg, ⟨fun b o e n hb hx => ?_, fun b o e n hb hx => ?_, fun b o e n hx => ?_, fun b o e hx => ?_, fun b xs e => tups b xs (I.base.tups b xs e), fun b o xs e => frzs b o xs (I.base.frzs b o xs e), fun b ps e => ?_⟩, ?_, fun x c e => ?_, ?_, fun x c e => ?_, fun p hp => ?_, hok, I.len⟩
  · exact keep b o (neL b o e) hb (neC b o e hx) (I.base.keep b o e n hb hx) (I.base.free b o e n hx)
  · obtain ⟨sl, e1⟩ := I.base.slot b o e n hb hx
    obtain ⟨sl', e2⟩ := slot b _ (neL b o e) hb (neC b o e hx) e1 (I.base.free b o e n hx)
    exact ⟨sl', e2⟩
  · obtain ⟨o', e1⟩ := I.base.there b o e hx
    exact free b o' (neC b o e hx) e1 (I.base.free b o e n hx)
  · obtain ⟨o', e1⟩ := I.base.there b o e hx
    exact there b o' (neC b o e hx) e1
  · obtain ⟨m1, e1⟩ := I.base.tbls b ps e
    obtain ⟨m2, e2⟩ := tbls b _ e1
    exact ⟨m1 ++ m2, by rw [e2, Array.append_assoc]⟩
  · obtain ⟨m, hn, hl⟩ := I.loc
    refine ⟨m, ns m hn, fun i x v e1 e2 e3 => ?_⟩
    obtain ⟨u, r, l⟩ := hl i x v e1 e2 e3
    refine ⟨u, r, ?_⟩
    rcases l with l | ⟨k, c, e, z⟩
    · exact .inl l
    · exact .inr ⟨k, c, e, cellK x c e _ z⟩
  · obtain ⟨v, z⟩ := I.cell x c e
    exact ⟨v, cellK x c e v z⟩
  · obtain ⟨m, ⟨o, _, _, ho, _⟩, _⟩ := I.loc
    exact free _ o (fun z => (hch _ z).2.1 rfl) ho I.free
  · obtain ⟨v, o, ho, hd⟩ := I.cell x c e
    exact free c o (fun z => (hch c z).2.2.1 x c e rfl) ho (I.freeC x c e)
  · obtain ⟨e, n, ne, nf, d⟩ := I.pin p hp
    have nch : p.1 ∉ ch := fun z => (hch p.1 z).2.2.2 p hp rfl
    exact ⟨keep p.1 p.2 ne nf nch e n, free p.1 p.2 nch e n, ne, nf, d⟩
theorem Inv.un {t' : Nat} (I : Inv X pins σ H s) (u : Un X.fs [] H H' s.heap h') (hok : HOk X.prog X.w H' h') : Inv X pins σ H' { s with heap := h', toks := t' } := by
  obtain ⟨m, ⟨o, es, ep, ho, r⟩, _⟩ := id I.loc
  obtain ⟨sl, hL⟩ := u.any ho I.free (by simp)
  exact I.step (g' := s.gens) (d' := s.drawn) (ch := []) (fun _ z => nomatch z) (fun b o _ hb _ e n => u.keep b o e n hb (by simp)) (fun b o _ hb _ e n => u.slot b o e n hb (by simp)) (fun b o _ e n => u.free b o e n (by simp)) (fun b o _ e => u.there b o e (by simp)) u.tups u.frzs u.tbls (fun m' hm => by
    obtain ⟨o', es', ep', ho', r'⟩ := hm
    rw [ho] at ho'; cases ho'
    exact ⟨_, es', ep', hL, r'⟩) hok I.bare
theorem Inv.call {g' : Array GenState} {t' : Nat} {d' : Drawn} {ch : List Addr} (I : Inv X pins σ H s) (u : Un (frs X.stack) ch H H' s.heap h') (hok : HOk X.prog X.w H' h') (hg : AllBare g')
    (hch : ∀ b ∈ ch, (b ∈ X.ex ∨ X.s₀.heap.objs.size ≤ b) ∧ b ≠ X.env.locals ∧ (∀ x c, X.env.cells.lookup x = some c → c ≠ b) ∧ ∀ p ∈ X.pn ++ pins, p.1 ≠ b) :
    Inv X pins σ H' { s with heap := h', gens := g', drawn := d', toks := t' } := by
  obtain ⟨m, ⟨o, es, ep, ho, r⟩, _⟩ := id I.loc
  obtain ⟨sl, hL⟩ := u.any ho I.free fun z => (hch _ z).2.1 rfl
  exact I.step (ch := ch) hch (fun b o hL hb hc e n => u.keep b o e n (fun z => (List.mem_cons.mp (I.stkSub b z)).elim hL hb) hc) (fun b o _ _ hc e n => u.any e n hc) (fun b o hc e n => u.free b o e n hc) (fun b o hc e => u.there b o e hc) u.tups u.frzs u.tbls (fun m' hm => by
    obtain ⟨o', es', ep', ho', r'⟩ := hm
    rw [ho] at ho'; cases ho'
    exact ⟨_, es', ep', hL, r'⟩) hok hg
theorem Inv.turned {t' : Nat} {it : Addr} (I : Inv X pins σ H s) (k : ∀ b o, b ≠ it → s.heap.get? b = some o → h'.get? b = some o) (hn : H it = none) (hL : it ≠ X.env.locals)
    (h1 : it ∈ X.ex ∨ X.s₀.heap.objs.size ≤ it) (h2 : ∀ x c, X.env.cells.lookup x = some c → c ≠ it) (h3 : ∀ p ∈ X.pn ++ pins, p.1 ≠ it) : Inv X pins σ H { s with heap := h', toks := t' } := by
  have nit : ∀ b u, H b = some u → b ≠ it := fun b u e z => by rw [z, hn] at e; cases e
  refine I.step (g' := s.gens) (d' := s.drawn) (ch := [it]) (fun b hb => ?_) (fun b o _ _ hc e _ => k b o (fun z => hc (by simp [z])) e) (fun b o _ _ hc e _ => ⟨o.slots, k b o (fun z => hc (by simp [z])) e⟩) (fun _ _ _ _ n => n)
    (fun b o hc e => ⟨o, k b o (fun z => hc (by simp [z])) e⟩) (fun _ _ e => e) (fun _ _ _ e => e) (fun b ps e => ⟨#[], by rw [e]; simp⟩) (fun m hm => ?_) (fun b u e => ?_) I.bare
  · have e : b = it := by simpa using hb
    subst e
    exact ⟨h1, hL, h2, h3⟩
  · obtain ⟨o, es, ep, ho, r⟩ := hm
    exact ⟨o, es, ep, k _ o (Ne.symm hL) ho, r⟩
  · refine (I.hok b u e).stay (fun c v hc q => k c v ?_ q) (fun _ q => q) fun _ _ q => q
    rcases hc with z | z
    · rw [z]; exact nit b u e
    · exact nit c _ z
theorem Inv.tok (I : Inv X pins σ H s) (t : Nat) : Inv X pins σ H { s with toks := t } := I.un (h' := s.heap) (t' := t) Un.refl I.hok
theorem Inv.kept {t' : Nat} (I : Inv X pins σ H s) (k : ∀ b u, s.heap.get? b = some u → h'.get? b = some u) : Inv X pins σ H { s with heap := h', toks := t' } := I.un (Un.kept k) (I.hok.kept k)
theorem Inv.laid {a : Addr} {o : HO} {t' : Nat} (I : Inv X pins σ H s) (k : ∀ b u, s.heap.get? b = some u → h'.get? b = some u) (hp : s.heap.objs.size ≤ a) (new : ObjOk X.prog X.w (upd H a o) h' a o) :
    Inv X pins σ (upd H a o) { s with heap := h', toks := t' } := I.un (Un.laid k hp (I.hok.fresh hp)) (I.hok.laid k hp new)
theorem Inv.write {x e : Addr} {o : HO} {t' : Nat} (I : Inv X pins σ H s) (mu : Mut (H x)) (he : e = x ∨ H e = some (.own x)) (k : ∀ b u, b ≠ e → s.heap.get? b = some u → h'.get? b = some u) (heo : ∃ u, h'.get? e = some u)
    (new : ObjOk X.prog X.w (upd H x o) h' x o) : Inv X pins σ (upd H x o) { s with heap := h', toks := t' } := I.un (Un.write mu he k heo) (I.hok.write mu he k heo new)
theorem Inv.weak {σ' : List (Option V)} (I : Inv X pins σ H s) (hl : σ'.length = σ.length) (w : ∀ (i : Nat) v, σ'[i]? = some (some v) → σ[i]? = some (some v)) : Inv X pins σ' H s :=
  ⟨I.ok, I.os, I.bare, I.base, let ⟨m, hn, hl'⟩ := I.loc; ⟨m, hn, fun i x v e1 e2 e3 => hl' i x v e1 (w i v e2) e3⟩, I.cell, I.free, I.freeC, I.pin, I.hok, hl.trans I.len⟩
theorem Inv.pins_of {pins' : List (Addr × Obj)} (I : Inv X pins σ H s) (h : ∀ p ∈ pins', s.heap.get? p.1 = some p.2 ∧ H p.1 = none ∧ p.1 ≠ X.env.locals ∧ p.1 ∉ X.fs ∧ ∀ v, p.2.data ≠ .cell v) : Inv X pins' σ H s :=
  ⟨I.ok, I.os, I.bare, I.base, I.loc, I.cell, I.free, I.freeC, fun p hp => (List.mem_append.mp hp).elim (fun z => I.pin p (List.mem_append_left _ z)) (h p), I.hok, I.len⟩
theorem nodup_ix {N : List Str} (hN : N.Nodup) {i j : Nat} {x : Str} (a : N[i]? = some x) (b : N[j]? = some x) : i = j := by
  obtain ⟨h1, e1⟩ := List.getElem?_eq_some_iff.mp a
  obtain ⟨h2, e2⟩ := List.getElem?_eq_some_iff.mp b
  exact (List.getElem_inj hN).mp (e1.trans e2.symm)
theorem store_ok2 {M : Model} {A : Around} {E : Value → Shared → Prop} {i : Nat} {x : Str} {v : V} {u : Value} {Q : Unit → Shared → Prop} (I : Inv X pins σ H s) (hN : X.N.Nodup) (hi : X.N[i]? = some x) (hx : Loc X.env.scope x) (r : RelV v u)
    (h : ∀ s', Inv X pins (σ.set i (some v)) H s' → (∃ a, Heap.SameBut a s.heap s'.heap ∧ (a = X.env.locals ∨ X.env.cells.lookup x = some a)) → Q () s') (hf : X.fn x = true ∨ X.env.scope.names.lookup x = some .local := by first | exact .inl rfl | exact .inr rfl | assumption) : wpAny M A (storeName X.env x u) Q E s := by
  obtain ⟨m, hn, hl⟩ := id I.loc
  have hcls : (X.env.scope.kind == .class || (X.env.scope.kind == .module && X.env.locals != X.env.globals)) = false := by rw [I.ok.kind]; rfl
  have hiσ : i < σ.length := by rw [I.len]; exact (List.getElem?_eq_some_iff.mp hi).1
  have cne := I.cne
  have tracked : ∀ {a : Addr} {h' : Heap}, (∃ o, s.heap.get? a = some o ∧ H a = none) → Heap.SameBut a s.heap h' → HOk X.prog X.w H h' := fun {a h'} ha hs b ob e => by
    obtain ⟨_, _, hfree⟩ := ha
    refine (I.hok b ob e).stay (fun c w' hc q => (hs.2 c ?_).trans q) (fun _ q => q) fun _ _ q => q
    rintro rfl
    rcases hc with rfl | hc
    · rw [hfree] at e; cases e
    · rw [hfree] at hc; cases hc
  rcases hx with hk | hk
  · refine wpAny_storeName_local hk hn (fun h' hn' hs => ?_) hcls
    obtain ⟨oL, _, _, hoL, _⟩ := id hn
    refine h _ ⟨I.ok, I.os, I.bare, ⟨fun b o e n hb hx => ?_, fun b o e n hb hx => ?_, I.base.free, fun b o e hx => ?_, I.base.tups, I.base.frzs, I.base.tbls⟩, ⟨_, hn', fun j y v' e1 e2 e3 => ?_⟩, fun y c e => ?_, I.free, I.freeC, fun p hp => ?_, tracked ⟨oL, hoL, I.free⟩ hs, by simpa using I.len⟩ ⟨_, hs, .inl rfl⟩
    · exact (hs.2 b (Nat.ne_of_lt (Nat.lt_of_lt_of_le (Heap.lt_size e) I.ok.above))).trans (I.base.keep b o e n hb hx)
    · obtain ⟨sl, e1⟩ := I.base.slot b o e n hb hx
      exact ⟨sl, (hs.2 b (Nat.ne_of_lt (Nat.lt_of_lt_of_le (Heap.lt_size e) I.ok.above))).trans e1⟩
    · obtain ⟨o', e1⟩ := I.base.there b o e hx
      exact ⟨o', (hs.2 b (Nat.ne_of_lt (Nat.lt_of_lt_of_le (Heap.lt_size e) I.ok.above))).trans e1⟩
    · by_cases hj : j = i
      · subst hj
        rw [hi] at e1; cases e1
        rw [List.getElem?_set_self hiσ] at e2
        cases e2
        exact ⟨u, r, .inl ⟨hk, by simp⟩⟩
      · rw [List.getElem?_set_ne (Ne.symm hj)] at e2
        obtain ⟨u', r', q⟩ := hl j y v' e1 e2 e3
        refine ⟨u', r', ?_⟩
        rcases q with ⟨k, e⟩ | ⟨k, c, e, z⟩
        · refine .inl ⟨k, ?_⟩
          have : y ≠ x := fun e => hj (nodup_ix hN e1 (e ▸ hi))
          simp [this, e]
        · exact .inr ⟨k, c, e, z.sameBut hs (cne y c e)⟩
    · obtain ⟨w', z⟩ := I.cell y c e
      exact ⟨w', z.sameBut hs (cne y c e)⟩
    · obtain ⟨e, n, ne, nf, d⟩ := I.pin p hp
      exact ⟨(hs.2 p.1 ne).trans e, n, ne, nf, d⟩
  · have hfn : X.fn x = true := by
      rcases hf with z | z
      · exact z
      · rw [z] at hk; cases hk
    obtain ⟨c, hc⟩ := I.ok.has x (.inl hk)
    obtain ⟨w', z⟩ := I.cell x c hc
    refine wpAny_storeName_cell I.ok.kind hk hc z (fun h' hc' hs => ?_)
    obtain ⟨oc, hoc, hocd⟩ := id z
    refine h { s with heap := h' } ⟨I.ok, I.os, I.bare, ⟨fun b o e n hb hx => ?_, fun b o e n hb hx => ?_, I.base.free, fun b o e hx => ?_, I.base.tups, I.base.frzs, I.base.tbls⟩, ⟨m, hn.sameBut hs (Ne.symm (cne x c hc)), fun j y v' e1 e2 e3 => ?_⟩, fun y c' e => ?_, I.free, I.freeC, fun p hp => ?_, tracked ⟨oc, hoc, I.freeC x c hc⟩ hs, by simpa using I.len⟩ ⟨c, hs, .inr hc⟩
    · exact (hs.2 b (Nat.ne_of_lt (Nat.lt_of_lt_of_le (Heap.lt_size e) (I.ok.cab x c hfn hc)))).trans (I.base.keep b o e n hb hx)
    · obtain ⟨sl, e1⟩ := I.base.slot b o e n hb hx
      exact ⟨sl, (hs.2 b (Nat.ne_of_lt (Nat.lt_of_lt_of_le (Heap.lt_size e) (I.ok.cab x c hfn hc)))).trans e1⟩
    · obtain ⟨o', e1⟩ := I.base.there b o e hx
      exact ⟨o', (hs.2 b (Nat.ne_of_lt (Nat.lt_of_lt_of_le (Heap.lt_size e) (I.ok.cab x c hfn hc)))).trans e1⟩
    · by_cases hj : j = i
      · subst hj
        rw [hi] at e1; cases e1
        rw [List.getElem?_set_self hiσ] at e2
        cases e2
        exact ⟨u, r, .inr ⟨.inl hk, c, hc, hc'⟩⟩
      · rw [List.getElem?_set_ne (Ne.symm hj)] at e2
        obtain ⟨u', r', q⟩ := hl j y v' e1 e2 e3
        refine ⟨u', r', ?_⟩
        rcases q with q | ⟨k, c', e, z'⟩
        · exact .inl q
        · refine .inr ⟨k, c', e, z'.sameBut hs ?_⟩
          rintro rfl
          exact hj (nodup_ix hN e1 (I.ok.inj _ _ _ e hc ▸ hi))
    · by_cases hcc : c' = c
      · subst hcc; exact ⟨_, hc'⟩
      · obtain ⟨w2, z2⟩ := I.cell y c' e
        exact ⟨w2, z2.sameBut hs hcc⟩
    · obtain ⟨e, n, ne, nf, d⟩ := I.pin p hp
      refine ⟨(hs.2 p.1 ?_).trans e, n, ne, nf, d⟩
      intro q
      rw [q, hoc] at e
      have q' : oc = p.2 := Option.some.inj e
      exact d w' (by rw [← q']; exact hocd)
theorem store_ok {M : Model} {A : Around} {E : Value → Shared → Prop} {i : Nat} {x : Str} {v : V} {u : Value} {Q : Unit → Shared → Prop} (I : Inv X pins σ H s) (hN : X.N.Nodup) (hi : X.N[i]? = some x) (hx : Loc X.env.scope x) (r : RelV v u)
    (h : ∀ s', Inv X pins (σ.set i (some v)) H s' → Q () s') (hf : X.fn x = true ∨ X.env.scope.names.lookup x = some .local := by first | exact .inl rfl | exact .inr rfl | assumption) : wpAny M A (storeName X.env x u) Q E s :=
  store_ok2 I hN hi hx r (fun s' I' _ => h s' I') hf
theorem Inv.call' {s' : Shared} {ch : List Addr} (I : Inv X pins σ H s) (ho : s'.os = s.os) (u : Un (frs X.stack) ch H H' s.heap s'.heap) (hok : HOk X.prog X.w H' s'.heap) (hg : AllBare s'.gens)
    (hch : ∀ b ∈ ch, (b ∈ X.ex ∨ X.s₀.heap.objs.size ≤ b) ∧ b ≠ X.env.locals ∧ (∀ x c, X.env.cells.lookup x = some c → c ≠ b) ∧ ∀ p ∈ X.pn ++ pins, p.1 ≠ b) : Inv X pins σ H' s' := by
  obtain ⟨h', g', d', t', o'⟩ := s'
  have e : o' = s.os := ho
  subst e
  exact I.call (g' := g') (t' := t') (d' := d') u hok hg hch
end
abbrev XK := Value → Option Addr → Hp → Prop
abbrev St := List (Option V)
abbrev VK := V → Hp → Prop
abbrev TE := St → Hp → VK → Prop
abbrev TT := St → Hp → (Bool → Hp → Prop) → Prop
abbrev TA := St → Hp → (List V → Hp → Prop) → Prop
structure Ends where
  nx : St → Hp → Prop
  rt : VK
  bk : St → Hp → Prop := fun _ _ => False
  ct : St → Hp → Prop := fun _ _ => False
abbrev TS := Ends → St → Hp → Prop
noncomputable def EP (X : Cx) (pins : List (Addr × Obj)) (σ : St) (Q : VK) (u : Value) (s' : Shared) : Prop := ∃ v H', Inv X pins σ H' s' ∧ RelV v u ∧ Q v H'
noncomputable def TP (X : Cx) (pins : List (Addr × Obj)) (σ : St) (Q : Bool → Hp → Prop) (b : Bool) (s' : Shared) : Prop := ∃ H', Inv X pins σ H' s' ∧ Q b H'
noncomputable def AP (X : Cx) (pins : List (Addr × Obj)) (σ : St) (Q : List V → Hp → Prop) (us : List Value) (s' : Shared) : Prop := ∃ vs H', Inv X pins σ H' s' ∧ Vals vs us ∧ Q vs H'
noncomputable def SP (X : Cx) (pins : List (Addr × Obj)) (D : Ends) (f : Flow) (s' : Shared) : Prop :=
  match f with
  | .next => ∃ σ' H', Inv X pins σ' H' s' ∧ D.nx σ' H'
  | .brk => ∃ σ' H', Inv X pins σ' H' s' ∧ D.bk σ' H'
  | .cont => ∃ σ' H', Inv X pins σ' H' s' ∧ D.ct σ' H'
  | .ret u => ∃ v σ' H', Inv X pins σ' H' s' ∧ RelV v u ∧ D.rt v H'
noncomputable def PE (X : Cx) (e : Expr) (t : TE) : Prop :=
  ∀ (pins : List (Addr × Obj)) (s : Shared) (σ : St) (H : Hp) (Q : VK), Inv X pins σ H s → t σ H Q → wpAny (model X.prog X.w) X.A (eval e X.env) (EP X pins σ Q) X.xe s
noncomputable def PT (X : Cx) (e : Expr) (t : TT) : Prop :=
  ∀ (pins : List (Addr × Obj)) (s : Shared) (σ : St) (H : Hp) (Q : Bool → Hp → Prop), Inv X pins σ H s → t σ H Q → wpAny (model X.prog X.w) X.A (isTrue e X.env (eval e X.env)) (TP X pins σ Q) X.xe s
noncomputable def PW (X : Cx) (e : Expr) (t : TT) : Prop :=
  ∀ (whole : Sem Value) (pins : List (Addr × Obj)) (s : Shared) (σ : St) (H : Hp) (Q : Bool → Hp → Prop), Inv X pins σ H s → t σ H Q → wpAny (model X.prog X.w) X.A (isTrue e X.env whole) (TP X pins σ Q) X.xe s
theorem PW.pt {X : Cx} {e : Expr} {t : TT} (h : PW X e t) : PT X e t := h _
noncomputable def PA (X : Cx) (es : List Expr) (t : TA) : Prop :=
  ∀ (pos : Pos) (pins : List (Addr × Obj)) (s : Shared) (σ : St) (H : Hp) (Q : List V → Hp → Prop), Inv X pins σ H s → t σ H Q → wpAny (model X.prog X.w) X.A (spliced (backTo pos (starEach es X.env))) (AP X pins σ Q) X.xe s
noncomputable def PS (X : Cx) (st : Stmt) (t : TS) : Prop :=
  ∀ (pins : List (Addr × Obj)) (s : Shared) (σ : St) (H : Hp) (D : Ends), Inv X pins σ H s → t D σ H → wpAny (model X.prog X.w) X.A (exec st X.env) (SP X pins D) X.xe s
noncomputable def PSs (X : Cx) (st : List Stmt) (t : TS) : Prop :=
  ∀ (pins : List (Addr × Obj)) (s : Shared) (σ : St) (H : Hp) (D : Ends), Inv X pins σ H s → t D σ H → wpAny (model X.prog X.w) X.A (execs st X.env) (SP X pins D) X.xe s
theorem thn {α : Type} {t : Sem α} {Q Q' : α → Shared → Prop} {M : Model} {A : Around} {E : Value → Shared → Prop} {s : Shared} (h : wpAny M A t Q E s) (hQ : ∀ a s, Q a s → Q' a s) : wpAny M A t Q' E s := wpAny_mono h hQ fun _ _ x => x
end L2
namespace L2
open PySem PySem.Spec PyProof.Rows
section
variable {X : Cx}
noncomputable def tVar (i : Nat) : TE := fun σ H Q => ∃ v, σ[i]? = some (some v) ∧ Q v H
noncomputable def tC (v : V) : TE := fun _ H Q => Q v H
theorem pe_var {i : Nat} {x : Str} {pos : Pos} (hN : X.N[i]? = some x) (hv : Vis X.env.scope x) (hd : (x == ("__debug__" : Str)) = false := by decide) (hcd : (x == ("__classdict__" : Str)) = false := by decide) : PE X (.Name x pos) (tVar i) := by
  intro pins s σ H Q I h
  obtain ⟨v, e, h⟩ := h
  obtain ⟨m, hn, hl⟩ := I.loc
  obtain ⟨u, r, l⟩ := hl i x v hN e hv
  have fin : EP X pins σ Q u s := ⟨v, H, I, r, h⟩
  rcases l with ⟨hk, hm⟩ | ⟨hk, c, hc, hcell⟩
  · exact wpAny_Name (wpAny_loadName_local I.ok.kind hk hn hm fin) hd
  · rcases hk with hk | hk
    · exact wpAny_Name (wpAny_loadName_cell I.ok.kind hk hc hcell fin) hd
    · exact wpAny_Name (wpAny_loadName_free I.ok.kind hk hc hcell fin hcd) hd
theorem pe_int {i j pos} : PE X (.Constant (.int i) j pos) (tC (.int i)) := fun _ _ _ H _ I h => wpAny_Constant_int ⟨.int i, H, I.tok _, ⟨_, rfl⟩, h⟩
theorem pe_bl {b j pos} : PE X (.Constant (.bool b) j pos) (tC (.bl b)) := fun _ _ _ H _ I h => Constant_bool ⟨.bl b, H, I, rfl, h⟩
theorem pe_non {j pos} : PE X (.Constant .none j pos) (tC .non) := fun _ _ _ H _ I h => Constant_none ⟨.non, H, I, rfl, h⟩
theorem pe_str {x j pos} : PE X (.Constant (.str x) j pos) (tC (.str x)) := fun _ _ _ H _ I h => Calls.Constant_str ⟨.str x, H, I.tok _, ⟨_, rfl⟩, h⟩
noncomputable def Gl (X : Cx) (x : Str) : Prop := X.env.kindOf x = some .globalImplicit
theorem ld_glob {E : Value → Shared → Prop} {pins : List (Addr × Obj)} {s : Shared} {σ : St} {H : Hp} {x : Str} {u : Value} {pos : Pos} {Q : Value → Shared → Prop} (I : Inv X pins σ H s) (hg : Gl X x) (hm : X.mg x = some u) (h : Q u s)
    (hd : (x == ("__debug__" : Str)) = false := by decide) : wpAny (model X.prog X.w) X.A (eval (.Name x pos) X.env) Q E s :=
  Calls.Name_function_global I.ok.kind hg (Calls.loadGlobal_global (by rw [I.ok.glob]; exact I.mod.glob.keeps I.bk) hm h) hd
theorem ld_blt {E : Value → Shared → Prop} {pins : List (Addr × Obj)} {s : Shared} {σ : St} {H : Hp} {x : Str} {u : Value} {pos : Pos} {Q : Value → Shared → Prop} (I : Inv X pins σ H s) (hg : Gl X x) (hm : X.mg x = none) (hv : bootBuiltins x = some u) (h : Q u s)
    (hn : x ≠ "__name__" := by decide) (hd : (x == ("__debug__" : Str)) = false := by decide) : wpAny (model X.prog X.w) X.A (eval (.Name x pos) X.env) Q E s := by
  obtain ⟨mb, h1, h2⟩ := I.mod.blt
  exact Calls.Name_function_global I.ok.kind hg (Calls.loadGlobal_builtin (by rw [I.ok.glob]; exact I.mod.glob.keeps I.bk) hm (by rw [I.ok.blt]; exact h1.keeps I.bk) ((h2 x hn).trans hv) h) hd
theorem pe_glob {x : Str} {v : V} {u : Value} {pos : Pos} (hg : Gl X x) (hm : X.mg x = some u) (r : RelV v u) (hd : (x == ("__debug__" : Str)) = false := by decide) : PE X (.Name x pos) (tC v) :=
  fun _ _ _ H _ I h => ld_glob I hg hm ⟨v, H, I, r, h⟩ hd
theorem pe_bltn {x : Str} {v : V} {u : Value} {pos : Pos} (hg : Gl X x) (hm : X.mg x = none) (hv : bootBuiltins x = some u) (r : RelV v u) (hn : x ≠ "__name__" := by decide) (hd : (x == ("__debug__" : Str)) = false := by decide) : PE X (.Name x pos) (tC v) :=
  fun _ _ _ H _ I h => ld_blt I hg hm hv ⟨v, H, I, r, h⟩ hn hd
variable {a b : Expr} {ta tb : TE} {pos : Pos}
noncomputable def tB (t : TE) : TT := fun σ H Q => t σ H fun x H1 => ∃ c, x = .bl c ∧ Q c H1
theorem pt_val {e : Expr} {t : TE} (h : PE X e t) (he : ∀ whole, isTrue e X.env whole = (do let v ← whole; standAt e.pos; holding [v] (truthy v)) := by intro _; rfl) : PT X e (tB t) := by
  intro pins s σ H Q I hw
  refine isTrue_plain (thn (h pins s σ H _ I hw) fun v s1 ⟨x, H1, I1, r1, q1⟩ => ?_) (he _)
  obtain ⟨d, rfl, q⟩ := q1
  cases r1
  exact wpAny_truthy_bool ⟨H1, I1, q⟩
variable {tA tB' : TT} {rest : List Expr}
noncomputable def tAnd (t u : TT) : TT := fun σ H Q => t σ H fun c H1 => if c = true then u σ H1 Q else Q false H1
noncomputable def tOr (t u : TT) : TT := fun σ H Q => t σ H fun c H1 => if c = true then Q true H1 else u σ H1 Q
noncomputable def tNot (t : TT) : TT := fun σ H Q => t σ H fun c H1 => Q (!c) H1
theorem pw_and1 (ha : PT X a tA) : PW X (.BoolOp .And [a] pos) tA := by
  intro wh pins s σ H Q I h
  refine isTrue_and (thn (ha pins s σ H Q I h) fun c s1 e => ?_)
  cases c with
  | true => exact isTrue_and_nil e
  | false => exact e
theorem pw_or1 (ha : PT X a tA) : PW X (.BoolOp .Or [a] pos) tA := by
  intro wh pins s σ H Q I h
  refine isTrue_or (thn (ha pins s σ H Q I h) fun c s1 e => ?_)
  cases c with
  | false => exact isTrue_or_nil e
  | true => exact e
theorem pw_and (ha : PT X a tA) (hb : PW X (.BoolOp .And (b :: rest) pos) tB') : PW X (.BoolOp .And (a :: b :: rest) pos) (tAnd tA tB') := by
  intro wh pins s σ H Q I h
  refine isTrue_and (thn (ha pins s σ H _ I h) fun c s1 ⟨H1, I1, q1⟩ => ?_)
  cases c with
  | true => exact hb wh pins s1 σ H1 Q I1 q1
  | false => exact ⟨H1, I1, q1⟩
theorem pw_or (ha : PT X a tA) (hb : PW X (.BoolOp .Or (b :: rest) pos) tB') : PW X (.BoolOp .Or (a :: b :: rest) pos) (tOr tA tB') := by
  intro wh pins s σ H Q I h
  refine isTrue_or (thn (ha pins s σ H _ I h) fun c s1 ⟨H1, I1, q1⟩ => ?_)
  cases c with
  | true => exact ⟨H1, I1, q1⟩
  | false => exact hb wh pins s1 σ H1 Q I1 q1
theorem pt_not (ha : PT X a tA) : PT X (.UnaryOp .Not a pos) (tNot tA) := by
  intro pins s σ H Q I h
  exact isTrue_not (ha pins s σ H (fun c H1 => Q (!c) H1) I h)
noncomputable def tAndV (ta tb : TE) : TE := fun σ H Q => ta σ H fun x H1 => ∃ c, x = .bl c ∧ if c = true then tb σ H1 Q else Q (.bl false) H1
noncomputable def tOrV (ta tb : TE) : TE := fun σ H Q => ta σ H fun x H1 => ∃ c, x = .bl c ∧ if c = true then Q (.bl true) H1 else tb σ H1 Q
noncomputable def tNotV (ta : TE) : TE := fun σ H Q => ta σ H fun x H1 => ∃ c, x = .bl c ∧ Q (.bl (!c)) H1
theorem pe_one {op} {t : TE} (h : PE X a t) : PE X (.BoolOp op [a] pos) t := fun pins s σ H Q I hw => BoolOp_one (h pins s σ H Q I hw)
theorem pe_and (ha : PE X a ta) (hb : PE X (.BoolOp .And (b :: rest) pos) tb) : PE X (.BoolOp .And (a :: b :: rest) pos) (tAndV ta tb) := by
  intro pins s σ H Q I h
  refine BoolOp_and (thn (ha pins s σ H _ I h) fun v s1 ⟨x, H1, I1, r1, q1⟩ => ?_)
  obtain ⟨c, rfl, q1⟩ := q1
  cases r1
  refine wpAny_truthy_bool ?_
  cases c with
  | true => exact hb pins s1 σ H1 Q I1 q1
  | false => exact ⟨.bl false, H1, I1, rfl, q1⟩
theorem pe_or (ha : PE X a ta) (hb : PE X (.BoolOp .Or (b :: rest) pos) tb) : PE X (.BoolOp .Or (a :: b :: rest) pos) (tOrV ta tb) := by
  intro pins s σ H Q I h
  refine BoolOp_or (thn (ha pins s σ H _ I h) fun v s1 ⟨x, H1, I1, r1, q1⟩ => ?_)
  obtain ⟨c, rfl, q1⟩ := q1
  cases r1
  refine wpAny_truthy_bool ?_
  cases c with
  | false => exact hb pins s1 σ H1 Q I1 q1
  | true => exact ⟨.bl true, H1, I1, rfl, q1⟩
theorem pe_not (ha : PE X a ta) : PE X (.UnaryOp .Not a pos) (tNotV ta) := by
  intro pins s σ H Q I h
  refine UnaryOp_ (thn (ha pins s σ H _ I h) fun v s1 ⟨x, H1, I1, r1, q1⟩ => ?_)
  obtain ⟨c, rfl, q1⟩ := q1
  cases r1
  exact not_of (wpAny_truthy_bool ⟨.bl (!c), H1, I1, rfl, q1⟩)
end
end L2
namespace L2
open PySem PySem.Spec PyProof.Rows
noncomputable def SqL (K : PySem.W.Frag) (H : Hp) (a : Addr) (xs : List V) : Prop :=
  Rd H a (.lst xs) ∨
    ∃ (o : Obj) (its : Array Value) (n : Nat), K.lookup a = some o ∧ o.cls = .type "list" ∧ o.dict = none ∧ o.data = .seq its n ∧ its.size ≤ sizeLine ∧ Vals xs its.toList
noncomputable def SqT (K : PySem.W.Frag) (H : Hp) (a : Addr) (xs : List V) : Prop :=
  Rd H a (.tup xs) ∨
    ∃ (o : Obj) (its : Array Value) (n : Nat), K.lookup a = some o ∧ o.cls = .type "tuple" ∧ o.data = .seq its n ∧ its.size ≤ sizeLine ∧ Vals xs its.toList
noncomputable def absV : Value → Option V
  | .none => some .non
  | .bool b => some (.bl b)
  | .int i _ => some (.int i)
  | .str x _ => some (.str x)
  | .bytes b _ => some (.byt b)
  | .float b _ => some (.flt b)
  | .ref a => some (.ref a)
  | .type n => some (.ty n)
  | _ => none
theorem RelV.abs {x : V} {u : Value} (r : RelV x u) : absV u = some x := by
  cases x with
  | non => cases r; rfl
  | bl _ => cases r; rfl
  | int _ => obtain ⟨t, rfl⟩ := r; rfl
  | str _ => obtain ⟨t, rfl⟩ := r; rfl
  | byt _ => obtain ⟨t, rfl⟩ := r; rfl
  | flt _ => obtain ⟨t, rfl⟩ := r; rfl
  | ref _ => cases r; rfl
  | ty _ => cases r; rfl
theorem RelV.inj {x y : V} {u : Value} (r : RelV x u) (q : RelV y u) : x = y := Option.some.inj (r.abs.symm.trans q.abs)
theorem Vals.inj : ∀ {xs ys : List V} {us : List Value}, Vals xs us → Vals ys us → xs = ys
  | _, _, _, .nil, .nil => rfl
  | _, _, _, .cons r t, .cons r' t' => by rw [r.inj r', Vals.inj t t']
section
variable {X : Cx} {pins : List (Addr × Obj)} {σ : St} {H : Hp} {s : Shared} {a : Addr} {xs ys : List V}
theorem SqL.of {K : PySem.W.Frag} (h : H a = some (.lst xs)) : SqL K H a xs := .inl (.inl h)
theorem SqT.of {K : PySem.W.Frag} (h : H a = some (.tup xs)) : SqT K H a xs := .inl (.inl h)
theorem Inv.list (I : Inv X pins σ H s) (h : SqL X.K H a xs) : ∃ its : List Value, Vals xs its ∧ PlainL s.heap a its.toArray ∧ xs.length ≤ sizeLine := by
  rcases h with h | ⟨o, its, n, hk, hc, hd, hs, hz, r⟩
  · obtain ⟨z, its, n, r, e⟩ := h.ok I.hok
    exact ⟨its, r, ⟨_, n, e, rfl, rfl, rfl⟩, z⟩
  · refine ⟨its.toList, r, ⟨o, n, I.kIn a o hk, hc, hd, by simpa using hs⟩, ?_⟩
    have e := r.length
    simp only [Array.length_toList] at e
    omega
theorem Inv.tuple (I : Inv X pins σ H s) (h : SqT X.K H a xs) : ∃ its : List Value, Vals xs its ∧ IsTup s.heap a its.toArray ∧ xs.length ≤ sizeLine := by
  rcases h with h | ⟨o, its, n, hk, hc, hs, hz, r⟩
  · obtain ⟨z, its, r, p⟩ := h.ok I.hok
    exact ⟨its, r, p, z⟩
  · refine ⟨its.toList, r, ⟨o, I.kIn a o hk, hc, n, by simpa using hs⟩, ?_⟩
    have e := r.length
    simp only [Array.length_toList] at e
    omega
theorem Inv.list_inj (I : Inv X pins σ H s) (h : SqL X.K H a xs) (h' : SqL X.K H a ys) : xs = ys := by
  obtain ⟨its, r, ⟨o, n, e, _, _, d⟩, _⟩ := I.list h
  obtain ⟨its', r', ⟨o', n', e', _, _, d'⟩, _⟩ := I.list h'
  rw [e] at e'; cases e'
  rw [d] at d'
  injection d' with d1 _
  have : its = its' := by simpa using congrArg Array.toList d1
  subst this
  exact r.inj r'
end
abbrev Cx.wish (X : Cx) (E : Value → Shared → Prop) : Cx := { X with xe := E }
abbrev Cx.nox (X : Cx) : Cx := X.wish fun _ _ => False
theorem Cx.Ok.wish {X : Cx} (ok : X.Ok) (E : Value → Shared → Prop) : (X.wish E).Ok :=
  ⟨ok.mod, ok.kind, ok.glob, ok.blt, ok.above, ok.inj, ok.has, ok.cab, ok.hd, ok.frames, ok.stk, ok.exf, ok.bs, ok.bsz, ok.noex, ok.exfs, ok.funs, ok.frf⟩
theorem Cx.Ok.unwish {X : Cx} {E : Value → Shared → Prop} (ok : (X.wish E).Ok) : X.Ok :=
  ⟨ok.mod, ok.kind, ok.glob, ok.blt, ok.above, ok.inj, ok.has, ok.cab, ok.hd, ok.frames, ok.stk, ok.exf, ok.bs, ok.bsz, ok.noex, ok.exfs, ok.funs, ok.frf⟩
section
variable {X : Cx} {pins : List (Addr × Obj)} {σ : St} {H : Hp} {s : Shared} {E : Value → Shared → Prop}
theorem Inv.wish (I : Inv X pins σ H s) (E : Value → Shared → Prop) : Inv (X.wish E) pins σ H s := ⟨I.ok.wish E, I.os, I.bare, I.base, I.loc, I.cell, I.free, I.freeC, I.pin, I.hok, I.len⟩
theorem Inv.unwish (I : Inv (X.wish E) pins σ H s) : Inv X pins σ H s := ⟨I.ok.unwish, I.os, I.bare, I.base, I.loc, I.cell, I.free, I.freeC, I.pin, I.hok, I.len⟩
theorem SP.unwish {D : Ends} {f : Flow} {s' : Shared} (h : SP (X.wish E) pins D f s') : SP X pins D f s' := by
  cases f with
  | next => obtain ⟨σ', H', I, q⟩ := h; exact ⟨σ', H', I.unwish, q⟩
  | brk => obtain ⟨σ', H', I, q⟩ := h; exact ⟨σ', H', I.unwish, q⟩
  | cont => obtain ⟨σ', H', I, q⟩ := h; exact ⟨σ', H', I.unwish, q⟩
  | ret u => obtain ⟨v, σ', H', I, r, q⟩ := h; exact ⟨v, σ', H', I.unwish, r, q⟩
theorem PE.nox {e : Expr} {t : TE} (h : PE X.nox e t) : PE X e t := fun pins s σ H Q I hw =>
  wpAny_mono (h pins s σ H Q (I.wish _) hw) (fun _ _ ⟨v, H', I', r, q⟩ => ⟨v, H', I'.unwish, r, q⟩) fun _ _ z => False.elim z
theorem PT.nox {e : Expr} {t : TT} (h : PT X.nox e t) : PT X e t := fun pins s σ H Q I hw =>
  wpAny_mono (h pins s σ H Q (I.wish _) hw) (fun _ _ ⟨H', I', q⟩ => ⟨H', I'.unwish, q⟩) fun _ _ z => False.elim z
theorem PSs.nox {st : List Stmt} {t : TS} (h : PSs X.nox st t) : PSs X st t := fun pins s σ H D I hw =>
  wpAny_mono (h pins s σ H D (I.wish _) hw) (fun _ _ q => q.unwish) fun _ _ z => False.elim z
end
section
variable {X : Cx} {st : Stmt} {rest : List Stmt} {t u : TS} {e : Expr} {te : TE} {pos : Pos}
noncomputable def tNext : TS := fun D σ H => D.nx σ H
noncomputable def tSeq (t u : TS) : TS := fun D σ H => t { D with nx := u D } σ H
theorem pss_nil : PSs X [] tNext := fun _ _ σ H _ I h => wpAny_execs_nil ⟨σ, H, I, h⟩
theorem pss_cons (h1 : PS X st t) (h2 : PSs X rest u) : PSs X (st :: rest) (tSeq t u) := by
  intro pins s σ H D I h
  refine wpAny_execs_cons (thn (h1 pins s σ H { D with nx := u D } I h) fun f s1 q => ?_)
  cases f with
  | next =>
    obtain ⟨σ', H', I', q⟩ := q
    exact h2 pins s1 σ' H' D I' q
  | ret v => exact q
  | brk => exact q
  | cont => exact q
theorem pss_one (h1 : PS X st t) : PSs X [st] t := by
  intro pins s σ H D I h
  refine wpAny_execs_cons (thn (h1 pins s σ H D I h) fun f s1 q => ?_)
  cases f with
  | next => exact wpAny_execs_nil q
  | ret v => exact q
  | brk => exact q
  | cont => exact q
theorem Inv.quiet {pins : List (Addr × Obj)} {σ : St} {H : Hp} {s : Shared} (I : Inv X pins σ H s) : interactive X.env = false := by simp [interactive, I.ok.kind]
noncomputable def tDrop (te : TE) : TS := fun D σ H => te σ H fun _ H1 => D.nx σ H1
theorem ps_expr (he : PE X e te) (hs : swapsWith e none pos.line X.env = pure false := by rfl) : PS X (.Expr e pos) (tDrop te) := by
  intro pins s σ H D I h
  exact wpAny_Expr_any (thn (he pins s σ H _ I h) fun v s1 ⟨x, H1, I1, r1, q1⟩ => ⟨σ, H1, I1, q1⟩) I.quiet hs
noncomputable def tRet (te : TE) : TS := fun D σ H => te σ H D.rt
theorem ps_ret (he : PE X e te) : PS X (.Return (some e) pos) (tRet te) := by
  intro pins s σ H D I h
  exact wpAny_Return_some (thn (he pins s σ H _ I h) fun v s1 ⟨x, H1, I1, r1, q1⟩ => ⟨x, σ, H1, I1, r1, q1⟩)
noncomputable def tIfS (c : TT) (t u : TS) : TS := fun D σ H => c σ H fun b H1 => if b = true then t D σ H1 else u D σ H1
theorem ps_if {c : Expr} {a b : List Stmt} {tc : TT} (hc : PT X c tc) (ha : PSs X a t) (hb : PSs X b u) : PS X (.If c a b pos) (tIfS tc t u) := by
  intro pins s σ H D I h
  refine wpAny_If (thn (hc pins s σ H _ I h) fun d s1 ⟨H1, I1, q1⟩ => ?_)
  cases d with
  | true => exact ha pins s1 σ H1 D I1 q1
  | false => exact hb pins s1 σ H1 D I1 q1
end
abbrev TG := V → St → Hp → (St → Hp → Prop) → Prop
abbrev TGs := List V → St → Hp → (St → Hp → Prop) → Prop
noncomputable def PG (X : Cx) (target : Expr) (t : TG) : Prop :=
  ∀ (pins : List (Addr × Obj)) (s : Shared) (σ : St) (H : Hp) (v : V) (u : Value) (Q : St → Hp → Prop), Inv X pins σ H s → RelV v u → t v σ H Q →
    wpAny (model X.prog X.w) X.A (assign target X.env u) (fun _ s' => ∃ σ' H', Inv X pins σ' H' s' ∧ Q σ' H') X.xe s
noncomputable def PGs (X : Cx) (ts : List Expr) (t : TGs) : Prop :=
  ∀ (pins : List (Addr × Obj)) (s : Shared) (σ : St) (H : Hp) (vs : List V) (us : List Value) (Q : St → Hp → Prop), Inv X pins σ H s → Vals vs us → t vs σ H Q →
    wpAny (model X.prog X.w) X.A (assignInOrder ((assignEach ts X.env).map (·.2)) us) (fun _ s' => ∃ σ' H', Inv X pins σ' H' s' ∧ Q σ' H') X.xe s
abbrev TSet := V → V → V → Hp → (Hp → Prop) → Prop
noncomputable def PSet (X : Cx) (t : TSet) : Prop :=
  ∀ (pins : List (Addr × Obj)) (s : Shared) (σ : St) (H : Hp) (o i v : V) (ov iv u : Value) (Q : Hp → Prop), Inv X pins σ H s → RelV o ov → RelV i iv → RelV v u → t o i v H Q →
    wpAny (model X.prog X.w) X.A (setItem ov iv u) (fun _ s' => ∃ H', Inv X pins σ H' s' ∧ Q H') X.xe s
abbrev TIp := V → V → Hp → VK → Prop
noncomputable def PIp (X : Cx) (op : Operator) (t : TIp) : Prop :=
  ∀ (pins : List (Addr × Obj)) (s : Shared) (σ : St) (H : Hp) (x y : V) (v u : Value) (Q : VK), Inv X pins σ H s → RelV x v → RelV y u → t x y H Q →
    wpAny (model X.prog X.w) X.A (inplaceOp op v u) (EP X pins σ Q) X.xe s
section
variable {X : Cx} {pos : Pos}
noncomputable def gName (i : Nat) : TG := fun v σ H Q => Q (σ.set i (some v)) H
theorem pg_name {i : Nat} {x : Str} (hN : X.N.Nodup) (hi : X.N[i]? = some x) (hx : Loc X.env.scope x) (hf : X.fn x = true ∨ X.env.scope.names.lookup x = some .local := by first | exact .inl rfl | exact .inr rfl | assumption) : PG X (.Name x pos) (gName i) := by
  intro pins s σ H v u Q I r h
  exact wpAny_assign_Name (store_ok I hN hi hx r (fun s' I' => ⟨_, H, I', h⟩) hf)
noncomputable def gNil : TGs := fun vs σ H Q => vs = [] ∧ Q σ H
noncomputable def gCons (t : TG) (u : TGs) : TGs := fun vs σ H Q => ∃ v r, vs = v :: r ∧ t v σ H fun σ' H' => u r σ' H' Q
theorem pgs_nil : PGs X [] gNil := by
  intro pins s σ H vs us Q I r h
  obtain ⟨e, h⟩ := h
  subst e
  cases r
  exact assignInOrder_nil ⟨σ, H, I, h⟩
theorem pgs_cons {e : Expr} {es : List Expr} {t : TG} {u : TGs} (h1 : PG X e t) (h2 : PGs X es u)
    (hs : (assignEach (e :: es) X.env).map (·.2) = assign e X.env :: (assignEach es X.env).map (·.2) := by rfl) : PGs X (e :: es) (gCons t u) := by
  intro pins s σ H vs us Q I r h
  obtain ⟨v, vr, e1, h⟩ := h
  subst e1
  cases r with
  | cons r rr =>
    rw [hs]
    refine assignInOrder_cons (thn (h1 pins s σ H _ _ _ I r h) fun _ s1 ⟨σ1, H1, I1, q1⟩ => ?_)
    exact h2 pins s1 σ1 H1 _ _ Q I1 rr q1
noncomputable def gTup (K : PySem.W.Frag) (n : Nat) (t : TGs) : TG := fun v σ H Q => ∃ a xs, v = .ref a ∧ SqT K H a xs ∧ xs.length = n ∧ t xs σ H Q
theorem pg_tup {es : List Expr} {k : Nat} {t : TGs} {n : Nat} (hc : X.calm = true) (h : PGs X es t)
    (hn : (assignEach es X.env).length = n := by rfl) (hst : (assignEach es X.env).findIdx? (·.1) = none := by rfl) : PG X (.Tuple es k pos) (gTup X.K n t) := by
  intro pins s σ H v u Q I r hw
  obtain ⟨a, xs, e1, hq, hl, hw⟩ := hw
  subst e1
  cases r
  obtain ⟨its, rv, ht, hz⟩ := I.tuple hq
  refine assign_Tuple_tuple (I.ok.hd hc) ht (by simp [hn, ← hl, rv.length]) hst fun h' hx => ?_
  have I1 : Inv X pins σ H { s with heap := h' } := I.kept (t' := s.toks) fun b o e => hx b o (Nat.ne_of_lt (Heap.lt_size e)) e
  exact h pins _ σ H xs _ Q I1 (by simpa using rv) hw
noncomputable def gSub (to ti : TE) (t : TSet) : TG := fun v σ H Q => to σ H fun o H1 => ti σ H1 fun i H2 => t o i v H2 fun H3 => Q σ H3
theorem pg_sub {o i : Expr} {to ti : TE} {t : TSet} (ho : PE X o to) (hi : PE X i ti) (hs : PSet X t)
    (ha : ∀ v, assign (.Subscript o i pos) X.env v = (do
      let ov ← holding [v] (eval o X.env)
      let iv ← holding [v, ov] (eval i X.env)
      standAt pos
      holding [v, ov, iv] (setItem ov iv v)
      release [v, ov, iv] []) := by intro _; rfl) : PG X (.Subscript o i pos) (gSub to ti t) := by
  intro pins s σ H v u Q I r h
  rw [ha]
  refine wpAny_bind (wpAny_holding (thn (ho pins s σ H _ I h) fun ov s1 ⟨x, H1, I1, r1, q1⟩ => ?_))
  refine wpAny_bind (wpAny_holding (thn (hi pins s1 σ H1 _ I1 q1) fun iv s2 ⟨y, H2, I2, r2, q2⟩ => ?_))
  refine wpAny_bind (wpAny_standAt (wpAny_bind (wpAny_holding (thn (hs pins s2 σ H2 x y v ov iv u _ I2 r1 r2 r q2) fun _ s3 ⟨H3, I3, q3⟩ => ?_))))
  exact wpAny_release ⟨σ, H3, I3, q3⟩
noncomputable def tAsg (te : TE) (g : TG) : TS := fun D σ H => te σ H fun x H1 => g x σ H1 D.nx
theorem ps_asg {tg e : Expr} {te : TE} {g : TG} (he : PE X e te) (hg : PG X tg g) (hs : swapsWithSole [tg] e pos.line X.env = pure false := by rfl) (hw : swappedStores [tg] e X.env = pure none := by rfl)
    (h1 : (assignEach [tg] X.env).map (·.2) = [assign tg X.env] := by rfl) : PS X (.Assign [tg] e pos) (tAsg te g) := by
  intro pins s σ H D I h
  refine wpAny_Assign_stores (thn (he pins s σ H _ I h) fun v s1 ⟨x, H1, I1, r1, q1⟩ => ?_) hs hw
  rw [h1]
  exact thn (hg pins s1 σ H1 x v _ I1 r1 q1) fun _ s2 q => q
theorem ps_set {i : Nat} {x : Str} {e : Expr} {te : TE} {pos' : Pos} (hN : X.N.Nodup) (hi : X.N[i]? = some x) (hx : Loc X.env.scope x) (he : PE X e te) (hs : swapsWith e (some (.Name x pos')) pos.line X.env = pure false := by rfl) (hf : X.fn x = true ∨ X.env.scope.names.lookup x = some .local := by first | exact .inl rfl | exact .inr rfl | assumption) :
    PS X (.Assign [.Name x pos'] e pos) (tAsg te (gName i)) := by
  intro pins s σ H D I h
  refine wpAny_Assign_Name (thn (he pins s σ H _ I h) fun v s1 ⟨y, H1, I1, r1, q1⟩ => ?_) hs
  exact store_ok I1 hN hi hx r1 (fun s2 I2 => ⟨_, H1, I2, q1⟩) hf
noncomputable def tAugS (to ti te : TE) (tget : V → V → Hp → VK → Prop) (tip : TIp) (tset : TSet) : TS := fun D σ H => to σ H fun o H1 => ti σ H1 fun i H2 => tget o i H2 fun x H3 => te σ H3 fun y H4 => tip x y H4 fun z H5 => tset o i z H5 fun H6 => D.nx σ H6
noncomputable def PGet (X : Cx) (t : V → V → Hp → VK → Prop) : Prop :=
  ∀ (pins : List (Addr × Obj)) (s : Shared) (σ : St) (H : Hp) (o i : V) (ov iv : Value) (Q : VK), Inv X pins σ H s → RelV o ov → RelV i iv → t o i H Q →
    wpAny (model X.prog X.w) X.A (getItem ov iv) (EP X pins σ Q) X.xe s
theorem ps_augS {o i e : Expr} {to ti te : TE} {tget : V → V → Hp → VK → Prop} {tip : TIp} {tset : TSet} {op : Operator} {tpos : Pos} (ho : PE X o to) (hi : PE X i ti) (hg : PGet X tget) (he : PE X e te) (hp : PIp X op tip) (hs : PSet X tset)
    (ha : ∀ ov iv new, augStore i ov iv new = (do holding [new, ov, iv] (setItem ov iv new); release [new, ov, iv] []; pure .next) := by intros; rfl) : PS X (.AugAssign (.Subscript o i tpos) op e pos) (tAugS to ti te tget tip tset) := by
  intro pins s σ H D I h
  refine wpAny_AugAssign_SubscriptAny (thn (ho pins s σ H _ I h) fun ov s1 ⟨x1, H1, I1, r1, q1⟩ => ?_) ha
  refine thn (hi pins s1 σ H1 _ I1 q1) fun iv s2 ⟨x2, H2, I2, r2, q2⟩ => ?_
  refine thn (hg pins s2 σ H2 x1 x2 ov iv _ I2 r1 r2 q2) fun old s3 ⟨x3, H3, I3, r3, q3⟩ => ?_
  refine thn (he pins s3 σ H3 _ I3 q3) fun v s4 ⟨x4, H4, I4, r4, q4⟩ => ?_
  refine thn (hp pins s4 σ H4 x3 x4 old v _ I4 r3 r4 q4) fun new s5 ⟨x5, H5, I5, r5, q5⟩ => ?_
  exact thn (hs pins s5 σ H5 x1 x2 x5 ov iv new _ I5 r1 r2 r5 q5) fun _ s6 ⟨H6, I6, q6⟩ => ⟨σ, H6, I6, q6⟩
noncomputable def ipI (f : Int → Int → Int) : TIp := fun x y H Q => ∃ i j, x = .int i ∧ y = .int j ∧ Q (.int (f i j)) H
theorem ip_add : PIp X .Add (ipI fun i j => i + j) := by
  intro pins s σ H x y v u Q I r1 r2 h
  obtain ⟨i, j, e1, e2, q⟩ := h
  subst e1; subst e2
  obtain ⟨t, rfl⟩ := r1
  obtain ⟨t', rfl⟩ := r2
  exact iadd_int ⟨.int _, H, I.tok _, ⟨_, rfl⟩, q⟩
end
section
variable {X : Cx} {pos : Pos}
end
structure It where
  go : Nat → Hp → Prop
  yld : Nat → Hp → V → Hp → Prop
  stop : Nat → Hp → Prop
noncomputable def FpOk (X : Cx) (pins : List (Addr × Obj)) (H : Hp) (b : Addr) : Prop :=
  H b = none ∧ b ≠ X.env.locals ∧ b ∉ X.fs ∧ (b ∈ X.ex ∨ X.s₀.heap.objs.size ≤ b) ∧ (∀ x c, X.env.cells.lookup x = some c → c ≠ b) ∧ ∀ p ∈ X.pn ++ pins, p.1 ≠ b
theorem Inv.fpOk {X : Cx} {pins : List (Addr × Obj)} {σ : St} {H H' : Hp} {s : Shared} {b : Addr} (I : Inv X pins σ H s) (hb : s.heap.objs.size ≤ b) (hn : H' b = none) : FpOk X pins H' b := by
  refine ⟨hn, Nat.ne_of_gt (Nat.lt_of_lt_of_le I.lt hb), I.nofs hb, .inr (Nat.le_trans I.sz hb), fun x c e z => ?_, fun p hp z => ?_⟩
  · obtain ⟨v, q⟩ := I.cell x c e
    exact absurd (Nat.lt_of_lt_of_le q.lt (by rw [z]; exact hb)) (Nat.lt_irrefl _)
  · exact absurd (Nat.lt_of_lt_of_le (Heap.lt_size (I.pin p hp).1) (by rw [z]; exact hb)) (Nat.lt_irrefl _)
structure Turn (P : Program) (w : World) (K : PySem.W.Frag) (tg : Expr) (J : It) (fp : List Addr) (it : Addr) (tn : Nat → Heap → Prop) : Prop where
  mem : it ∈ fp
  obj : ∀ i h, tn i h → ∀ b ∈ fp, ∃ o, h.get? b = some o ∧ ∀ v, o.data ≠ .cell v
  keep : ∀ i h h', tn i h → (∀ b ∈ fp, ∀ o, h.get? b = some o → h'.get? b = some o) → tn i h'
  item : ∀ (X : Cx), X.prog = P → X.w = w → X.K = K → X.calm = true → ∀ (i : Nat) (pins : List (Addr × Obj)) (s : Shared) (σ : St) (H : Hp) (E : Value → Shared → Prop), Inv X pins σ H s → (∀ b ∈ fp, FpOk X pins H b) → tn i s.heap → J.go i H →
    wpAny (model P w) X.A (pyNext (.ref it)) (fun r s1 => ∃ u, r = some u ∧
      wpAny (model P w) X.A (letOwnedTupleGo tg (.ref it) u) (fun _ s2 => ∃ x H', Inv X pins σ H' s2 ∧ RelV x u ∧ J.yld i H x H' ∧ tn (i + 1) s2.heap ∧ ∀ b ∈ fp, H' b = none) E s1) E s
  done : ∀ (X : Cx), X.prog = P → X.w = w → X.K = K → X.calm = true → ∀ (i : Nat) (pins : List (Addr × Obj)) (s : Shared) (σ : St) (H : Hp) (E : Value → Shared → Prop), Inv X pins σ H s → (∀ b ∈ fp, FpOk X pins H b) → tn i s.heap → J.stop i H →
    wpAny (model P w) X.A (pyNext (.ref it)) (fun r s1 => r = none ∧ Inv X pins σ H s1) E s
  self : ∀ (A : Around) (i : Nat) (s : Shared) (Q : Value → Shared → Prop) (E : Value → Shared → Prop), tn i s.heap → Q (.ref it) s → wpAny (model P w) A (pyIter (.ref it)) Q E s
abbrev TI := St → Hp → (It → Hp → Prop) → Prop
noncomputable def PIE (X : Cx) (pins : List (Addr × Obj)) (σ : St) (tg : Expr) (R : It → Hp → Prop) (itv : Value) (s2 : Shared) : Prop :=
  ∃ (it : Addr) (fp : List Addr) (tn : Nat → Heap → Prop) (J : It) (H' : Hp), itv = .ref it ∧ Inv X pins σ H' s2 ∧ Turn X.prog X.w X.K tg J fp it tn ∧ tn 0 s2.heap ∧ (∀ b ∈ fp, FpOk X pins H' b) ∧ R J H'
noncomputable def PI (X : Cx) (tg iter : Expr) (wi : TI) : Prop :=
  ∀ (pins : List (Addr × Obj)) (s : Shared) (σ : St) (H : Hp) (R : It → Hp → Prop), Inv X pins σ H s → wi σ H R →
    wpAny (model X.prog X.w) X.A (eval iter X.env) (fun v s1 => wpAny (model X.prog X.w) X.A (pyIter v) (PIE X pins σ tg R) X.xe s1) X.xe s
theorem go_of {M : Model} {A : Around} {E : Value → Shared → Prop} {s : Shared} {tg : Expr} {it : Addr} {u : Value} {o : Obj} {n : String} {vs : Array Value} {Q : Unit → Shared → Prop} (ho : s.heap.get? it = some o) (hc : o.cls = .type n) (hd : o.data = .fields vs)
    (hn : ["enumerate", "zip", "dict_itemiterator", "dict_reverseitemiterator", "odict_iterator", "itertools.zip_longest", "itertools.pairwise"].contains n = false) (hQ : Q () s) : wpAny M A (letOwnedTupleGo tg (.ref it) u) Q E s := by
  unfold letOwnedTupleGo
  cases tg <;> first
    | exact wpAny_pure hQ
    | (cases u <;> first
        | exact wpAny_pure hQ
        | (refine wpAny_bind (wpAny_load ho ?_)
           rw [hc, hd]
           show wpAny M A (if (["enumerate", "zip", "dict_itemiterator", "dict_reverseitemiterator", "odict_iterator", "itertools.zip_longest", "itertools.pairwise"].contains n && vs[0]? == some (rawInt _)) = true then _ else _) Q E s
           rw [if_neg (by intro h; rw [hn, Bool.false_and] at h; cases h)]
           exact wpAny_pure hQ))
noncomputable def Itl (K : PySem.W.Frag) (a : Addr) : It :=
  ⟨fun i H => ∃ xs x, SqL K H a xs ∧ xs[i]? = some x, fun i H x H' => H' = H ∧ ∀ xs, SqL K H a xs → xs[i]? = some x, fun i H => ∃ xs, SqL K H a xs ∧ xs.length ≤ i⟩
noncomputable def Itr (lo : Int) (n : Nat) : It := ⟨fun i _ => i < n, fun i H x H' => H' = H ∧ x = .int (lo + i), fun i _ => n ≤ i⟩
theorem turn_list {P : Program} {w : World} {K : PySem.W.Frag} {tg : Expr} (a it : Addr) : Turn P w K tg (Itl K a) [it] it (fun i h => h.IsListIter it a i) where
  mem := by simp
  obj := fun i h st b hb => by
    have e : b = it := by simpa using hb
    subst e
    obtain ⟨o, e, c, d⟩ := st
    exact ⟨o, e, fun v z => by rw [d] at z; cases z⟩
  keep := fun i h h' st k => st.at fun o e => k it (by simp) o e
  item := by
    intro X hP hw hK hc i pins s σ H E I hf st hg
    subst hP hw hK
    obtain ⟨xs, x, hq, hx⟩ := hg
    obtain ⟨its, rv, p, hz⟩ := I.list hq
    obtain ⟨u, hu, ru⟩ := rv.get hx
    obtain ⟨f0, f1, f2, f3, f4, f5⟩ := hf it (by simp)
    refine wpAny_pyNext_list_item st p.isList (x := u) (by simpa using hu) fun h' st' sb => ?_
    have I1 : Inv X pins σ H { s with heap := h' } := I.turned (t' := s.toks) (fun b o hb e => (sb.2 b hb).trans e) f0 f1 f3 f4 f5
    obtain ⟨o, e, c, d⟩ := id st'
    exact ⟨u, rfl, go_of (s := { s with heap := h' }) e c d (by decide) ⟨x, H, I1, ru, ⟨rfl, fun ys hy => by rw [I.list_inj hy hq]; exact hx⟩, st', fun b hb => (hf b hb).1⟩⟩
  done := by
    intro X hP hw hK hc i pins s σ H E I hf st hg
    subst hP hw hK
    obtain ⟨xs, hq, hx⟩ := hg
    obtain ⟨its, rv, p, hz⟩ := I.list hq
    obtain ⟨f0, f1, f2, f3, f4, f5⟩ := hf it (by simp)
    have hl := rv.length
    exact wpAny_pyNext_list_end (I.ok.hd hc) st p.isList (by simp; omega) fun h' eb => ⟨rfl, I.turned (t' := s.toks) (fun b o hb e => eb b o hb e) f0 f1 f3 f4 f5⟩
  self := fun _ _ _ _ _ st h => wpAny_pyIter_listiter st h
theorem turn_range {P : Program} {w : World} {K : PySem.W.Frag} {tg : Expr} (it : Addr) (lo : Int) (n : Nat) : Turn P w K tg (Itr lo n) [it] it (fun i h => IsRangeIter h it (lo + (i : Nat) * 1) ((n : Int) - (i : Nat)) 1) where
  mem := by simp
  obj := fun i h st b hb => by
    have e : b = it := by simpa using hb
    subst e
    exact ⟨_, st, fun v z => by
      have z' : Data.fields _ = Data.cell v := z
      cases z'⟩
  keep := fun i h h' st k => k it (by simp) _ st
  item := by
    intro X hP hw hK hc i pins s σ H E I hf st hg
    subst hP hw hK
    obtain ⟨f0, f1, f2, f3, f4, f5⟩ := hf it (by simp)
    have W := Walks.range (prog := X.prog) (w := X.w) (I.ok.hd hc) it lo 1 n
    refine W.item i s _ _ hg st fun v h' tk hv st' kk => ?_
    obtain ⟨t, rfl⟩ := hv
    have I1 : Inv X pins σ H { s with heap := h', toks := tk } := I.turned (fun b o hb e => kk b o (by simpa using hb) e) f0 f1 f3 f4 f5
    refine ⟨_, rfl, go_of (s := { s with heap := h', toks := tk }) (n := "range_iterator") st' rfl rfl (by decide) ⟨.int (lo + i), H, I1, ⟨t, ?_⟩, ⟨rfl, rfl⟩, st', fun b hb => (hf b hb).1⟩⟩
    rw [Int.mul_one]
  done := by
    intro X hP hw hK hc i pins s σ H E I hf st hg
    subst hP hw hK
    obtain ⟨f0, f1, f2, f3, f4, f5⟩ := hf it (by simp)
    exact wpAny_pyNext_range_end (I.ok.hd hc) st (by have : n ≤ i := hg; omega) fun h' eb => ⟨rfl, I.turned (t' := s.toks) (fun b o hb e => eb b o hb e) f0 f1 f3 f4 f5⟩
  self := fun _ _ _ _ _ st h => wpAny_pyIter_rangeiter st h
end L2
namespace L2
open PySem PySem.Spec PyProof.Rows
section
variable {X : Cx} {tg : Expr}
noncomputable def iList (K : PySem.W.Frag) (tl : TE) : TI := fun σ H R => tl σ H fun x H1 => ∃ a, x = .ref a ∧ (∃ xs, SqL K H1 a xs) ∧ R (Itl K a) H1
theorem pi_list {l : Expr} {tl : TE} (hl : PE X l tl) : PI X tg l (iList X.K tl) := by
  intro pins s σ H R I h
  refine thn (hl pins s σ H _ I h) fun v s1 ⟨x, H1, I1, r1, q1⟩ => ?_
  obtain ⟨a, e, ⟨xs, hq⟩, q⟩ := q1
  subst e
  cases r1
  obtain ⟨its, rv, p, hz⟩ := I1.list hq
  refine wpAny_pyIter_list p.isList ?_
  refine ⟨s1.heap.objs.size, [s1.heap.objs.size], _, _, H1, rfl, I1.kept (t' := s1.toks) fun b o e => Heap.get?_push_of_some _ e, turn_list a _, ⟨_, Heap.get?_push_size _ rfl, rfl, rfl⟩, fun b hb => ?_, q⟩
  have e : b = s1.heap.objs.size := by simpa using hb
  subst e
  exact I1.fpOk (Nat.le_refl _) (I1.hok.fresh (Nat.le_refl _))
theorem range_it {pins : List (Addr × Obj)} {σ : St} {H : Hp} {s : Shared} {R : It → Hp → Prop} {E : Value → Shared → Prop} {lo hi : Int} {t u v : Tok} {tk : Nat} (I : Inv X pins σ H s) (h1 : -(2 ^ 62) ≤ lo) (h2 : lo < 2 ^ 62) (h3 : -(2 ^ 62) ≤ hi) (h4 : hi < 2 ^ 62)
    (q : R (Itr lo (hi - lo).toNat) H) : wpAny (model X.prog X.w) X.A (pyIter (.ref s.heap.objs.size)) (PIE X pins σ tg R) E { s with heap := s.heap.push { cls := .type "range", data := .fields #[.int lo t, .int hi u, .int 1 v] }, toks := tk } := by
  refine wpAny_pyIter_range (IsRange.new ..) (small_one h1 h2 h3 h4) ?_
  have I1 : Inv X pins σ H { s with heap := s.heap.push { cls := .type "range", data := .fields #[.int lo t, .int hi u, .int 1 v] }, toks := tk } := I.kept fun b o e => Heap.get?_push_of_some _ e
  refine ⟨(s.heap.push { cls := .type "range", data := .fields #[.int lo t, .int hi u, .int 1 v] }).objs.size, [(s.heap.push { cls := .type "range", data := .fields #[.int lo t, .int hi u, .int 1 v] }).objs.size], _, _, H, rfl,
    I1.kept (t' := tk) fun b o e => Heap.get?_push_of_some _ e, turn_range _ lo (hi - lo).toNat, ?_, fun b hb => ?_, q⟩
  · have e1 : lo + ((0 : Nat) : Int) * 1 = lo := by simp
    have e2 : (((hi - lo).toNat : Nat) : Int) - ((0 : Nat) : Int) = Builtin.Range.rangeSize lo hi 1 := by rw [rangeSize_one]; split <;> omega
    show IsRangeIter _ _ (lo + ((0 : Nat) : Int) * 1) ((((hi - lo).toNat : Nat) : Int) - ((0 : Nat) : Int)) 1
    rw [e1, e2]
    exact Heap.get?_push_size _ rfl
  · have e : b = (s.heap.push { cls := .type "range", data := .fields #[.int lo t, .int hi u, .int 1 v] }).objs.size := by simpa using hb
    subst e
    exact I1.fpOk (Nat.le_refl _) (I1.hok.fresh (Nat.le_refl _))
noncomputable def iRng1 (ta : TA) : TI := fun σ H R => ta σ H fun vs H1 => ∃ j : Int, vs = [.int j] ∧ -(2 ^ 62) ≤ j ∧ j < 2 ^ 62 ∧ R (Itr 0 j.toNat) H1
noncomputable def iRng2 (ta : TA) : TI := fun σ H R => ta σ H fun vs H1 => ∃ i j : Int, vs = [.int i, .int j] ∧ (-(2 ^ 62) ≤ i ∧ i < 2 ^ 62 ∧ -(2 ^ 62) ≤ j ∧ j < 2 ^ 62) ∧ R (Itr i (j - i).toNat) H1
theorem pi_range1 {a : Expr} {ta : TA} {p pos : Pos} (hg : Gl X "range") (hm : X.mg "range" = none) (ha : PA X [a] ta) (hs : starEach [a] X.env = [(false, eval a X.env)] := by rfl) : PI X tg (.Call (.Name "range" p) [a] [] pos) (iRng1 ta) := by
  intro pins s σ H R I h
  refine Call_ (ld_blt I hg hm boot_range (PyProof.Rows.callWith_type1 (thn (ha pos pins s σ H _ I h) fun us s1 ⟨vs, H1, I1, r1, q1⟩ => ?_) hs rfl))
  obtain ⟨j, e, q1, q2, q⟩ := q1
  subst e
  cases r1 with
  | cons r rr =>
    cases rr
    obtain ⟨t, rfl⟩ := r
    exact call_range_1 (range_it I1 (by omega) (by omega) q1 q2 (by simpa using q))
theorem pi_range2 {a b : Expr} {ta : TA} {p pos : Pos} (hg : Gl X "range") (hm : X.mg "range" = none) (ha : PA X [a, b] ta) (hs : starEach [a, b] X.env = [(false, eval a X.env), (false, eval b X.env)] := by rfl) (hs2 : starEach [b] X.env = [(false, eval b X.env)] := by rfl) :
    PI X tg (.Call (.Name "range" p) [a, b] [] pos) (iRng2 ta) := by
  intro pins s σ H R I h
  refine Call_ (ld_blt I hg hm boot_range (PyProof.Rows.callWith_type1 (thn (ha pos pins s σ H _ I h) fun us s1 ⟨vs, H1, I1, r1, q1⟩ => ?_) (by rw [hs, hs2]) (by rw [hs2]; rfl)))
  obtain ⟨i, j, e, ⟨q1, q2, q3, q4⟩, q⟩ := q1
  subst e
  cases r1 with
  | cons r rr =>
    cases rr with
    | cons r' rr =>
      cases rr
      obtain ⟨t, rfl⟩ := r
      obtain ⟨t', rfl⟩ := r'
      exact call_range_2 (range_it I1 q1 q2 q3 q4 q)
noncomputable def tFor (wi : TI) (g : TG) (tb : TS) : TS := fun D σ H => wi σ H fun J H1 => ∃ W : Nat → Nat → St → Hp → Prop, (∃ m, W 0 m σ H1) ∧ ∀ i m σ H, W i m σ H →
  (J.stop i H ∧ D.nx σ H) ∨ (J.go i H ∧ ∃ N : St → Hp → Prop, (∀ σ' H', N σ' H' → ∃ m', m' < m ∧ W (i + 1) m' σ' H') ∧ ∀ x H', J.yld i H x H' → g x σ H' fun σ2 H2 => tb { D with nx := N, ct := N, bk := D.nx } σ2 H2)
noncomputable def pinsAt (fp : List Addr) (h : Heap) : List (Addr × Obj) := fp.filterMap fun b => (h.get? b).map fun o => (b, o)
theorem mem_pinsAt {fp : List Addr} {h : Heap} {b : Addr} {o : Obj} (hb : b ∈ fp) (e : h.get? b = some o) : (b, o) ∈ pinsAt fp h := List.mem_filterMap.mpr ⟨b, hb, by rw [e]; rfl⟩
theorem of_pinsAt {fp : List Addr} {h : Heap} {p : Addr × Obj} (hp : p ∈ pinsAt fp h) : p.1 ∈ fp ∧ h.get? p.1 = some p.2 := by
  obtain ⟨b, hb, e⟩ := List.mem_filterMap.mp hp
  cases q : h.get? b with
  | none => rw [q] at e; cases e
  | some o =>
    rw [q] at e
    have e' : (b, o) = p := Option.some.inj e
    subst e'
    exact ⟨hb, q⟩
theorem Inv.pinned {pins : List (Addr × Obj)} {σ : St} {H : Hp} {s : Shared} {fp : List Addr} (I : Inv X pins σ H s) (hf : ∀ b ∈ fp, FpOk X pins H b) (ho : ∀ b ∈ fp, ∃ o, s.heap.get? b = some o ∧ ∀ v, o.data ≠ .cell v) : Inv X (pins ++ pinsAt fp s.heap) σ H s :=
  I.pins_of fun p hp => (List.mem_append.mp hp).elim (fun z => I.pin p (List.mem_append_right _ z)) fun z => by
    obtain ⟨hb, e⟩ := of_pinsAt z
    obtain ⟨f0, f1, f2, _⟩ := hf p.1 hb
    obtain ⟨o, e', d⟩ := ho p.1 hb
    rw [e] at e'; cases e'
    exact ⟨e, f0, f1, f2, d⟩
theorem Inv.unpinned {pins pl : List (Addr × Obj)} {σ : St} {H : Hp} {s : Shared} (I : Inv X (pins ++ pl) σ H s) : Inv X pins σ H s := I.pins_of fun p hp => I.pin p (List.mem_append_right _ (List.mem_append_left _ hp))
theorem ps_for {iter : Expr} {body : List Stmt} {wi : TI} {g : TG} {tb : TS} {pos : Pos} (hp : PassesOwn (model X.prog X.w) X.A X.env X.xe) (hc : X.calm = true) (hi : PI X tg iter wi) (hg : PG X tg g) (hb : PSs X body tb)
    (hs : ∀ x, foldedSetIterable iter X.env x = pure x := by intro _; rfl) : PS X (.For tg iter body [] pos) (tFor wi g tb) := by
  intro pins s σ H D I h
  refine wpAny_For (thn (hi pins s σ H _ I h) fun v s1 h1 => thn h1 fun itv s2 h2 => ?_) hs
  obtain ⟨it, fp, tn, J, H2, e, I2, T, st2, f2, W, ⟨m0, w0⟩, turn⟩ := h2
  subst e
  have stat : ∀ {H' : Hp}, (∀ b ∈ fp, H' b = none) → ∀ b ∈ fp, FpOk X pins H' b := fun hn b hb => ⟨hn b hb, (f2 b hb).2⟩
  refine codeAny_forLoop_any (fun n s' => ∃ i σ' H', Inv X pins σ' H' s' ∧ tn i s'.heap ∧ (∀ b ∈ fp, H' b = none) ∧ W i n σ' H') ?_ m0 ⟨0, σ, H2, I2, st2, fun b hb => (f2 b hb).1, w0⟩
  rintro n s3 ⟨i, σ3, H3, I3, st3, fr3, w3⟩
  rcases turn i n σ3 H3 w3 with ⟨stop, qn⟩ | ⟨go, N, hN, step⟩
  · refine wpAny_passesOwn hp (thn (T.done X rfl rfl rfl hc i pins s3 σ3 H3 X.xe I3 (stat fr3) st3 stop) fun r s4 ⟨hr, I4⟩ => ?_)
    subst hr
    exact wpAny_execs_nil ⟨σ3, H3, I4, qn⟩
  · refine wpAny_passesOwn hp (thn (T.item X rfl rfl rfl hc i pins s3 σ3 H3 X.xe I3 (stat fr3) st3 go) fun r s4 ⟨u, hr, h4⟩ => ?_)
    subst hr
    refine wpAny_passesOwn hp (thn h4 fun _ s5 ⟨x, H5, I5, r5, y5, st5, fr5⟩ => ?_)
    have I5' := I5.pinned (stat fr5) (T.obj _ _ st5)
    refine wpAny_passesOwn hp (thn (hg _ s5 σ3 H5 x u _ I5' r5 (step x H5 y5)) fun _ s6 ⟨σ6, H6, I6, q6⟩ => ?_)
    refine wpAny_passesOwn hp (thn (hb _ s6 σ6 H6 _ I6 q6) fun f s7 q7 => ?_)
    have again : ∀ {σ7 : St} {H7 : Hp}, Inv X (pins ++ pinsAt fp s5.heap) σ7 H7 s7 → N σ7 H7 → ∃ m, m < n ∧ ∃ i σ' H', Inv X pins σ' H' s7 ∧ tn i s7.heap ∧ (∀ b ∈ fp, H' b = none) ∧ W i m σ' H' := fun {σ7 H7} I7 n7 => by
      obtain ⟨m', hm, w7⟩ := hN σ7 H7 n7
      refine ⟨m', hm, i + 1, σ7, H7, I7.unpinned, T.keep _ _ _ st5 fun b hb o e => (I7.pin (b, o) (List.mem_append_right _ (List.mem_append_right _ (mem_pinsAt hb e)))).1, fun b hb => ?_, w7⟩
      obtain ⟨o, e, d⟩ := T.obj _ _ st5 b hb
      exact (I7.pin (b, o) (List.mem_append_right _ (List.mem_append_right _ (mem_pinsAt hb e)))).2.1
    cases f with
    | next => obtain ⟨σ7, H7, I7, n7⟩ := q7; exact again I7 n7
    | cont => obtain ⟨σ7, H7, I7, n7⟩ := q7; exact again I7 n7
    | brk => obtain ⟨σ7, H7, I7, q7⟩ := q7; exact ⟨σ7, H7, I7.unpinned, q7⟩
    | ret v => obtain ⟨x7, σ7, H7, I7, r7, q7⟩ := q7; exact ⟨x7, σ7, H7, I7.unpinned, r7, q7⟩
end
theorem for_list {K : PySem.W.Frag} {a : Addr} {xs : List V} {g : TG} {tb : TS} {D : Ends} {σ : St} {H : Hp} (Pv : Nat → St → Hp → Prop) (h0 : Pv 0 σ H) (hl : ∀ i σ H, i ≤ xs.length → Pv i σ H → SqL K H a xs)
    (hs : ∀ i x σ H, xs[i]? = some x → Pv i σ H → g x σ H fun σ2 H2 => tb { D with nx := Pv (i + 1), ct := Pv (i + 1), bk := D.nx } σ2 H2) (hd : ∀ σ H, Pv xs.length σ H → D.nx σ H) :
    ∃ W : Nat → Nat → St → Hp → Prop, (∃ m, W 0 m σ H) ∧ ∀ i m σ H, W i m σ H →
      ((Itl K a).stop i H ∧ D.nx σ H) ∨ ((Itl K a).go i H ∧ ∃ N : St → Hp → Prop, (∀ σ' H', N σ' H' → ∃ m', m' < m ∧ W (i + 1) m' σ' H') ∧ ∀ x H', (Itl K a).yld i H x H' → g x σ H' fun σ2 H2 => tb { D with nx := N, ct := N, bk := D.nx } σ2 H2) := by
  refine ⟨fun i m σ H => m = xs.length - i ∧ i ≤ xs.length ∧ Pv i σ H, ⟨xs.length, by simp, Nat.zero_le _, h0⟩, ?_⟩
  rintro i m σ H ⟨rfl, hi, p⟩
  have q := hl i σ H hi p
  by_cases hlt : i < xs.length
  · refine .inr ⟨⟨xs, xs[i], q, by simp [hlt]⟩, Pv (i + 1), fun σ' H' p' => ⟨xs.length - (i + 1), by omega, rfl, hlt, p'⟩, fun x H' y => ?_⟩
    obtain ⟨e, y⟩ := y
    subst e
    exact hs i x σ _ (y xs q) p
  · have e : i = xs.length := by omega
    subst e
    exact .inl ⟨⟨xs, q, Nat.le_refl _⟩, hd σ H p⟩
theorem for_range {lo : Int} {n : Nat} {g : TG} {tb : TS} {D : Ends} {σ : St} {H : Hp} (Pv : Nat → St → Hp → Prop) (h0 : Pv 0 σ H)
    (hs : ∀ i σ H, i < n → Pv i σ H → g (.int (lo + i)) σ H fun σ2 H2 => tb { D with nx := Pv (i + 1), ct := Pv (i + 1), bk := D.nx } σ2 H2) (hd : ∀ σ H, Pv n σ H → D.nx σ H) :
    ∃ W : Nat → Nat → St → Hp → Prop, (∃ m, W 0 m σ H) ∧ ∀ i m σ H, W i m σ H →
      ((Itr lo n).stop i H ∧ D.nx σ H) ∨ ((Itr lo n).go i H ∧ ∃ N : St → Hp → Prop, (∀ σ' H', N σ' H' → ∃ m', m' < m ∧ W (i + 1) m' σ' H') ∧ ∀ x H', (Itr lo n).yld i H x H' → g x σ H' fun σ2 H2 => tb { D with nx := N, ct := N, bk := D.nx } σ2 H2) := by
  refine ⟨fun i m σ H => m = n - i ∧ i ≤ n ∧ Pv i σ H, ⟨n, by simp, Nat.zero_le _, h0⟩, ?_⟩
  rintro i m σ H ⟨rfl, hi, p⟩
  by_cases hlt : i < n
  · refine .inr ⟨hlt, Pv (i + 1), fun σ' H' p' => ⟨n - (i + 1), by omega, rfl, hlt, p'⟩, fun x H' y => ?_⟩
    obtain ⟨e, y⟩ := y
    subst e y
    exact hs i σ _ hlt p
  · have e : i = n := by omega
    subst e
    exact .inl ⟨Nat.le_refl _, hd σ H p⟩
end L2
namespace L2
open PySem PySem.Spec PyProof.Rows
abbrev R2 := V → V → Hp → VK → Prop
noncomputable def OpR (X : Cx) (f : Value → Value → Sem Value) (r : R2) : Prop :=
  ∀ (pins : List (Addr × Obj)) (s : Shared) (σ : St) (H : Hp) (x y : V) (v u : Value) (Q : VK), Inv X pins σ H s → RelV x v → RelV y u → r x y H Q →
    wpAny (model X.prog X.w) X.A (f v u) (EP X pins σ Q) X.xe s
noncomputable def UnR (X : Cx) (f : Value → Sem Value) (r : V → Hp → VK → Prop) : Prop :=
  ∀ (pins : List (Addr × Obj)) (s : Shared) (σ : St) (H : Hp) (x : V) (v : Value) (Q : VK), Inv X pins σ H s → RelV x v → r x H Q →
    wpAny (model X.prog X.w) X.A (f v) (EP X pins σ Q) X.xe s
noncomputable def CallR (X : Cx) (f : Value) (r : List V → Hp → VK → Prop) : Prop :=
  ∀ (pins : List (Addr × Obj)) (s : Shared) (σ : St) (H : Hp) (xs : List V) (us : List Value) (Q : VK), Inv X pins σ H s → Vals xs us → r xs H Q →
    wpAny (model X.prog X.w) X.A (call f us) (EP X pins σ Q) X.xe s
noncomputable def tOp (r : R2) (ta tb : TE) : TE := fun σ H Q => ta σ H fun x H1 => tb σ H1 fun y H2 => r x y H2 Q
noncomputable def tUn (r : V → Hp → VK → Prop) (ta : TE) : TE := fun σ H Q => ta σ H fun x H1 => r x H1 Q
noncomputable def rI (C : Int → Int → Prop) (g : Int → Int → V) : R2 := fun x y H Q => ∃ i j, x = .int i ∧ y = .int j ∧ C i j ∧ Q (g i j) H
noncomputable def rI0 (g : Int → Int → V) : R2 := fun x y H Q => ∃ i j, x = .int i ∧ y = .int j ∧ Q (g i j) H
noncomputable def rU (g : Int → V) : V → Hp → VK → Prop := fun x H Q => ∃ i, x = .int i ∧ Q (g i) H
section
variable {X : Cx} {a b c : Expr} {ta tb tc : TE} {pos : Pos}
theorem binT (ha : PE X a ta) (hb : PE X b tb) {pins : List (Addr × Obj)} {s : Shared} {σ : St} {H : Hp} {R : V → V → Hp → Prop} (I : Inv X pins σ H s)
    (h : ta σ H fun x H1 => tb σ H1 fun y H2 => R x y H2) {Q : Value → Shared → Prop} {f : Value → Value → Sem Value}
    (hf : ∀ v u s2 x y H2, Inv X pins σ H2 s2 → RelV x v → RelV y u → R x y H2 → wpAny (model X.prog X.w) X.A (f v u) Q X.xe s2) :
    wpAny (model X.prog X.w) X.A (eval a X.env) (fun v s₁ => wpAny (model X.prog X.w) X.A (eval b X.env) (fun u s₂ => wpAny (model X.prog X.w) X.A (f v u) Q X.xe s₂) X.xe s₁) X.xe s := by
  refine thn (ha pins s σ H _ I h) fun v s1 ⟨x, H1, I1, r1, q1⟩ => ?_
  refine thn (hb pins s1 σ H1 _ I1 q1) fun u s2 ⟨y, H2, I2, r2, q2⟩ => ?_
  exact hf v u s2 x y H2 I2 r1 r2 q2
theorem pe_op {op : Operator} {r : R2} (ho : OpR X (binaryOp op) r) (ha : PE X a ta) (hb : PE X b tb) : PE X (.BinOp a op b pos) (tOp r ta tb) := by
  intro pins s σ H Q I h
  exact wpAny_BinOp (binT ha hb I h fun v u s2 x y H2 I2 rx ry q => ho pins s2 σ H2 x y v u Q I2 rx ry q)
theorem pe_un {op : UnaryOp} {r : V → Hp → VK → Prop} (ho : UnR X (unaryOp op) r) (ha : PE X a ta) : PE X (.UnaryOp op a pos) (tUn r ta) := by
  intro pins s σ H Q I h
  exact UnaryOp_ (thn (ha pins s σ H _ I h) fun v s1 ⟨x, H1, I1, r1, q1⟩ => ho pins s1 σ H1 x v Q I1 r1 q1)
theorem opI {f : Value → Value → Sem Value} {C : Int → Int → Prop} {g : Int → Int → Int}
    (rule : ∀ (i j : Int) (t u : Tok) (s : Shared) (Q : Value → Shared → Prop) (E : Value → Shared → Prop), C i j → Q (.int (g i j) s.toks) { s with toks := s.toks + 1 } → wpAny (model X.prog X.w) X.A (f (.int i t) (.int j u)) Q E s) :
    OpR X f (rI C fun i j => .int (g i j)) := by
  intro pins s σ H x y v u Q I rx ry h
  obtain ⟨i, j, rfl, rfl, hc, q⟩ := h
  obtain ⟨t, rfl⟩ := rx
  obtain ⟨t', rfl⟩ := ry
  exact rule i j t t' s _ _ hc ⟨.int (g i j), H, I.tok _, ⟨_, rfl⟩, q⟩
theorem opI0 {f : Value → Value → Sem Value} {g : Int → Int → Int}
    (rule : ∀ (i j : Int) (t u : Tok) (s : Shared) (Q : Value → Shared → Prop) (E : Value → Shared → Prop), Q (.int (g i j) s.toks) { s with toks := s.toks + 1 } → wpAny (model X.prog X.w) X.A (f (.int i t) (.int j u)) Q E s) :
    OpR X f (rI0 fun i j => .int (g i j)) := by
  intro pins s σ H x y v u Q I rx ry h
  obtain ⟨i, j, rfl, rfl, q⟩ := h
  obtain ⟨t, rfl⟩ := rx
  obtain ⟨t', rfl⟩ := ry
  exact rule i j t t' s _ _ ⟨.int (g i j), H, I.tok _, ⟨_, rfl⟩, q⟩
theorem opB0 {f : Value → Value → Sem Value} {g : Int → Int → Bool}
    (rule : ∀ (i j : Int) (t u : Tok) (s : Shared) (Q : Value → Shared → Prop) (E : Value → Shared → Prop), Q (.bool (g i j)) s → wpAny (model X.prog X.w) X.A (f (.int i t) (.int j u)) Q E s) :
    OpR X f (rI0 fun i j => .bl (g i j)) := by
  intro pins s σ H x y v u Q I rx ry h
  obtain ⟨i, j, rfl, rfl, q⟩ := h
  obtain ⟨t, rfl⟩ := rx
  obtain ⟨t', rfl⟩ := ry
  exact rule i j t t' s _ _ ⟨.bl (g i j), H, I, rfl, q⟩
noncomputable def CPow (i j : Int) : Prop := 0 ≤ j ∧ j ≤ 1000000 ∧ i.natAbs < 2 ^ 64
noncomputable def CMul (i j : Int) : Prop := (-(2 ^ 64) < i ∧ i < 2 ^ 64) ∨ (-(2 ^ 64) < j ∧ j < 2 ^ 64)
theorem CMul.ok {i j : Int} (h : CMul i j) : IntMulOk i j := by
  rcases h with ⟨h1, h2⟩ | ⟨h1, h2⟩
  · exact .of_left (intBits_le_64 h1 h2)
  · exact .of_right (intBits_le_64 h1 h2)
theorem op_add : OpR X (binaryOp .Add) (rI0 fun i j => .int (i + j)) := opI0 fun _ _ _ _ _ _ _ q => add_int q
theorem op_sub : OpR X (binaryOp .Sub) (rI0 fun i j => .int (i - j)) := opI0 fun _ _ _ _ _ _ _ q => sub_int q
theorem op_mod : OpR X (binaryOp .Mod) (rI (fun _ j => 0 < j) fun i j => .int (i % j)) := opI fun i j _ _ _ _ _ hc q => by
  have h1 : (0 : Int) < j := hc
  exact mod_int' (by omega) (by rw [Int.fmod_eq_emod_of_nonneg i (by omega)]; exact q)
theorem op_pow : OpR X (binaryOp .Pow) (rI CPow fun i j => .int (i ^ j.toNat)) := opI fun _ _ _ _ _ _ _ hc q => pow_int_small hc.1 hc.2.1 hc.2.2 q
theorem unI {f : Value → Sem Value} {g : Int → Int}
    (rule : ∀ (i : Int) (t : Tok) (s : Shared) (Q : Value → Shared → Prop) (E : Value → Shared → Prop), Q (.int (g i) s.toks) { s with toks := s.toks + 1 } → wpAny (model X.prog X.w) X.A (f (.int i t)) Q E s) :
    UnR X f (rU fun i => .int (g i)) := by
  intro pins s σ H x v Q I rx h
  obtain ⟨i, rfl, q⟩ := h
  obtain ⟨t, rfl⟩ := rx
  exact rule i t s _ _ ⟨.int (g i), H, I.tok _, ⟨_, rfl⟩, q⟩
theorem un_neg : UnR X (unaryOp .USub) (rU fun i => .int (-i)) := unI fun _ _ _ _ _ q => neg_int q
end
noncomputable def scal : V → V → Bool
  | .non, .non => true | .non, .int _ => true | .int _, .non => true | .non, .bl _ => true | .bl _, .non => true | .non, .str _ => true | .str _, .non => true
  | .int _, .int _ => true | .bl _, .bl _ => true | .str _, .str _ => true | .byt _, .byt _ => true
  | .int _, .str _ => true | .str _, .int _ => true | .bl _, .str _ => true | .str _, .bl _ => true
  | _, _ => false
noncomputable def rEq : R2 := fun x y H Q => scal x y = true ∧ Q (.bl (decide (x = y))) H
noncomputable def rNe : R2 := fun x y H Q => scal x y = true ∧ Q (.bl (!decide (x = y))) H
theorem dec_int {i j : Int} : decide (V.int i = V.int j) = (i == j) := by
  rw [Bool.eq_iff_iff]
  simp
theorem dec_bl {i j : Bool} : decide (V.bl i = V.bl j) = (i == j) := by
  rw [Bool.eq_iff_iff]
  simp
theorem dec_str {i j : Str} : decide (V.str i = V.str j) = (i == j) := by
  rw [Bool.eq_iff_iff]
  simp
theorem dec_byt {i j : Array UInt8} : decide (V.byt i = V.byt j) = (i.toList == j.toList) := by
  rw [Bool.eq_iff_iff]
  cases i
  cases j
  simp
section
variable {X : Cx} {a b c : Expr} {ta tb tc : TE} {pos : Pos}
theorem fin_bl {pins : List (Addr × Obj)} {σ : St} {H : Hp} {s : Shared} {Q : VK} {k k' : Bool} (I : Inv X pins σ H s) (q : Q (.bl k) H) (e : k = k') : EP X pins σ Q (.bool k') s := by
  subst e
  exact ⟨.bl k, H, I, rfl, q⟩
theorem op_eq : OpR X (compareOp .Eq) rEq := by
  intro pins s σ H x y v u Q I rx ry h
  obtain ⟨hs, q⟩ := h
  cases x with
  | non =>
    cases rx
    cases y with
    | non => cases ry; exact PySem.EqNone.eq_none_none (fin_bl I q (by simp))
    | bl j => cases ry; exact PySem.EqNone.eq_none_bool (fin_bl I q (by simp))
    | int j => obtain ⟨t', rfl⟩ := ry; exact PySem.EqNone.eq_none_int (fin_bl I q (by simp))
    | str j => obtain ⟨t', rfl⟩ := ry; exact PySem.EqNone.eq_none_str (fin_bl I q (by simp))
    | _ => exact absurd (show false = true from hs) Bool.false_ne_true
  | bl i =>
    cases rx
    cases y with
    | non => cases ry; exact PySem.EqNone.eq_bool_none (fin_bl I q (by simp))
    | bl j => cases ry; exact eq_bool (fin_bl I q dec_bl)
    | str j => obtain ⟨t', rfl⟩ := ry; exact PySem.EqMixed.eq_bool_str (fin_bl I q (by simp))
    | _ => exact absurd (show false = true from hs) Bool.false_ne_true
  | int i =>
    obtain ⟨t, rfl⟩ := rx
    cases y with
    | non => cases ry; exact PySem.EqNone.eq_int_none (fin_bl I q (by simp))
    | int j => obtain ⟨t', rfl⟩ := ry; exact eq_int (fin_bl I q dec_int)
    | str j => obtain ⟨t', rfl⟩ := ry; exact PySem.EqMixed.eq_int_str (fin_bl I q (by simp))
    | _ => exact absurd (show false = true from hs) Bool.false_ne_true
  | str i =>
    obtain ⟨t, rfl⟩ := rx
    cases y with
    | non => cases ry; exact PySem.EqNone.eq_str_none (fin_bl I q (by simp))
    | bl j => cases ry; exact PySem.EqMixed.eq_str_bool (fin_bl I q (by simp))
    | int j => obtain ⟨t', rfl⟩ := ry; exact PySem.EqMixed.eq_str_int (fin_bl I q (by simp))
    | str j => obtain ⟨t', rfl⟩ := ry; exact eq_str (fin_bl I q dec_str)
    | _ => exact absurd (show false = true from hs) Bool.false_ne_true
  | byt i =>
    obtain ⟨t, rfl⟩ := rx
    cases y with
    | byt j => obtain ⟨t', rfl⟩ := ry; exact PySem.W.eq_bytes (fin_bl I q dec_byt)
    | _ => exact absurd (show false = true from hs) Bool.false_ne_true
  | _ => cases y <;> exact absurd (show false = true from hs) Bool.false_ne_true
theorem op_ne : OpR X (compareOp .NotEq) rNe := by
  intro pins s σ H x y v u Q I rx ry h
  obtain ⟨hs, q⟩ := h
  cases x with
  | non =>
    cases rx
    cases y with
    | non => cases ry; exact PySem.EqNone.ne_none_none (fin_bl I q (by simp))
    | bl j => cases ry; exact PySem.EqNone.ne_none_bool (fin_bl I q (by simp))
    | int j => obtain ⟨t', rfl⟩ := ry; exact PySem.EqNone.ne_none_int (fin_bl I q (by simp))
    | str j => obtain ⟨t', rfl⟩ := ry; exact PySem.EqNone.ne_none_str (fin_bl I q (by simp))
    | _ => exact absurd (show false = true from hs) Bool.false_ne_true
  | bl i =>
    cases rx
    cases y with
    | non => cases ry; exact PySem.EqNone.ne_bool_none (fin_bl I q (by simp))
    | bl j => cases ry; exact ne_bool (fin_bl I q (congrArg not dec_bl))
    | str j => obtain ⟨t', rfl⟩ := ry; exact PySem.EqMixed.ne_bool_str (fin_bl I q (by simp))
    | _ => exact absurd (show false = true from hs) Bool.false_ne_true
  | int i =>
    obtain ⟨t, rfl⟩ := rx
    cases y with
    | non => cases ry; exact PySem.EqNone.ne_int_none (fin_bl I q (by simp))
    | int j => obtain ⟨t', rfl⟩ := ry; exact ne_int (fin_bl I q (congrArg not dec_int))
    | str j => obtain ⟨t', rfl⟩ := ry; exact PySem.EqMixed.ne_int_str (fin_bl I q (by simp))
    | _ => exact absurd (show false = true from hs) Bool.false_ne_true
  | str i =>
    obtain ⟨t, rfl⟩ := rx
    cases y with
    | non => cases ry; exact PySem.EqNone.ne_str_none (fin_bl I q (by simp))
    | bl j => cases ry; exact PySem.EqMixed.ne_str_bool (fin_bl I q (by simp))
    | int j => obtain ⟨t', rfl⟩ := ry; exact PySem.EqMixed.ne_str_int (fin_bl I q (by simp))
    | str j => obtain ⟨t', rfl⟩ := ry; exact ne_str (fin_bl I q (congrArg not dec_str))
    | _ => exact absurd (show false = true from hs) Bool.false_ne_true
  | byt i =>
    obtain ⟨t, rfl⟩ := rx
    cases y with
    | byt j => obtain ⟨t', rfl⟩ := ry; exact PySem.W.ne_bytes (fin_bl I q (congrArg not dec_byt))
    | _ => exact absurd (show false = true from hs) Bool.false_ne_true
  | _ => cases y <;> exact absurd (show false = true from hs) Bool.false_ne_true
theorem op_lt : OpR X (compareOp .Lt) (rI0 fun i j => .bl (decide (i < j))) := opB0 fun _ _ _ _ _ _ _ q => lt_int q
theorem op_le : OpR X (compareOp .LtE) (rI0 fun i j => .bl (decide (i ≤ j))) := opB0 fun _ _ _ _ _ _ _ q => le_int q
theorem op_gt : OpR X (compareOp .Gt) (rI0 fun i j => .bl (decide (j < i))) := opB0 fun _ _ _ _ _ _ _ q => gt_int q
theorem op_ge : OpR X (compareOp .GtE) (rI0 fun i j => .bl (decide (j ≤ i))) := opB0 fun _ _ _ _ _ _ _ q => ge_int q
theorem op_isN : OpR X (compareOp .Is) (fun x y H Q => y = .non ∧ Q (.bl (decide (x = .non))) H) := by
  intro pins s σ H x y v u Q I rx ry h
  obtain ⟨rfl, q⟩ := h
  cases ry
  refine is_none_gen (fin_bl I q ?_)
  cases x <;> first
    | (cases rx; rfl)
    | (obtain ⟨t, rfl⟩ := rx; rfl)
theorem op_notN : OpR X (compareOp .IsNot) (fun x y H Q => y = .non ∧ Q (.bl (!decide (x = .non))) H) := by
  intro pins s σ H x y v u Q I rx ry h
  obtain ⟨rfl, q⟩ := h
  cases ry
  refine isnot_none_gen (fin_bl I q ?_)
  cases x <;> first
    | (cases rx; rfl)
    | (obtain ⟨t, rfl⟩ := rx; rfl)
theorem OpR.or {f : Value → Value → Sem Value} {r r' : R2} (h : OpR X f r) (h' : OpR X f r') : OpR X f (fun x y H Q => r x y H Q ∨ r' x y H Q) := by
  intro pins s σ H x y v u Q I rx ry q
  rcases q with q | q
  · exact h pins s σ H x y v u Q I rx ry q
  · exact h' pins s σ H x y v u Q I rx ry q
theorem nomark (b : Expr) {op : CmpOp} (h : op ≠ .In := by decide) (h2 : op ≠ .NotIn := by decide) : behindInMarks op b = false := by
  have e1 : (op == CmpOp.In) = false := by cases op <;> first | rfl | exact absurd rfl h
  have e2 : (op == CmpOp.NotIn) = false := by cases op <;> first | rfl | exact absurd rfl h2
  cases b <;> simp [behindInMarks, e1, e2]
theorem pe_cmpR {op : CmpOp} {r : R2} (ho : OpR X (compareOp op) r) (ha : PE X a ta) (hb : PE X b tb) (hm : behindInMarks op b = false) : PE X (.Compare a [op] [b] pos) (tOp r ta tb) := by
  intro pins s σ H Q I h
  exact wpAny_Compare1 (binT ha hb I h fun v u s2 x y H2 I2 rx ry q => ho pins s2 σ H2 x y v u Q I2 rx ry q) hm
noncomputable def tTest (t : TE) : TT := fun σ H Q => t σ H fun x H' => ∃ k, x = .bl k ∧ Q k H'
theorem pt_cmpR {op : CmpOp} {r : R2} (ho : OpR X (compareOp op) r) (ha : PE X a ta) (hb : PE X b tb) (hm : behindInMarks op b = false) : PT X (.Compare a [op] [b] pos) (tTest (tOp r ta tb)) := by
  intro pins s σ H Q I h
  refine wpAny_isTrue_Compare1 (thn (ha pins s σ H _ I h) fun v s1 ⟨x, H1, I1, r1, q1⟩ => thn (hb pins s1 σ H1 _ I1 q1) fun u s2 ⟨y, H2, I2, r2, q2⟩ =>
    thn (ho pins s2 σ H2 x y v u _ I2 r1 r2 q2) fun c s3 ⟨z, H3, I3, r3, k, e, q3⟩ => ?_) hm
  subst e
  cases r3
  exact wpAny_truthy_bool ⟨H3, I3, q3⟩
noncomputable def tChain (r r' : R2) (ta tb tc : TE) : TE := fun σ H Q => ta σ H fun x H1 => tb σ H1 fun y H2 => r x y H2 fun z H3 => ∃ k, z = .bl k ∧
  (if k = true then tc σ H3 fun w' H4 => r' y w' H4 Q else Q (.bl false) H3)
theorem pt_chain {op op' : CmpOp} {r r' : R2} (ho : OpR X (compareOp op) r) (ho' : OpR X (compareOp op') r') (ha : PE X a ta) (hb : PE X b tb) (hc : PE X c tc)
    (hm : lastMarks [op, op'] [b, c] = false := by with_unfolding_all rfl) : PT X (.Compare a [op, op'] [b, c] pos) (tTest (tChain r r' ta tb tc)) := by
  intro pins s σ H Q I h
  refine isTrue_chain (thn (ha pins s σ H _ I h) fun v s1 ⟨x, H1, I1, r1, q1⟩ => test_link (thn (hb pins s1 σ H1 _ I1 q1) fun u s2 ⟨y, H2, I2, r2, q2⟩ =>
    thn (ho pins s2 σ H2 x y v u _ I2 r1 r2 q2) fun d s3 ⟨z, H3, I3, r3, k, e, q3⟩ => ?_)) hm
  subst e
  cases r3
  refine wpAny_truthy_bool ?_
  cases k with
  | false =>
    obtain ⟨k', e', q'⟩ := q3
    cases e'
    exact ite_ff ⟨H3, I3, q'⟩
  | true =>
    refine ite_tt (test_last (thn (hc pins s3 σ H3 _ I3 q3) fun w' s4 ⟨z', H4, I4, r4, q4⟩ => thn (ho' pins s4 σ H4 y z' u w' _ I4 r2 r4 q4) fun d' s5 ⟨z2, H5, I5, r5, k2, e2, q5⟩ => ?_))
    subst e2
    cases r5
    exact wpAny_truthy_bool ⟨H5, I5, q5⟩
theorem line63 : (sizeLine : Nat) < 2 ^ 63 := by rw [sizeLine_eq]; decide
theorem vals1 {x : V} {us : List Value} (r : Vals [x] us) : ∃ u, us = [u] ∧ RelV x u := by
  cases r with
  | cons r1 r2 => cases r2; exact ⟨_, rfl, r1⟩
theorem vals2 {x y : V} {us : List Value} (r : Vals [x, y] us) : ∃ u w', us = [u, w'] ∧ RelV x u ∧ RelV y w' := by
  cases r with
  | cons r1 r2 =>
    cases r2 with
    | cons r3 r4 => cases r4; exact ⟨_, _, rfl, r1, r3⟩
theorem call_int1 : CallR X (.type "int") (fun xs H Q => (∃ i, xs = [.int i] ∧ Q (.int i) H) ∨ ∃ k, xs = [.bl k] ∧ Q (.int (if k then 1 else 0)) H) := by
  intro pins s σ H xs us Q I r h
  rcases h with ⟨i, rfl, q⟩ | ⟨k, rfl, q⟩
  · obtain ⟨u, rfl, t, rfl⟩ := vals1 r
    exact call_int_int ⟨.int i, H, I, ⟨_, rfl⟩, q⟩
  · obtain ⟨u, rfl, r1⟩ := vals1 r
    cases r1
    exact call_int_bool ⟨.int (if k then 1 else 0), H, I.tok _, ⟨_, rfl⟩, q⟩
end
end L2
namespace L2
open PySem PySem.Spec PyProof.Rows
structure ObjM (h : Heap) (x dx C : Addr) (mA : Str → Option Value) : Prop where
  obj : h.get? x = some (PySem.W.instObj C dx)
  ns : h.Ns1 dx mA
  ne : dx ≠ x
theorem lookIn_ns {h : Heap} {dx : Addr} {mA : Str → Option Value} (n : h.Ns1 dx mA) : ∃ od, h.get? dx = some od ∧ ∀ name, PySem.W.lookIn name od = some (mA name) := by
  obtain ⟨o, es, ep, ho, hd, hk, _, hm⟩ := n
  refine ⟨o, ho, fun name => ?_⟩
  have e := hm name
  unfold nsFind findBy at e
  rw [← Array.find?_toList] at e
  unfold PySem.W.lookIn
  rw [hd]
  dsimp only
  split
  · rename_i y q
    rw [q] at e
    exact congrArg some e
  · rename_i q
    rw [q] at e
    have a : es.toList.any (·.refKey) = false := by
      rw [List.any_eq_false]
      intro y hy
      obtain ⟨z, t, hkey⟩ := hk y (Array.mem_toList_iff.mp hy)
      simp [DictEntry.refKey, hkey]
    have a' : ¬ es.toList.any (·.refKey) = true := by rw [a]; exact Bool.false_ne_true
    rw [if_neg a']
    exact congrArg some e
theorem ObjM.look {h : Heap} {x dx C : Addr} {mA : Str → Option Value} (I : ObjM h x dx C mA) : ∃ od, PySem.W.InstAt h x (PySem.W.instObj C dx) C (some od) ∧ ∀ name, PySem.W.lookIn name od = some (mA name) :=
  let ⟨od, ho, hl⟩ := lookIn_ns I.ns
  ⟨od, ⟨I.obj, rfl, rfl, ho⟩, hl⟩
section
variable {prog : Program} {w : World} {A : Around} {E : Value → Shared → Prop} {s : Shared} {K : PySem.W.Frag} {x dx C f : Addr} {mA : Str → Option Value} {name : Str} {v : Value}
theorem get_map {expr : Bool} {Q : Value → Shared → Prop} (X : K.In s.heap) (I : ObjM s.heap x dx C mA) (hg : PySem.W.plainGet K C name = true) (hh : PySem.W.hasDictIn K C = true)
    (ha : PySem.W.findIn K (.ref C) name = some none) (hv : mA name = some v) (hv' : PySem.W.handedIn v = true) (h : Q v { s with toks := s.toks + 1 }) :
    wpAny (model prog w) A (getAttr (.ref x) name expr) Q E s := by
  obtain ⟨od, J, hl⟩ := I.look
  exact PySem.W.get_value X J (PySem.W.plainGet_of hg).1 (PySem.W.findObj_own hh ha rfl (by rw [hl, hv])) hv' h
theorem get_meth {pl : Sem Bool} {Q : Value × List Value → Shared → Prop} (X : K.In s.heap) (I : ObjM s.heap x dx C mA) (hg : PySem.W.plainGet K C name = true)
    (hf : PySem.W.findIn K (.ref C) name = some (some (.ref f))) (ht : PySem.W.isFn K (.ref f) = true) (hv : mA name = none) (h : Q (.ref f, [.ref x]) s) :
    wpAny (model prog w) A (getMethod (.ref x) name pl) Q E s := by
  obtain ⟨od, J, hl⟩ := I.look
  exact PySem.W.method_fn X J (PySem.W.plainGet_of hg).1 (PySem.W.plainGet_of hg).2 hf (beq_iff_eq.mp ht) (by show (PySem.W.lookIn name od).map (·.isSome) = some false; rw [hl, hv]; rfl) h
theorem set_map {ns : List Str} {Q : Unit → Shared → Prop} (X : K.In s.heap) (I : ObjM s.heap x dx C mA)
    (hs : PySem.W.findIn K (.ref C) "__setattr__" = some (some (.builtin "object.__setattr__"))) (hp : PySem.W.plainOver K C = true) (ht : PySem.W.takerIn K C name = some none) (hh : PySem.W.hasDictIn K C = true)
    (hw : PySem.Within mA ns) (hsz : ns.length ≤ sizeLine)
    (h : ∀ h', ObjM h' x dx C (fun y => if y = name then some v else mA y) → Heap.SameBut dx s.heap h' → Q () { s with heap := h', toks := s.toks + 2 }) :
    wpAny (model prog w) A (setAttr (.ref x) name v) Q E s := by
  obtain ⟨od, J, hl⟩ := I.look
  refine PySem.W.set_plain X J hs (PySem.W.osa_open (s := { s with toks := s.toks + 1 }) (r := none) X J hp ht fun b => ?_)
  obtain ⟨cd, hc, hd'⟩ := PySem.W.any_some hh
  have hx : s.heap.get? x = some ⟨.ref C, some dx, .plain, #[]⟩ := I.obj
  refine wpAny_bind (wpAny_pure (wpAny_bind (wpAny_bind (wpAny_loadPart hx (wpAny_bind (PySem.W.Looks.here (s := { s with toks := s.toks + 1 }) (PySem.W.looks_clsIn X hc) ?_))))))
  rw [hd']
  refine wpAny_pure (a := some dx) (wpAny_bind (wpAny_pure (wpAny_bind ?_)))
  refine wpAny_nsSet1 (s := { s with toks := s.toks + 1 }) I.ns fun h' hn2 hs2 => ?_
  obtain ⟨oD, esD, epD, hoD, hdD, hcD⟩ := hn2.count (PySem.Within.cons name v hw)
  refine wpAny_bind (wpAny_lookBehind hoD (by rw [hdD]; exact pastItsLine_dict (Nat.le_trans hcD (by rw [List.length_cons]; omega))) ?_)
  exact wpAny_pure (h _ ⟨(hs2.2 _ (Ne.symm I.ne)).trans I.obj, hn2, I.ne⟩ hs2)
theorem make_map {R : Result → Shared → Prop} {vs : List Value} {kw : List (Str × Value)} (X : K.In s.heap) (hm : PySem.W.makesIn K C = true)
    (hi : PySem.W.findIn K (.ref C) "__init__" = some (some (.ref f))) (hf : PySem.W.typeIn K (.ref f) = some (.type "function"))
    (h : codeAny (model prog w) (A.under (.builtin "type.__call__" ⟨.ref C :: vs, kw⟩)) (.call (.ref f) ⟨.ref (s.heap.objs.size + 1) :: vs, kw⟩) (PySem.W.InitBack (s.heap.objs.size + 1) R)
      { s with heap := (s.heap.push PySem.W.emptyDict).push (PySem.W.instObj C s.heap.objs.size) }) :
    codeAny (model prog w) A (.call (.ref C) ⟨vs, kw⟩) R s := by
  obtain ⟨hh, g, d, t, os⟩ := s
  exact PySem.W.make_core (PySem.W.makes_of X hm) (PySem.W.looks_findIn X hi) (fun self => PySem.W.bind_fn X self hf) (.inl rfl) h
end
noncomputable def putF (f : Str) (v : V) : List (Str × V) → List (Str × V)
  | [] => [(f, v)]
  | (g, x) :: r => if g = f then (g, v) :: r else (g, x) :: putF f v r
theorem lookup_putF (f g : Str) (v : V) : ∀ fs : List (Str × V), (putF f v fs).lookup g = if g = f then some v else fs.lookup g
  | [] => by
    show List.lookup g [(f, v)] = _
    by_cases h : g = f
    · have hb : (g == f) = true := beq_iff_eq.mpr h
      simp only [List.lookup, hb, if_pos h]
    · have hb : (g == f) = false := beq_eq_false_iff_ne.mpr h
      simp only [List.lookup, hb, if_neg h]
  | (k, x) :: r => by
    have ih := lookup_putF f g v r
    rw [show putF f v ((k, x) :: r) = (if k = f then (k, v) :: r else (k, x) :: putF f v r) from rfl]
    by_cases hk : k = f
    · rw [if_pos hk]
      by_cases h : g = k
      · have hb : (g == k) = true := beq_iff_eq.mpr h
        simp only [List.lookup, hb, if_pos (h.trans hk)]
      · have hb : (g == k) = false := beq_eq_false_iff_ne.mpr h
        simp only [List.lookup, hb, if_neg (fun e : g = f => h (e.trans hk.symm))]
    · rw [if_neg hk]
      by_cases h : g = k
      · have hb : (g == k) = true := beq_iff_eq.mpr h
        simp only [List.lookup, hb, if_neg (fun e : g = f => hk (h.symm.trans e))]
      · have hb : (g == k) = false := beq_eq_false_iff_ne.mpr h
        simp only [List.lookup, hb]
        exact ih
theorem keys_putF (f : Str) (v : V) : ∀ fs : List (Str × V), f ∈ (putF f v fs).map (·.1) ∧ ∀ g, g ∈ fs.map (·.1) → g ∈ (putF f v fs).map (·.1)
  | [] => ⟨by simp [putF], fun g h => by simp at h⟩
  | (k, x) :: r => by
    obtain ⟨i1, i2⟩ := keys_putF f v r
    rw [show putF f v ((k, x) :: r) = (if k = f then (k, v) :: r else (k, x) :: putF f v r) from rfl]
    by_cases hk : k = f
    · rw [if_pos hk]
      subst hk
      exact ⟨by simp, fun g h => by simpa using h⟩
    · rw [if_neg hk]
      refine ⟨?_, fun g h => ?_⟩
      · rw [List.map_cons]
        exact List.mem_cons_of_mem _ i1
      · rw [List.map_cons] at h ⊢
        rcases List.mem_cons.mp h with e | e
        · exact List.mem_cons.mpr (.inl e)
        · exact List.mem_cons_of_mem _ (i2 g e)
theorem length_putF (f : Str) (v : V) : ∀ fs : List (Str × V), (putF f v fs).length ≤ fs.length + 1
  | [] => by simp [putF]
  | (k, x) :: r => by
    have ih := length_putF f v r
    rw [show putF f v ((k, x) :: r) = (if k = f then (k, v) :: r else (k, x) :: putF f v r) from rfl]
    by_cases hk : k = f
    · rw [if_pos hk, List.length_cons, List.length_cons]; omega
    · rw [if_neg hk, List.length_cons, List.length_cons]; omega
theorem RelO.some_of {v : V} {o : Option Value} (r : RelO (some v) o) : ∃ u, o = some u ∧ RelV v u := by
  cases o with
  | none => exact (show False from r).elim
  | some u => exact ⟨u, rfl, r⟩
theorem RelO.none_of {o : Option Value} (r : RelO none o) : o = none := by
  cases o with
  | none => rfl
  | some u => exact (show False from r).elim
theorem handed_of {v : V} {u : Value} (r : RelV v u) : PySem.W.handedIn u = true := by
  cases v with
  | non => cases (show u = Value.none from r); rfl
  | bl b => cases (show u = Value.bool b from r); rfl
  | int i => obtain ⟨t, e⟩ := (show ∃ t, u = Value.int i t from r); cases e; rfl
  | str x => obtain ⟨t, e⟩ := (show ∃ t, u = Value.str x t from r); cases e; rfl
  | byt b => obtain ⟨t, e⟩ := (show ∃ t, u = Value.bytes b t from r); cases e; rfl
  | flt b => obtain ⟨t, e⟩ := (show ∃ t, u = Value.float b t from r); cases e; rfl
  | ref a => cases (show u = Value.ref a from r); rfl
  | ty n => cases (show u = Value.type n from r); rfl
section
variable {P : Program} {w : World} {H H' : Hp} {h h' : Heap} {a C dx : Addr} {fs fs' : List (Str × V)}
theorem ins_get (hok : HOk P w H h) (e : H a = some (.ins C dx fs)) : ∃ mA, ObjM h a dx C mA ∧ (∀ f, RelO (fs.lookup f) (mA f)) ∧ PySem.Within mA (fs.map (·.1)) ∧ fs.length ≤ 1000 ∧ H dx = some (.own a) := by
  obtain ⟨d, z, ne, ob, mA, n, r, q⟩ := (show ObjOk P w H h a (.ins C dx fs) from hok a _ e)
  exact ⟨mA, ⟨ob, n, ne⟩, r, q, z, d⟩
end
structure Cls (K : PySem.W.Frag) (C : Addr) : Prop where
  pg : PySem.W.plainGet K C Str.empty = true
  hd : PySem.W.hasDictIn K C = true
  po : PySem.W.plainOver K C = true
  sa : PySem.W.findIn K (.ref C) "__setattr__" = some (some (.builtin "object.__setattr__"))
theorem Cls.get {K : PySem.W.Frag} {C : Addr} (c : Cls K C) (f : Str) : PySem.W.plainGet K C f = true := c.pg
noncomputable def NoAttr (K : PySem.W.Frag) (C : Addr) (f : Str) : Prop := PySem.W.findIn K (.ref C) f = some none
theorem NoAttr.taker {K : PySem.W.Frag} {C : Addr} {f : Str} (n : NoAttr K C f) : PySem.W.takerIn K C f = some none := by
  unfold PySem.W.takerIn
  rw [show PySem.W.findIn K (.ref C) f = some none from n]
  rfl
structure Con (K : PySem.W.Frag) (C : Addr) (f : Str) (v : V) (u : Value) : Prop where
  at_ : PySem.W.findIn K (.ref C) f = some (some u)
  rel : RelV v u
  get : PySem.W.specialIn K u "__get__" = some none
  cp : PySem.W.copiedNames.contains f = false
structure Meth (K : PySem.W.Frag) (C : Addr) (m : Str) (f : Addr) : Prop where
  at_ : PySem.W.findIn K (.ref C) m = some (some (.ref f))
  fn : PySem.W.isFn K (.ref f) = true
  kp : PySem.W.keepIn K (.ref f) = true
section
variable {X : Cx} {pins : List (Addr × Obj)} {σ : St} {H : Hp} {s : Shared} {a C dx : Addr} {fs : List (Str × V)} {f : Str} {v : V} {A : Around} {E : Value → Shared → Prop}
theorem getattr_ok {b : Bool} {Q : Value → Shared → Prop} (I : Inv X pins σ H s) (e : H a = some (.ins C dx fs)) (c : Cls X.K C) (n : NoAttr X.K C f) (l : fs.lookup f = some v)
    (h : ∀ u s', Inv X pins σ H s' → RelV v u → Q u s') : wpAny (model X.prog X.w) A (getAttr (.ref a) f b) Q E s := by
  obtain ⟨mA, O, r, _, _, _⟩ := ins_get I.hok e
  obtain ⟨u, hu, ru⟩ := RelO.some_of (v := v) (o := mA f) (by rw [← l]; exact r f)
  exact get_map I.kIn O (c.get f) c.hd n hu (handed_of ru) (h u _ (I.tok _) ru)
theorem getmeth_ok {m : Str} {g : Addr} {pl : Sem Bool} {Q : Value × List Value → Shared → Prop} (I : Inv X pins σ H s) (e : H a = some (.ins C dx fs)) (c : Cls X.K C) (k : Meth X.K C m g) (l : fs.lookup m = none)
    (h : Q (.ref g, [.ref a]) s) : wpAny (model X.prog X.w) A (getMethod (.ref a) m pl) Q E s := by
  obtain ⟨mA, O, r, _, _, _⟩ := ins_get I.hok e
  have hn : mA m = none := RelO.none_of (by rw [← l]; exact r m)
  exact get_meth I.kIn O (c.get m) k.at_ k.fn hn h
theorem setattr_ok {y : V} {u : Value} {Q : Unit → Shared → Prop} (I : Inv X pins σ H s) (e : H a = some (.ins C dx fs)) (c : Cls X.K C) (n : NoAttr X.K C f) (hl : fs.length < 1000) (ry : RelV y u)
    (h : ∀ s', Inv X pins σ (upd H a (.ins C dx (putF f y fs))) s' → Q () s') : wpAny (model X.prog X.w) A (setAttr (.ref a) f u) Q E s := by
  obtain ⟨mA, O, r, wi, _, ho⟩ := ins_get I.hok e
  have hz : (fs.map (·.1)).length ≤ sizeLine := by rw [List.length_map, sizeLine_eq]; omega
  refine set_map I.kIn O c.sa c.po n.taker c.hd wi hz fun h' O' sb => h _ ?_
  have hd : ∃ o, h'.get? dx = some o := let ⟨o, _, _, e', _⟩ := O'.ns; ⟨o, e'⟩
  refine I.write (x := a) (e := dx) (by rw [e]; exact True.intro) (.inr ho) (fun b q hb z => (sb.2 b hb).trans z) hd ?_
  refine ⟨by rw [upd_ne O.ne]; exact ho, ?_, O.ne, O'.obj, _, O'.ns, fun g => ?_, fun g hg => ?_⟩
  · have := length_putF f y fs; omega
  · show RelO ((putF f y fs).lookup g) (if g = f then some u else mA g)
    rw [lookup_putF]
    by_cases q : g = f
    · rw [if_pos q, if_pos q]; exact ry
    · rw [if_neg q, if_neg q]; exact r g
  · by_cases q : g = f
    · rw [q]; exact (keys_putF f y fs).1
    · refine (keys_putF f y fs).2 g (wi g fun z => hg ?_)
      show (if g = f then some u else mA g) = none
      rw [if_neg q]; exact z
theorem Inv.made (I : Inv X pins σ H s) : Inv X pins σ (upd (upd H s.heap.objs.size (.own (s.heap.objs.size + 1))) (s.heap.objs.size + 1) (.ins C s.heap.objs.size []))
    { s with heap := (s.heap.push PySem.W.emptyDict).push (PySem.W.instObj C s.heap.objs.size) } := by
  have e1 : (s.heap.push PySem.W.emptyDict).get? s.heap.objs.size = some PySem.W.emptyDict := Heap.get?_push_size s.heap rfl
  have e2 : ((s.heap.push PySem.W.emptyDict).push (PySem.W.instObj C s.heap.objs.size)).get? (s.heap.objs.size + 1) = some (PySem.W.instObj C s.heap.objs.size) := by
    have := Heap.get?_push_size (s.heap.push PySem.W.emptyDict) (o := PySem.W.instObj C s.heap.objs.size) rfl
    rwa [Heap.size_push] at this
  have e3 : (s.heap.push PySem.W.emptyDict).Ns s.heap.objs.size (fun _ => none) := ⟨PySem.W.emptyDict, #[], _, e1, rfl, (fun e he => absurd he (by simp)), fun _ => rfl⟩
  have I1 := I.laid (a := s.heap.objs.size) (o := .own (s.heap.objs.size + 1)) (h' := s.heap.push PySem.W.emptyDict) (t' := s.toks) (fun b u q => Heap.get?_push_of_some _ q) (Nat.le_refl _) ⟨_, e1⟩
  refine I1.laid (a := s.heap.objs.size + 1) (o := .ins C s.heap.objs.size []) (t' := s.toks) (fun b u q => Heap.get?_push_of_some _ q) (Nat.le_of_eq (Heap.size_push _ _)) ?_
  have ne : s.heap.objs.size ≠ s.heap.objs.size + 1 := Nat.ne_of_lt (Nat.lt_succ_self _)
  refine ⟨by rw [upd_ne ne, upd_same], Nat.zero_le _, ne, e2, fun _ => none, (Heap.Ns1.of_empty e3).at fun o q => Heap.get?_push_of_some _ q, fun _ => True.intro, fun y hy => absurd rfl hy⟩
theorem attr_of {prog : Program} {w : World} {env : Env} {e : Expr} {f : Str} {pos : Pos} {s : Shared} {Q : Value → Shared → Prop} (hb : attributeBase e f env (eval e env) = eval e env)
    (h : wpAny (model prog w) A (eval e env) (fun o s₁ => wpAny (model prog w) A (getAttr o f true) Q E s₁) E s) : wpAny (model prog w) A (eval (.Attribute e f pos) env) Q E s :=
  Attribute_any_ h (by rw [arm_eval_Attribute, hb])
end
noncomputable def tFld (K : PySem.W.Frag) (ta : TE) (f : Str) : TE := fun σ H Q => ta σ H fun x H1 => ∃ a C dx fs v, x = .ref a ∧ H1 a = some (.ins C dx fs) ∧ Cls K C ∧ NoAttr K C f ∧ fs.lookup f = some v ∧ Q v H1
noncomputable def sFld (K : PySem.W.Frag) (ta tv : TE) (f : Str) : TS := fun D σ H => tv σ H fun y H1 => ta σ H1 fun x H2 => ∃ a C dx fs, x = .ref a ∧ H2 a = some (.ins C dx fs) ∧ Cls K C ∧ NoAttr K C f ∧ fs.length < 1000 ∧
  D.nx σ (upd H2 a (.ins C dx (putF f y fs)))
section
variable {X : Cx} {o e value : Expr} {f : Str} {pos pos' tpos : Pos} {ta tv : TE}
theorem pe_fld (he : PE X e ta) (hb : attributeBase e f X.env (eval e X.env) = eval e X.env) : PE X (.Attribute e f pos) (tFld X.K ta f) := by
  intro pins s σ H Q I h
  refine attr_of hb (thn (he pins s σ H _ I h) fun u s1 ⟨x, H1, I1, rx, a, C, dx, fs, v, ex, ea, c, n, l, q⟩ => ?_)
  subst ex
  obtain rfl : u = Value.ref a := rx
  exact getattr_ok I1 ea c n l fun u' s2 I2 ru => ⟨v, H1, I2, ru, q⟩
theorem ps_fld (ha : PE X o ta) (hv : PE X value tv) (hs : swapsWith value (some (.Attribute o f pos')) pos.line X.env = pure false) : PS X (.Assign [.Attribute o f pos'] value pos) (sFld X.K ta tv f) := by
  intro pins s σ H D I h
  refine plainObj_wpAny_Assign_Attribute (thn (hv pins s σ H _ I h) fun u s1 ⟨y, H1, I1, ry, q⟩ => thn (ha pins s1 σ H1 _ I1 q) fun ov s2 ⟨x, H2, I2, rx, a, C, dx, fs, ex, ea, c, n, l, q2⟩ => ?_) hs
  subst ex
  obtain rfl : ov = Value.ref a := rx
  exact setattr_ok I2 ea c n l ry fun s3 I3 => ⟨σ, _, I3, q2⟩
end
section
variable {X : Cx} {pins : List (Addr × Obj)} {σ : St} {H : Hp} {s : Shared} {A : Around} {E : Value → Shared → Prop} {Q : Value → Shared → Prop} {c : Value} {b : Bool}
inductive TyOf (K : PySem.W.Frag) (H : Hp) : V → Value → Prop where
  | non : TyOf K H .non (.type "NoneType")
  | bl (x : Bool) : TyOf K H (.bl x) (.type "bool")
  | int (i : Int) : TyOf K H (.int i) (.type "int")
  | str (x : Str) : TyOf K H (.str x) (.type "str")
  | flt (x : UInt64) : TyOf K H (.flt x) (.type "float")
  | lst {a : Addr} {xs : List V} (e : H a = some (.lst xs)) : TyOf K H (.ref a) (.type "list")
  | frz {a : Addr} {o : Obj} {xs : List V} (e : H a = some (.frz o (.lst xs))) : TyOf K H (.ref a) (.type "list")
  | tup {a : Addr} {xs : List V} (e : H a = some (.tup xs)) : TyOf K H (.ref a) (.type "tuple")
  | dK {a : Addr} {kvs : List (Key × V)} (e : H a = some (.dK kvs)) : TyOf K H (.ref a) (.type "dict")
  | dT {a : Addr} {kvs : List (List Key × V)} (e : H a = some (.dT kvs)) : TyOf K H (.ref a) (.type "dict")
  | ins {a C dx : Addr} {fs : List (Str × V)} (e : H a = some (.ins C dx fs)) (cl : Cls K C) (ha : PySem.W.findIn K (.ref C) "__class__" = some (some (.builtin "object.__class__")))
      (hn : PySem.W.specialIn K (.builtin "object.__class__") "__get__" = some (some (.builtin "getset_descriptor.__get__"))) (htk : PySem.W.takesIn K (.builtin "object.__class__") = some true)
      (hm : PySem.W.mroIn K C (.type "object") = some true) : TyOf K H (.ref a) (.ref C)
theorem isinst_ok {x : V} {u t : Value} (I : Inv X pins σ H s) (rx : RelV x u) (ty : TyOf X.K H x t) (e : PySem.W.kitOne X.K t c = some b) (h : ∀ tk, Q (.bool b) { s with toks := tk }) :
    wpAny (model X.prog X.w) A (call (.builtin "isinstance") [u, c]) Q E s := by
  cases ty with
  | non => cases (show u = Value.none from rx); exact PySem.W.kia_one PySem.W.kitx_none I.kIn True.intro e (fun z => nomatch z) h
  | bl y => cases (show u = Value.bool y from rx); exact PySem.W.kia_one PySem.W.kitx_bool I.kIn True.intro e (fun z => nomatch z) h
  | int i => obtain ⟨t, q⟩ := (show ∃ t, u = Value.int i t from rx); cases q; exact PySem.W.kia_one PySem.W.kitx_int I.kIn True.intro e (fun z => nomatch z) h
  | str y => obtain ⟨t, q⟩ := (show ∃ t, u = Value.str y t from rx); cases q; exact PySem.W.kia_one PySem.W.kitx_str I.kIn True.intro e (fun z => nomatch z) h
  | flt y => obtain ⟨t, q⟩ := (show ∃ t, u = Value.float y t from rx); cases q; exact PySem.W.kia_one PySem.W.kitx_float I.kIn True.intro e (fun z => nomatch z) h
  | @lst a xs ea =>
    cases (show u = Value.ref a from rx)
    obtain ⟨_, _, n, _, h1⟩ := (show ObjOk X.prog X.w H s.heap a (.lst xs) from I.hok a _ ea)
    exact PySem.W.kia_one PySem.W.kitx_list I.kIn ⟨_, h1, rfl⟩ e (fun z => nomatch z) h
  | @frz a ob xs ea =>
    cases (show u = Value.ref a from rx)
    obtain ⟨_, _, _, n, _, h1⟩ := (show ObjOk X.prog X.w H s.heap a (.frz ob (.lst xs)) from I.hok a _ ea)
    exact PySem.W.kia_one PySem.W.kitx_list I.kIn ⟨_, h1, rfl⟩ e (fun z => nomatch z) h
  | @tup a xs ea =>
    cases (show u = Value.ref a from rx)
    obtain ⟨_, _, _, p⟩ := (show ObjOk X.prog X.w H s.heap a (.tup xs) from I.hok a _ ea)
    obtain ⟨o, h1, h2, _⟩ := p
    exact PySem.W.kia_one PySem.W.kitx_tuple I.kIn ⟨o, h1, h2⟩ e (fun z => nomatch z) h
  | @dK a kvs ea =>
    cases (show u = Value.ref a from rx)
    obtain ⟨_, _, vs, _, p⟩ := (show ObjOk X.prog X.w H s.heap a (.dK kvs) from I.hok a _ ea)
    obtain ⟨o, es, ep, h1, h2, _⟩ := p
    exact PySem.W.kia_one PySem.W.kitx_dict I.kIn ⟨o, h1, h2.1⟩ e (fun z => nomatch z) h
  | @dT a kvs ea =>
    cases (show u = Value.ref a from rx)
    obtain ⟨_, _, xs, _, o, es, ep, h1, h2, _⟩ := (show ObjOk X.prog X.w H s.heap a (.dT kvs) from I.hok a _ ea)
    exact PySem.W.kia_one PySem.W.kitx_dict I.kIn ⟨o, h1, h2.1⟩ e (fun z => nomatch z) h
  | @ins a C dx fs ea cl ha hn htk hm =>
    cases (show u = Value.ref a from rx)
    obtain ⟨mA, O, _⟩ := ins_get I.hok ea
    obtain ⟨od, J, _⟩ := O.look
    exact PySem.W.kia_one (PySem.W.kitx_own (cl.get _) cl.hd ha hn htk hm) I.kIn J e (fun z => nomatch z) h
end
end L2
namespace L2
open PySem PySem.Spec PyProof.Rows
structure Room (k : Nat) (A : Around) : Prop where
  hd : A.handled = none
  dp : A.depth + 3 * k + 5 < recursionLimit
  un : A.units + 16 * k + 200 < cLine
theorem Room.mono {j k : Nat} {A : Around} (r : Room k A) (h : j ≤ k) : Room j A := ⟨r.hd, by have := r.dp; omega, by have := r.un; omega⟩
theorem Room.deeper {k : Nat} {A : Around} (r : Room (k + 1) A) (env : Env) : Room k (A.deeper env) :=
  ⟨r.hd, by have := r.dp; show A.depth + 1 + 3 * k + 5 < _; omega, by have := r.un; show A.units + 3 + 16 * k + 200 < _; omega⟩
theorem Room.in1 {k : Nat} {A : Around} (r : Room (k + 1) A) : Room k A.in1 :=
  ⟨r.hd, by have := r.dp; show A.depth + 3 * k + 5 < _; omega, by have := r.un; show A.units + 1 + 16 * k + 200 < _; omega⟩
theorem make_depth {A : Around} {C : Addr} {us : List Value} {kw : List (Str × Value)} : (A.under (.builtin "type.__call__" ⟨.ref C :: us, kw⟩)).depth = A.depth + 1 := by
  first | rfl | simp [Around.under, Code.weight, Code.isCreation, Code.isGuard, Code.isCaller, Code.frames, Code.isFrame, guardIds]
theorem make_units {A : Around} {C : Addr} {us : List Value} {kw : List (Str × Value)} : (A.under (.builtin "type.__call__" ⟨.ref C :: us, kw⟩)).units = A.units + 1 := by
  first | rfl | simp [Around.under, Code.cUnits, Code.frames, Code.isFrame]
theorem Room.make {k : Nat} {A : Around} (r : Room (k + 1) A) (C : Addr) (us : List Value) (kw : List (Str × Value)) : Room k (A.under (.builtin "type.__call__" ⟨.ref C :: us, kw⟩)) :=
  ⟨r.hd, by have := r.dp; rw [make_depth]; omega, by have := r.un; rw [make_units]; omega⟩
theorem Room.depth {k : Nat} {A : Around} (r : Room k A) : A.depth < recursionLimit := by have := r.dp; omega
theorem Room.units {k : Nat} {A : Around} (r : Room k A) : A.units + 64 < cLine := by have := r.un; omega
noncomputable def tNil : TA := fun _ H Q => Q [] H
noncomputable def tCons (ta : TE) (tr : TA) : TA := fun σ H Q => ta σ H fun x H1 => tr σ H1 fun xs H2 => Q (x :: xs) H2
section
variable {X : Cx} {e : Expr} {es : List Expr} {te : TE} {t : TA} {pos : Pos}
theorem pa_nil : PA X [] tNil := fun _ _ _ _ H Q I h => Calls.spliced_nil ⟨[], H, I, .nil, h⟩
theorem pa_cons (ha : PE X e te) (hr : PA X es t) (hs : starEach (e :: es) X.env = (false, eval e X.env) :: starEach es X.env := by rfl) : PA X (e :: es) (tCons te t) := by
  intro pos pins s σ H Q I h
  rw [hs]
  show wpAny _ _ (spliced ((false, eval e X.env) :: backTo pos (starEach es X.env))) _ _ s
  refine Calls.spliced_cons (thn (ha pins s σ H _ I h) fun u s1 ⟨x, H1, I1, r1, q1⟩ => ?_)
  exact thn (hr pos pins s1 σ H1 _ I1 q1) fun us s2 ⟨xs, H2, I2, r2, q2⟩ => ⟨x :: xs, H2, I2, .cons r1 r2, q2⟩
noncomputable def tTup (t : TA) : TE := fun σ H Q => t σ H fun xs H1 => xs.length ≤ sizeLine ∧ ∀ p, H1 p = none → Q (.ref p) (upd H1 p (.tup xs))
noncomputable def tLst (t : TA) : TE := fun σ H Q => t σ H fun xs H1 => xs.length ≤ sizeLine ∧ ∀ p, H1 p = none → Q (.ref p) (upd H1 p (.lst xs))
theorem pe_tup {x1} (h : PA X es t) : PE X (.Tuple es x1 pos) (tTup t) := by
  intro pins s σ H Q I hq
  refine wpAny_Tuple_spliced (thn (h pos pins s σ H _ I hq) fun us s1 ⟨xs, H1, I1, r, z, q⟩ => ⟨by rw [← r.length]; exact z, ?_⟩)
  have hf : H1 s1.heap.objs.size = none := I1.hok.fresh (Nat.le_refl _)
  refine ⟨.ref s1.heap.objs.size, upd H1 s1.heap.objs.size (.tup xs), I1.laid (t' := s1.toks) (fun b u e => Heap.get?_push_of_some _ e) (Nat.le_refl _) ?_, rfl, q _ hf⟩
  exact ⟨z, us, r, ⟨_, Heap.get?_push_size _ rfl, rfl, _, rfl⟩⟩
theorem pe_lst (h : PA X es t) : PE X (.List es pos) (tLst t) := by
  intro pins s σ H Q I hq
  refine wpAny_List_spliced (thn (h pos pins s σ H _ I hq) fun us s1 ⟨xs, H1, I1, r, z, q⟩ => ⟨by rw [← r.length]; exact z, ?_⟩)
  have hf : H1 s1.heap.objs.size = none := I1.hok.fresh (Nat.le_refl _)
  refine ⟨.ref s1.heap.objs.size, upd H1 s1.heap.objs.size (.lst xs), I1.laid (t' := s1.toks) (fun b u e => Heap.get?_push_of_some _ e) (Nat.le_refl _) ?_, rfl, q _ hf⟩
  exact ⟨z, us, 0, r, Heap.get?_push_size _ rfl⟩
end
abbrev Sp := List V → Hp → VK → XK → Prop
abbrev CXT := List Env → Hp → Shared → XK → Value → Shared → Prop
structure Env0 (P : Program) (w : World) (K : PySem.W.Frag) (mg : Str → Option Value) (base : Heap) (A : Around) (outer : List Env) (s : Shared) (H : Hp) : Prop where
  frames : A.frames = some outer
  mod : Mod K mg base
  bs : ∀ b o, base.get? b = some o → s.heap.get? b = some o ∧ H b = none
  bsz : base.objs.size ≤ s.heap.objs.size
  funs : s.heap.FunFrames base outer
  frf : ∀ b ∈ frs outer, H b = none
  hok : HOk P w H s.heap
  bare : AllBare s.gens
noncomputable def CE (outer : List Env) (P : Program) (w : World) (H : Hp) (s : Shared) (Q : VK) (u : Value) (s' : Shared) : Prop :=
  ∃ v H', s'.os = s.os ∧ AllBare s'.gens ∧ Un (frs outer) [] H H' s.heap s'.heap ∧ HOk P w H' s'.heap ∧ RelV v u ∧ Q v H'
noncomputable def CR (CX : CXT) (outer : List Env) (P : Program) (w : World) (H : Hp) (s : Shared) (Q : VK) (E : XK) (r : Result) (s' : Shared) : Prop :=
  match r with
  | .ok (.ret u) => CE outer P w H s Q u s'
  | .ok _ => False
  | .error e => CX outer H s E e s'
structure FnOk (P : Program) (w : World) (K : PySem.W.Frag) (mg : Str → Option Value) (base : Heap) (CX : CXT) (k : Nat) (f : Addr) (fd : FuncData) (ps : List Str) (sp : Sp) : Prop where
  len : ∀ vs H Q E, sp vs H Q E → vs.length = ps.length
  run : ∀ (A : Around) (outer : List Env) (s : Shared) (H : Hp) (args : Args) (us : List Value) (vs : List V) (Q : VK) (E : XK), Room k A → Env0 P w K mg base A outer s H → BindsTo s fd args (ps.zip us) → Vals vs us → sp vs H Q E →
    codeAny (model P w) A (.call (.ref f) args) (CR CX outer P w H s Q E) s
theorem FnOk.mono {P : Program} {w : World} {K : PySem.W.Frag} {mg : Str → Option Value} {base : Heap} {CX : CXT} {j k : Nat} {f : Addr} {fd : FuncData} {ps : List Str} {sp : Sp} (F : FnOk P w K mg base CX j f fd ps sp) (h : j ≤ k) :
    FnOk P w K mg base CX k f fd ps sp := ⟨F.len, fun A outer s H args us vs Q E hr => F.run A outer s H args us vs Q E (hr.mono h)⟩
theorem FnOk.imp {P : Program} {w : World} {K : PySem.W.Frag} {mg : Str → Option Value} {base : Heap} {CX : CXT} {k : Nat} {f : Addr} {fd : FuncData} {ps : List Str} {sp sp' : Sp} (F : FnOk P w K mg base CX k f fd ps sp)
    (h : ∀ vs H Q E, sp' vs H Q E → sp vs H Q E) : FnOk P w K mg base CX k f fd ps sp' :=
  ⟨fun vs H Q E q => F.len vs H Q E (h _ _ _ _ q), fun A outer s H args us vs Q E hr he hb hv hs => F.run A outer s H args us vs Q E hr he hb hv (h _ _ _ _ hs)⟩
theorem Env0.make {P : Program} {w : World} {K : PySem.W.Frag} {mg : Str → Option Value} {base : Heap} {A : Around} {outer : List Env} {s : Shared} {H : Hp} (e : Env0 P w K mg base A outer s H) (C : Addr) (us : List Value) (kw : List (Str × Value)) :
    Env0 P w K mg base (A.under (.builtin "type.__call__" ⟨.ref C :: us, kw⟩)) outer s H := ⟨by first | exact e.frames | (simpa [Around.under, Code.envs, Code.isFrame, pushEnvs] using e.frames), e.mod, e.bs, e.bsz, e.funs, e.frf, e.hok, e.bare⟩
theorem Env0.in1 {P : Program} {w : World} {K : PySem.W.Frag} {mg : Str → Option Value} {base : Heap} {A : Around} {outer : List Env} {s : Shared} {H : Hp} (e : Env0 P w K mg base A outer s H) :
    Env0 P w K mg base A.in1 outer s H := ⟨e.frames, e.mod, e.bs, e.bsz, e.funs, e.frf, e.hok, e.bare⟩
section
variable {X : Cx} {pins : List (Addr × Obj)} {σ : St} {H : Hp} {s s' : Shared}
theorem Inv.env0 (I : Inv X pins σ H s) : Env0 X.prog X.w X.K X.mg X.base X.A X.stack s H :=
  ⟨I.ok.frames, I.ok.mod, I.bs, Nat.le_trans I.ok.bsz I.sz, I.stack, I.stkFree, I.hok, I.bare⟩
theorem Inv.after {Q : VK} {u : Value} (I : Inv X pins σ H s) (h : CE X.stack X.prog X.w H s Q u s') : EP X pins σ Q u s' := by
  obtain ⟨v, H', os, bare, un, hok, r, q⟩ := h
  obtain ⟨hh, g, d, t, os'⟩ := s'
  obtain rfl : os' = s.os := os
  exact ⟨v, H', I.call (h' := hh) (g' := g) (d' := d) (t' := t) (ch := []) un hok bare (fun b z => absurd z (by simp)), r, q⟩
end
noncomputable def tCall (sp : Sp) (dvs : List V) (E : XK) (t : TA) : TE := fun σ H Q => t σ H fun vs H1 => sp (vs ++ dvs) H1 Q E
noncomputable def Binds (K : PySem.W.Frag) (fd : FuncData) (ps : List Str) (ds : List Value) : Prop :=
  ∀ (s : Shared) (us : List Value), K.In s.heap → (us ++ ds).length = ps.length → BindsTo s fd ⟨us, []⟩ (ps.zip (us ++ ds))
theorem Binds.all {K : PySem.W.Frag} {fd : FuncData} {ps : List Str} (h : ∀ us : List Value, us.length = ps.length → bindArgs fd ⟨us, []⟩ = pure (ps.zip us)) : Binds K fd ps [] := fun s us _ hl => by
  rw [List.append_nil] at hl ⊢
  exact .of_eq (h us hl)
noncomputable def Passes (CX : CXT) (X : Cx) (E : XK) : Prop := ∀ (pins : List (Addr × Obj)) (σ : St) (H : Hp) (s : Shared) (e : Value) (s' : Shared), Inv X pins σ H s → CX X.stack H s E e s' → X.xe e s'
section
variable {X : Cx} {CX : CXT} {k : Nat} {f C : Addr} {fd : FuncData} {ps : List Str} {sp : Sp} {dvs : List V} {ds : List Value} {E : XK} {x m : Str} {p pos apos : Pos} {e o : Expr} {es : List Expr} {ta : TE} {t : TA}
theorem run_fn {pins : List (Addr × Obj)} {σ : St} {H : Hp} {s : Shared} {Q : VK} {us : List Value} {vs : List V} (F : FnOk X.prog X.w X.K X.mg X.base CX k f fd ps sp) (hr : Room k X.A) (hb : Binds X.K fd ps ds) (hd : Vals dvs ds) (hx : Passes CX X E)
    (I : Inv X pins σ H s) (r : Vals vs us) (h : sp (vs ++ dvs) H Q E) : wpAny (model X.prog X.w) X.A (call (.ref f) us) (EP X pins σ Q) X.xe s := by
  have r2 : Vals (vs ++ dvs) (us ++ ds) := r.append hd
  have hl : (us ++ ds).length = ps.length := by rw [← r2.length]; exact F.len _ _ _ _ h
  refine wpAny_call (codeAny_mono (F.run X.A X.stack s H ⟨us, []⟩ (us ++ ds) (vs ++ dvs) Q E hr I.env0 (hb s us I.kIn hl) r2 h) fun r s' hq => ?_)
  cases r with
  | error e => exact hx pins σ H s e s' I hq
  | ok fl =>
    cases fl with
    | ret u => exact I.after hq
    | next => exact False.elim hq
    | brk => exact False.elim hq
    | cont => exact False.elim hq
theorem pe_call (F : FnOk X.prog X.w X.K X.mg X.base CX k f fd ps sp) (hr : Room k X.A) (hg : Gl X x) (hm : X.mg x = some (.ref f)) (hk : PySem.W.keepIn X.K (.ref f) = true) (hb : Binds X.K fd ps ds) (hd : Vals dvs ds) (hx : Passes CX X E)
    (ha : PA X (e :: es) t) (hdb : (x == ("__debug__" : Str)) = false := by decide) (he : starEach (e :: es) X.env = (false, eval e X.env) :: starEach es X.env := by rfl) (hpl : (backTo pos (starEach es X.env)).any (·.1) = false := by rfl) :
    PE X (.Call (.Name x p) (e :: es) [] pos) (tCall sp dvs E t) := by
  intro pins s σ H Q I h
  refine wpAny_Call_Name_kw (ld_glob I hg hm ?_ hdb)
  refine PySem.W.callWith_K (h₀ := X.base) I.ok.mod.kin hk (thn (ha pos pins s σ H _ I h) fun us s1 ⟨vs, H1, I1, r, q⟩ => ⟨I1.kIn, ?_⟩) he hpl
  exact run_fn F hr hb hd hx I1 r q
structure Mk (K : PySem.W.Frag) (C f : Addr) : Prop where
  makes : PySem.W.makesIn K C = true
  init : PySem.W.findIn K (.ref C) "__init__" = some (some (.ref f))
  fn : PySem.W.isFn K (.ref f) = true
  kp : PySem.W.keepIn K (.ref C) = true
end
section
variable {X : Cx} {CX : CXT} {k : Nat} {f C : Addr} {fd : FuncData} {ps ks : List Str} {sp : Sp} {E : XK} {x m : Str} {p pos apos kpos : Pos} {e o : Expr} {es : List Expr} {kws : List Keyword} {te ta : TE} {t tk : TA} {nm : Option Str}
structure KBinds (K : PySem.W.Frag) (fd : FuncData) (ps ks : List Str) (g : List Value → List Value → List Value) (gV : List V → List V → List V) : Prop where
  to : ∀ (s : Shared) (us ws : List Value), K.In s.heap → (g us ws).length = ps.length → BindsTo s fd ⟨us, ks.zip ws⟩ (ps.zip (g us ws))
  rel : ∀ {vs : List V} {us : List Value} {zs : List V} {ws : List Value}, Vals vs us → Vals zs ws → Vals (gV vs zs) (g us ws)
variable {g : List Value → List Value → List Value} {gV : List V → List V → List V}
end
structure FnScope (N P : List Str) (sc : Scope) : Prop where
  kind : sc.kind = .function
  co : sc.isCoroutine = false
  gen : sc.isGenerator = false
  nd : N.Nodup
  pre : N.take P.length = P
  par : ∀ x ∈ P, sc.names.lookup x = some .local ∨ sc.names.lookup x = some .cell
  nofree : ∀ y ∈ sc.names, y.2 ≠ .free
theorem bindL_out {kindOf : Str → Option NameKind} {x : Str} : ∀ {binds : List (Str × Value)} {m : Str → Option Value}, (∀ v, (x, v) ∉ binds) → bindL kindOf binds m x = m x
  | [], _, _ => rfl
  | (n, v) :: r, m, h => by
    unfold bindL
    rw [bindL_out fun w hw => h w (List.mem_cons_of_mem _ hw)]
    split
    · have : x ≠ n := by rintro rfl; exact h v List.mem_cons_self
      simp [this]
    · rfl
theorem bindC_out {kindOf : Str → Option NameKind} {x : Str} : ∀ {binds : List (Str × Value)} {m : Str → Option Value}, (∀ v, (x, v) ∉ binds) → bindC kindOf binds m x = m x
  | [], _, _ => rfl
  | (n, v) :: r, m, h => by
    unfold bindC
    rw [bindC_out fun w hw => h w (List.mem_cons_of_mem _ hw)]
    split
    · rfl
    · have : x ≠ n := by rintro rfl; exact h v List.mem_cons_self
      simp [this]
theorem bindL_get {kindOf : Str → Option NameKind} {x : Str} {v : Value} : ∀ {P : List Str} {vs : List Value} {i : Nat} {m : Str → Option Value}, P.Nodup → P[i]? = some x → vs[i]? = some v → kindOf x = some .local →
    bindL kindOf (P.zip vs) m x = some v
  | [], _, _, _, _, h, _, _ => by simp at h
  | _ :: _, [], _, _, _, _, h, _ => by simp at h
  | p :: P, w :: vs, 0, m, nd, h1, h2, hk => by
    simp at h1 h2; subst h1; subst h2
    show bindL kindOf ((p, w) :: P.zip vs) m p = _
    unfold bindL
    rw [bindL_out fun v hv => (List.nodup_cons.mp nd).1 (List.of_mem_zip hv).1, if_pos hk]
    simp
  | p :: P, w :: vs, i + 1, m, nd, h1, h2, hk => by
    show bindL kindOf ((p, w) :: P.zip vs) m x = _
    unfold bindL
    exact bindL_get (i := i) (List.nodup_cons.mp nd).2 (by simpa using h1) (by simpa using h2) hk
theorem bindC_get {kindOf : Str → Option NameKind} {x : Str} {v : Value} : ∀ {P : List Str} {vs : List Value} {i : Nat} {m : Str → Option Value}, P.Nodup → P[i]? = some x → vs[i]? = some v → kindOf x ≠ some .local →
    bindC kindOf (P.zip vs) m x = some v
  | [], _, _, _, _, h, _, _ => by simp at h
  | _ :: _, [], _, _, _, _, h, _ => by simp at h
  | p :: P, w :: vs, 0, m, nd, h1, h2, hk => by
    simp at h1 h2; subst h1; subst h2
    show bindC kindOf ((p, w) :: P.zip vs) m p = _
    unfold bindC
    rw [bindC_out fun v hv => (List.nodup_cons.mp nd).1 (List.of_mem_zip hv).1, if_neg hk]
    simp
  | p :: P, w :: vs, i + 1, m, nd, h1, h2, hk => by
    show bindC kindOf ((p, w) :: P.zip vs) m x = _
    unfold bindC
    exact bindC_get (i := i) (List.nodup_cons.mp nd).2 (by simpa using h1) (by simpa using h2) hk
noncomputable def start (N : List Str) (vs : List V) : St := vs.map some ++ List.replicate (N.length - vs.length) none
noncomputable def cxOf (CX : CXT) (P : Program) (w : World) (K : PySem.W.Frag) (mg : Str → Option Value) (base : Heap) (N : List Str) (qual : Str) (scope : Scope) (f : Addr) (cd : Value) (A : Around) (outer : List Env) (s : Shared) (H : Hp) (E : XK) : Cx where
  prog := P
  w := w
  K := K
  mg := mg
  base := base
  A := A.deeper (envOfC qual scope s.heap.objs.size f cd)
  N := N
  s₀ := s
  H₀ := H
  env := envOfC qual scope s.heap.objs.size f cd
  outer := outer
  stack := envOfC qual scope s.heap.objs.size f cd :: outer
  ex := []
  calm := true
  fn := fun _ => true
  pn := []
  xe := fun e s' => wpAny (model P w) (A.deeper (envOfC qual scope s.heap.objs.size f cd)) (leaving (envOfC qual scope s.heap.objs.size f cd) e) (fun _ s'' => CX outer H s E e s'') (fun e' s'' => CX outer H s E e' s'') s'
theorem cell_has {sc : Scope} {n : Nat} {x : Str} (h : sc.names.lookup x = some .cell) : ∃ c, (cellsFrom n sc.names []).lookup x = some c := by
  have q := PySem.W.cellsFrom_some sc.names n [] (.inl h)
  exact Option.isSome_iff_exists.mp q
theorem inv_start {CX : CXT} {P : Program} {w : World} {K : PySem.W.Frag} {mg : Str → Option Value} {base : Heap} {N ps : List Str} {qual : Str} {scope : Scope} {f : Addr} {cd : Value} {A : Around} {outer : List Env} {s s1 : Shared} {H : Hp} {E : XK} {us : List Value} {vs : List V}
    (S : FnScope N ps scope) (hd : A.handled = none) (e0 : Env0 P w K mg base A outer s H) (hl : vs.length = ps.length) (r : Vals vs us)
    (x : InCallC s s.heap.objs.size (bindL (envOfC qual scope s.heap.objs.size f cd).kindOf (ps.zip us) fun _ => none) (cellsFrom (s.heap.objs.size + 1) scope.names []) (bindC (envOfC qual scope s.heap.objs.size f cd).kindOf (ps.zip us) fun _ => none) s1) :
    Inv (cxOf CX P w K mg base N qual scope f cd A outer s H E) [] (start N vs) H s1 := by
  have hpl : ps.length ≤ N.length := by have := congrArg List.length S.pre; rw [List.length_take] at this; omega
  obtain ⟨h1, tk, rfl, hk⟩ := x.done
  have noA : ∀ b : Addr, b ∉ (cxOf CX P w K mg base N qual scope f cd A outer s H E).ex := fun b z => absurd (show b ∈ ([] : List Addr) from z) (by simp)
  refine ⟨⟨e0.mod, S.kind, rfl, rfl, Nat.le_refl _, fun y z c h1 h2 => ?_, fun y hy => ?_, fun y c _ h => ?_, fun _ => hd, Around.frames_deeper e0.frames, .inr ⟨rfl, rfl⟩, fun b z => absurd z (noA b), e0.bs, e0.bsz, fun b _ _ => noA b, fun b z => absurd z (noA b), e0.funs, e0.frf⟩,
    rfl, e0.bare, Un.kept hk, ⟨_, x.toInCall.ns, fun i y v h1 h2 h3 => ?_⟩, fun y c h => ⟨_, x.cell y c h⟩, e0.hok.fresh (Nat.le_refl _), fun y c h => ?_, fun p hp => absurd (show p ∈ ([] : List (Addr × Obj)) from hp) (by simp), e0.hok.kept hk, ?_⟩
  · exact name_of_addr x.apart (PySem.mem_of_lookup h1) (PySem.mem_of_lookup h2)
  · have hy : scope.names.lookup y = some .cell ∨ scope.names.lookup y = some .free := hy
    rcases hy with hy | hy
    · exact cell_has hy
    · exact absurd rfl (S.nofree _ (PySem.mem_of_lookup hy))
  · exact Nat.le_of_lt (x.above y c (PySem.mem_of_lookup h))
  · have hi : i < vs.length := by
      unfold start at h2
      by_cases hi : i < vs.length
      · exact hi
      · rw [List.getElem?_append_right (by simpa using hi)] at h2
        rw [List.getElem?_replicate] at h2
        split at h2 <;> cases h2
    have ha : vs[i]? = some v := by
      unfold start at h2
      rw [List.getElem?_append_left (by simpa using hi), List.getElem?_map] at h2
      cases e : vs[i]? with
      | none => rw [e] at h2; cases h2
      | some a => rw [e] at h2; cases h2; rfl
    obtain ⟨u, hu, rv⟩ := r.get ha
    have hp : ps[i]? = some y := by
      rw [← S.pre, List.getElem?_take_of_lt (by omega)]; exact h1
    have ndP : ps.Nodup := by rw [← S.pre]; exact S.nd.sublist (List.take_sublist _ _)
    refine ⟨u, rv, ?_⟩
    rcases S.par y (List.mem_of_getElem? hp) with k | k
    · exact .inl ⟨k, bindL_get ndP hp hu k⟩
    · obtain ⟨c, e⟩ := cell_has (n := s.heap.objs.size + 1) k
      refine .inr ⟨.inl k, c, e, ?_⟩
      have q := x.cell y c e
      rw [bindC_get ndP hp hu (by show scope.names.lookup y ≠ _; rw [k]; decide)] at q
      exact q
  · exact e0.hok.fresh (Nat.le_of_lt (x.above y c (PySem.mem_of_lookup h)))
  · unfold start
    show _ = N.length
    rw [List.length_append, List.length_map, List.length_replicate]
    omega
theorem fn_of {CX : CXT} {P : Program} {w : World} {K : PySem.W.Frag} {mg : Str → Option Value} {base : Heap} {k : Nat} {f : Addr} {name qual : Str} {params : Arguments} {body : List Stmt} {scope : Scope} {dV kV doc pm cdv ct oc : Value} {an od : Option Addr}
    {osl : Array (Option Value)} {N ps : List Str} {sp : Sp} (lk : K.lookup f = some ⟨oc, od, .func (PySem.W.fnOf name qual params body scope dV kV doc pm an cdv ct), osl⟩) (hcd : PySem.W.codeIn K cdv qual = true) (S : FnScope N ps scope)
    (len : ∀ vs H Q E, sp vs H Q E → vs.length = ps.length)
    (hbody : ∀ (A : Around) (outer : List Env) (s : Shared) (H : Hp) (vs : List V) (Q : VK) (E : XK), Room k (A.deeper (envOfC qual scope s.heap.objs.size f cdv)) → sp vs H Q E →
      ∃ t, PSs (cxOf CX P w K mg base N qual scope f cdv A outer s H E) body t ∧ t { nx := fun _ H' => Q .non H', rt := Q } (start N vs) H) :
    FnOk P w K mg base CX (k + 1) f (PySem.W.fnOf name qual params body scope dV kV doc pm an cdv ct) ps sp := by
  refine ⟨len, fun A outer s H args us vs Q E hr e0 hb r hsp => ?_⟩
  have hl := len _ _ _ _ hsp
  have KX : K.In s.heap := e0.mod.kin.keeps fun b o e => (e0.bs b o e).1
  have lim : s.heap.NoLimit := e0.mod.nolimit.keeps fun b o e => (e0.bs b o e).1
  have hkind : ∀ y ∈ ps.zip us, scope.names.lookup y.1 = some .local ∨ (scope.names.lookup y.1 = some .cell ∧ ((cellsFrom (s.heap.objs.size + 1) scope.names []).lookup y.1).isSome = true) := fun ⟨n, v⟩ hy => by
    rcases S.par n (List.of_mem_zip hy).1 with q | q
    · exact .inl q
    · exact .inr ⟨q, PySem.W.cellsFrom_some _ _ _ (.inl q)⟩
  refine codeAny_call_function hr.depth (KX _ _ lk) rfl S.co S.gen rfl (PySem.W.codeRec_of KX hcd) (hb _ _ _ _ ?_)
  refine wpAny_newFunctionEnv_cells S.kind hkind fun env he s1 x => ?_
  subst he
  refine ⟨lim.keeps x.toInCall.keep, codeAny_func ?_⟩
  obtain ⟨t, ht, hq⟩ := hbody A outer s H vs Q E (hr.deeper _) hsp
  have I : Inv (cxOf CX P w K mg base N qual scope f cdv A outer s H E) [] (start N vs) H s1 := inv_start S hr.hd e0 hl r x
  refine wpAny_mono (ht [] s1 (start N vs) H _ I hq) (fun fl s' hs => ?_) fun e s' hs => hs
  have fin : ∀ {σ' : St} {H' : Hp} {v : V} {u : Value}, Inv (cxOf CX P w K mg base N qual scope f cdv A outer s H E) [] σ' H' s' → RelV v u → Q v H' → CE outer P w H s Q u s' :=
    fun {σ' H' v u} J rv q => ⟨v, H', J.os, J.bare, J.base, J.hok, rv, q⟩
  cases fl with
  | ret u =>
    obtain ⟨v, σ', H', J, rv, q⟩ := hs
    exact fin J rv q
  | next =>
    obtain ⟨σ', H', J, q⟩ := hs
    exact fin (v := V.non) (u := Value.none) J rfl q
  | brk =>
    obtain ⟨_, _, _, q⟩ := hs
    exact False.elim q
  | cont =>
    obtain ⟨_, _, _, q⟩ := hs
    exact False.elim q
end L2
namespace L2
open PySem PySem.Spec PyProof.Rows
section
variable {X : Cx} {x : Str} {p pos : Pos} {e : Expr} {es : List Expr} {t : TA} {id T : String} {r : List V → Hp → VK → Prop}
noncomputable def tCB (r : List V → Hp → VK → Prop) (t : TA) : TE := fun σ H Q => t σ H fun vs H1 => r vs H1 Q
theorem pe_callB (hc : CallR X (.builtin id) r) (hg : Gl X x) (hm : X.mg x = none) (hv : bootBuiltins x = some (.builtin id)) (ha : PA X (e :: es) t) (hn : x ≠ "__name__" := by decide) (hdb : (x == ("__debug__" : Str)) = false := by decide)
    (he : starEach (e :: es) X.env = (false, eval e X.env) :: starEach es X.env := by rfl) (hpl : (backTo pos (starEach es X.env)).any (·.1) = false := by rfl) : PE X (.Call (.Name x p) (e :: es) [] pos) (tCB r t) := by
  intro pins s σ H Q I h
  refine wpAny_Call_Name_kw (ld_blt I hg hm hv ?_ hn hdb)
  exact PyProof.Rows.callWith_builtin1 (thn (ha pos pins s σ H _ I h) fun us s1 ⟨vs, H1, I1, r1, q1⟩ => hc pins s1 σ H1 vs us Q I1 r1 q1) he hpl
theorem pe_callTy (hc : CallR X (.type T) r) (hg : Gl X x) (hm : X.mg x = none) (hv : bootBuiltins x = some (.type T)) (ha : PA X (e :: es) t) (hn : x ≠ "__name__" := by decide) (hdb : (x == ("__debug__" : Str)) = false := by decide)
    (he : starEach (e :: es) X.env = (false, eval e X.env) :: starEach es X.env := by rfl) (hpl : (backTo pos (starEach es X.env)).any (·.1) = false := by rfl) : PE X (.Call (.Name x p) (e :: es) [] pos) (tCB r t) := by
  intro pins s σ H Q I h
  refine wpAny_Call_Name_kw (ld_blt I hg hm hv ?_ hn hdb)
  exact PyProof.Rows.callWith_type1 (thn (ha pos pins s σ H _ I h) fun us s1 ⟨vs, H1, I1, r1, q1⟩ => hc pins s1 σ H1 vs us Q I1 r1 q1) he hpl
end
end L2
namespace HT
open PySem PyProof.Rows
noncomputable def lexLt : List Int → List Int → Bool
  | [], [] => false
  | [], _ :: _ => true
  | _ :: _, [] => false
  | x :: xs, y :: ys => if x = y then lexLt xs ys else decide (x < y)
section
open PySem.SeqAt
open PySem.AutoSeq1 (wpAny_loadPart')
open PySem.MeetsSeq PySem.MeetsSeq2 PySem.MeetsSeq3
end
section
variable {prog : Program} {w : World} {A : Around} {E : Value → Shared → Prop} {s : Shared}
end
end HT
namespace L2
open PySem PySem.Spec PyProof.Rows
abbrev TO := St → Hp → (Option Int → Hp → Prop) → Prop
theorem intsAre_of {ns : List Int} : ∀ {us : List Value}, Vals (ns.map V.int) us → IntsAre us ns := by
  induction ns with
  | nil => intro us r; rw [List.map_nil] at r; cases r; exact .nil
  | cons n ns ih =>
    intro us r
    rw [List.map_cons] at r
    cases r with
    | cons r1 r2 =>
      obtain ⟨t, e⟩ := r1
      subst e
      exact .cons n t (ih r2)
section
variable {X : Cx} {e : Expr} {te : TE} {lo hi : Option Expr} {tl th : TO} {pos p2 : Pos}
noncomputable def SlR (X : Cx) (r : V → Option Int → Option Int → Hp → VK → Prop) : Prop :=
  ∀ (pins : List (Addr × Obj)) (s : Shared) (σ : St) (H : Hp) (x : V) (v vl vu : Value) (lo hi : Option Int) (sl : Addr) (Q : VK), Inv X pins σ H s → RelV x v → s.heap.IsSliceOf sl vl vu .none → IsPart vl lo → IsPart vu hi → r x lo hi H Q →
    ∃ T id, typeLookup (.type T) "__getitem__" = pure (some (.builtin id)) ∧ s.TypeIs v T ∧ wpAny (model X.prog X.w) X.A (getItem v (.ref sl)) (EP X pins σ Q) X.xe s
theorem SlR.or {r r' : V → Option Int → Option Int → Hp → VK → Prop} (h : SlR X r) (h' : SlR X r') : SlR X (fun x lo hi H Q => r x lo hi H Q ∨ r' x lo hi H Q) := by
  intro pins s σ H x v vl vu lo hi sl Q I rx hs pl pu q
  rcases q with q | q
  · exact h pins s σ H x v vl vu lo hi sl Q I rx hs pl pu q
  · exact h' pins s σ H x v vl vu lo hi sl Q I rx hs pl pu q
end
end L2
namespace L2
open PySem PySem.Spec PyProof.Rows
noncomputable def ixN (n : Nat) (i : Int) : Option Nat := if 0 ≤ i then (if i < n then some i.toNat else none) else if -(n : Int) ≤ i then some (i + n).toNat else none
noncomputable def atI {α : Type} (xs : List α) (i : Int) : Option α := (ixN xs.length i).bind fun j => xs[j]?
theorem ixN_seq {n : Nat} {i : Int} {j : Nat} (h : ixN n i = some j) : seqIndex? i n = some j ∧ j < n ∧ -(n : Int) ≤ i ∧ i < n := by
  unfold ixN at h
  by_cases h0 : 0 ≤ i
  · rw [if_pos h0] at h
    by_cases h1 : i < n
    · rw [if_pos h1] at h
      have e : i.toNat = j := Option.some.inj h
      exact ⟨by rw [seqIndex_of h0 h1, e], by omega, by omega, h1⟩
    · rw [if_neg h1] at h; cases h
  · rw [if_neg h0] at h
    by_cases h1 : -(n : Int) ≤ i
    · rw [if_pos h1] at h
      have e : (i + n).toNat = j := Option.some.inj h
      exact ⟨by rw [seqIndex_neg (by omega) h1, e], by omega, h1, by omega⟩
    · rw [if_neg h1] at h; cases h
theorem atI_get {α : Type} {xs : List α} {i : Int} {v : α} (h : atI xs i = some v) : ∃ j, seqIndex? i xs.length = some j ∧ xs[j]? = some v ∧ j < xs.length ∧ -(xs.length : Int) ≤ i ∧ i < xs.length := by
  unfold atI at h
  cases e : ixN xs.length i with
  | none => rw [e] at h; cases h
  | some j =>
    rw [e] at h
    obtain ⟨h1, h2, h3, h4⟩ := ixN_seq e
    exact ⟨j, h1, h, h2, h3, h4⟩
theorem atI_nat {α : Type} {xs : List α} {j : Nat} {v : α} (h : xs[j]? = some v) : atI xs (j : Int) = some v := by
  have hj : j < xs.length := (List.getElem?_eq_some_iff.mp h).1
  have e : ixN xs.length (j : Int) = some j := by
    unfold ixN
    rw [if_pos (by omega), if_pos (by omega)]; simp
  unfold atI; rw [e]; exact h
theorem atI_last {α : Type} (xs : List α) (v : α) : atI (xs ++ [v]) (-1) = some v := by
  have hl : (xs ++ [v]).length = xs.length + 1 := by simp
  have e : ixN (xs ++ [v]).length (-1) = some xs.length := by
    unfold ixN
    rw [hl, if_neg (by decide), if_pos (by omega)]
    congr 1
    omega
  unfold atI
  rw [e]
  show (xs ++ [v])[xs.length]? = some v
  simp
noncomputable def PlainIx (b : Expr) : Prop := ∀ o i, subscripted b false o i = operate [o, i] (getItem o i)
noncomputable def IxR (X : Cx) (r : R2) : Prop :=
  ∀ (value slice : Expr) (pins : List (Addr × Obj)) (s : Shared) (σ : St) (H : Hp) (x y : V) (v u : Value) (Q : VK), Inv X pins σ H s → RelV x v → RelV y u → r x y H Q →
    subscripted slice false v u = operate [v, u] (getItem v u) → wpAny (model X.prog X.w) X.A (subscriptTail value slice v u) (EP X pins σ Q) X.xe s
noncomputable def MtR (X : Cx) (id : String) (r : V → List V → Hp → VK → Prop) : Prop :=
  ∀ (pins : List (Addr × Obj)) (s : Shared) (σ : St) (H : Hp) (x : V) (xs : List V) (v : Value) (us : List Value) (Q : VK), Inv X pins σ H s → RelV x v → Vals xs us → r x xs H Q →
    wpAny (model X.prog X.w) X.A (call (.builtin id) (v :: us)) (EP X pins σ Q) X.xe s
section
variable {X : Cx} {a b : Expr} {ta tb : TE} {pos : Pos}
theorem IxR.or {r r' : R2} (h : IxR X r) (h' : IxR X r') : IxR X (fun x y H Q => r x y H Q ∨ r' x y H Q) := by
  intro value slice pins s σ H x y v u Q I rx ry q hs
  rcases q with q | q
  · exact h value slice pins s σ H x y v u Q I rx ry q hs
  · exact h' value slice pins s σ H x y v u Q I rx ry q hs
theorem MtR.or {id : String} {r r' : V → List V → Hp → VK → Prop} (h : MtR X id r) (h' : MtR X id r') : MtR X id (fun x xs H Q => r x xs H Q ∨ r' x xs H Q) := by
  intro pins s σ H x xs v us Q I rx rs q
  rcases q with q | q
  · exact h pins s σ H x xs v us Q I rx rs q
  · exact h' pins s σ H x xs v us Q I rx rs q
theorem pe_ix {r : R2} (hr : IxR X r) (ha : PE X a ta) (hb : PE X b tb) (hs : PlainIx b) : PE X (.Subscript a b pos) (tOp r ta tb) := by
  intro pins s σ H Q I h
  exact Subscript_ (binT ha hb I h fun v u s2 x y H2 I2 rx ry q => hr a b pins s2 σ H2 x y v u Q I2 rx ry q (hs _ _))
noncomputable def rIxL (K : PySem.W.Frag) : R2 := fun x y H Q => ∃ p xs i v, x = .ref p ∧ y = .int i ∧ SqL K H p xs ∧ atI xs i = some v ∧ Q v H
theorem ix_list : IxR X (rIxL X.K) := by
  intro value slice pins s σ H x y v u Q I rx ry h hs
  obtain ⟨p, xs, i, z, rfl, rfl, hq, he, q⟩ := h
  cases rx
  obtain ⟨t, rfl⟩ := ry
  obtain ⟨its, r, pl, hz⟩ := I.list hq
  obtain ⟨j, h1, h2, h3, h4, h5⟩ := atI_get he
  obtain ⟨w, ew, rw'⟩ := r.get h2
  have hl := r.length
  have hn := line63
  have fin : EP X pins σ Q w s := ⟨z, H, I, rw', q⟩
  by_cases h0 : 0 ≤ i
  · have hj : i.toNat = j := by
      rw [seqIndex_of h0 h5] at h1
      exact Option.some.inj h1
    exact item_listR pl.isList h0 (by omega) (by rw [hj]; simpa using ew) fin hs
  · have hj : (i + (its.toArray.size : Int)).toNat = j := by
      rw [seqIndex_neg (by omega) h4] at h1
      rw [List.size_toArray, ← hl]
      exact Option.some.inj h1
    exact subscriptTail_builtinR (x := w) pl.isList.typeIs slot_list_getitem.lookup
      (wpAny_getItem_list_neg (Q := fun r s' => r = w ∧ EP X pins σ Q r s') pl.isList (by omega) (by rw [List.size_toArray] <;> omega) (by omega) (by rw [hj]; simpa using ew) ⟨rfl, fin⟩) hs
theorem mapSeq_set (its : List Value) (n j : Nat) (u : Value) : Obj.mapSeq (·.setIfInBounds j u) { cls := .type "list", data := .seq its.toArray n } = { cls := .type "list", data := .seq (its.set j u).toArray n } := by
  simp [Obj.mapSeq]
theorem Inv.lst {pins : List (Addr × Obj)} {σ : St} {H : Hp} {s : Shared} {p : Addr} {xs : List V} (I : Inv X pins σ H s) (h : H p = some (.lst xs)) :
    ∃ (its : List Value) (n : Nat), Vals xs its ∧ s.heap.get? p = some { cls := .type "list", data := .seq its.toArray n } ∧ xs.length ≤ sizeLine := by
  obtain ⟨z, its, n, r, e⟩ := I.hok p _ h
  exact ⟨its, n, r, e, z⟩
theorem Inv.lstUpd {pins : List (Addr × Obj)} {σ : St} {H : Hp} {s : Shared} {p : Addr} {xs ys : List V} {its its' : List Value} {n n' : Nat} {f : Obj → Obj} (I : Inv X pins σ H s) (h : H p = some (.lst xs))
    (ho : s.heap.get? p = some { cls := .type "list", data := .seq its.toArray n }) (hf : f { cls := .type "list", data := .seq its.toArray n } = { cls := .type "list", data := .seq its'.toArray n' }) (r : Vals ys its') (hz : ys.length ≤ sizeLine) (t : Nat) :
    Inv X pins σ (upd H p (.lst ys)) { s with heap := s.heap.update p f, toks := t } := by
  have e : (s.heap.update p f).get? p = some { cls := .type "list", data := .seq its'.toArray n' } := by
    rw [Heap.get?_update_self f ho (by rw [hf] <;> rfl), hf]
  refine I.write (x := p) (e := p) (by rw [h]; trivial) (.inl rfl) (fun b u hb q => (Heap.get?_update_other _ _ (Ne.symm hb)).trans q) ⟨_, e⟩ ?_
  exact ⟨hz, its', n', r, e⟩
noncomputable def rSetL : V → V → V → Hp → (Hp → Prop) → Prop := fun o i v H Q => ∃ p xs k j, o = .ref p ∧ i = .int k ∧ H p = some (.lst xs) ∧ ixN xs.length k = some j ∧ Q (upd H p (.lst (xs.set j v)))
theorem set_list : PSet X rSetL := by
  intro pins s σ H o i v ov iv u Q I ro ri rv h
  obtain ⟨p, xs, k, j, rfl, rfl, hp, hj, q⟩ := h
  cases ro
  obtain ⟨t, rfl⟩ := ri
  obtain ⟨its, n, r, ho, hz⟩ := I.lst hp
  obtain ⟨h1, h2, h3, h4⟩ := ixN_seq hj
  have hl := r.length
  have hn := line63
  have I' : Inv X pins σ (upd H p (.lst (xs.set j v))) { s with heap := s.heap.update p (Obj.mapSeq (·.setIfInBounds j u)) } :=
    I.lstUpd hp ho (mapSeq_set its n j u) (r.set rv j) (by rw [List.length_set]; exact hz) s.toks
  by_cases h0 : 0 ≤ k
  · have hk : k.toNat = j := by
      rw [seqIndex_of h0 h4] at h1
      exact Option.some.inj h1
    exact PySem.W.ki_setAt ho h0 (by omega) (by rw [List.size_toArray, ← hl]; exact h4) (by rw [hk]; exact ⟨_, I', q⟩)
  · have hk : (k + (its.toArray.size : Int)).toNat = j := by
      rw [seqIndex_neg (by omega) h3] at h1
      rw [List.size_toArray, ← hl]
      exact Option.some.inj h1
    exact PySem.W.ki_setBack ho (by omega) (by rw [List.size_toArray, ← hl]; exact h3) (by omega) (by rw [hk]; exact ⟨_, I', q⟩)
theorem call_len_seq : CallR X (.builtin "len") (fun xs H Q => ∃ p ys, xs = [.ref p] ∧ (SqL X.K H p ys ∨ SqT X.K H p ys) ∧ Q (.int ys.length) H) := by
  intro pins s σ H xs us Q I r h
  obtain ⟨p, ys, rfl, hq, q⟩ := h
  obtain ⟨u, rfl, rx⟩ := vals1 r
  cases rx
  have hn := line63
  rcases hq with hq | hq
  · obtain ⟨its, r', pl, hz⟩ := I.list hq
    have hlen := r'.length
    exact Calls.call_len_list pl.isList (by simp only [List.size_toArray] <;> omega) ⟨.int ys.length, H, I.tok _, ⟨s.toks + 1, by rw [List.size_toArray, hlen]⟩, q⟩
  · obtain ⟨its, r', pl, hz⟩ := I.tuple hq
    have hlen := r'.length
    exact len_tuple pl (by simp only [List.size_toArray] <;> omega) ⟨.int ys.length, H, I.tok _, ⟨s.toks + 1, by rw [List.size_toArray, hlen]⟩, q⟩
theorem CallR.or {f : Value} {r r' : List V → Hp → VK → Prop} (h : CallR X f r) (h' : CallR X f r') : CallR X f (fun xs H Q => r xs H Q ∨ r' xs H Q) := by
  intro pins s σ H xs us Q I rs q
  rcases q with q | q
  · exact h pins s σ H xs us Q I rs q
  · exact h' pins s σ H xs us Q I rs q
theorem call_list_of : CallR X (.type "list") (fun xs H Q => ∃ p ys, xs = [.ref p] ∧ (SqL X.K H p ys ∨ SqT X.K H p ys) ∧ ∀ l, H l = none → Q (.ref l) (upd H l (.lst ys))) := by
  intro pins s σ H xs us Q I r h
  obtain ⟨p, ys, rfl, hq, q⟩ := h
  obtain ⟨u, rfl, rx⟩ := vals1 r
  cases rx
  have fin : ∀ (its : List Value), Vals ys its → ys.length ≤ sizeLine → ∀ (h' : Heap) (c' : Nat), (∀ b o', s.heap.get? b = some o' → h'.get? b = some o') →
      h'.get? s.heap.objs.size = some { cls := .type "list", dict := none, data := .seq its.toArray c', slots := #[] } → EP X pins σ Q (.ref s.heap.objs.size) { s with heap := h' } := fun its r' hz h' c' kp e =>
    ⟨.ref s.heap.objs.size, _, I.laid (t' := s.toks) kp (Nat.le_refl _) (show ObjOk X.prog X.w _ h' _ (.lst ys) from ⟨hz, its, c', r', e⟩), rfl, q _ (I.hok.fresh (Nat.le_refl _))⟩
  rcases hq with hq | hq
  · obtain ⟨its, r', pl, hz⟩ := I.list hq
    have hlen := r'.length
    obtain ⟨o, ho, hc, n, hd⟩ := pl.isList
    exact call_list_seq p (.inl rfl) ho hc hd (fun h' c' kp e => fin its r' hz h' c' kp e) (by simp only [List.size_toArray] <;> omega)
  · obtain ⟨its, r', pl, hz⟩ := I.tuple hq
    have hlen := r'.length
    obtain ⟨o, ho, hc, n, hd⟩ := pl
    exact call_list_seq p (.inr rfl) ho hc hd (fun h' c' kp e => fin its r' hz h' c' kp e) (by simp only [List.size_toArray] <;> omega)
noncomputable def tyV (K : PySem.W.Frag) (T : String) (x : V) (H : Hp) : Prop := match x with
  | .str _ => T = "str"
  | .int _ => T = "int"
  | .ref p => (T = "list" ∧ ∃ xs, SqL K H p xs) ∨ (T = "tuple" ∧ ∃ o, K.lookup p = some o ∧ o.cls = .type "tuple" ∧ o.dict = none) ∨
      (T = "dict" ∧ ((∃ kvs, H p = some (.dK kvs)) ∨ ∃ kvs, H p = some (.dT kvs))) ∨ (T = "set" ∧ ∃ S n, H p = some (.set S n))
  | _ => False
theorem tyV_is {pins : List (Addr × Obj)} {σ : St} {H : Hp} {s : Shared} {T : String} {x : V} {v : Value} (I : Inv X pins σ H s) (r : RelV x v) (ty : tyV X.K T x H) :
    s.TypeIs v T ∧ ∀ a, v = .ref a → ∃ ob, s.heap.get? a = some ob ∧ ob.dict = none := by
  cases x with
  | str z =>
    obtain ⟨t, rfl⟩ := r
    cases (show T = "str" from ty)
    exact ⟨typeIs_str s z t, fun _ e => nomatch e⟩
  | int i =>
    obtain ⟨t, rfl⟩ := r
    cases (show T = "int" from ty)
    exact ⟨typeIs_int s i t, fun _ e => nomatch e⟩
  | ref p =>
    cases r
    rcases ty with ⟨rfl, xs, hq⟩ | ⟨rfl, o, hk, hc, hd⟩ | ⟨rfl, hk⟩ | ⟨rfl, S, n, hk⟩
    · obtain ⟨its, _, pl, _⟩ := I.list hq
      refine ⟨pl.isList.typeIs, fun a e => ?_⟩
      cases e
      obtain ⟨o, n, e, c, hd, _⟩ := pl
      exact ⟨o, e, hd⟩
    · refine ⟨⟨o, I.kIn p o hk, hc⟩, fun a e => ?_⟩
      cases e
      exact ⟨o, I.kIn _ o hk, hd⟩
    · have z : ∃ o, s.heap.get? p = some o ∧ o.ExactDict := by
        rcases hk with ⟨kvs, hk⟩ | ⟨kvs, hk⟩
        · obtain ⟨_, _, _, _, o, _, _, e, ex, _⟩ := I.hok p _ hk
          exact ⟨o, e, ex⟩
        · obtain ⟨_, _, _, _, o, _, _, e, ex, _⟩ := I.hok p _ hk
          exact ⟨o, e, ex⟩
      obtain ⟨o, e, ex⟩ := z
      refine ⟨⟨o, e, ex.1⟩, fun a e2 => ?_⟩
      cases e2
      exact ⟨o, e, ex.2.1⟩
    · obtain ⟨o, _, _, _, e, ex, _⟩ := I.hok p _ hk
      refine ⟨⟨o, e, ex.1⟩, fun a e2 => ?_⟩
      cases e2
      exact ⟨o, e, ex.2.1⟩
  | _ => exact False.elim ty
noncomputable def tBM (K : PySem.W.Frag) (T : String) (r : V → List V → Hp → VK → Prop) (to : TE) (t : TA) : TE := fun σ H Q => to σ H fun x H1 => tyV K T x H1 ∧ t σ H1 fun xs H2 => r x xs H2 Q
variable {o e : Expr} {es : List Expr} {to : TE} {t : TA} {name : Str} {apos cpos : Pos} {T id : String} {r : V → List V → Hp → VK → Prop}
theorem pe_bm (pa : PlainAttrs T) (slot : Slot T name id) (hty : typeOf (.builtin id) = pure (.type "method_descriptor")) (hm : MtR X id r) (ho : PE X o to) (ha : PA X (e :: es) t)
    (hbase : attributeBase o name X.env (eval o X.env) = eval o X.env := by rfl)
    (hfew : ((backTo cpos (starEach (e :: es) X.env)).all (fun x => !x.1) && (backToKw cpos (keywordEach [] X.env)).all (fun x => x.1.isSome)
      && decide ((e :: es).length + ([] : List Keyword).length + (if ([] : List Keyword).isEmpty then 0 else 1) < 30)) = true := by rfl)
    (hline : (apos.endLine == cpos.line) = true := by rfl) (hs : starEach (e :: es) X.env = (false, eval e X.env) :: starEach es X.env := by rfl) (hplain : (backTo cpos (starEach es X.env)).any (·.1) = false := by rfl) :
    PE X (.Call (.Attribute o name apos) (e :: es) [] cpos) (tBM X.K T r to t) := by
  intro pins s σ H Q I h
  refine wpAny_Call_method_late hbase hfew hline rfl (thn (ho pins s σ H _ I h) fun v s1 ⟨x, H1, I1, r1, ty, q1⟩ => ?_)
  obtain ⟨h1, h2⟩ := tyV_is I1 r1 ty
  refine ⟨T, id, pa, slot, hty, h1, h2, ?_⟩
  have hA := ha cpos pins s1 σ H1 _ I1 q1
  rw [hs] at hA ⊢
  refine Calls.callWith_builtin (by show (false || (backTo cpos (starEach es X.env)).any (·.1)) = false; rw [hplain] <;> rfl) (Calls.evalArgs_plain ?_)
  exact thn hA fun us s2 ⟨vs, H2, I2, r2, q2⟩ => hm pins s2 σ H2 x vs v us Q I2 r1 r2 q2
end
end L2
namespace L2
open PySem PySem.Spec PyProof.Rows
noncomputable def MtM (X : Cx) (id : String) (r : V → List V → Hp → VK → Prop) : Prop :=
  ∀ (pins : List (Addr × Obj)) (s : Shared) (σ : St) (H : Hp) (x : V) (xs : List V) (v : Value) (us : List Value) (Q : VK), Inv X pins σ H s → RelV x v → Vals xs us → r x xs H Q →
    wpAny (model X.prog X.w) X.A (call (.builtin id) (v :: us)) (EP X pins σ Q) X.xe s
theorem Vals.one : ∀ {x : V} {us : List Value}, Vals [x] us → ∃ u, us = [u] ∧ RelV x u
  | _, _, .cons r .nil => ⟨_, rfl, r⟩
theorem Vals.zero : ∀ {us : List Value}, Vals [] us → us = []
  | _, .nil => rfl
theorem Vals.dropLast {xs : List V} {us : List Value} (h : Vals xs us) : Vals xs.dropLast us.dropLast := by
  induction h with
  | nil => exact .nil
  | cons r t ih =>
    cases t with
    | nil => exact .nil
    | cons q t' => exact .cons r ih
theorem Vals.reverse {xs : List V} {us : List Value} (h : Vals xs us) : Vals xs.reverse us.reverse := by
  induction h with
  | nil => exact .nil
  | cons r t ih => rw [List.reverse_cons, List.reverse_cons]; exact Vals.append ih (.cons r .nil)
theorem Vals.rep {xs : List V} {us : List Value} (h : Vals xs us) : ∀ k : Nat, Vals (List.replicate k xs).flatten (List.replicate k us).flatten
  | 0 => .nil
  | k + 1 => by
    rw [List.replicate_succ, List.replicate_succ, List.flatten_cons, List.flatten_cons]
    exact Vals.append h (Vals.rep h k)
theorem foldl_rep (its : List Value) : ∀ (k : Nat) (acc : List Value),
    List.foldl (fun x1 x2 => x1 ++ x2) acc.toArray (List.replicate k its.toArray) = (acc ++ (List.replicate k its).flatten).toArray
  | 0, acc => by simp
  | k + 1, acc => by
    have e : acc.toArray ++ its.toArray = (acc ++ its).toArray := by simp
    have e2 : (acc ++ its) ++ (List.replicate k its).flatten = acc ++ (List.replicate (k + 1) its).flatten := by
      rw [List.replicate_succ, List.flatten_cons, List.append_assoc]
    rw [← e2, ← foldl_rep its k (acc ++ its), ← e, List.replicate_succ, List.foldl_cons]
section
variable {X : Cx} {pins : List (Addr × Obj)} {σ : St} {H : Hp} {s : Shared} {l b : Addr} {xs ys zs : List V}
theorem Inv.lset {its its' : List Value} {n : Nat} {f : Array Value → Array Value} {t' : Nat} (I : Inv X pins σ H s) (hH : H l = some (.lst xs))
    (e : s.heap.get? l = some { cls := .type "list", data := .seq its.toArray n }) (hf : f its.toArray = its'.toArray) (hv : Vals ys its') (hz : ys.length ≤ sizeLine) :
    Inv X pins σ (upd H l (.lst ys)) { s with heap := s.heap.update l (Obj.mapSeq f), toks := t' } := by
  have q := PySem.IsL.update e f
  rw [hf] at q
  refine I.write (x := l) (e := l) (by rw [hH]; exact trivial) (.inl rfl) (fun b' u hb hu => (Heap.get?_update_other s.heap (Obj.mapSeq f) (Ne.symm hb)).trans hu) ⟨_, q⟩ ?_
  exact ⟨hz, its', _, hv, q⟩
theorem Inv.lnew {its : List Value} {t' : Nat} (I : Inv X pins σ H s) (hv : Vals ys its) (hz : ys.length ≤ sizeLine) :
    Inv X pins σ (upd H s.heap.objs.size (.lst ys)) { s with heap := s.heap.push { cls := .type "list", data := .seq its.toArray }, toks := t' } :=
  I.laid (fun _ _ q => Heap.get?_push_of_some _ q) (Nat.le_refl _) ⟨hz, its, 0, hv, Heap.get?_push_size _ rfl⟩
theorem Inv.fresh (I : Inv X pins σ H s) : H s.heap.objs.size = none := I.hok.fresh (Nat.le_refl _)
theorem Inv.lstM (I : Inv X pins σ H s) (hH : H l = some (.lst xs)) : xs.length ≤ sizeLine ∧ ∃ (its : List Value) (n : Nat), Vals xs its ∧ xs.length = its.length ∧ s.heap.get? l = some { cls := .type "list", data := .seq its.toArray n } := by
  obtain ⟨z, its, n, r, e⟩ := I.hok l _ hH
  exact ⟨z, its, n, r, r.length, e⟩
theorem notLongL {n : Nat} (h : n ≤ sizeLine) : Builtin.List.listTooLong n = false := by
  unfold Builtin.List.listTooLong
  exact decide_eq_false (by omega)
end
section
variable {X : Cx}
noncomputable def rAppend : V → List V → Hp → VK → Prop := fun x vs H Q => ∃ l xs y, x = .ref l ∧ vs = [y] ∧ H l = some (.lst xs) ∧ xs.length < sizeLine ∧ Q .non (upd H l (.lst (xs ++ [y])))
theorem mt_append : MtM X "list.append" rAppend := by
  intro pins s σ H x vs v us Q I rx rv h
  obtain ⟨l, xs, y, rfl, rfl, hH, hz, q⟩ := h
  cases rx
  obtain ⟨u, rfl, ru⟩ := rv.one
  obtain ⟨z, its, n, r, hl, e⟩ := I.lstM hH
  refine call_meets F.slot_list_append ⟨_, e, rfl⟩ F.entry_list_append (F.args_list_append_2 _ _) (PySem.list_append l its.toArray n u (by rw [List.size_toArray]; omega)) ⟨e, ?_⟩
  refine ⟨.non, _, I.lset (its' := its ++ [u]) hH e (by simp) (r.append (.cons ru .nil)) ?_, rfl, q⟩
  rw [List.length_append, List.length_singleton]
  omega
noncomputable def rCat : R2 := fun x y H Q => ∃ l b xs zs, x = .ref l ∧ y = .ref b ∧ H l = some (.lst xs) ∧ H b = some (.lst zs) ∧ xs.length + zs.length ≤ sizeLine ∧ ∀ p, H p = none → Q (.ref p) (upd H p (.lst (xs ++ zs)))
theorem op_cat : OpR X (binaryOp .Add) rCat := by
  intro pins s σ H x y v u Q I rx ry h
  obtain ⟨l, b, xs, zs, rfl, rfl, hH, hB, hz, q⟩ := h
  cases rx
  cases ry
  obtain ⟨z, its, n, r, hl, e⟩ := I.lstM hH
  obtain ⟨z2, its2, n2, r2, hl2, e2⟩ := I.lstM hB
  refine PySem.P.add_list e e2 ?_ (by rw [List.size_toArray, List.size_toArray]; omega)
  have ea : its.toArray ++ its2.toArray = (its ++ its2).toArray := by simp
  rw [ea]
  exact ⟨.ref _, _, I.lnew (t' := s.toks) (r.append r2) (by rw [List.length_append]; omega), rfl, q _ I.fresh⟩
noncomputable def rRep : R2 := fun x y H Q => ∃ l k xs, x = .ref l ∧ y = .int k ∧ H l = some (.lst xs) ∧ -(2 ^ 63) ≤ k ∧ k < 2 ^ 63 ∧ xs.length * k.toNat ≤ sizeLine ∧
  ∀ p, H p = none → Q (.ref p) (upd H p (.lst (List.replicate k.toNat xs).flatten))
theorem len_rep {α : Type} (xs : List α) (k : Nat) : (List.replicate k xs).flatten.length = k * xs.length := by
  induction k with
  | zero => simp
  | succ k ih => rw [List.replicate_succ, List.flatten_cons, List.length_append, ih, Nat.succ_mul, Nat.add_comm]
theorem op_rep : OpR X (binaryOp .Mult) rRep := by
  intro pins s σ H x y v u Q I rx ry h
  obtain ⟨l, k, xs, rfl, rfl, hH, h1, h2, hz, q⟩ := h
  cases rx
  obtain ⟨t, rfl⟩ := ry
  obtain ⟨z, its, n, r, hl, e⟩ := I.lstM hH
  have hlen : its.toArray.size * k.toNat ≤ sizeLine := by rw [List.size_toArray, ← hl]; exact hz
  have hcap : ¬ its.toArray.size * k.toNat > (2 ^ 63 - 1) / 8 := by
    have : (sizeLine : Nat) ≤ (2 ^ 63 - 1) / 8 := by decide
    omega
  have hfit : ¬ (!Builtin.List.listFitsIndex k) = true := by
    rw [fitsIndex_both h1 h2]
    exact Bool.false_ne_true
  have hlong : ¬ Builtin.List.listTooLong (its.toArray.size * k.toNat) = true := by
    rw [notLongL hlen]
    exact Bool.false_ne_true
  have hnew : List.foldl (fun x1 x2 => x1 ++ x2) #[] (List.replicate (if its.toArray.isEmpty = true then 0 else k.toNat) its.toArray) = (List.replicate k.toNat its).flatten.toArray := by
    have f0 : ∀ m : Nat, List.foldl (fun x1 x2 => x1 ++ x2) #[] (List.replicate m its.toArray) = (List.replicate m its).flatten.toArray := fun m => by
      have := foldl_rep its m []
      rw [List.nil_append] at this
      exact this
    rw [f0]
    cases its with
    | nil => simp
    | cons a r' => rw [if_neg (by simp)]
  refine wpAny_binaryOp_repeat_ref (T := "list") (U := "int") (by decide) ⟨_, e, rfl⟩ (fun s' => typeIs_int s' k t) noFill_list_mul F.fills_int_mul F.slot_int_rmul repeat_list F.slot_int_index.lookup
    (call_meets F.slot_int_rmul (typeIs_int s k t) F.entry_int_rmul (F.args_int_rmul_2 _ _) (int___rmul___int_list k t l its.toArray n)
      ⟨e, rfl, ⟨_, e, rfl⟩, call_meets F.slot_list_mul ⟨_, e, rfl⟩ F.entry_list_mul (F.args_list_mul_2 _ _) (AutoListH.list___mul___list_int_3 l its.toArray n k t hfit hcap hlong) ⟨e, ?_⟩⟩)
  rw [hnew]
  exact ⟨.ref _, _, I.lnew (t' := s.toks) (r.rep k.toNat) (by rw [len_rep, Nat.mul_comm]; exact hz), rfl, q _ I.fresh⟩
end
section
variable {prog : Program} {w : World} {A : Around} {E : Value → Shared → Prop} {s : Shared}
end
section
variable {X : Cx}
end
end L2
namespace Att
open PySem PySem.W PySem.Calls PyProof.Rows
theorem ints_of_wellAll {P : Params} {h : Heap} : ∀ (ns : List Int) (vs : List Value), WellAll P h vs (ns.map WData.int) → IntsAre vs ns := by
  intro ns
  induction ns with
  | nil =>
    intro vs w
    rw [List.map_nil] at w
    cases w
    exact .nil
  | cons n ns ih =>
    intro vs w
    rw [List.map_cons] at w
    cases w with
    | cons a b =>
      cases a
      exact .cons _ _ (ih _ b)
theorem script_of {l : OpenLaw} {n : Nat} (hn : l.most = some n) {P : Params} {h : Heap} {args : List WData} {vals : List Value}
    (hpre : l.row.toRowW.claim.pre args = true) (hwl : WellAll P h vals args) :
    ∃ a vs ns, vals = [Value.ref a] ∧ args = [WData.list (ns.map WData.int)] ∧ h.get? a = some { cls := .type "list", data := .seq vs.toArray } ∧ IntsAre vs ns ∧ ns.length ≤ n := by
  have hsh : WShape.hasAll [] args [.list .int] = true := (pre_splitW hpre).1
  have hc : l.pre.holds [] { args := args } = true := (pre_splitW hpre).2
  obtain ⟨d, r, rfl, h1, h2⟩ := hasAllW_cons hsh
  obtain rfl := hasAllW_nil h2
  obtain ⟨xs, rfl, h3⟩ := hasW_list h1
  obtain ⟨ns, rfl⟩ := items_int h3
  have hlen : ns.length ≤ n := by
    unfold OpenLaw.pre at hc
    have h4 : (WTm.not (.lt (.lit (.int (n : Int))) (.len (.arg 0)))).holds [] { args := [.list (ns.map .int)] } = true := by
      have h4 := (holds_andW hc).1
      rw [hn] at h4
      exact h4
    have h5 := condW_of h4 (w_not (w_lt w_lit (w_len_list (w_arg rfl))))
    rw [List.length_map] at h5
    refine Nat.le_of_not_lt fun q => ?_
    have q' : (n : Int) < ((ns.length : Nat) : Int) := by omega
    first
      | (rw [decide_eq_true q'] at h5; exact absurd h5 (by decide))
      | (simp at h5; omega)
  cases hwl with
  | cons w1 w2 =>
    cases w2
    cases w1 with
    | list ho hall => exact ⟨_, _, ns, rfl, rfl, ho, ints_of_wellAll ns _ hall, hlen⟩
theorem post_true (l : OpenLaw) (args : List WData) : l.row.toRowW.claim.post args (.bool true) args = true :=
  postW_of (r := l.row.toRowW) (X := (true == true))
    (show WShape.has [] (.bool true) .bool = true by first | rfl | decide | simp [WShape.has, WShape.arms, WShape.armsAll])
    (show (WTm.eq .res (.lit (.bool true))).value [] { args := args, res := some (.bool true), after := args } = some (.bool (true == true)) from w_eq_bool (w_res rfl) w_lit) rfl
theorem lay_bits {ns : List Int} (h : WData.layableAll [WData.list (ns.map WData.int)] = true) : ∀ x ∈ ns, Builtin.Int.intBits x ≤ 1048576 := by
  have h1 : WData.layable (WData.list (ns.map WData.int)) = true := by
    have h' : (WData.layable (WData.list (ns.map WData.int)) && true) = true := h
    rwa [Bool.and_true] at h'
  unfold WData.layable at h1
  rw [Bool.and_eq_true] at h1
  have h2 := of_decide_eq_true h1.2
  have h3 : WData.weightAll (ns.map WData.int) ≤ 2 ^ 20 := by
    have e : WData.weight (WData.list (ns.map WData.int)) = WData.weightAll (ns.map WData.int) := by simp only [WData.weight]
    rwa [e] at h2
  have h4 : ∀ (l : List Int), ∀ x ∈ l, WData.weight (WData.int x) ≤ WData.weightAll (l.map WData.int) := by
    intro l
    induction l with
    | nil => intro x hx; cases hx
    | cons y r ih =>
      intro x hx
      have e : WData.weightAll ((y :: r).map WData.int) = WData.weight (WData.int y) + 1 + WData.weightAll (r.map WData.int) := by
        rw [List.map_cons]; simp only [WData.weightAll]
      rw [e]
      rcases List.mem_cons.mp hx with z | z
      · subst z; omega
      · have := ih x z; omega
  intro x hx
  have h5 := Nat.le_trans (h4 ns x hx) h3
  have e : WData.weight (WData.int x) = Builtin.Int.intBits x := by
    simp only [WData.weight]
    unfold Builtin.Int.intBits
    by_cases hz : x = 0
    · subst hz; rfl
    · have hb : (x == 0) = false := by simpa using hz
      simp [hz]
  rw [e] at h5
  exact h5
theorem attach_call {l : OpenLaw} {n : Nat} {q : Program} {loose : List Str} {XP : (Str → Option Value) → Heap → Prop} {YP : World → Heap → Prop} {d : DefRec}
    (hn : l.most = some n) (hdf : d.params.defaults = [])
    (call : ∀ (w : World) (s₀ s₁ : Shared) (mg mb : Str → Option Value) (fa : Addr) (o : Obj) (pm cd doc : Value) (a : Addr) (vs : List Value) (ns : List Int),
      Ground q loose [] XP w s₀ mg mb s₁.heap → YP w s₁.heap →
      s₁.heap.get? fa = some o → o.data = .func (docDef d.name d.params d.body d.scope pm cd doc) → s₁.heap.CodeRec cd d.name → mg d.name = some (.ref fa) →
      s₁.heap.get? a = some { cls := .type "list", data := .seq vs.toArray } → IntsAre vs ns → ns.length ≤ n → (∀ x ∈ ns, Builtin.Int.intBits x ≤ 1048576) → s₁.gens = #[] →
      codeAny (model l.prog w) callerA (.call (.ref fa) ⟨[.ref a], []⟩) (fun r s' => r = .ok (.ret (.bool true)) ∧ OldK s₁.heap s'.heap ∧ s'.os = s₁.os ∧ AllBare s'.gens) s₁) :
    WalkO q loose XP YP l.row.toRowW d [] (fun f vs => PySem.call f vs) := by
  intro w s₀ s₁ mg mb G Y fa o pm cd doc dV kV ho hd hcd hD hmg hg args vals as hpre hlay hrd hwl hlo
  obtain rfl : dV = .none := Dflts.none hD hdf
  obtain rfl : kV = .none := Dflts.noKw hD
  obtain ⟨a, vs, ns, rfl, rfl, hobj, hints, hlen⟩ := script_of hn hpre hwl
  refine enter_call (codeAny_mono (call w s₀ s₁ mg mb fa o pm cd doc a vs ns G Y ho (fd_plain hd) hcd hmg hobj hints hlen (lay_bits hlay) hg) fun r s' hq => ?_)
  obtain ⟨rfl, h2, h3, h4⟩ := hq
  exact ⟨.inl ⟨.bool true, .bool true, [], rfl, fun _ => rfl, .bool true, post_true l _, fun _ => ⟨List.Pairwise.nil, fun _ hm => (nomatch hm)⟩⟩, h2, h3, h4⟩
section
variable {prog : Program} {w : World} {A : Around} {E : Value → Shared → Prop} {s : Shared} {K : Frag}
end
end Att
namespace L2
open PySem PySem.Spec PyProof.Rows
theorem vals_ints : ∀ {vs : List Value} {ns : List Int}, IntsAre vs ns → Vals (ns.map V.int) vs
  | _, _, .nil => .nil
  | _, _, .cons n t h => .cons ⟨t, rfl⟩ (vals_ints h)
noncomputable def Only (H : Hp) : Prop := ∀ b, H b = none ∨ ∃ o xs, H b = some (.frz o (.lst xs))
theorem law_call {P : Program} {w : World} {K : PySem.W.Frag} {mg mb : Str → Option Value} {CX : CXT} {k : Nat} {fa a : Addr} {fd : FuncData} {x : Str} {sp : Sp} {s₁ : Shared} {vs : List Value} {ns : List Int}
    (KX : K.In s₁.heap) (hns : s₁.heap.Ns mainGlobals mg) (hb : s₁.heap.Ns builtinsNs mb) (hbb : ∀ x : Str, x ≠ "__name__" → mb x = bootBuiltins x) (hlim : s₁.heap.NoLimit) (hsr : s₁.heap.NoSeer) (hg : s₁.gens = #[])
    (ha : s₁.heap.get? a = some { cls := .type "list", data := .seq vs.toArray }) (hi : IntsAre vs ns) (hl : ns.length ≤ sizeLine) (hr : Room k callerA)
    (F : ∀ base : Heap, K.In base → base.Ns mainGlobals mg → FnOk P w K mg base CX k fa fd [x] sp) (hbind : ∀ (s : Shared) (u : Value), BindsTo s fd ⟨[u], []⟩ [(x, u)])
    (hsp : ∀ H : Hp, Only H → SqL K H a (ns.map V.int) → sp [.ref a] H (fun v _ => v = .bl true) fun _ _ _ => False)
    (hCX : ∀ H e s', CX [] H s₁ (fun _ _ _ => False) e s' → False) :
    codeAny (model P w) callerA (.call (.ref fa) ⟨[.ref a], []⟩) (fun r s' => r = .ok (.ret (.bool true)) ∧ OldK s₁.heap s'.heap ∧ s'.os = s₁.os ∧ AllBare s'.gens) s₁ := by
  have rv := vals_ints hi
  have lenV := hi.length
  have core : ∀ H : Hp, Only H → SqL K H a (ns.map V.int) → HOk P w H s₁.heap → (∀ b, H b ≠ none → b = a) → (H a ≠ none → K.lookup a = none) →
      codeAny (model P w) callerA (.call (.ref fa) ⟨[.ref a], []⟩) (fun r s' => r = .ok (.ret (.bool true)) ∧ OldK s₁.heap s'.heap ∧ s'.os = s₁.os ∧ AllBare s'.gens) s₁ := by
    intro H hO hS hok hA hK
    have base_of : ∀ {b : Addr} {o : Obj}, s₁.heap.get? b = some o → H b = none → (hidT s₁.heap H).get? b = some o := fun e n => hidT_get e n
    have noA : ∀ {b : Addr} {o : Obj} {es : Array DictEntry} {ep : Nat}, s₁.heap.get? b = some o → o.data = .dict es ep → H b = none := fun {b o es ep} e d => by
      cases q : H b with
      | none => rfl
      | some u =>
        have e' : b = a := hA b (by rw [q]; simp)
        subst e'
        rw [ha] at e; cases e
        have d' : Data.seq vs.toArray _ = Data.dict es ep := d
        cases d'
    have nsK : ∀ {b : Addr} {m : Str → Option Value}, s₁.heap.Ns b m → (hidT s₁.heap H).Ns b m := fun {b m} ⟨o, es, ep, e, d, r⟩ => ⟨o, es, ep, base_of e (noA e d), d, r⟩
    have hKb : K.In (hidT s₁.heap H) := fun b o e => base_of (KX b o e) (by
      cases q : H b with
      | none => rfl
      | some u =>
        have e' : b = a := hA b (by rw [q]; simp)
        subst e'
        rw [hK (by rw [q]; simp)] at e; cases e)
    have noC : ∀ {b : Addr} {o : Obj}, s₁.heap.get? b = some o → o.cls ≠ .type "list" → H b = none := fun {b o} e d => by
      cases q : H b with
      | none => rfl
      | some u =>
        have e' : b = a := hA b (by rw [q]; simp)
        subst e'
        rw [ha] at e; cases e
        exact absurd rfl d
    have hSr : (hidT s₁.heap H).NoSeer := ⟨let ⟨mc, h1, h2⟩ := hsr.statics; ⟨mc, nsK h1, h2⟩, let ⟨mc, h1, h2⟩ := hsr.mods; ⟨mc, nsK h1, h2⟩, let ⟨mc, h1, h2⟩ := hsr.imp; ⟨mc, nsK h1, h2⟩,
      let ⟨mg', bm, ob, h1, h2, h3, h4, h5⟩ := hsr.main; ⟨mg', bm, ob, nsK h1, h2, base_of h3 (noC h3 (by rw [h4]; decide)), h4, h5⟩⟩
    have hM : Mod K mg (hidT s₁.heap H) := ⟨hKb, nsK hns, ⟨mb, nsK hb, hbb⟩, let ⟨mc, h1, h2⟩ := hlim; ⟨mc, nsK h1, h2⟩, hSr⟩
    have e0 : Env0 P w K mg (hidT s₁.heap H) callerA [] s₁ H := ⟨rfl, hM, fun b o e => of_hidT e, Nat.le_of_eq (hidT_size _ _), trivial, fun b hb => absurd (show b ∈ ([] : List Addr) from hb) (by simp), hok, .of_eq hg⟩
    refine codeAny_mono ((F _ hKb (nsK hns)).run callerA [] s₁ H ⟨[.ref a], []⟩ [.ref a] [.ref a] _ _ hr e0 (hbind s₁ (.ref a)) (.cons rfl .nil) (hsp H hO hS)) fun r s' h => ?_
    cases r with
    | error e => exact (hCX H e s' h).elim
    | ok fl =>
      cases fl with
      | next => exact False.elim h
      | brk => exact False.elim h
      | cont => exact False.elim h
      | ret u =>
        obtain ⟨v, H', os, bare, un, hok', r', q⟩ := h
        have q' : v = .bl true := q
        subst q'
        obtain rfl : u = Value.bool true := r'
        refine ⟨rfl, OldK.of_keep fun b o e => ?_, os, bare⟩
        cases q : H b with
        | none => exact un.keep b o e q (by intro z; exact absurd (show b ∈ ([] : List Addr) from z) (by simp)) (by simp)
        | some u =>
          rcases hO b with z | ⟨ob, xs, z⟩
          · rw [q] at z; cases z
          · have z2 := un.frzs b ob _ z
            obtain ⟨e1, _⟩ := hok b _ z
            obtain ⟨e2, _⟩ := hok' b _ z2
            rw [e] at e1; cases e1
            exact e2
  cases hk : K.lookup a with
  | some o =>
    have e := KX a o hk
    rw [ha] at e
    cases e
    refine core (fun _ => none) (fun _ => .inl rfl) (.inr ⟨_, vs.toArray, _, hk, rfl, rfl, rfl, by rw [List.size_toArray, lenV]; exact hl, by simpa using rv⟩) (fun b u z => by have z' : (none : Option HO) = some u := z; cases z') (fun b z => absurd rfl z) fun z => absurd rfl z
  | none =>
    refine core (fun b => if b = a then some (.frz { cls := .type "list", data := .seq vs.toArray } (.lst (ns.map V.int))) else none) (fun b => ?_) (.inl (.inr ⟨{ cls := .type "list", data := .seq vs.toArray }, if_pos rfl⟩)) (fun b u z => ?_) (fun b z => ?_) fun _ => hk
    · by_cases hb : b = a
      · exact .inr ⟨_, _, if_pos hb⟩
      · exact .inl (if_neg hb)
    · by_cases hb : b = a
      · have z' := (if_pos hb).symm.trans z
        cases z'
        subst hb
        exact ⟨ha, by rw [List.length_map]; exact hl, vs, _, rv, ha⟩
      · have z' := (if_neg hb).symm.trans z
        cases z'
    · by_cases hb : b = a
      · exact hb
      · exact absurd (if_neg hb) z
end L2
namespace L2
open PySem PySem.Spec PyProof.Rows
theorem walk_of {l : PySem.W.OpenLaw} {n k : Nat} {q : Program} {loose : List Str} {XP : (Str → Option Value) → Heap → Prop} {YP : World → Heap → Prop} {d : DefRec} {K : Params → PySem.W.Frag} {CX : World → CXT} {sp : World → Sp} {x : Str}
    (hn : l.most = some n) (hn2 : n ≤ sizeLine) (hdf : d.params.defaults = []) (hq : importsNone q = true) (hr : Room k callerA)
    (hY : ∀ (w : World) (h : Heap), YP w h → (K w.params).In h)
    (F : ∀ (w : World) (mg : Str → Option Value) (fa : Addr) (h : Heap), (K w.params).In h → h.Ns mainGlobals mg → mg d.name = some (.ref fa) →
      ∃ fd : FuncData, (∀ (s : Shared) (u : Value), BindsTo s fd ⟨[u], []⟩ [(x, u)]) ∧
        ∀ base : Heap, (K w.params).In base → base.Ns mainGlobals mg → FnOk l.prog w (K w.params) mg base (CX w) k fa fd [x] (sp w))
    (hsp : ∀ (w : World) (H : Hp) (a : Addr) (ns : List Int), ns.length ≤ n → (∀ x ∈ ns, Builtin.Int.intBits x ≤ 1048576) → Only H → SqL (K w.params) H a (ns.map V.int) → sp w [.ref a] H (fun v _ => v = .bl true) fun _ _ _ => False)
    (hCX : ∀ (w : World) (H : Hp) (s : Shared) (e : Value) (s' : Shared), CX w [] H s (fun _ _ _ => False) e s' → False) :
    PySem.W.WalkO q loose XP YP l.row.toRowW d [] (fun f vs => PySem.call f vs) := by
  refine Att.attach_call hn hdf fun w s₀ s₁ mg mb fa o pm cd doc a vs ns G Y ho hd hcd hmg hobj hints hlen hbt hg => ?_
  have KX := hY w _ Y
  obtain ⟨fd, hb, hF⟩ := F w mg fa _ KX G.T.g hmg
  exact law_call KX G.T.g G.T.b G.T.builtins G.T.nolimit (G.T.seer hq) hg hobj hints (Nat.le_trans hlen hn2) hr hF hb (fun H hO hS => hsp w H a ns hlen hbt hO hS) fun H e s' => hCX w H s₁ e s'
end L2
namespace L2
open PySem PySem.Spec PyProof.Rows
def inClass (s : Stmt) (j : Nat) : Stmt := match s with
  | .ClassDef _ _ _ body _ _ _ _ _ _ _ => body.getD j (.Pass ⟨0, 0, 0, 0⟩)
  | _ => .Pass ⟨0, 0, 0, 0⟩
noncomputable def defArgs (s : Stmt) : Arguments := match s with
  | .FunctionDef _ a _ _ _ _ _ _ _ _ => a
  | _ => { posonlyargs := [], args := [], vararg := none, kwonlyargs := [], kw_defaults := [], kwarg := none, defaults := [] }
noncomputable def defBody (s : Stmt) : List Stmt := match s with
  | .FunctionDef _ _ b _ _ _ _ _ _ _ => b
  | _ => []
noncomputable def defScope (s : Stmt) : Scope := match s with
  | .FunctionDef _ _ _ _ _ _ sc _ _ _ => sc
  | _ => { kind := .function, names := [], isGenerator := false, isCoroutine := false }
abbrev CX0 : CXT := fun _ _ _ _ _ _ => False
abbrev E0 : XK := fun _ _ _ => False
theorem pass0 {X : Cx} : Passes CX0 X E0 := fun _ _ _ _ _ _ _ h => h.elim
structure Fun (K : PySem.W.Frag) (x qual : Str) (st : Stmt) (f : Addr) (fd : FuncData) : Prop where
  ex : ∃ (oc : Value) (od : Option Addr) (kV doc pm : Value) (an : Option Addr) (cdv ct : Value) (osl : Array (Option Value)),
    fd = PySem.W.fnOf x qual (defArgs st) (defBody st) (defScope st) .none kV doc pm an cdv ct ∧ K.lookup f = some ⟨oc, od, .func fd, osl⟩ ∧ PySem.W.codeIn K cdv qual = true
  kp : PySem.W.keepIn K (.ref f) = true
section
variable {P : Program} {w : World} {K : PySem.W.Frag} {mg : Str → Option Value} {base : Heap}
theorem Fun.ok {x qual : Str} {st : Stmt} {f : Addr} {fd : FuncData} {N ps : List Str} {k : Nat} {sp : Sp} (F : Fun K x qual st f fd) (S : FnScope N ps (defScope st)) (len : ∀ vs H Q E, sp vs H Q E → vs.length = ps.length)
    (hbody : ∀ (cdv : Value) (A : Around) (outer : List Env) (s : Shared) (H : Hp) (vs : List V) (Q : VK) (E : XK), Room k (A.deeper (envOfC qual (defScope st) s.heap.objs.size f cdv)) → sp vs H Q E →
      ∃ t, PSs (cxOf CX0 P w K mg base N qual (defScope st) f cdv A outer s H E).nox (defBody st) t ∧ t { nx := fun _ H' => Q .non H', rt := Q } (start N vs) H) : FnOk P w K mg base CX0 (k + 1) f fd ps sp := by
  obtain ⟨oc, od, kV, doc, pm, an, cdv, ct, osl, rfl, lk, hcd⟩ := F.ex
  refine fn_of lk hcd S len fun A outer s H vs Q E hr hsp => ?_
  obtain ⟨t, h, q⟩ := hbody cdv A outer s H vs Q E hr hsp
  exact ⟨t, h.nox, q⟩
theorem Fun.binds {x qual : Str} {st : Stmt} {f : Addr} {fd : FuncData} {ps : List Str} (F : Fun K x qual st f fd)
    (h : ∀ (kV doc pm : Value) (an : Option Addr) (cdv ct : Value) (us : List Value), us.length = ps.length → bindArgs (PySem.W.fnOf x qual (defArgs st) (defBody st) (defScope st) .none kV doc pm an cdv ct) ⟨us, []⟩ = pure (ps.zip us)) : Binds K fd ps [] := by
  obtain ⟨oc, od, kV, doc, pm, an, cdv, ct, osl, rfl, lk, hcd⟩ := F.ex
  exact .all (h kV doc pm an cdv ct)
theorem fun_mk {x qual : Str} {st : Stmt} {f : Addr} {oc : Value} {od an : Option Addr} {osl : Array (Option Value)} {kV doc pm cdv ct : Value} (l : K.lookup f = some ⟨oc, od, .func (PySem.W.fnOf x qual (defArgs st) (defBody st) (defScope st) .none kV doc pm an cdv ct), osl⟩)
    (c : PySem.W.codeIn K cdv qual = true) (k : PySem.W.keepIn K (.ref f) = true) : Fun K x qual st f (PySem.W.fnOf x qual (defArgs st) (defBody st) (defScope st) .none kV doc pm an cdv ct) := ⟨⟨oc, od, kV, doc, pm, an, cdv, ct, osl, rfl, l, c⟩, k⟩
end
theorem small1000 {n : Nat} (h : n ≤ 1000) : n < sizeLine := Nat.lt_of_le_of_lt h (by decide)
section
variable {X : Cx}
theorem pv (i : Nat) {x : Str} {pos : Pos} (hN : X.N[i]? = some x := by rfl) (hv : Vis X.env.scope x := by first | exact Or.inl rfl | exact Or.inr (Or.inl rfl) | exact Or.inr (Or.inr rfl)) (hd : (x == ("__debug__" : Str)) = false := by decide)
    (hcd : (x == ("__classdict__" : Str)) = false := by decide) : PE X (.Name x pos) (tVar i) := pe_var hN hv hd hcd
end
theorem iteF {A B : Prop} (h : B) : if false = true then A else B := by
  rw [if_neg Bool.false_ne_true]
  exact h
theorem iteT {A B : Prop} (h : A) : if true = true then A else B := by
  rw [if_pos rfl]
  exact h
theorem ite2 {c A B : Prop} [Decidable c] (h1 : c → A) (h2 : ¬ c → B) : if c then A else B := by
  by_cases h : c
  · rw [if_pos h]
    exact h1 h
  · rw [if_neg h]
    exact h2 h
noncomputable def Same (H H' : Hp) : Prop := ∀ b o, H b = some o → H' b = some o
theorem Same.refl (H : Hp) : Same H H := fun _ _ h => h
theorem Same.trans {H H1 H2 : Hp} (a : Same H H1) (b : Same H1 H2) : Same H H2 := fun c o h => b c o (a c o h)
theorem Same.free {H H' : Hp} (e : Same H H') {l : Addr} (h : H' l = Option.none) : H l = Option.none := by
  cases q : H l with
  | none => rfl
  | some o =>
    rw [e l o q] at h
    cases h
theorem Same.seq {K : PySem.W.Frag} {H H' : Hp} {a : Addr} {xs : List V} (e : Same H H') (h : SqL K H a xs) : SqL K H' a xs := by
  rcases h with (h | ⟨o, h⟩) | h
  · exact .inl (.inl (e _ _ h))
  · exact .inl (.inr ⟨o, e _ _ h⟩)
  · exact .inr h
end L2
namespace L2
open PySem PySem.Spec PyProof.Rows
section
variable {X : Cx}
noncomputable def rAddI : R2 := fun x y H Q => ∃ i j, x = .int i ∧ y = .int j ∧ Q (.int (i + j)) H
noncomputable def rSubI : R2 := fun x y H Q => ∃ i j, x = .int i ∧ y = .int j ∧ Q (.int (i - j)) H
theorem op_addI : OpR X (binaryOp .Add) rAddI := op_add
theorem op_subI : OpR X (binaryOp .Sub) rSubI := op_sub
noncomputable def CMulB (i j : Int) : Prop := ∃ m n : Nat, Builtin.Int.intBits i ≤ m ∧ Builtin.Int.intBits j ≤ n ∧ m + n ≤ 134217728
noncomputable def rMulB : R2 := fun x y H Q => ∃ i j, x = .int i ∧ y = .int j ∧ CMulB i j ∧ Q (.int (i * j)) H
theorem op_mulB : OpR X (binaryOp .Mult) rMulB := opI (C := CMulB) (g := fun i j => i * j) fun _ _ _ _ _ _ _ hc q => by
  obtain ⟨m, n, h1, h2, h3⟩ := hc
  exact mul_int q (IntMulOk.of_le h1 h2 h3)
noncomputable def CDivB (j : Int) : Prop := 0 < j ∧ Builtin.Int.intBits j ≤ 9000
noncomputable def rDivB : R2 := fun x y H Q => ∃ i j, x = .int i ∧ y = .int j ∧ CDivB j ∧ Q (.int (i / j)) H
theorem op_fdivB : OpR X (binaryOp .FloorDiv) rDivB := opI (C := fun _ j => CDivB j) (g := fun i j => i / j) fun i j _ _ _ _ _ hc q => by
  have h1 : (0 : Int) < j := hc.1
  have h3 : j.natAbs.log2 < 9000 := (Nat.log2_lt (by omega)).mpr (intBits_le_iff.mp hc.2)
  exact floordiv_int (by omega) (by rw [Int.fdiv_eq_ediv_of_nonneg i (by omega)]; exact q) (.inl (PyProof.noPylong_of_log2 h3))
noncomputable def rModB : R2 := fun x y H Q => ∃ i j, x = .int i ∧ y = .int j ∧ 0 < j ∧ Q (.int (i % j)) H
theorem op_modB : OpR X (binaryOp .Mod) rModB := op_mod
noncomputable def rPowB : R2 := fun x y H Q => ∃ i j, x = .int i ∧ y = .int j ∧ CPow i j ∧ Q (.int (i ^ j.toNat)) H
theorem op_powB : OpR X (binaryOp .Pow) rPowB := op_pow
noncomputable def rLtI : R2 := fun x y H Q => ∃ i j, x = .int i ∧ y = .int j ∧ Q (.bl (decide (i < j))) H
noncomputable def rLeI : R2 := fun x y H Q => ∃ i j, x = .int i ∧ y = .int j ∧ Q (.bl (decide (i ≤ j))) H
noncomputable def rGtI : R2 := fun x y H Q => ∃ i j, x = .int i ∧ y = .int j ∧ Q (.bl (decide (j < i))) H
noncomputable def rGeI : R2 := fun x y H Q => ∃ i j, x = .int i ∧ y = .int j ∧ Q (.bl (decide (j ≤ i))) H
noncomputable def rEqI : R2 := fun x y H Q => ∃ i j : Int, x = .int i ∧ y = .int j ∧ Q (.bl (decide (i = j))) H
noncomputable def rNeI : R2 := fun x y H Q => ∃ i j : Int, x = .int i ∧ y = .int j ∧ Q (.bl (!decide (i = j))) H
theorem op_ltI : OpR X (compareOp .Lt) rLtI := op_lt
theorem op_leI : OpR X (compareOp .LtE) rLeI := op_le
theorem op_gtI : OpR X (compareOp .Gt) rGtI := op_gt
theorem op_geI : OpR X (compareOp .GtE) rGeI := op_ge
theorem op_eqI : OpR X (compareOp .Eq) rEqI := by
  intro pins s σ H x y v u Q I rx ry h
  obtain ⟨i, j, rfl, rfl, q⟩ := h
  refine op_eq pins s σ H _ _ v u Q I rx ry ⟨rfl, ?_⟩
  have e : decide (V.int i = V.int j) = decide (i = j) := decide_eq_decide.mpr ⟨fun z => V.int.inj z, fun z => by rw [z]⟩
  rw [e]; exact q
theorem op_neI : OpR X (compareOp .NotEq) rNeI := by
  intro pins s σ H x y v u Q I rx ry h
  obtain ⟨i, j, rfl, rfl, q⟩ := h
  refine op_ne pins s σ H _ _ v u Q I rx ry ⟨rfl, ?_⟩
  have e : decide (V.int i = V.int j) = decide (i = j) := decide_eq_decide.mpr ⟨fun z => V.int.inj z, fun z => by rw [z]⟩
  rw [e]; exact q
theorem call_isinst : CallR X (.builtin "isinstance") (fun xs H Q => ∃ x n t b, xs = [x, .ty n] ∧ TyOf X.K H x t ∧ PySem.W.kitOne X.K t (.type n) = some b ∧ Q (.bl b) H) := by
  intro pins s σ H xs us Q I r h
  obtain ⟨x, n, t, b, rfl, ty, e, q⟩ := h
  obtain ⟨u, c, rfl, rx, rc⟩ := vals2 r
  cases (show c = Value.type n from rc)
  exact isinst_ok I rx ty e fun tk => ⟨.bl b, H, I.tok tk, rfl, q⟩
end
theorem kit_int_int (K : PySem.W.Frag) : PySem.W.kitOne K (.type "int") (.type "int") = some true := by with_unfolding_all rfl
theorem kit_int_bool (K : PySem.W.Frag) : PySem.W.kitOne K (.type "int") (.type "bool") = some false := by with_unfolding_all rfl
noncomputable def Def (K : PySem.W.Frag) (mg : Str → Option Value) (x : Str) (st : Stmt) (ps : List Str) : Prop :=
  ∃ f fd, Fun K x x st f fd ∧ Binds K fd ps [] ∧ mg x = some (.ref f)
noncomputable def Fn (P : Program) (w : World) (K : PySem.W.Frag) (mg : Str → Option Value) (base : Heap) (k : Nat) (x : Str) (ps : List Str) (sp : Sp) : Prop :=
  ∃ f fd, FnOk P w K mg base CX0 k f fd ps sp ∧ PySem.W.keepIn K (.ref f) = true ∧ Binds K fd ps [] ∧ mg x = some (.ref f)
section
variable {P : Program} {w : World} {K : PySem.W.Frag} {mg : Str → Option Value} {base : Heap}
theorem Def.fn {x : Str} {st : Stmt} {N ps : List Str} {k : Nat} {sp : Sp} (D : Def K mg x st ps) (S : FnScope N ps (defScope st)) (len : ∀ vs H Q E, sp vs H Q E → vs.length = ps.length)
    (hbody : ∀ (f : Addr) (cdv : Value) (A : Around) (outer : List Env) (s : Shared) (H : Hp) (vs : List V) (Q : VK) (E : XK), Room k (A.deeper (envOfC x (defScope st) s.heap.objs.size f cdv)) → sp vs H Q E →
      ∃ t, PSs (cxOf CX0 P w K mg base N x (defScope st) f cdv A outer s H E).nox (defBody st) t ∧ t { nx := fun _ H' => Q .non H', rt := Q } (start N vs) H) : Fn P w K mg base (k + 1) x ps sp := by
  obtain ⟨f, fd, F, b, m⟩ := D
  exact ⟨f, fd, F.ok S len (fun cdv A outer s H vs Q E hr h => hbody f cdv A outer s H vs Q E hr h), F.kp, b, m⟩
theorem Fn.mono {j k : Nat} {x : Str} {ps : List Str} {sp : Sp} (F : Fn P w K mg base j x ps sp) (h : j ≤ k) : Fn P w K mg base k x ps sp := by
  obtain ⟨f, fd, F, r⟩ := F
  exact ⟨f, fd, F.mono h, r⟩
theorem Fn.imp {k : Nat} {x : Str} {ps : List Str} {sp sp' : Sp} (F : Fn P w K mg base k x ps sp) (h : ∀ vs H Q E, sp' vs H Q E → sp vs H Q E) : Fn P w K mg base k x ps sp' := by
  obtain ⟨f, fd, F, r⟩ := F
  exact ⟨f, fd, F.imp h, r⟩
end
section
variable {X : Cx} {k : Nat} {x : Str} {ps : List Str} {sp : Sp} {p pos : Pos} {e : Expr} {es : List Expr} {t : TA}
noncomputable def tFn (sp : Sp) (t : TA) : TE := fun σ H Q => t σ H fun vs H1 => sp vs H1 Q E0
theorem pe_fn (F : Fn X.prog X.w X.K X.mg X.base k x ps sp) (hr : Room k X.A) (hg : Gl X x) (ha : PA X (e :: es) t) (hdb : (x == ("__debug__" : Str)) = false := by decide)
    (he : starEach (e :: es) X.env = (false, eval e X.env) :: starEach es X.env := by rfl) (hpl : (backTo pos (starEach es X.env)).any (·.1) = false := by rfl) :
    PE X (.Call (.Name x p) (e :: es) [] pos) (tFn sp t) := by
  obtain ⟨f, fd, F, kp, b, m⟩ := F
  have h := pe_call (p := p) (pos := pos) (dvs := []) (ds := []) F hr hg m kp b .nil pass0 ha hdb he hpl
  intro pins s σ H Q I q
  refine h pins s σ H Q I ?_
  show t σ H fun vs H1 => sp (vs ++ []) H1 Q E0
  have q' : t σ H fun vs H1 => sp vs H1 Q E0 := q
  simpa only [List.append_nil] using q'
end
theorem ifD {c A B : Prop} [Decidable c] (h1 : c → A) (h2 : ¬ c → B) : if decide c = true then A else B := by
  by_cases h : c
  · rw [if_pos (decide_eq_true h)]; exact h1 h
  · rw [if_neg (fun z => h (of_decide_eq_true z))]; exact h2 h
theorem ifND {c A B : Prop} [Decidable c] (h1 : ¬ c → A) (h2 : c → B) : if (!decide c) = true then A else B := by
  by_cases h : c
  · rw [if_neg (by rw [decide_eq_true h]; decide)]; exact h2 h
  · rw [if_pos (by rw [decide_eq_false h]; decide)]; exact h1 h
theorem ifT {c A B : Prop} [Decidable c] (h : c) (a : A) : if decide c = true then A else B := ifD (fun _ => a) (fun z => absurd h z)
theorem ifF {c A B : Prop} [Decidable c] (h : ¬ c) (b : B) : if decide c = true then A else B := ifD (fun z => absurd z h) (fun _ => b)
theorem b_isinstance : bootBuiltins "isinstance" = some (.builtin "isinstance") := by decide +kernel
theorem b_int : bootBuiltins "int" = some (.type "int") := by decide +kernel
theorem b_bool : bootBuiltins "bool" = some (.type "bool") := by decide +kernel
theorem b_list : bootBuiltins "list" = some (.type "list") := by decide +kernel
theorem b_len : bootBuiltins "len" = some (.builtin "len") := by decide +kernel
theorem b_sorted : bootBuiltins "sorted" = some (.builtin "sorted") := by decide +kernel
theorem b_all : bootBuiltins "all" = some (.builtin "all") := by decide +kernel
theorem b_enumerate : bootBuiltins "enumerate" = some (.type "enumerate") := by decide +kernel
theorem b_ValueError : bootBuiltins "ValueError" = some (.type "ValueError") := by decide +kernel
theorem at2 {α : Type} (a b : α) {i : Int} (h0 : 0 ≤ i) (h1 : i < 2) : ∃ v, atI [a, b] i = some v ∧ (v = a ∨ v = b) := by
  rcases (by omega : i = 0 ∨ i = 1) with rfl | rfl
  · exact ⟨a, rfl, .inl rfl⟩
  · exact ⟨b, rfl, .inr rfl⟩
theorem Same.put {H H' : Hp} {p : Addr} {o : HO} (s : Same H H') (h : H' p = Option.none) : Same H (upd H' p o) := fun b u e => by
  have e' := s b u e
  rw [upd_ne (ne_of_none e' h)]
  exact e'
theorem Same.new {H : Hp} {p : Addr} {o : HO} (h : H p = Option.none) : Same H (upd H p o) := (Same.refl H).put h
end L2
namespace L2
open PySem PySem.Spec PyProof.Rows
section
variable {X : Cx} {tg : Expr}
end
end L2
namespace L2
open PySem PySem.Spec PyProof.Rows
def clOf (env : Env) : List (Str × NameKind) → List (Str × Addr) → List (Str × Addr)
  | [], acc => acc
  | (n, k) :: r, acc => if k == .free then clOf env r ((n, (env.cells.lookup n).getD 0) :: acc) else clOf env r acc
theorem closure_eq {scope : Scope} {env : Env} (h : ∀ p ∈ scope.names, p.2 = .free → ∃ c, env.cells.lookup p.1 = some c) : closureFor scope env = pure (clOf env scope.names []) := by
  unfold closureFor
  have key : ∀ (names : List (Str × NameKind)) (acc : List (Str × Addr)), (∀ p ∈ names, p.2 = .free → ∃ c, env.cells.lookup p.1 = some c) →
      (forIn names acc (fun (x : Str × NameKind) (cs : List (Str × Addr)) => match x with
        | (name, kind) => if (kind == NameKind.free) = true then (cellOf env name >>= fun c => pure (ForInStep.yield ((name, c) :: cs))) else pure (ForInStep.yield cs)) : Sem (List (Str × Addr))) = pure (clOf env names acc) := by
    intro names
    induction names with
    | nil => intro acc _; rfl
    | cons p r ih =>
      intro acc hp
      obtain ⟨n, k⟩ := p
      have hr : ∀ p ∈ r, p.2 = .free → ∃ c, env.cells.lookup p.1 = some c := fun p hm => hp p (List.mem_cons_of_mem _ hm)
      rw [List.forIn_cons]
      by_cases hk : k = .free
      · subst hk
        obtain ⟨c, hc⟩ := hp (n, .free) List.mem_cons_self rfl
        have hc : env.cells.lookup n = some c := hc
        have e1 : cellOf env n = pure c := by unfold cellOf; rw [hc]
        have e2 : clOf env ((n, .free) :: r) acc = clOf env r ((n, c) :: acc) := by
          show clOf env r ((n, (env.cells.lookup n).getD 0) :: acc) = _
          rw [hc]; rfl
        simp only [beq_self_eq_true, if_true, e1, pure_bind]
        rw [e2]
        exact ih _ hr
      · have hb : (k == NameKind.free) = false := by simpa using hk
        have e2 : clOf env ((n, k) :: r) acc = clOf env r acc := by
          show (if (k == NameKind.free) = true then clOf env r ((n, (env.cells.lookup n).getD 0) :: acc) else clOf env r acc) = _
          rw [hb]; rfl
        simp only [hb, Bool.false_eq_true, if_false, pure_bind]
        rw [e2]
        exact ih _ hr
  have k0 := key scope.names [] h
  show (forIn scope.names ([] : List (Str × Addr)) _ >>= fun r => pure r) = _
  refine Eq.trans (congrArg (fun m => m >>= fun r => pure r) k0) ?_
  rfl
theorem clOf_look {env : Env} : ∀ {names : List (Str × NameKind)} {acc : List (Str × Addr)}, (∀ p ∈ names, p.2 = .free → ∃ c, env.cells.lookup p.1 = some c) → (∀ x c, acc.lookup x = some c → env.cells.lookup x = some c) →
    ∀ x c, (clOf env names acc).lookup x = some c → env.cells.lookup x = some c
  | [], _, _, ha, x, c, h => ha x c h
  | (n, k) :: r, acc, hp, ha, x, c, h => by
    have hr : ∀ p ∈ r, p.2 = .free → ∃ c, env.cells.lookup p.1 = some c := fun p hm => hp p (List.mem_cons_of_mem _ hm)
    by_cases hk : k = .free
    · subst hk
      obtain ⟨d, hd⟩ := hp (n, .free) List.mem_cons_self rfl
      have hd : env.cells.lookup n = some d := hd
      have e2 : clOf env ((n, .free) :: r) acc = clOf env r ((n, d) :: acc) := by
        show clOf env r ((n, (env.cells.lookup n).getD 0) :: acc) = _
        rw [hd]; rfl
      rw [e2] at h
      refine clOf_look hr (fun y e hy => ?_) x c h
      rw [List.lookup_cons] at hy
      cases hyn : y == n with
      | true => rw [hyn] at hy; cases hy; rw [beq_iff_eq.mp hyn]; exact hd
      | false => rw [hyn] at hy; exact ha y e hy
    · have hb : (k == NameKind.free) = false := by simpa using hk
      have e2 : clOf env ((n, k) :: r) acc = clOf env r acc := by
        show (if (k == NameKind.free) = true then clOf env r ((n, (env.cells.lookup n).getD 0) :: acc) else clOf env r acc) = _
        rw [hb]; rfl
      rw [e2] at h
      exact clOf_look hr ha x c h
theorem clOf_has {env : Env} : ∀ {names : List (Str × NameKind)} {acc : List (Str × Addr)} {x : Str}, ((x, NameKind.free) ∈ names ∨ ∃ c, acc.lookup x = some c) → ∃ c, (clOf env names acc).lookup x = some c
  | [], _, _, h => h.elim (fun z => nomatch z) id
  | (n, k) :: r, acc, x, h => by
    by_cases hk : k = .free
    · subst hk
      show ∃ c, (clOf env r ((n, (env.cells.lookup n).getD 0) :: acc)).lookup x = some c
      refine clOf_has ?_
      by_cases hx : x = n
      · subst hx; exact .inr ⟨_, by rw [List.lookup_cons, beq_self_eq_true]⟩
      · rcases h with h | ⟨c, h⟩
        · rcases List.mem_cons.mp h with e | e
          · cases e; exact absurd rfl hx
          · exact .inl e
        · exact .inr ⟨c, by rw [List.lookup_cons, beq_eq_false_iff_ne.mpr hx]; exact h⟩
    · have hb : (k == NameKind.free) = false := by simpa using hk
      have e2 : clOf env ((n, k) :: r) acc = clOf env r acc := by
        show (if (k == NameKind.free) = true then clOf env r ((n, (env.cells.lookup n).getD 0) :: acc) else clOf env r acc) = _
        rw [hb]; rfl
      rw [e2]
      refine clOf_has ?_
      rcases h with h | h
      · rcases List.mem_cons.mp h with e | e
        · cases e; exact absurd rfl hk
        · exact .inl e
      · exact .inr h
section
variable {prog : Program} {w : World} {A : Around}
theorem codeAny_compLoop_gen {elt target iter : Expr} {ifs : List Expr} {scope : Scope} {pos : Pos} {it acc : Value} {env : Env} {s : Shared} {R : Result → Shared → Prop} (I : Nat → Shared → Prop)
    (turn : ∀ n s, I n s → wpAny (model prog w) A (pyNext it) (fun r s₁ => match r with
      | none => R (.ok .next) s₁
      | some v => wpAny (model prog w) A (letOwnedTupleGo target it v) (fun _ s₁' => wpAny (model prog w) A (assign target env v) (fun _ s₂ =>
          wpAny (model prog w) A (forIn ifs true fun c r => if r = true then do let ok ← isTrue c env (eval c env); pure (ForInStep.yield ok) else pure (ForInStep.yield r)) (fun ok s₃ =>
            if ok = true then wpAny (model prog w) A (eval elt env) (fun x s₄ => wpAny (model prog w) A (call (.builtin "list.append") [acc, x]) (fun _ s₅ => ∃ m, m < n ∧ I m s₅) (fun _ _ => False) s₄) (fun _ _ => False) s₃
            else ∃ m, m < n ∧ I m s₃) (fun _ _ => False) s₂) (fun _ _ => False) s₁') (fun _ _ => False) s₁) (fun _ _ => False) s)
    (n : Nat) (h : I n s) : codeAny (model prog w) A (.compLoop (.ListComp elt [⟨target, iter, ifs, 0⟩] scope pos) 0 it acc env) R s := by
  refine codeAny_loop rfl I (fun n s hI => ?_) n h
  show wpAny _ A ((compTurn (.ListComp elt [⟨target, iter, ifs, 0⟩] scope pos) 0 it acc env).onRaise (fun x => do noteFrame x env; theTreesLotGoes x)) _ _ s
  refine wpAny_noted ?_
  rw [compTurn_list]
  refine wpAny_bind (wpAny_standAt (wpAny_bind (wpAny_mono (turn n s hI) (fun r s₁ h₁ => ?_) fun _ _ h' => h'.elim)))
  cases r with
  | none => exact wpAny_pure h₁
  | some v =>
    refine wpAny_bind (wpAny_mono h₁ (fun _ s₁' h₁' => ?_) fun _ _ h' => h'.elim)
    refine wpAny_bind (wpAny_mono h₁' (fun _ s₂ h₂ => wpAny_bind (wpAny_mono h₂ (fun ok s₃ h₃ => ?_) fun _ _ h' => h'.elim)) fun _ _ h' => h'.elim)
    cases ok with
    | false => exact wpAny_pure ⟨rfl, h₃⟩
    | true => exact wpAny_bind (wpAny_bind (wpAny_mono h₃ (fun x s₄ h₄ => wpAny_bind (wpAny_mono h₄ (fun _ s₅ h₅ => wpAny_pure (wpAny_pure ⟨rfl, h₅⟩)) fun _ _ h' => h'.elim)) fun _ _ h' => h'.elim))
end
abbrev blockCx (X : Cx) (pins : List (Addr × Obj)) (N : List Str) (scope : Scope) (C : Addr) (sF : Shared) (HF : Hp) (fp : List Addr) : Cx where
  prog := X.prog
  w := X.w
  K := X.K
  mg := X.mg
  base := X.base
  A := X.A
  N := N
  s₀ := sF
  H₀ := HF
  env := compEnvC scope (clOf X.env scope.names []) C X.env
  outer := X.stack
  stack := X.stack
  ex := fp
  fn := fun _ => false
  calm := X.calm
  pn := X.pn ++ pins
  xe := fun _ _ => False
noncomputable def blockSt (own : Nat) (ix : List Nat) (σ : St) : St := List.replicate own none ++ ix.map fun i => (σ[i]?).getD none
noncomputable def CompGo (J : It) (own : Nat) (ix : List Nat) (g : TG) (tt : TT) (te : TE) (σ : St) (H1 : Hp) (acc : Addr) (Q : VK) : Prop :=
  ∃ W : Nat → Nat → List V → Hp → Prop, (∃ m, W 0 m [] (upd H1 acc (.lst []))) ∧ ∀ i m ys H2, W i m ys H2 →
    H2 acc = some (.lst ys) ∧ ((J.stop i H2 ∧ Q (.ref acc) H2) ∨ (J.go i H2 ∧ ys.length < sizeLine ∧ ∀ x H3, J.yld i H2 x H3 → g x (blockSt own ix σ) H3 fun σ4 H4 => σ4.drop own = ix.map (fun i => (σ[i]?).getD none) ∧ tt σ4 H4 fun ok H5 =>
      if ok = true then te σ4 H5 fun y H6 => H6 acc = some (.lst ys) ∧ ∃ m', m' < m ∧ W (i + 1) m' (ys ++ [y]) (upd H6 acc (.lst (ys ++ [y])))
      else ∃ m', m' < m ∧ W (i + 1) m' ys H5))
noncomputable def tComp (wi : TI) (own : Nat) (ix : List Nat) (g : TG) (tt : TT) (te : TE) : TE := fun σ H Q => wi σ H fun J H1 => ∀ acc, H1 acc = none → CompGo J own ix g tt te σ H1 acc Q
noncomputable def tNoTest : TT := fun _ H Q => Q true H
noncomputable def PTs (X : Cx) (ifs : List Expr) (t : TT) : Prop :=
  ∀ (pins : List (Addr × Obj)) (s : Shared) (σ : St) (H : Hp) (Q : Bool → Hp → Prop), Inv X pins σ H s → t σ H Q →
    wpAny (model X.prog X.w) X.A (forIn ifs true fun c r => if r = true then do let ok ← isTrue c X.env (eval c X.env); pure (ForInStep.yield ok) else pure (ForInStep.yield r)) (TP X pins σ Q) X.xe s
theorem pts_nil {X : Cx} : PTs X [] tNoTest := fun _ _ _ H _ I h => wpAny_tests_nil ⟨H, I, h⟩
theorem pts_one {X : Cx} {c : Expr} {t : TT} (hc : PT X c t) : PTs X [c] t := fun pins s σ H Q I h => wpAny_tests_one (hc pins s σ H Q I h)
structure BlockOk (X : Cx) (scope : Scope) (own : List Str) (fr : List Str) (ix : List Nat) : Prop where
  kind : scope.kind = .function
  nocell : ∀ y ∈ scope.names, y.2 ≠ .cell
  names : ∀ y ∈ scope.names, y.2 = .local → scope.names.lookup y.1 = some .local
  free : ∀ p ∈ scope.names, p.2 = .free → ∃ c, X.env.cells.lookup p.1 = some c
  frd : ∀ x ∈ fr, (x, NameKind.free) ∈ scope.names ∧ X.env.kindOf x = some .cell ∧ scope.names.lookup x = some .free
  len : fr.length = ix.length
  at_ : ∀ (j : Nat) x i, fr[j]? = some x → ix[j]? = some i → X.N[i]? = some x
structure BlockB (X : Cx) (scope : Scope) (own : List Str) (fr : List Str) (ix : List Nat) : Prop where
  kind : scope.kind = .function
  nocell : (scope.names.all fun y => y.2 != .cell) = true
  names : (scope.names.all fun y => y.2 != .local || scope.names.lookup y.1 == some .local) = true
  free : (scope.names.all fun p => p.2 != .free || X.env.kindOf p.1 == some .cell) = true
  frd : (fr.all fun x => X.env.kindOf x == some .cell && scope.names.lookup x == some .free) = true
  at_ : (ix.map fun i => X.N[i]?) = fr.map some
theorem mem_of_lookup {x : Str} {k : NameKind} : ∀ {names : List (Str × NameKind)}, names.lookup x = some k → (x, k) ∈ names
  | [], h => by simp at h
  | (n, k') :: r, h => by
    rw [List.lookup_cons] at h
    cases hx : x == n with
    | true =>
      rw [hx] at h
      cases h
      rw [beq_iff_eq.mp hx]
      exact List.mem_cons_self
    | false =>
      rw [hx] at h
      exact List.mem_cons_of_mem _ (mem_of_lookup h)
theorem BlockB.ok {X : Cx} {scope : Scope} {own fr : List Str} {ix : List Nat} (B : BlockB X scope own fr ix) (ok : X.Ok) : BlockOk X scope own fr ix where
  kind := B.kind
  nocell := fun y hy => by simpa using List.all_eq_true.mp B.nocell y hy
  names := fun y hy hl => by
    have := List.all_eq_true.mp B.names y hy
    rw [hl] at this
    simpa using this
  free := fun p hp hf => by
    have := List.all_eq_true.mp B.free p hp
    rw [hf] at this
    exact ok.has p.1 (.inl (by simpa using this))
  frd := fun x hx => by
    have := List.all_eq_true.mp B.frd x hx
    rw [Bool.and_eq_true] at this
    have h2 : scope.names.lookup x = some .free := by simpa using this.2
    exact ⟨mem_of_lookup h2, by simpa using this.1, h2⟩
  len := by
    have := congrArg List.length B.at_
    simpa using this.symm
  at_ := fun j x i hx hi => by
    have e := congrArg (fun l => l[j]?) B.at_
    simp only [List.getElem?_map, hx, hi, Option.map_some] at e
    exact Option.some.inj e
theorem relabel_free {env : Env} (hf : env.scope.kind = .function) : ∀ {names : List (Str × NameKind)} {x : Str}, names.lookup x = some .free → env.kindOf x = some .cell →
    (names.map fun (n, k) => if (k == NameKind.free && env.scope.kind == .function && env.kindOf n == some .cell) then (n, NameKind.cell) else (n, k)).lookup x = some .cell
  | [], _, h, _ => by simp at h
  | (n, k) :: r, x, h, hx => by
    have ih := @relabel_free env hf r x
    show List.lookup x ((if (k == NameKind.free && env.scope.kind == .function && env.kindOf n == some .cell) = true then (n, NameKind.cell) else (n, k)) :: _) = _
    cases hxn : x == n with
    | true =>
      have e := beq_iff_eq.mp hxn
      subst e
      simp only [List.lookup_cons, hxn] at h
      cases h
      rw [if_pos (by rw [hf, hx]; rfl)]
      simp only [List.lookup_cons, hxn]
    | false =>
      simp only [List.lookup_cons, hxn] at h
      by_cases hc : (k == NameKind.free && env.scope.kind == .function && env.kindOf n == some .cell) = true
      · rw [if_pos hc]; simp only [List.lookup_cons, hxn]; exact ih h hx
      · rw [if_neg hc]; simp only [List.lookup_cons, hxn]; exact ih h hx
theorem relabel_has {env : Env} : ∀ {names : List (Str × NameKind)} {x : Str}, (∀ y ∈ names, y.2 ≠ .cell) →
    ((names.map fun (n, k) => if (k == NameKind.free && env.scope.kind == .function && env.kindOf n == some .cell) then (n, NameKind.cell) else (n, k)).lookup x = some .cell ∨
     (names.map fun (n, k) => if (k == NameKind.free && env.scope.kind == .function && env.kindOf n == some .cell) then (n, NameKind.cell) else (n, k)).lookup x = some .free) → (x, NameKind.free) ∈ names
  | [], _, _, h => by simp at h
  | (n, k) :: r, x, hn, h => by
    have ih := @relabel_has env r x (fun y hy => hn y (List.mem_cons_of_mem _ hy))
    have hk : k ≠ .cell := hn (n, k) List.mem_cons_self
    have h' : List.lookup x ((if (k == NameKind.free && env.scope.kind == .function && env.kindOf n == some .cell) = true then (n, NameKind.cell) else (n, k)) :: r.map fun (n, k) => if (k == NameKind.free && env.scope.kind == .function && env.kindOf n == some .cell) then (n, NameKind.cell) else (n, k)) = some .cell ∨
      List.lookup x ((if (k == NameKind.free && env.scope.kind == .function && env.kindOf n == some .cell) = true then (n, NameKind.cell) else (n, k)) :: r.map fun (n, k) => if (k == NameKind.free && env.scope.kind == .function && env.kindOf n == some .cell) then (n, NameKind.cell) else (n, k)) = some .free := h
    by_cases hc : (k == NameKind.free && env.scope.kind == .function && env.kindOf n == some .cell) = true
    · have hf : k = .free := by
        rw [Bool.and_eq_true, Bool.and_eq_true] at hc
        exact beq_iff_eq.mp hc.1.1
      subst hf
      cases hxn : x == n with
      | true => rw [beq_iff_eq.mp hxn]; exact List.mem_cons_self
      | false =>
        rw [if_pos hc] at h'
        simp only [List.lookup_cons, hxn] at h'
        exact List.mem_cons_of_mem _ (ih h')
    · rw [if_neg hc] at h'
      cases hxn : x == n with
      | true =>
        simp only [List.lookup_cons, hxn] at h'
        rcases h' with e | e
        · cases e; exact absurd rfl hk
        · cases e; rw [beq_iff_eq.mp hxn]; exact List.mem_cons_self
      | false =>
        simp only [List.lookup_cons, hxn] at h'
        exact List.mem_cons_of_mem _ (ih h')
section
variable {X : Cx} {pins : List (Addr × Obj)} {σ : St} {H : Hp} {s : Shared}
theorem block_start {scope : Scope} {own fr : List Str} {ix : List Nat} {C : Addr} {h₁ : Heap} {tk : Nat} {fp : List Addr} {m : Str → Option Value} (I : Inv X pins σ H s) (B : BlockOk X scope own fr ix) (hC : C = s.heap.objs.size)
    (hf : ∀ b ∈ fp, FpOk X pins H b) (hb : ∀ b ∈ fp, ∃ o, s.heap.get? b = some o) (old : ∀ b o, s.heap.get? b = some o → h₁.get? b = some o) (hns : h₁.Ns C m) :
    Inv (blockCx X pins (own ++ fr) scope C s H fp) [] (blockSt own.length ix σ) H { s with heap := h₁, toks := tk } := by
  have look : ∀ x c, (clOf X.env scope.names []).lookup x = some c → X.env.cells.lookup x = some c := clOf_look B.free (fun _ _ z => by cases z)
  have lt : ∀ b o, s.heap.get? b = some o → b ≠ C := fun b o e => by rw [hC]; exact Nat.ne_of_lt (Heap.lt_size e)
  have ok : (blockCx X pins (own ++ fr) scope C s H fp).Ok := {
    mod := I.ok.mod
    kind := B.kind
    glob := I.ok.glob
    blt := I.ok.blt
    above := by show s.heap.objs.size ≤ C; rw [hC]; exact Nat.le_refl _
    inj := fun x y c a b => I.ok.inj x y c (look x c a) (look y c b)
    has := fun x hx => clOf_has (.inl (relabel_has B.nocell hx))
    cab := fun x c z => nomatch z
    hd := I.ok.hd
    frames := I.ok.frames
    stk := .inl rfl
    exf := fun b hbf => ⟨by obtain ⟨o, e⟩ := hb b hbf; exact lt b o e, fun x c e => (hf b hbf).2.2.2.2.1 x c (look x c e)⟩
    bs := I.bs
    bsz := Nat.le_trans I.ok.bsz I.sz
    noex := fun b o e hbf => by
      rcases (hf b hbf).2.2.2.1 with z | z
      · exact I.ok.noex b o e z
      · exact absurd (Nat.lt_of_lt_of_le (Heap.lt_size e) (Nat.le_trans I.ok.bsz z)) (Nat.lt_irrefl _)
    exfs := fun b hbf hs => by
      rcases List.mem_cons.mp (I.stkSub b hs) with z | z
      · exact (hf b hbf).2.1 z
      · exact (hf b hbf).2.2.1 z
    funs := I.stack
    frf := I.stkFree }
  refine ⟨ok, rfl, I.bare, Un.kept old, ⟨m, hns, fun i x v e1 e2 e3 => ?_⟩, fun x c e => ?_, ?_, fun x c e => I.freeC x c (look x c e), fun p hp => ?_, I.hok.kept old, ?_⟩
  · have e1 : (own ++ fr)[i]? = some x := e1
    have e2 : (List.replicate own.length none ++ ix.map fun i => (σ[i]?).getD none)[i]? = some (some v) := e2
    by_cases hi : i < own.length
    · rw [List.getElem?_append_left (by rw [List.length_replicate]; exact hi), List.getElem?_replicate, if_pos hi] at e2
      cases e2
    · rw [List.getElem?_append_right (by omega)] at e1
      rw [List.getElem?_append_right (by rw [List.length_replicate]; omega), List.length_replicate, List.getElem?_map] at e2
      obtain ⟨i', hi', e4⟩ := Option.map_eq_some_iff.mp e2
      have e5 : σ[i']? = some (some v) := by
        cases z : σ[i']? with
        | none => rw [z] at e4; cases e4
        | some y => rw [z] at e4; exact congrArg some e4
      have hm : x ∈ fr := List.mem_of_getElem? e1
      obtain ⟨f1, f2, f3⟩ := B.frd x hm
      obtain ⟨mX, _, hl⟩ := I.loc
      obtain ⟨u, r, l⟩ := hl i' x v (B.at_ _ x i' e1 hi') e5 (.inr (.inl f2))
      rcases l with ⟨l, _⟩ | ⟨_, c, ec, z⟩
      · rw [f2] at l; cases l
      · obtain ⟨c', ec'⟩ := clOf_has (env := X.env) (names := scope.names) (acc := []) (x := x) (.inl f1)
        have := look x c' ec'
        rw [ec] at this
        cases this
        obtain ⟨o, ho, hd⟩ := z
        exact ⟨u, r, .inr ⟨.inl (relabel_free I.ok.kind f3 f2), c, ec', o, old _ _ ho, hd⟩⟩
  · obtain ⟨v, o, ho, hd⟩ := I.cell x c (look x c e)
    exact ⟨v, o, old _ _ ho, hd⟩
  · show H C = none
    rw [hC]; exact I.hok.fresh (Nat.le_refl _)
  · have hp' : p ∈ X.pn ++ pins := by simpa using hp
    obtain ⟨e, n, ne, nf, d⟩ := I.pin p hp'
    refine ⟨old _ _ e, n, lt _ _ e, fun z => ?_, d⟩
    rcases List.mem_cons.mp (I.stkSub _ z) with q | q
    · exact ne q
    · exact nf q
  · show (List.replicate own.length none ++ ix.map fun i => (σ[i]?).getD none).length = (own ++ fr).length
    rw [List.length_append, List.length_append, List.length_replicate, List.length_map, B.len]
theorem block_end {N : List Str} {scope : Scope} {C : Addr} {fp : List Addr} {σ' : St} {H' : Hp} {s' : Shared} {h'' : Heap} {pl : List (Addr × Obj)} (I : Inv X pins σ H s) (hf : ∀ b ∈ fp, FpOk X pins H b) (hC : C = s.heap.objs.size)
    (J : Inv (blockCx X pins N scope C s H fp) pl σ' H' s') (hs : Heap.SameBut C s'.heap h'') : Inv X pins σ H' { s' with heap := h'' } := by
  have u := J.base
  have k : ∀ b o, b ≠ C → s'.heap.get? b = some o → h''.get? b = some o := fun b o hb e => hs.extBut b o hb e
  have hn : H' C = none := J.free
  have lt : ∀ b o, s.heap.get? b = some o → b ≠ C := fun b o e => by rw [hC]; exact Nat.ne_of_lt (Heap.lt_size e)
  refine I.call' (s' := { s' with heap := h'' }) (ch := fp) J.os ?_ ?_ J.bare fun b hb => ⟨(hf b hb).2.2.2.1, (hf b hb).2.1, (hf b hb).2.2.2.2.1, (hf b hb).2.2.2.2.2⟩
  · exact ⟨fun b o q n hb he => k b o (lt b o q) (u.keep b o q n hb he), fun b o q n hb he => by
        obtain ⟨sl, e⟩ := u.slot b o q n hb he
        exact ⟨sl, k b _ (lt b o q) e⟩, u.free, fun b o q he => by
        obtain ⟨o', e⟩ := u.there b o q he
        exact ⟨o', k b _ (lt b o q) e⟩, u.tups, u.frzs, u.tbls⟩
  · intro b o e
    have nit : ∀ b u, H' b = some u → b ≠ C := fun b u e z => by rw [z, hn] at e; cases e
    refine (J.hok b o e).stay (fun c v hc q => k c v ?_ q) (fun _ q => q) fun _ _ q => q
    rcases hc with z | z
    · rw [z]; exact nit b o e
    · exact nit c _ z
theorem comp_block {tg iter elt : Expr} {ifs : List Expr} {scope : Scope} {own fr : List Str} {ix : List Nat} {g : TG} {tt : TT} {te : TE} {pos : Pos} {Q : VK} {sF : Shared} {HF : Hp} {C acc it : Addr} {h₁ : Heap} {fp : List Addr} {tn : Nat → Heap → Prop} {J : It} {W : Nat → Nat → List V → Hp → Prop} {m : Str → Option Value} {m0 : Nat} {RR : Result → Shared → Prop}
    (hc : X.calm = true) (B : BlockOk X scope own fr ix)
    (hg : ∀ pins C sF HF fp, PG (blockCx X pins (own ++ fr) scope C sF HF fp) tg g) (ht : ∀ pins C sF HF fp, PTs (blockCx X pins (own ++ fr) scope C sF HF fp) ifs tt) (he : ∀ pins C sF HF fp, PE (blockCx X pins (own ++ fr) scope C sF HF fp) elt te)
    (I3 : Inv X pins σ HF sF) (T : Turn X.prog X.w X.K tg J fp it tn) (st3 : tn 0 sF.heap) (f3 : ∀ b ∈ fp, FpOk X pins HF b) (f3' : ∀ b ∈ fp, ∃ o, sF.heap.get? b = some o) (hC : sF.heap.objs.size = C) (old : ∀ b o, sF.heap.get? b = some o → h₁.get? b = some o) (hns₁ : h₁.Ns C m)
    (w0 : W 0 m0 [] HF) (turn : ∀ i m ys H2, W i m ys H2 → H2 acc = some (.lst ys) ∧ ((J.stop i H2 ∧ Q (.ref acc) H2) ∨ (J.go i H2 ∧ ys.length < sizeLine ∧ ∀ x H3, J.yld i H2 x H3 → g x (blockSt own.length ix σ) H3 fun σ4 H4 => σ4.drop own.length = ix.map (fun i => (σ[i]?).getD none) ∧ tt σ4 H4 fun ok H5 =>
      if ok = true then te σ4 H5 fun y H6 => H6 acc = some (.lst ys) ∧ ∃ m', m' < m ∧ W (i + 1) m' (ys ++ [y]) (upd H6 acc (.lst (ys ++ [y])))
      else ∃ m', m' < m ∧ W (i + 1) m' ys H5)))
    (fin : ∀ s6 H5, Inv (blockCx X pins (own ++ fr) scope C sF HF fp) [] (blockSt own.length ix σ) H5 s6 → Q (.ref acc) H5 → RR (.ok .next) s6) :
    codeAny (model X.prog X.w) X.A (.compStart (.ListComp elt [⟨tg, iter, ifs, 0⟩] scope pos) 0 (.ref it) (.ref acc) (compEnvC scope (clOf X.env scope.names []) C X.env)) RR
      { sF with heap := h₁, toks := sF.toks + ([] : List (Str × Value)).length } := by
  have J0 : Inv (blockCx X pins (own ++ fr) scope C sF HF fp) [] (blockSt own.length ix σ) HF { sF with heap := h₁, toks := sF.toks + ([] : List (Str × Value)).length } := block_start I3 B hC.symm f3 f3' old hns₁
  have st4 : tn 0 h₁ := T.keep _ _ _ st3 fun b _ o e => old b o e
  have fY : ∀ {pl : List (Addr × Obj)} {H' : Hp}, (∀ b ∈ fp, H' b = none) → (∀ p ∈ pl, p.1 ∉ fp) → ∀ b ∈ fp, FpOk (blockCx X pins (own ++ fr) scope C sF HF fp) pl H' b := fun {pl H'} hn hp b hb => by
    refine ⟨hn b hb, (J0.ok.exf b hb).1, J0.ok.exfs b hb, .inl hb, (J0.ok.exf b hb).2, fun p hpm => ?_⟩
    rcases List.mem_append.mp hpm with z | z
    · exact (f3 b hb).2.2.2.2.2 p z
    · exact fun e => hp p z (by rw [e]; exact hb)
  have weak : ∀ {pl : List (Addr × Obj)} {σ4 : St} {H4 : Hp} {s4 : Shared}, Inv (blockCx X pins (own ++ fr) scope C sF HF fp) pl σ4 H4 s4 → σ4.drop own.length = ix.map (fun i => (σ[i]?).getD none) → Inv (blockCx X pins (own ++ fr) scope C sF HF fp) pl (blockSt own.length ix σ) H4 s4 := fun {pl σ4 H4 s4} J e => by
    refine J.weak ?_ fun i v hv => ?_
    · have := J.len
      have := J0.len
      omega
    · have hv' : (List.replicate own.length none ++ ix.map fun i => (σ[i]?).getD none)[i]? = some (some v) := hv
      by_cases hi : i < own.length
      · rw [List.getElem?_append_left (by rw [List.length_replicate]; exact hi), List.getElem?_replicate, if_pos hi] at hv'
        cases hv'
      · rw [List.getElem?_append_right (by rw [List.length_replicate]; omega), List.length_replicate, ← e, List.getElem?_drop] at hv'
        rw [show own.length + (i - own.length) = i by omega] at hv'
        exact hv'
  have loop : ∀ s4 : Shared, s4 = { sF with heap := h₁, toks := sF.toks + ([] : List (Str × Value)).length } →
      codeAny (model X.prog X.w) X.A (.compLoop (.ListComp elt [⟨tg, iter, ifs, 0⟩] scope pos) 0 (.ref it) (.ref acc) (compEnvC scope (clOf X.env scope.names []) C X.env)) RR s4 := by
    rintro s4 rfl
    refine codeAny_compLoop_gen (fun n s' => ∃ i ys H', Inv (blockCx X pins (own ++ fr) scope C sF HF fp) [] (blockSt own.length ix σ) H' s' ∧ tn i s'.heap ∧ (∀ b ∈ fp, H' b = none) ∧ W i n ys H') ?_ m0 ⟨0, [], HF, J0, st4, fun b hb => (f3 b hb).1, w0⟩
    rintro n s5 ⟨i, ys, H5, J5, st5, fr5, w5⟩
    obtain ⟨ha, hturn⟩ := turn i n ys H5 w5
    rcases hturn with ⟨stop, qn⟩ | ⟨go, hsz, step⟩
    · refine thn (T.done (blockCx X pins (own ++ fr) scope C sF HF fp) rfl rfl rfl hc i [] s5 _ H5 (fun _ _ => False) J5 (fY fr5 (fun _ z => by cases z)) st5 stop) fun r s6 ⟨hr, J6⟩ => ?_
      subst hr
      exact fin s6 H5 J6 qn
    · refine thn (T.item (blockCx X pins (own ++ fr) scope C sF HF fp) rfl rfl rfl hc i [] s5 _ H5 (fun _ _ => False) J5 (fY fr5 (fun _ z => by cases z)) st5 go) fun r s6 ⟨u, hr, h6⟩ => ?_
      subst hr
      refine thn h6 fun _ s7 ⟨x, H7, J7, r7, y7, st7, fr7⟩ => ?_
      have J7' := J7.pinned (fY fr7 (fun _ z => by cases z)) (T.obj _ _ st7)
      refine thn (hg pins C sF HF fp _ s7 _ H7 x u _ J7' r7 (step x H7 y7)) fun _ s8 ⟨σ8, H8, J8, k8, q8⟩ => ?_
      have back : ∀ {s9 : Shared} {H9 : Hp}, Inv (blockCx X pins (own ++ fr) scope C sF HF fp) ([] ++ pinsAt fp s7.heap) σ8 H9 s9 → Inv (blockCx X pins (own ++ fr) scope C sF HF fp) [] (blockSt own.length ix σ) H9 s9 ∧ tn (i + 1) s9.heap ∧ ∀ b ∈ fp, H9 b = none := fun {s9 H9} J9 => by
        refine ⟨weak J9.unpinned k8, T.keep _ _ _ st7 fun b hb o e => (J9.pin (b, o) (List.mem_append_right _ (List.mem_append_right _ (mem_pinsAt hb e)))).1, fun b hb => ?_⟩
        obtain ⟨o, e, d⟩ := T.obj _ _ st7 b hb
        exact (J9.pin (b, o) (List.mem_append_right _ (List.mem_append_right _ (mem_pinsAt hb e)))).2.1
      refine thn (ht pins C sF HF fp _ s8 σ8 H8 _ J8 q8) fun ok s9 ⟨H9, J9, q9⟩ => ?_
      cases ok with
      | false =>
        obtain ⟨m', hm, w9⟩ := q9
        obtain ⟨b1, b2, b3⟩ := back J9
        exact ⟨m', hm, i + 1, ys, H9, b1, b2, b3, w9⟩
      | true =>
        refine thn (he pins C sF HF fp _ s9 σ8 H9 _ J9 q9) fun v s10 ⟨y, H10, J10, r10, a10, m', hm, w10⟩ => ?_
        refine thn (mt_append _ s10 σ8 H10 (.ref acc) [y] (.ref acc) [v] (fun _ H' => H' = upd H10 acc (.lst (ys ++ [y]))) J10 rfl (.cons r10 .nil) ⟨acc, ys, y, rfl, rfl, a10, hsz, rfl⟩) fun _ s11 ⟨_, H11, J11, _, e11⟩ => ?_
        subst e11
        obtain ⟨b1, b2, b3⟩ := back J11
        exact ⟨m', hm, i + 1, ys ++ [y], _, b1, b2, b3, w10⟩
  exact codeAny_compStart_list (loop _ rfl) (T.self _ 0 _ _ _ st4 (loop _ rfl))
theorem pe_comp {tg iter elt : Expr} {ifs : List Expr} {scope : Scope} {own fr : List Str} {ix : List Nat} {wi : TI} {g : TG} {tt : TT} {te : TE} {pos : Pos} (hc : X.calm = true) (BB : BlockB X scope own fr ix) (hi : PI X tg iter wi)
    (hg : ∀ pins C sF HF fp, PG (blockCx X pins (own ++ fr) scope C sF HF fp) tg g) (ht : ∀ pins C sF HF fp, PTs (blockCx X pins (own ++ fr) scope C sF HF fp) ifs tt) (he : ∀ pins C sF HF fp, PE (blockCx X pins (own ++ fr) scope C sF HF fp) elt te)
    (hs : ∀ x, foldedSetIterable iter X.env x = pure x := by intro _; rfl) : PE X (.ListComp elt [⟨tg, iter, ifs, 0⟩] scope pos) (tComp wi own.length ix g tt te) := by
  intro pins s σ H Q I h
  have B := BB.ok I.ok
  rw [eval_ListComp]
  refine wpAny_comprehension_free (use := none) rfl hs (closure_eq B.free) B.kind B.names (thn (hi pins s σ H _ I h) fun xv s1 h1 => thn h1 fun itv s2 h2 => ?_)
  obtain ⟨it, fp, tn, J, H2, rfl, I2, T, st2, f2, R⟩ := h2
  refine wpAny_newObj_type (wpAny_newFunctionEnv B.nocell (by intro y hy; simp at hy) (fun h₁ hns₁ hsb₁ => ?_) B.kind)
  dsimp only at hns₁ hsb₁
  have I3 := I2.lnew (t' := s2.toks) (its := []) (ys := []) .nil (Nat.zero_le _)
  obtain ⟨W, ⟨m0, w0⟩, turn⟩ := R _ I2.fresh
  have fF : ∀ b ∈ fp, ∃ o, s2.heap.get? b = some o := fun b hb => let ⟨o, e, _⟩ := T.obj _ _ st2 b hb; ⟨o, e⟩
  have nacc : ∀ b ∈ fp, b ≠ s2.heap.objs.size := fun b hb => let ⟨o, e⟩ := fF b hb; Nat.ne_of_lt (Heap.lt_size e)
  have push : ∀ b o, s2.heap.get? b = some o → (s2.heap.push { cls := .type "list", data := .seq ([] : List Value).toArray }).get? b = some o := fun b o e => Heap.get?_push_of_some _ e
  exact comp_block hc B hg ht he I3 T (T.keep _ _ _ st2 fun b _ o e => push b o e) (fun b hb => ⟨by rw [upd_ne (nacc b hb)]; exact (f2 b hb).1, (f2 b hb).2⟩) (fun b hb => let ⟨o, e⟩ := fF b hb; ⟨o, push b o e⟩) rfl
    (fun b o e => hsb₁.extBut b o (Nat.ne_of_lt (Heap.lt_size e)) (Heap.get?_push_of_some _ e)) hns₁ w0 turn fun s6 H5 J6 qn => by
      obtain ⟨m6, hn6, _⟩ := J6.loc
      exact ⟨m6, hn6, fun h' hs' => ⟨.ref _, H5, block_end I3 (fun b hb => ⟨by rw [upd_ne (nacc b hb)]; exact (f2 b hb).1, (f2 b hb).2⟩) rfl J6 hs', rfl, qn⟩⟩
theorem ps_setC {tg iter elt : Expr} {ifs : List Expr} {scope : Scope} {own fr : List Str} {ix : List Nat} {wi : TI} {g : TG} {tt : TT} {te : TE} {pos spos py : Pos} {k : Nat} {y : Str} (hc : X.calm = true) (hN : X.N.Nodup) (hk : X.N[k]? = some y) (hy : X.env.scope.names.lookup y = some .local) (BB : BlockB X scope own fr ix) (hi : PI X tg iter wi)
    (hg : ∀ pins C sF HF fp, PG (blockCx X pins (own ++ fr) scope C sF HF fp) tg g) (ht : ∀ pins C sF HF fp, PTs (blockCx X pins (own ++ fr) scope C sF HF fp) ifs tt) (he : ∀ pins C sF HF fp, PE (blockCx X pins (own ++ fr) scope C sF HF fp) elt te)
    (hsw : swapsWith (.ListComp elt [⟨tg, iter, ifs, 0⟩] scope pos) (some (.Name y py)) spos.line X.env = pure true := by rfl)
    (hs : ∀ x, foldedSetIterable iter X.env x = pure x := by intro _; rfl) : PS X (.Assign [.Name y py] (.ListComp elt [⟨tg, iter, ifs, 0⟩] scope pos) spos) (tAsg (tComp wi own.length ix g tt te) (gName k)) := by
  intro pins s σ H D I h
  have B := BB.ok I.ok
  rw [exec_Assign_Name_used _ _ _ _ hsw]
  refine wpAny_bind (wpAny_standAt (wpAny_bind ?_))
  show wpAny _ X.A (do let _ ← comprehension (.ListComp elt [⟨tg, iter, ifs, 0⟩] scope pos) scope X.env _ (newList []) false (eval iter X.env) (some (assign (.Name y py) X.env))) _ _ s
  refine wpAny_bind (wpAny_mono (wpAny_comprehension_free (use := some (assign (.Name y py) X.env)) (Q := fun _ s' => SP X pins D .next s') rfl hs (closure_eq B.free) B.kind B.names
    (thn (hi pins s σ H _ I h) fun xv s1 h1 => thn h1 fun itv s2 h2 => ?_)) (fun _ s' hq => wpAny_pure (wpAny_pure hq)) fun _ _ e => e)
  obtain ⟨it, fp, tn, J, H2, rfl, I2, T, st2, f2, R⟩ := h2
  refine wpAny_newObj_type (wpAny_newFunctionEnv B.nocell (by intro y hy; simp at hy) (fun h₁ hns₁ hsb₁ => ?_) B.kind)
  dsimp only at hns₁ hsb₁
  have I3 := I2.lnew (t' := s2.toks) (its := []) (ys := []) .nil (Nat.zero_le _)
  obtain ⟨W, ⟨m0, w0⟩, turn⟩ := R _ I2.fresh
  have fF : ∀ b ∈ fp, ∃ o, s2.heap.get? b = some o := fun b hb => let ⟨o, e, _⟩ := T.obj _ _ st2 b hb; ⟨o, e⟩
  have nacc : ∀ b ∈ fp, b ≠ s2.heap.objs.size := fun b hb => let ⟨o, e⟩ := fF b hb; Nat.ne_of_lt (Heap.lt_size e)
  have push : ∀ b o, s2.heap.get? b = some o → (s2.heap.push { cls := .type "list", data := .seq ([] : List Value).toArray }).get? b = some o := fun b o e => Heap.get?_push_of_some _ e
  have f3 : ∀ b ∈ fp, FpOk X pins (upd H2 s2.heap.objs.size (.lst [])) b := fun b hb => ⟨by rw [upd_ne (nacc b hb)]; exact (f2 b hb).1, (f2 b hb).2⟩
  refine comp_block (Q := fun x H1 => gName k x σ H1 D.nx) hc B hg ht he I3 T (T.keep _ _ _ st2 fun b _ o e => push b o e) f3 (fun b hb => let ⟨o, e⟩ := fF b hb; ⟨o, push b o e⟩) rfl
    (fun b o e => hsb₁.extBut b o (Nat.ne_of_lt (Heap.lt_size e)) (Heap.get?_push_of_some _ e)) hns₁ w0 turn fun s6 H5 J6 qn => ?_
  have I6 : Inv X pins σ H5 { s6 with heap := s6.heap } := block_end I3 f3 rfl J6 (Heap.SameBut.refl ..)
  have I6 : Inv X pins σ H5 s6 := I6
  obtain ⟨m6, ⟨o6, es6, ep6, ho6, rest6⟩, _⟩ := id J6.loc
  have sz : ∀ b o, (s2.heap.push { cls := .type "list", data := .seq ([] : List Value).toArray }).get? b = some o → b ≠ (s2.heap.push { cls := .type "list", data := .seq ([] : List Value).toArray }).objs.size := fun b o e => Nat.ne_of_lt (Heap.lt_size e)
  have hge : X.s₀.heap.objs.size ≤ (s2.heap.push { cls := .type "list", data := .seq ([] : List Value).toArray }).objs.size := I3.sz
  have hloc : (s2.heap.push { cls := .type "list", data := .seq ([] : List Value).toArray }).objs.size ≠ X.env.locals := fun z => by
    have := I3.lt
    rw [← z] at this
    exact Nat.lt_irrefl _ this
  have hfs : (s2.heap.push { cls := .type "list", data := .seq ([] : List Value).toArray }).objs.size ∉ X.fs := I3.nofs (Nat.le_refl _)
  have hcell : ∀ x c, X.env.cells.lookup x = some c → c ≠ (s2.heap.push { cls := .type "list", data := .seq ([] : List Value).toArray }).objs.size := fun x c e => by
    obtain ⟨v, ob, hob, _⟩ := I3.cell x c e
    exact sz _ _ hob
  have hpin : ∀ p ∈ X.pn ++ pins, p.1 ≠ (s2.heap.push { cls := .type "list", data := .seq ([] : List Value).toArray }).objs.size := fun p hp => sz _ _ (I3.pin p hp).1
  have I7 : Inv X (pins ++ [((s2.heap.push { cls := .type "list", data := .seq ([] : List Value).toArray }).objs.size, o6)]) σ H5 s6 := I6.pins_of fun p hp => by
    rcases List.mem_append.mp hp with z | z
    · exact I6.pin p (List.mem_append_right _ z)
    · rw [List.mem_singleton.mp z]
      refine ⟨ho6, J6.free, hloc, hfs, fun v z => ?_⟩
      rw [rest6.1] at z
      cases z
  refine wpAny_assign_Name (store_ok (v := .ref s2.heap.objs.size) I7 hN hk (.inl hy) rfl (fun s8 I8 => ?_) (.inr hy))
  have h8 := (I8.pin ((s2.heap.push { cls := .type "list", data := .seq ([] : List Value).toArray }).objs.size, o6) (List.mem_append_right _ (List.mem_append_right _ (List.mem_singleton.mpr rfl)))).1
  refine ⟨m6, ⟨o6, es6, ep6, h8, rest6⟩, fun h' hs' => ⟨_, H5, (I8.unpinned).turned (t' := s8.toks) (fun b o hb e => hs'.extBut b o hb e) J6.free hloc (.inr hge) hcell hpin, qn⟩⟩
end
end L2
namespace L2
open PySem PySem.Spec PyProof.Rows PySem.SeqAt
noncomputable def SqLL (K : PySem.W.Frag) (H : Hp) (a : Addr) (nss : List (List Int)) : Prop := ∃ as : List Addr, SqL K H a (as.map V.ref) ∧ Paired (fun b ns => SqL K H b (ns.map V.int)) as nss
theorem SqLL.same {K : PySem.W.Frag} {H H' : Hp} {a : Addr} {nss : List (List Int)} (e : Same H H') (h : SqLL K H a nss) : SqLL K H' a nss := by
  obtain ⟨as, h1, h2⟩ := h
  exact ⟨as, e.seq h1, Paired.imp' (fun b ns z => e.seq z) h2⟩
abbrev dI (ns : List Int) : PyData := .list (ns.map PyData.int)
theorem noMix_dI (ns ms : List Int) : noMix (dI ns) (dI ms) = true := by
  simp only [noMix]; exact PySem.W.noMix_ints ns ms
theorem same_dI (ns ms : List Int) : PySem.Spec.same (dI ns) (dI ms) = decide (ns = ms) := by
  simp only [PySem.Spec.same]; exact PySem.W.same_ints ns ms
section
variable {X : Cx} {pins : List (Addr × Obj)} {σ : St} {H : Hp} {s : Shared}
theorem Inv.ints (I : Inv X pins σ H s) {a : Addr} {ns : List Int} (h : SqL X.K H a (ns.map V.int)) : ∃ vs : List Value, s.heap.IsList a vs.toArray ∧ IntsAre vs ns ∧ ns.length ≤ sizeLine := by
  obtain ⟨its, r, p, z⟩ := I.list h
  exact ⟨its, p.isList, intsAre_of r, by rwa [List.length_map] at z⟩
theorem Inv.reads (I : Inv X pins σ H s) {a : Addr} {ns : List Int} (h : SqL X.K H a (ns.map V.int)) : Reads s.heap (.ref a) (dI ns) [a] := by
  obtain ⟨vs, l, i, _⟩ := I.ints h
  exact PySem.W.reads_of_ints l i
end
section
variable {X : Cx}
noncomputable def rEqL (K : PySem.W.Frag) : R2 := fun x y H Q => ∃ (a b : Addr) (ns ms : List Int), x = .ref a ∧ y = .ref b ∧ SqL K H a (ns.map V.int) ∧ SqL K H b (ms.map V.int) ∧ Q (.bl (decide (ns = ms))) H
noncomputable def rNeL (K : PySem.W.Frag) : R2 := fun x y H Q => ∃ (a b : Addr) (ns ms : List Int), x = .ref a ∧ y = .ref b ∧ SqL K H a (ns.map V.int) ∧ SqL K H b (ms.map V.int) ∧ Q (.bl (!decide (ns = ms))) H
theorem op_eqL (hu : X.A.units + 64 < cLine) : OpR X (compareOp .Eq) (rEqL X.K) := by
  intro pins s σ H x y v u Q I rx ry h
  obtain ⟨a, b, ns, ms, rfl, rfl, h1, h2, q⟩ := h
  cases rx; cases ry
  exact eq_dataH_same (I.reads h1) (I.reads h2) (PySem.W.shaped_ints ns) (PySem.W.shaped_ints ms) hu (noMix_dI ns ms) (by rw [same_dI]; exact ⟨.bl _, H, I, rfl, q⟩)
theorem op_neL (hu : X.A.units + 64 < cLine) : OpR X (compareOp .NotEq) (rNeL X.K) := by
  intro pins s σ H x y v u Q I rx ry h
  obtain ⟨a, b, ns, ms, rfl, rfl, h1, h2, q⟩ := h
  cases rx; cases ry
  exact ne_dataH_same (I.reads h1) (I.reads h2) (PySem.W.shaped_ints ns) (PySem.W.shaped_ints ms) hu (noMix_dI ns ms) (by rw [same_dI]; exact ⟨.bl _, H, I, rfl, q⟩)
theorem call_all (hc : X.calm = true) : CallR X (.builtin "all") (fun xs H Q => ∃ (p : Addr) (bs : List Bool), xs = [.ref p] ∧ SqL X.K H p (bs.map V.bl) ∧ Q (.bl (bs.all id)) H) := by
  intro pins s σ H xs us Q I r h
  obtain ⟨p, bs, rfl, hq, q⟩ := h
  obtain ⟨u, rfl, ru⟩ := vals1 r
  cases ru
  obtain ⟨its, rv, pl, hz⟩ := I.list hq
  have hl := pl.isList
  have hlt : p < s.heap.objs.size := by obtain ⟨_, e, _⟩ := hl; exact Heap.lt_size e
  refine call_all_walk (wpAny_pyIter_list hl ?_)
  refine ⟨s.heap.objs.size, [s.heap.objs.size, p], [s.heap.objs.size], its.toArray.size, _, _, fun i => (bs[i]?).getD true, rfl, Walks.list (A := X.A.in1) (I.ok.hd hc) _ p (Nat.ne_of_lt hlt) its.toArray,
    ⟨⟨_, Heap.get?_push_size _ rfl, rfl, rfl⟩, hl.push _⟩, fun i v s' Q' E' hP hQ => ?_, fun h' tk hk => ?_⟩
  · have hP' : its[i]? = some v := by simpa using hP
    have lenB : bs.length = its.length := by have := rv.length; rwa [List.length_map] at this
    have hi : i < bs.length := by rw [lenB]; exact (List.getElem?_eq_some_iff.mp hP').1
    obtain ⟨w, ew, rw'⟩ := rv.get (x := V.bl bs[i]) (i := i) (by rw [List.getElem?_map, List.getElem?_eq_getElem hi]; rfl)
    rw [hP'] at ew
    cases ew
    cases (show v = Value.bool bs[i] from rw')
    simp only [List.getElem?_eq_getElem hi, Option.getD_some] at hQ
    exact wpAny_truthy_bool hQ
  · have e : ((List.range its.toArray.size).all fun i => (bs[i]?).getD true) = bs.all id := by
      have lenB : bs.length = its.length := by have := rv.length; rwa [List.length_map] at this
      rw [List.size_toArray, ← lenB]; exact PyProof.Rows.LSm.range_all bs
    rw [e]
    exact ⟨.bl _, H, I.kept (PyProof.Rows.LSm.kept_iter hk), rfl, q⟩
end
end L2
namespace L2
open PySem PySem.Spec PyProof.Rows
theorem Same.wr {H H' : Hp} {p : Addr} {o : HO} (s : Same H H') (h : H p = Option.none) : Same H (upd H' p o) := fun b u e => by
  rw [upd_ne (ne_of_none e h)]
  exact s b u e
theorem hu64 {A : Around} {k : Nat} (hr : Room k A) : A.units + 64 < cLine := hr.units
theorem kit_list_list (K : PySem.W.Frag) : PySem.W.kitOne K (.type "list") (.type "list") = some true := by with_unfolding_all rfl
theorem map_range_const {α : Type} (x : α) : ∀ n : Nat, (List.range n).map (fun _ => x) = List.replicate n x
  | 0 => rfl
  | n + 1 => by rw [List.range_succ, List.map_append, map_range_const x n, List.replicate_succ']; rfl
theorem all_replicate : ∀ n : Nat, (List.replicate n true).all id = true
  | 0 => rfl
  | n + 1 => by rw [List.replicate_succ, List.all_cons, all_replicate n]; rfl
section
variable {X : Cx}
theorem call_isinstK (K : PySem.W.Frag) (hK : X.K = K := by rfl) : CallR X (.builtin "isinstance") (fun xs H Q => ∃ x n t b, xs = [x, .ty n] ∧ TyOf K H x t ∧ PySem.W.kitOne K t (.type n) = some b ∧ Q (.bl b) H) := by subst hK; exact call_isinst
theorem ix_listK (K : PySem.W.Frag) (hK : X.K = K := by rfl) : IxR X (rIxL K) := by subst hK; exact ix_list
theorem pg_tupK (K : PySem.W.Frag) {es : List Expr} {k : Nat} {t : TGs} {n : Nat} {pos : Pos} (hc : X.calm = true) (h : PGs X es t) (hK : X.K = K := by rfl)
    (hn : (assignEach es X.env).length = n := by rfl) (hst : (assignEach es X.env).findIdx? (·.1) = none := by rfl) : PG X (.Tuple es k pos) (gTup K n t) := by subst hK; exact pg_tup hc h hn hst
end
theorem comp_listP {K : PySem.W.Frag} {a acc : Addr} {xs : List V} {own : Nat} {ix : List Nat} {g : TG} {te : TE} {σ : St} {H1 : Hp} {Q : VK} (f : Nat → V) (hq : SqL K H1 a xs) (hn : H1 acc = none) (hz : xs.length ≤ sizeLine)
    (step : ∀ i x H (R : VK), xs[i]? = some x → Same H1 H → R (f i) H → g x (blockSt own ix σ) H fun σ4 H4 => σ4.drop own = ix.map (fun i => (σ[i]?).getD none) ∧ te σ4 H4 R)
    (hd : Q (.ref acc) (upd H1 acc (.lst ((List.range xs.length).map f)))) :
    CompGo (Itl K a) own ix g tNoTest te σ H1 acc Q := by
  refine ⟨fun i m ys H => m = xs.length - i ∧ i ≤ xs.length ∧ ys = (List.range i).map f ∧ H = upd H1 acc (.lst ys), ⟨xs.length, by simp, Nat.zero_le _, rfl, rfl⟩, ?_⟩
  rintro i m ys H ⟨rfl, hi, rfl, rfl⟩
  have q : SqL K (upd H1 acc (.lst ((List.range i).map f))) a xs := (Same.new hn).seq hq
  refine ⟨upd_same, ?_⟩
  by_cases hlt : i < xs.length
  · refine .inr ⟨⟨xs, xs[i], q, by simp [hlt]⟩, by rw [List.length_map, List.length_range]; omega, fun x H3 y => ?_⟩
    obtain ⟨e, y⟩ := y
    subst e
    exact step i x _ _ (y xs q) (Same.new hn) ⟨upd_same, xs.length - (i + 1), by omega, rfl, hlt, by rw [List.range_succ, List.map_append]; rfl, by rw [upd_upd]⟩
  · have e : i = xs.length := by omega
    subst e
    exact .inl ⟨⟨xs, q, Nat.le_refl _⟩, hd⟩
theorem comp_rangeP {lo : Int} {n : Nat} {acc : Addr} {own : Nat} {ix : List Nat} {g : TG} {te : TE} {σ : St} {H1 : Hp} {Q : VK} (f : Nat → V) (hn : H1 acc = none) (hz : n ≤ sizeLine)
    (step : ∀ i H (R : VK), i < n → Same H1 H → R (f i) H → g (.int (lo + i)) (blockSt own ix σ) H fun σ4 H4 => σ4.drop own = ix.map (fun i => (σ[i]?).getD none) ∧ te σ4 H4 R)
    (hd : Q (.ref acc) (upd H1 acc (.lst ((List.range n).map f)))) :
    CompGo (Itr lo n) own ix g tNoTest te σ H1 acc Q := by
  refine ⟨fun i m ys H => m = n - i ∧ i ≤ n ∧ ys = (List.range i).map f ∧ H = upd H1 acc (.lst ys), ⟨n, by simp, Nat.zero_le _, rfl, rfl⟩, ?_⟩
  rintro i m ys H ⟨rfl, hi, rfl, rfl⟩
  refine ⟨upd_same, ?_⟩
  by_cases hlt : i < n
  · refine .inr ⟨hlt, by rw [List.length_map, List.length_range]; omega, fun x H3 y => ?_⟩
    obtain ⟨e, y⟩ := y
    subst e y
    exact step i _ _ hlt (Same.new hn) ⟨upd_same, n - (i + 1), by omega, rfl, hlt, by rw [List.range_succ, List.map_append]; rfl, by rw [upd_upd]⟩
  · have e : i = n := by omega
    subst e
    exact .inl ⟨Nat.le_refl _, hd⟩
end L2
namespace L2
open PySem PySem.Spec PyProof.Rows
theorem Inv.turns {X : Cx} {pins : List (Addr × Obj)} {σ : St} {H : Hp} {s : Shared} {h' : Heap} {ch : List Addr} {t' : Nat} (I : Inv X pins σ H s) (hf : ∀ b ∈ ch, FpOk X pins H b) (k : ∀ b o, b ∉ ch → s.heap.get? b = some o → h'.get? b = some o) :
    Inv X pins σ H { s with heap := h', toks := t' } := by
  have nit : ∀ b u, H b = some u → b ∉ ch := fun b u e z => by rw [(hf b z).1] at e; cases e
  refine I.step (g' := s.gens) (d' := s.drawn) (ch := ch) (fun b hb => ⟨(hf b hb).2.2.2.1, (hf b hb).2.1, (hf b hb).2.2.2.2.1, (hf b hb).2.2.2.2.2⟩) (fun b o _ _ hc e _ => k b o hc e) (fun b o _ _ hc e _ => ⟨o.slots, k b o hc e⟩) (fun _ _ _ _ n => n)
    (fun b o hc e => ⟨o, k b o hc e⟩) (fun _ _ e => e) (fun _ _ _ e => e) (fun b ps e => ⟨#[], by rw [e]; simp⟩) (fun m hm => ?_) (fun b u e => ?_) I.bare
  · obtain ⟨o, es, ep, ho, r⟩ := hm
    exact ⟨o, es, ep, k _ o (fun z => (hf _ z).2.1 rfl) ho, r⟩
  · refine (I.hok b u e).stay (fun c v hc q => k c v ?_ q) (fun _ q => q) fun _ _ q => q
    rcases hc with z | z
    · rw [z]; exact nit b u e
    · exact nit c _ z
theorem Inv.turnsT {X : Cx} {pins : List (Addr × Obj)} {σ : St} {H : Hp} {s : Shared} {h' : Heap} {ch : List Addr} {t' : Nat} {T : Addr} {xs : List V} {its : List Value} (I : Inv X pins σ H s) (hf : ∀ b ∈ ch, FpOk X pins H b) (k : ∀ b o, b ∉ ch → s.heap.get? b = some o → h'.get? b = some o)
    (hT : s.heap.objs.size ≤ T) (r : Vals xs its) (ht : IsTup h' T its.toArray) (hz : xs.length ≤ sizeLine) : Inv X pins σ (upd H T (.tup xs)) { s with heap := h', toks := t' } := by
  have hn : H T = none := I.hok.fresh hT
  have nit : ∀ b u, H b = some u → b ∉ ch := fun b u e z => by rw [(hf b z).1] at e; cases e
  have lt : ∀ b o, s.heap.get? b = some o → b ≠ T := fun b o e => Nat.ne_of_lt (Nat.lt_of_lt_of_le (Heap.lt_size e) hT)
  refine I.step (g' := s.gens) (d' := s.drawn) (ch := ch) (fun b hb => ⟨(hf b hb).2.2.2.1, (hf b hb).2.1, (hf b hb).2.2.2.2.1, (hf b hb).2.2.2.2.2⟩) (fun b o _ _ hc e _ => k b o hc e) (fun b o _ _ hc e _ => ⟨o.slots, k b o hc e⟩) (fun b o _ e n => by rw [upd_ne (lt b o e)]; exact n)
    (fun b o hc e => ⟨o, k b o hc e⟩) (fun b ys e => by rw [upd_ne (ne_of_none e hn)]; exact e) (fun b o u e => by rw [upd_ne (ne_of_none e hn)]; exact e) (fun b ps e => ⟨#[], by rw [upd_ne (ne_of_none e hn), e]; simp⟩) (fun m hm => ?_) (fun b u e => ?_) I.bare
  · obtain ⟨o, es, ep, ho, r⟩ := hm
    exact ⟨o, es, ep, k _ o (fun z => (hf _ z).2.1 rfl) ho, r⟩
  · by_cases hb : b = T
    · subst hb
      rw [upd_same] at e
      cases e
      exact ⟨hz, its, r, ht⟩
    · rw [upd_ne hb] at e
      refine (I.hok b u e).stay (fun c v hc q => k c v ?_ q) (fun c q => ?_) fun c w q => ?_
      · rcases hc with z | z
        · rw [z]; exact nit b u e
        · exact nit c _ z
      · rw [upd_ne (ne_of_none q hn)]; exact q
      · rw [upd_ne (ne_of_none q hn)]; exact q
section
variable {X : Cx}
end
end L2
namespace Bw
noncomputable def C : Nat → Nat → Nat
  | _, 0 => 1
  | 0, _ + 1 => 0
  | n + 1, k + 1 => C n k + C n (k + 1)
theorem C_zero (n : Nat) : C n 0 = 1 := by cases n <;> rfl
theorem C_succ (n k : Nat) : C (n + 1) (k + 1) = C n k + C n (k + 1) := rfl
theorem C_above : ∀ (n k : Nat), n < k → C n k = 0
  | n, 0, h => absurd h (Nat.not_lt_zero _)
  | 0, _ + 1, _ => rfl
  | n + 1, k + 1, h => by
    rw [C_succ, C_above n k (by omega), C_above n (k + 1) (by omega)]
theorem C_self : ∀ n : Nat, C n n = 1
  | 0 => rfl
  | n + 1 => by rw [C_succ, C_self n, C_above n (n + 1) (by omega)]
theorem C_one : ∀ n : Nat, C n 1 = n
  | 0 => rfl
  | n + 1 => by rw [C_succ, C_zero, C_one n]; omega
theorem C_step : ∀ (n k : Nat), (k + 1) * C n (k + 1) + k * C n k = n * C n k
  | 0, 0 => by simp [C]
  | 0, k + 1 => by simp [C]
  | n + 1, 0 => by rw [C_one, C_zero]; omega
  | n + 1, k + 1 => by
    have h1 := C_step n k
    have h2 := C_step n (k + 1)
    rw [C_succ n (k + 1), C_succ n k]
    have e1 : (k + 1 + 1) * (C n (k + 1) + C n (k + 1 + 1)) = (k + 1 + 1) * C n (k + 1) + (k + 1 + 1) * C n (k + 1 + 1) := Nat.mul_add _ _ _
    have e2 : (k + 1) * (C n k + C n (k + 1)) = (k + 1) * C n k + (k + 1) * C n (k + 1) := Nat.mul_add _ _ _
    have e3 : (n + 1) * (C n k + C n (k + 1)) = (n * C n k + C n k) + (n * C n (k + 1) + C n (k + 1)) := by rw [Nat.mul_add, Nat.succ_mul, Nat.succ_mul]
    have e4 : (k + 1 + 1) * C n (k + 1) = (k + 1) * C n (k + 1) + C n (k + 1) := Nat.succ_mul _ _
    have e5 : (k + 1) * C n k = k * C n k + C n k := Nat.succ_mul _ _
    rw [e1, e2, e3, e4, e5]
    omega
theorem C_step' {n k : Nat} (h : k ≤ n) : (k + 1) * C n (k + 1) = C n k * (n - k) := by
  have e := C_step n k
  have e2 : C n k * (n - k) + k * C n k = n * C n k := by
    rw [Nat.mul_comm (C n k), ← Nat.add_mul, Nat.sub_add_cancel h]
  omega
theorem C_div {n k : Nat} (h : k ≤ n) : C n k * (n - k) / (k + 1) = C n (k + 1) := by
  rw [← C_step' h, Nat.mul_div_cancel_left _ (Nat.succ_pos k)]
theorem C_le_pow : ∀ (n k : Nat), C n k ≤ n ^ k
  | n, 0 => by rw [C_zero]; exact Nat.le_refl _
  | n, k + 1 => by
    have ih := C_le_pow n k
    by_cases h : k ≤ n
    · rw [← C_div h, Nat.pow_succ]
      refine Nat.le_trans (Nat.div_le_self _ _) ?_
      exact Nat.mul_le_mul ih (Nat.sub_le _ _)
    · rw [C_above n (k + 1) (by omega)]; exact Nat.zero_le _
noncomputable def ch (n k : Int) : Int := (C n.toNat k.toNat : Nat)
theorem ch_nonneg (n k : Int) : 0 ≤ ch n k := Int.natCast_nonneg _
theorem ch_above {n k : Int} (h0 : 0 ≤ n) (h : n < k) : ch n k = 0 := by
  unfold ch; rw [C_above _ _ (by omega)]; rfl
theorem ch_zero (n : Int) : ch n 0 = 1 := by
  unfold ch; rw [show (0 : Int).toNat = 0 from rfl, C_zero]; rfl
theorem ch_succ {n k : Int} (hn : 0 ≤ n) (hk : 0 ≤ k) : ch (n + 1) (k + 1) = ch n k + ch n (k + 1) := by
  unfold ch
  rw [show (n + 1).toNat = n.toNat + 1 by omega, show (k + 1).toNat = k.toNat + 1 by omega, C_succ]
  omega
theorem ch_step {n : Int} {i : Nat} (hn : (i : Int) ≤ n) : ch n i * (n - i) / ((i : Int) + 1) = ch n ((i : Int) + 1) := by
  unfold ch
  have e : n = ((n.toNat : Nat) : Int) := by omega
  have e1 : ((i : Int) + 1).toNat = i + 1 := by omega
  have e2 : ((i : Nat) : Int).toNat = i := by omega
  have e3 : n - (i : Int) = ((n.toNat - i : Nat) : Int) := by omega
  rw [e1, e2, e3, ← C_div (n := n.toNat) (k := i) (by omega)]
  have e4 : ((i : Int) + 1) = ((i + 1 : Nat) : Int) := by omega
  rw [e4, ← Int.natCast_mul, ← Int.natCast_ediv]
end Bw
namespace Bw
theorem C_mono1 : ∀ (n k : Nat), C n k ≤ C (n + 1) k
  | n, 0 => by rw [C_zero, C_zero]; exact Nat.le_refl _
  | n, k + 1 => by rw [C_succ]; omega
theorem C_mono {m n : Nat} (k : Nat) (h : m ≤ n) : C m k ≤ C n k := by
  induction h with
  | refl => exact Nat.le_refl _
  | step _ ih => exact Nat.le_trans ih (C_mono1 _ _)
theorem C_pos {n k : Nat} (h : k ≤ n) : 0 < C n k := by
  have := C_mono k h
  rw [C_self] at this
  omega
structure IsTop (k number t : Int) : Prop where
  lo : k - 1 ≤ t
  le : ch t k ≤ number
  lt : number < ch (t + 1) k
theorem ch_mono {m n k : Int} (h : m ≤ n) : ch m k ≤ ch n k := by
  unfold ch
  exact Int.ofNat_le.mpr (C_mono _ (by omega))
theorem IsTop.unique {k number t u : Int} (a : IsTop k number t) (b : IsTop k number u) : t = u := by
  rcases (by omega : t = u ∨ t + 1 ≤ u ∨ u + 1 ≤ t) with e | e | e
  · exact e
  · have := ch_mono (k := k) e
    have h1 := a.lt
    have h2 := b.le
    omega
  · have := ch_mono (k := k) e
    have h1 := b.lt
    have h2 := a.le
    omega
theorem ch_pos {n k : Int} (hk : 0 ≤ k) (h : k ≤ n) : 0 < ch n k := by
  unfold ch
  exact Int.ofNat_lt.mpr (C_pos (by omega))
end Bw
namespace Bw
open PySem L2
open Builtin.Int (intBits)
noncomputable def spChoose : Sp := fun vs H Q _ => ∃ n k : Int, vs = [.int n, .int k] ∧ 0 ≤ n ∧ 0 ≤ k ∧ k ≤ 1000 ∧ intBits n ≤ 100000 ∧ Q (.int (ch n k)) H
theorem bits_of {x : Int} {m : Nat} (h1 : 0 ≤ x) (h2 : x < (2 : Int) ^ m) : intBits x ≤ m := by
  refine intBits_le_iff.mpr ?_
  have e : ((2 ^ m : Nat) : Int) = (2 : Int) ^ m := by
    rw [Int.natCast_pow]; rfl
  rw [← e] at h2
  omega
theorem bits_mono {x : Int} {m n : Nat} (h : intBits x ≤ m) (hm : m ≤ n) : intBits x ≤ n := Nat.le_trans h hm
theorem bits_ch {n : Int} {k m : Nat} (h : intBits n ≤ m) (hn : 0 ≤ n) : intBits (ch n k) ≤ m * k + 1 := by
  refine intBits_le_of_natAbs (y := n ^ k) ?_ (intBits_pow_le h k)
  unfold ch
  rw [Int.toNat_natCast]
  have e : n = ((n.toNat : Nat) : Int) := by omega
  have e2 : (n ^ k).natAbs = n.toNat ^ k := by
    rw [Int.natAbs_pow]
    congr 1
    omega
  rw [e2]
  have := C_le_pow n.toNat k
  omega
end Bw
namespace L2
open PySem PySem.Spec PyProof.Rows
section
variable {X : Cx}
end
end L2
namespace L2
open PySem PySem.Spec PyProof.Rows
noncomputable def LL (H : Hp) (p : Addr) (nss : List (List Int)) : Prop := ∃ as : List Addr, H p = some (.lst (as.map V.ref)) ∧ Paired (fun b (ns : List Int) => H b = some (.lst (ns.map V.int))) as nss
noncomputable def LLm (H : Hp) (p : Addr) (nss : List (List Int)) : Prop := ∃ as : List Addr, H p = some (.lst (as.map V.ref)) ∧ Paired (fun b (ns : List Int) => b ≠ p ∧ H b = some (.lst (ns.map V.int))) as nss
theorem paired_imp {α β : Type} {F G : α → β → Prop} (h : ∀ a b, F a b → G a b) : ∀ {as : List α} {bs : List β}, Paired F as bs → Paired G as bs
  | _, _, .nil => .nil
  | _, _, .cons x y => .cons (h _ _ x) (paired_imp h y)
theorem paired_len {α β : Type} {F : α → β → Prop} : ∀ {as : List α} {bs : List β}, Paired F as bs → as.length = bs.length
  | _, _, .nil => rfl
  | _, _, .cons _ y => by simp [paired_len y]
theorem paired_get {α β : Type} {F : α → β → Prop} : ∀ {as : List α} {bs : List β} {i : Nat} {a : α}, Paired F as bs → as[i]? = some a → ∃ b, bs[i]? = some b ∧ F a b
  | _, _, _, _, .nil, h => by simp at h
  | _, _, 0, _, .cons x _, h => by
    simp only [List.getElem?_cons_zero, Option.some.injEq] at h
    subst h
    exact ⟨_, rfl, x⟩
  | _, _, i + 1, _, .cons _ y, h => by
    rw [List.getElem?_cons_succ] at h
    obtain ⟨b, e, f⟩ := paired_get y h
    exact ⟨b, by rw [List.getElem?_cons_succ]; exact e, f⟩
theorem LL.same {H H' : Hp} {p : Addr} {nss : List (List Int)} (s : Same H H') (h : LL H p nss) : LL H' p nss := by
  obtain ⟨as, e, q⟩ := h
  exact ⟨as, s _ _ e, paired_imp (fun _ _ z => s _ _ z) q⟩
theorem LLm.ll {H : Hp} {p : Addr} {nss : List (List Int)} (h : LLm H p nss) : LL H p nss := by
  obtain ⟨as, e, q⟩ := h
  exact ⟨as, e, paired_imp (fun _ _ z => z.2) q⟩
theorem LLm.push {H H' : Hp} {pm t : Addr} {bs : List Addr} {nss : List (List Int)} {ns : List Int} (h2 : Paired (fun b (ns : List Int) => b ≠ pm ∧ H b = some (.lst (ns.map V.int))) bs nss) (sm : Same H H') (ht : H' t = some (.lst (ns.map V.int))) (hne : t ≠ pm) :
    LLm (upd H' pm (.lst (bs.map V.ref ++ [V.ref t]))) pm (nss ++ [ns]) := by
  refine ⟨bs ++ [t], by rw [upd_same, List.map_append]; rfl, Paired.snoc (paired_imp (fun b n z => ⟨z.1, by rw [upd_ne z.1]; exact sm _ _ z.2⟩) h2) ⟨hne, ?_⟩⟩
  · rw [upd_ne hne]; exact ht
end L2
namespace L2
open PySem PySem.Spec PyProof.Rows
section
variable {prog : Program} {w : World} {A : Around} {E : Value → Shared → Prop} {s : Shared}
end
section
variable {X : Cx}
end
end L2
namespace L2
open PySem PySem.Spec PyProof.Rows
open PySem.W (hideAll of_hideAll hideAll_get)
noncomputable def CXE (P : Program) (w : World) : CXT := fun outer H s E e s' => ∃ (x : Addr) (C a0 : Value) (H' : Hp) (B : Heap), e = .ref x ∧ s'.os = s.os ∧ AllBare s'.gens ∧ Heap.FlyingW B outer x C a0 s'.heap ∧
  (∀ h3, B.StaysIn h3 → s'.heap.UpToSlots h3 → Un (frs outer) [] H H' s.heap h3 ∧ HOk P w H' h3) ∧ s.heap.get? x = none ∧ H' x = none ∧ E C none H'
theorem own_obj {K : PySem.W.Frag} {h : Heap} {C : Addr} {bmB : List Value} {newId : String} (X : K.In h) (q : PySem.W.excIn K C bmB newId = true) :
    ∃ bm N nm q bs hdct sn sub ab col dd k0 k1 k2 k3 k5 mN, h.get? C = some (excClassObj nm q C N bs bm hdct sn sub ab col dd k0 k1 k2 k3 k5 newId) ∧ h.Ns N mN ∧ mN "__init__" = none ∧ OwnTail h bmB bm ∧ ∀ v b, PySem.W.mroIn K C v = some b → (Value.ref C :: bm).contains v = b := by
  unfold PySem.W.excIn at q
  split at q
  · rename_i dd cd sl ho
    split at q
    · rename_i C' bm k0 k1 k2 k3 n k5 hm hs
      simp only [Bool.and_eq_true, beq_iff_eq, Bool.not_eq_true'] at q
      obtain ⟨⟨⟨⟨⟨rfl, rfl⟩, hdel⟩, ht⟩, hok⟩, hni⟩ := q
      obtain ⟨nm, bs, mro, ns, qn, hd, sn, sub, ab, col, del⟩ := cd
      dsimp only at hm hdel hok hni
      subst hm hdel
      have hsl : sl = #[k0, k1, k2, k3, some (.builtin n), k5] := by
        obtain ⟨l⟩ := sl
        simp only at hs
        rw [hs]
      subst hsl
      exact ⟨bm, ns, nm, qn, bs, hd, sn, sub, ab, col, dd, k0, k1, k2, k3, k5, _, X _ _ ho, .of_isNs (PySem.W.isNs_of_in X hok), PySem.W.nsMap_none_of_in X hok hni, PySem.W.tail_of_in X ht, fun v b e => by
        unfold PySem.W.mroIn PySem.W.clsIn at e
        rw [ho] at e
        simpa using e⟩
    · cases q
  · cases q
theorem ObjOk.there {P : Program} {w : World} {H : Hp} {h : Heap} {a : Addr} {o : HO} (x : ObjOk P w H h a o) : ∃ ob, h.get? a = some ob := by
  cases o with
  | lst xs => obtain ⟨_, _, _, _, e⟩ := x; exact ⟨_, e⟩
  | tup xs => obtain ⟨_, _, _, ob, e, _⟩ := x; exact ⟨_, e⟩
  | dK kvs => obtain ⟨_, _, _, _, o, _, _, e, _⟩ := x; exact ⟨_, e⟩
  | dT kvs => obtain ⟨_, _, _, _, o, _, _, e, _⟩ := x; exact ⟨_, e⟩
  | set S n => obtain ⟨o, _, _, _, e, _⟩ := x; exact ⟨_, e⟩
  | ins C dx fs => obtain ⟨_, _, _, e, _⟩ := x; exact ⟨_, e⟩
  | own y => obtain ⟨_, e⟩ := x; exact ⟨_, e⟩
  | xd fs => obtain ⟨_, ⟨_, _, _, e, _⟩, _⟩ := x; exact ⟨_, e⟩
  | rng lo hi => obtain ⟨_, _, _, e⟩ := x; exact ⟨_, e⟩
  | frz ob u => obtain ⟨e, _⟩ := x; exact ⟨_, e⟩
  | tbl ps => exact ⟨_, (show h.get? a = some _ from x)⟩
  | met f y => exact ⟨_, (show h.get? a = some _ from x)⟩
  | ext φ => obtain ⟨_, ⟨_, e⟩, _⟩ := x; exact ⟨_, e⟩
section
variable {P : Program} {w : World} {K : PySem.W.Frag} {mg : Str → Option Value} {base : Heap} {N : List Str} {qual : Str} {scope : Scope} {f : Addr} {cdv : Value} {A : Around} {outer : List Env} {s s2 : Shared} {H H1 : Hp} {E : XK} {pins : List (Addr × Obj)} {σ : St}
theorem stands (I : Inv (cxOf (CXE P w) P w K mg base N qual scope f cdv A outer s H E) pins σ H1 s2) {h3 : Heap} (hst : (hideAll s2.heap (frs (envOfC qual scope s.heap.objs.size f cdv :: outer))).StaysIn h3) (up : s2.heap.UpToSlots h3) :
    Un (frs outer) [] H H1 s.heap h3 ∧ HOk P w H1 h3 := by
  have kk : ∀ b o, s2.heap.get? b = some o → b ∉ frs (envOfC qual scope s.heap.objs.size f cdv :: outer) → h3.get? b = some o := fun b o e hb => hst b o (hideAll_get _ e hb)
  have frz : ∀ b, b ∈ frs (envOfC qual scope s.heap.objs.size f cdv :: outer) → b = s.heap.objs.size ∨ b ∈ frs outer := fun b hb => by
    unfold frs at hb
    rw [List.filterMap_cons] at hb
    exact List.mem_cons.mp hb
  have notL : ∀ b o, s.heap.get? b = some o → b ∉ frs outer → b ∉ frs (envOfC qual scope s.heap.objs.size f cdv :: outer) := fun b o e hb z => by
    rcases frz b z with q | q
    · exact absurd (Heap.lt_size e) (by rw [q]; exact Nat.lt_irrefl _)
    · exact hb q
  have U := I.base
  have stk := I.stack
  refine ⟨⟨fun b o e n hb hx => kk b o (U.keep b o e n hb hx) (notL b o e hb), fun b o e n hb hx => ?_, fun b o e n hx => U.free b o e n hx, fun b o e hx => ?_, U.tups, U.frzs, U.tbls⟩, fun a u e => ?_⟩
  · obtain ⟨sl, q⟩ := U.slot b o e n hb hx
    obtain ⟨_, o2, ho2, hd2⟩ := I.ok.funs.mem hb
    have ho2' : s.heap.get? b = some o2 := ho2
    rw [e] at ho2'
    cases ho2'
    obtain ⟨sl2, q2⟩ := up b _ q hd2
    exact ⟨sl2, q2⟩
  · obtain ⟨o2, q⟩ := U.there b o e hx
    by_cases hb : b ∈ frs (envOfC qual scope s.heap.objs.size f cdv :: outer)
    · obtain ⟨_, o3, ho3, hd3⟩ := stk.mem hb
      obtain ⟨sl, q3⟩ := up b _ ho3 hd3
      exact ⟨_, q3⟩
    · exact ⟨_, kk b o2 q hb⟩
  · refine (I.hok a u e).stay (fun b v hb q => kk b v q fun z => ?_) (fun _ q => q) fun _ _ q => q
    have hn := I.stkFree b z
    rcases hb with r | r
    · rw [r] at hn; rw [hn] at e; cases e
    · rw [hn] at r; cases r
theorem xe_made {h' : Heap} {e : Addr} {C : Value} {vs : List Value} (I : Inv (cxOf (CXE P w) P w K mg base N qual scope f cdv A outer s H E) pins σ H1 s2) (m : Heap.MadeExcOf s2.heap h' e C vs) (h : E C none H1) :
    (cxOf (CXE P w) P w K mg base N qual scope f cdv A outer s H E).xe (.ref e) { s2 with heap := h' } := by
  show wpAny (model P w) (A.deeper (envOfC qual scope s.heap.objs.size f cdv)) (leaving (envOfC qual scope s.heap.objs.size f cdv) (.ref e)) (fun _ s'' => CXE P w outer H s E (.ref e) s'') (fun e' s'' => CXE P w outer H s E e' s'') { s2 with heap := h' }
  have stk := I.stack
  refine wpAny_leaves_madeW (s := { s2 with heap := h' }) (base := hideAll s2.heap (frs (envOfC qual scope s.heap.objs.size f cdv :: outer))) (h := s2.heap) I.ok.frames rfl (fun b o q => of_hideAll _ q) (PySem.W.funFrames_hide stk fun env he b hb => List.mem_filterMap.mpr ⟨env, he, hb⟩) m fun h'' t fl tup bt ups => ?_
  have up1 : s2.heap.UpToSlots h'' := (Heap.UpToSlots.of_keeps m.keeps).trans ups
  refine ⟨e, C, .ref t, H1, _, rfl, I.os, I.bare, fl, fun h3 st3 up3 => stands I st3 (up1.trans up3), ?_, ?_, h⟩
  · have en := m.new
    cases q : s.heap.get? e with
    | none => rfl
    | some o =>
      obtain ⟨o2, q2⟩ := I.base.there e o q (by show e ∉ ([] : List Addr); simp)
      rw [en] at q2; cases q2
  · cases q : H1 e with
    | none => rfl
    | some u =>
      obtain ⟨ob, q2⟩ := ObjOk.there (I.hok e u q)
      rw [m.new] at q2; cases q2
theorem notL2 {b : Addr} {o : Obj} (e : s.heap.get? b = some o) (hb : b ∉ frs outer) : b ∉ frs (envOfC qual scope s.heap.objs.size f cdv :: outer) := fun z => by
  have z' : b ∈ s.heap.objs.size :: frs outer := by
    unfold frs at z ⊢
    rw [List.filterMap_cons] at z
    exact z
  rcases List.mem_cons.mp z' with q | q
  · exact absurd (Heap.lt_size e) (by rw [q]; exact Nat.lt_irrefl _)
  · exact hb q
theorem xe_pass {x : Addr} {s' : Shared} {e : Value} {E' : XK} (I : Inv (cxOf (CXE P w) P w K mg base N qual scope f cdv A outer s H E) pins σ H1 s2) (hx : CXE P w (envOfC qual scope s.heap.objs.size f cdv :: outer) H1 s2 E' e s') (h : ∀ C H', E' C none H' → E C none H') :
    (cxOf (CXE P w) P w K mg base N qual scope f cdv A outer s H E).xe e s' := by
  obtain ⟨x, C, a0, H', B, rfl, os, bare, fl, st, xn, xh, q⟩ := hx
  show wpAny (model P w) (A.deeper (envOfC qual scope s.heap.objs.size f cdv)) (leaving (envOfC qual scope s.heap.objs.size f cdv) (.ref x)) (fun _ s'' => CXE P w outer H s E (.ref x) s'') (fun e' s'' => CXE P w outer H s E e' s'') s'
  refine wpAny_leaves_onW I.ok.frames rfl fl fun h'' fl2 up => ?_
  have U := I.base
  refine ⟨x, C, a0, H', B, rfl, os.trans I.os, bare, fl2, fun h3 st3 up3 => ?_, ?_, xh, h C H' q⟩
  · obtain ⟨u, ok⟩ := st h3 st3 (up.trans up3)
    refine ⟨⟨fun b o e n hb hx => u.keep b o (U.keep b o e n hb hx) (U.free b o e n hx) (notL2 e hb) hx, fun b o e n hb hx => ?_, fun b o e n hx => ?_, fun b o e hx => ?_, fun b xs e => u.tups b xs (U.tups b xs e), fun b o v e => u.frzs b o v (U.frzs b o v e), fun b ps e => ?_⟩, ok⟩
    · obtain ⟨sl, q1⟩ := U.slot b o e n hb hx
      have hb' : b ∈ frs (envOfC qual scope s.heap.objs.size f cdv :: outer) := by
        unfold frs; rw [List.filterMap_cons]; exact List.mem_cons_of_mem _ hb
      obtain ⟨sl2, q2⟩ := u.slot b _ q1 (U.free b o e n hx) hb' hx
      exact ⟨sl2, q2⟩
    · obtain ⟨o2, q2⟩ := U.there b o e hx
      exact u.free b o2 q2 (U.free b o e n hx) hx
    · obtain ⟨o2, q2⟩ := U.there b o e hx
      exact u.there b o2 q2 hx
    · obtain ⟨m1, q1⟩ := U.tbls b ps e
      obtain ⟨m2, q2⟩ := u.tbls b _ q1
      exact ⟨m1 ++ m2, by rw [q2, Array.append_assoc]⟩
  · cases q1 : s.heap.get? x with
    | none => rfl
    | some o =>
      obtain ⟨o2, q2⟩ := U.there x o q1 (by show x ∉ ([] : List Addr); simp)
      rw [xn] at q2; cases q2
end
section
variable {P : Program} {w : World} {K : PySem.W.Frag} {mg : Str → Option Value} {base : Heap}
noncomputable def FnE (P : Program) (w : World) (K : PySem.W.Frag) (mg : Str → Option Value) (base : Heap) (k : Nat) (x : Str) (ps : List Str) (sp : Sp) : Prop :=
  ∃ f fd, FnOk P w K mg base (CXE P w) k f fd ps sp ∧ PySem.W.keepIn K (.ref f) = true ∧ Binds K fd ps [] ∧ mg x = some (.ref f)
noncomputable def tRaise (C : Addr) (E : XK) (t : TA) : TS := fun _ σ H => t σ H fun vs H1 => vs.length ≤ sizeLine ∧ E (.ref C) none H1
theorem ps_raise {N : List Str} {qual : Str} {scope : Scope} {f : Addr} {cdv : Value} {A : Around} {outer : List Env} {s : Shared} {H : Hp} {E : XK} {xn : Str} {C : Addr} {bmB : List Value} {B newId initId : String} {e : Expr} {es : List Expr} {t : TA} {np cpos pos : Pos}
    (FB : ExcBaseFacts B newId initId bmB) (hq : PySem.W.excIn K C bmB newId = true) (hg : Gl (cxOf (CXE P w) P w K mg base N qual scope f cdv A outer s H E) xn) (hm : mg xn = some (.ref C)) (ha : PA (cxOf (CXE P w) P w K mg base N qual scope f cdv A outer s H E) (e :: es) t)
    (hd : (xn == ("__debug__" : Str)) = false := by decide)
    (he : starEach (e :: es) (cxOf (CXE P w) P w K mg base N qual scope f cdv A outer s H E).env = (false, eval e (cxOf (CXE P w) P w K mg base N qual scope f cdv A outer s H E).env) :: starEach es (cxOf (CXE P w) P w K mg base N qual scope f cdv A outer s H E).env := by rfl)
    (hpl : (backTo cpos (starEach es (cxOf (CXE P w) P w K mg base N qual scope f cdv A outer s H E).env)).any (·.1) = false := by rfl) :
    PS (cxOf (CXE P w) P w K mg base N qual scope f cdv A outer s H E) (.Raise (some (.Call (.Name xn np) (e :: es) [] cpos)) none pos) (tRaise C E t) := by
  intro pins s1 σ H0 D I h
  obtain ⟨bm, N', nm, q, bs, hdct, sn, sub, ab, col, dd, k0, k1, k2, k3, k5, mN, hC, hN, hni, TL, _⟩ := own_obj I.mod.kin hq
  refine wpAny_Raise_call_subT (C := C) (nm := nm) (q := q) (N := N') (bs := bs) (bm := bm) (hdct := hdct) (sn := sn) (sub := sub) (ab := ab) (col := col) (dd := dd) (k0 := k0) (k1 := k1) (k2 := k2) (k3 := k3) (k5 := k5)
    FB (mN := mN) (TL.hasType FB.hasBase) (I.ok.hd rfl) (by rw [he]; show (false || (backTo cpos (starEach es _)).any (·.1)) = false; rw [hpl]; rfl) hni (ld_glob I hg hm ⟨rfl, ?_⟩ hd)
  have hs := ha cpos pins s1 σ H0 _ I h
  rw [he] at hs ⊢
  exact Calls.evalArgs_plain (thn hs fun us s2 x => by
    obtain ⟨vs, H1, I1, r1, z, q1⟩ := x
    exact ⟨rfl, by rw [← r1.length]; exact z, I1.bk _ _ hC, hN.keeps I1.bk, TL.keeps I1.bk, fun h' x m => xe_made I1 m q1⟩)
end
section
variable {P : Program} {w : World} {K : PySem.W.Frag} {mg : Str → Option Value} {base : Heap}
theorem Fun.okE {x qual : Str} {st : Stmt} {f : Addr} {fd : FuncData} {N ps : List Str} {k : Nat} {sp : Sp} (F : Fun K x qual st f fd) (S : FnScope N ps (defScope st)) (len : ∀ vs H Q E, sp vs H Q E → vs.length = ps.length)
    (hbody : ∀ (cdv : Value) (A : Around) (outer : List Env) (s : Shared) (H : Hp) (vs : List V) (Q : VK) (E : XK), Room k (A.deeper (envOfC qual (defScope st) s.heap.objs.size f cdv)) → sp vs H Q E →
      ∃ t, PSs (cxOf (CXE P w) P w K mg base N qual (defScope st) f cdv A outer s H E) (defBody st) t ∧ t { nx := fun _ H' => Q .non H', rt := Q } (start N vs) H) : FnOk P w K mg base (CXE P w) (k + 1) f fd ps sp := by
  obtain ⟨oc, od, kV, doc, pm, an, cdv, ct, osl, rfl, lk, hcd⟩ := F.ex
  exact fn_of lk hcd S len fun A outer s H vs Q E hr hsp => hbody cdv A outer s H vs Q E hr hsp
theorem Def.fnE {x : Str} {st : Stmt} {N ps : List Str} {k : Nat} {sp : Sp} (D : Def K mg x st ps) (S : FnScope N ps (defScope st)) (len : ∀ vs H Q E, sp vs H Q E → vs.length = ps.length)
    (hbody : ∀ (f : Addr) (cdv : Value) (A : Around) (outer : List Env) (s : Shared) (H : Hp) (vs : List V) (Q : VK) (E : XK), Room k (A.deeper (envOfC x (defScope st) s.heap.objs.size f cdv)) → sp vs H Q E →
      ∃ t, PSs (cxOf (CXE P w) P w K mg base N x (defScope st) f cdv A outer s H E) (defBody st) t ∧ t { nx := fun _ H' => Q .non H', rt := Q } (start N vs) H) : FnE P w K mg base (k + 1) x ps sp := by
  obtain ⟨f, fd, F, b, m⟩ := D
  exact ⟨f, fd, F.okE S len (hbody f), F.kp, b, m⟩
end
section
variable {M : Model} {A : Around} {E : Value → Shared → Prop} {h : Heap} {g : Array GenState} {d : Drawn} {t : Nat} {os : OsState}
noncomputable def IsExcCls (h : Heap) (C : Addr) (bm : List Value) : Prop := ∃ N nm q bs hdct sn sub ab col dd k0 k1 k2 k3 k5 newId, h.get? C = some (excClassObj nm q C N bs bm hdct sn sub ab col dd k0 k1 k2 k3 k5 newId) ∧ bm.contains (.type "BaseException") = true
end
section
variable {X : Cx} {pins : List (Addr × Obj)} {σ : St} {H : Hp} {s : Shared}
theorem unbind_ok {M : Model} {A : Around} {E : Value → Shared → Prop} {i : Nat} {x : Str} {v : V} {Q : Unit → Shared → Prop} (I : Inv X pins σ H s) (hN : X.N.Nodup) (hi : X.N[i]? = some x) (hk : X.env.kindOf x = some .local) (hs' : X.env.scope.names.lookup x = some .local) (hv : σ[i]? = some (some v))
    (h : ∀ s', Inv X pins (σ.set i none) H s' → Q () s') : wpAny M A (unbindName X.env x) Q E s := by
  obtain ⟨m, hn, hl⟩ := id I.loc
  have hcls : (X.env.scope.kind == .class || (X.env.scope.kind == .module && X.env.locals != X.env.globals)) = false := by rw [I.ok.kind]; rfl
  have hiσ : i < σ.length := by rw [I.len]; exact (List.getElem?_eq_some_iff.mp hi).1
  have cne := I.cne
  obtain ⟨u, _, lk⟩ := hl i x v hi hv (.inl hs')
  have mx : m x = some u := by
    rcases lk with ⟨_, e⟩ | ⟨k, _⟩
    · exact e
    · rw [hk] at k; rcases k with k | k <;> cases k
  refine wpAny_unbindName_local hk hn mx hcls fun h' u' hn' hs => ?_
  obtain ⟨oL, _, _, hoL, _⟩ := id hn
  refine h _ ⟨I.ok, I.os, I.bare, ⟨fun b o e n hb hx => ?_, fun b o e n hb hx => ?_, I.base.free, fun b o e hx => ?_, I.base.tups, I.base.frzs, I.base.tbls⟩, ⟨_, hn', fun j y v' e1 e2 e3 => ?_⟩, fun y c e => ?_, I.free, I.freeC, fun p hp => ?_, fun b ob e => ?_, by simpa using I.len⟩
  · exact (hs.2 b (Nat.ne_of_lt (Nat.lt_of_lt_of_le (Heap.lt_size e) I.ok.above))).trans (I.base.keep b o e n hb hx)
  · obtain ⟨sl, e1⟩ := I.base.slot b o e n hb hx
    exact ⟨sl, (hs.2 b (Nat.ne_of_lt (Nat.lt_of_lt_of_le (Heap.lt_size e) I.ok.above))).trans e1⟩
  · obtain ⟨o', e1⟩ := I.base.there b o e hx
    exact ⟨o', (hs.2 b (Nat.ne_of_lt (Nat.lt_of_lt_of_le (Heap.lt_size e) I.ok.above))).trans e1⟩
  · by_cases hj : j = i
    · subst hj
      rw [List.getElem?_set_self hiσ] at e2
      cases e2
    · rw [List.getElem?_set_ne (Ne.symm hj)] at e2
      obtain ⟨u2, r', q⟩ := hl j y v' e1 e2 e3
      refine ⟨u2, r', ?_⟩
      rcases q with ⟨k, e⟩ | ⟨k, c, e, z⟩
      · refine .inl ⟨k, ?_⟩
        have : y ≠ x := fun e => hj (nodup_ix hN e1 (e ▸ hi))
        simp [this, e]
      · exact .inr ⟨k, c, e, z.sameBut hs (cne y c e)⟩
  · obtain ⟨w', z⟩ := I.cell y c e
    exact ⟨w', z.sameBut hs (cne y c e)⟩
  · obtain ⟨a, b, c, d, e⟩ := I.pin p hp
    exact ⟨(hs.2 p.1 c).trans a, b, c, d, e⟩
  · refine (I.hok b ob e).stay (fun c w' hc q => (hs.2 c ?_).trans q) (fun _ q => q) fun _ _ q => q
    rintro rfl
    rcases hc with rfl | hc
    · rw [I.free] at e; cases e
    · rw [I.free] at hc; cases hc
abbrev Cx.inX (X : Cx) (x : Addr) : Cx := { X with A := X.A.mark (some (.ref x)), calm := false, xe := fun _ _ => False }
theorem Inv.inX (I : Inv X pins σ H s) (x : Addr) : Inv (X.inX x) pins σ H s :=
  ⟨⟨I.ok.mod, I.ok.kind, I.ok.glob, I.ok.blt, I.ok.above, I.ok.inj, I.ok.has, I.ok.cab, fun z => Bool.noConfusion z, I.ok.frames, I.ok.stk, I.ok.exf, I.ok.bs, I.ok.bsz, I.ok.noex, I.ok.exfs, I.ok.funs, I.ok.frf⟩, I.os, I.bare, I.base, I.loc, I.cell, I.free, I.freeC, I.pin, I.hok, I.len⟩
theorem Inv.outX {x : Addr} (hh : X.calm = true → X.A.handled = none) (I : Inv (X.inX x) pins σ H s) : Inv X pins σ H s :=
  ⟨⟨I.ok.mod, I.ok.kind, I.ok.glob, I.ok.blt, I.ok.above, I.ok.inj, I.ok.has, I.ok.cab, hh, I.ok.frames, I.ok.stk, I.ok.exf, I.ok.bs, I.ok.bsz, I.ok.noex, I.ok.exfs, I.ok.funs, I.ok.frf⟩, I.os, I.bare, I.base, I.loc, I.cell, I.free, I.freeC, I.pin, I.hok, I.len⟩
noncomputable def excIs (x : Addr) (C : Value) : HO := .ext fun h => ∃ o, h.get? x = some o ∧ o.cls = C
theorem caught_inv {x : Addr} {C : Value} {H' : Hp} {s6 : Shared} {o : Obj} (I : Inv X pins σ H s) (ho : s6.os = s.os) (hg : AllBare s6.gens) (u : Un (frs X.stack) [] H H' s.heap s6.heap) (ok : HOk X.prog X.w H' s6.heap) (xn : s.heap.get? x = none) (xh : H' x = none) (he : s6.heap.get? x = some o) (hc : o.cls = C) :
    Inv X pins σ (upd H' x (excIs x C)) s6 := by
  have ne : ∀ b q, s.heap.get? b = some q → b ≠ x := fun b q e z => by rw [z, xn] at e; cases e
  refine I.call' (ch := []) ho ⟨u.keep, u.slot, fun b q e n hx => by rw [upd_ne (ne b q e)]; exact u.free b q e n hx, u.there, fun b xs e => by rw [upd_ne (ne_of_none (u.tups b xs e) xh)]; exact u.tups b xs e, fun b q v e => by rw [upd_ne (ne_of_none (u.frzs b q v e) xh)]; exact u.frzs b q v e, fun b ps e => ?_⟩ ?_ hg (fun b z => absurd z (by simp))
  · obtain ⟨more, q⟩ := u.tbls b ps e
    exact ⟨more, by rw [upd_ne (ne_of_none q xh)]; exact q⟩
  · intro b v e
    by_cases hb : b = x
    · subst hb
      rw [upd_same] at e
      cases e
      exact ⟨⟨o, he, hc⟩, ⟨o, he⟩, fun h1 h2 ⟨o1, e1, c1⟩ k => ⟨o1, k o1 e1, c1⟩⟩
    · rw [upd_ne hb] at e
      exact (ok b v e).stay (fun _ _ _ q => q) (fun c q => by rw [upd_ne (ne_of_none q xh)]; exact q) fun c xs q => by rw [upd_ne (ne_of_none q xh)]; exact q
end
section
variable {X : Cx} {pins : List (Addr × Obj)} {σ : St} {H : Hp} {s : Shared}
end
end L2
namespace L2
open PySem PySem.Spec PyProof.Rows
noncomputable def Ite (K : PySem.W.Frag) (l : Addr) (N : Nat) : It :=
  ⟨fun i H => ∃ xs x, SqL K H l xs ∧ xs.length = N ∧ xs[i]? = some x,
   fun i H v H' => ∃ t, H t = none ∧ v = .ref t ∧ ∀ xs x, SqL K H l xs → xs[i]? = some x → H' = upd H t (.tup [.int i, x]),
   fun i H => i = N ∧ ∃ xs, SqL K H l xs ∧ xs.length = N⟩
theorem turn_enumL {P : Program} {w : World} {K : PySem.W.Frag} {elts : List Expr} {x1 : Nat} {tp : Pos} (l e it : Addr) (N : Nat) (hei : e ≠ it) (hle : l ≠ e) (hli : l ≠ it) :
    Turn P w K (.Tuple elts x1 tp) (Ite K l N) [e, it] e (fun i h => (∃ old, IsEnum h e it i old) ∧ h.IsListIter it l i) where
  mem := by simp
  obj := fun i h ⟨⟨old, h1⟩, h2⟩ c hc => by
    simp only [List.mem_cons, List.not_mem_nil, or_false] at hc
    rcases hc with z | z
    · subst z; exact ⟨_, h1, fun v q => by have q' : Data.fields _ = Data.cell v := q; cases q'⟩
    · subst z
      obtain ⟨o, ho, _, hd⟩ := h2
      exact ⟨o, ho, fun v q => by rw [hd] at q; cases q⟩
  keep := fun i h h' ⟨⟨old, h1⟩, h2⟩ k => ⟨⟨old, k e (by simp) _ h1⟩, h2.at fun o z => k it (by simp) o z⟩
  item := by
    intro X hP hw hK hc i pins s σ H E I hf ⟨⟨old, h1⟩, h2⟩ ⟨xs, x, q1, hN, hx⟩
    subst hP hw hK
    obtain ⟨it1, v1, p1, z1⟩ := I.list q1
    have hl1 := v1.length
    have hsz : it1.toArray.size = N := by rw [List.size_toArray]; omega
    have hi : i < N := by have := (List.getElem?_eq_some_iff.mp hx).1; omega
    obtain ⟨u1, e1, r1⟩ := v1.get hx
    have D := Draws.list (prog := X.prog) (w := X.w) (A := X.A.in1) (I.ok.hd hc) it l hli it1.toArray
    rw [hsz] at D
    refine wpAny_pyNext_enum_itemD D h1 ⟨h2, p1.isList⟩ hi hei (by simp only [List.mem_cons, List.not_mem_nil, or_false, not_or]; exact ⟨hei, Ne.symm hle⟩) fun u h' tk hu g1 gst gT gs k => ?_
    refine ⟨_, rfl, wpAny_letOwnedTupleGo_enum g1 fun h'' g1' sb => ?_⟩
    have hzT : s.heap.objs.size ≠ e := Nat.ne_of_gt (Heap.lt_size h1)
    have eu : u = u1 := by
      have hu' : it1[i]? = some u := by simpa using hu
      rw [e1] at hu'
      exact (Option.some.inj hu').symm
    subst eu
    have gT' : IsTup h'' s.heap.objs.size [Value.int i tk, u].toArray := ⟨_, sb.extBut _ _ hzT gT, rfl, _, rfl⟩
    have hlz : ∀ {c : Addr} {o : Obj}, c ≠ e → h'.get? c = some o → h''.get? c = some o := fun hcz z => sb.extBut _ _ hcz z
    refine ⟨.ref s.heap.objs.size, upd H s.heap.objs.size (.tup [.int i, x]), I.turnsT (ch := [e, it]) (t' := tk + 1) (fun c hcm => hf c hcm) (fun c o hcn z => ?_) (Nat.le_refl _) (.cons ⟨tk, rfl⟩ (.cons r1 .nil)) gT' (by show 2 ≤ sizeLine; decide), rfl,
      ⟨_, I.hok.fresh (Nat.le_refl _), rfl, fun xs' x' w1 w2 => ?_⟩, ⟨⟨_, g1'⟩, gst.1.at fun o z => hlz (Ne.symm hei) z⟩, fun c hcm => ?_⟩
    · simp only [List.mem_cons, List.not_mem_nil, or_false, not_or] at hcn
      exact hlz hcn.1 (k c o hcn.1 hcn.2 z)
    · have a1 := I.list_inj w1 q1
      subst a1
      rw [hx] at w2
      cases w2
      rfl
    · obtain ⟨o, z, _⟩ : ∃ o, s.heap.get? c = some o ∧ True := by
        simp only [List.mem_cons, List.not_mem_nil, or_false] at hcm
        rcases hcm with z | z
        · subst z; exact ⟨_, h1, trivial⟩
        · subst z; obtain ⟨o, ho, _⟩ := h2; exact ⟨o, ho, trivial⟩
      rw [upd_ne (Nat.ne_of_lt (Heap.lt_size z))]
      exact (hf c hcm).1
  done := by
    intro X hP hw hK hc i pins s σ H E I hf ⟨⟨old, h1⟩, h2⟩ ⟨hi, xs, q1, hN⟩
    subst hP hw hK hi
    obtain ⟨it1, v1, p1, z1⟩ := I.list q1
    have hl1 := v1.length
    have hsz : it1.toArray.size = i := by rw [List.size_toArray]; omega
    have D := Draws.list (prog := X.prog) (w := X.w) (A := X.A.in1) (I.ok.hd hc) it l hli it1.toArray
    rw [hsz] at D
    refine wpAny_pyNext_enum_endD D h1 ⟨h2, p1.isList⟩ fun h' k => ⟨rfl, I.turns (ch := [e, it]) (t' := s.toks) hf fun c o hcn z => ?_⟩
    simp only [List.mem_cons, List.not_mem_nil, or_false, not_or] at hcn
    exact k c o hcn.2 z
  self := fun _ _ _ _ _ st h => let ⟨⟨_, z⟩, _⟩ := st; wpAny_pyIter_enum z h
section
variable {X : Cx}
noncomputable def iEnumL (K : PySem.W.Frag) (ta : TA) : TI := fun σ H R => ta σ H fun vs H1 => ∃ a xs, vs = [.ref a] ∧ SqL K H1 a xs ∧ R (Ite K a xs.length) H1
theorem pi_enumL {a : Expr} {ta : TA} {p pos : Pos} {elts : List Expr} {x1 : Nat} {tp : Pos} (hg : Gl X "enumerate") (hm : X.mg "enumerate" = none) (ha : PA X [a] ta)
    (hs : starEach [a] X.env = (false, eval a X.env) :: starEach [] X.env := by rfl) (hs2 : (backTo pos (starEach [] X.env)).any (·.1) = false := by rfl) :
    PI X (.Tuple elts x1 tp) (.Call (.Name "enumerate" p) [a] [] pos) (iEnumL X.K ta) := by
  intro pins s σ H R I h
  refine Call_ (ld_blt I hg hm b_enumerate (PyProof.Rows.callWith_type1 (thn (ha pos pins s σ H _ I h) fun us s1 ⟨vs, H1, I1, r1, q1⟩ => ?_) hs hs2))
  obtain ⟨l, xs, e, q1, q⟩ := q1
  subst e
  obtain ⟨u, rfl, w1⟩ := vals1 r1
  cases w1
  obtain ⟨its, v1, p1, z1⟩ := I1.list q1
  have hl : l < s1.heap.objs.size := by obtain ⟨_, _, e, _⟩ := p1; exact Heap.lt_size e
  refine call_enumerate_list p1.isList fun h' g1 g2 gs k => ?_
  refine wpAny_pyIter_enum g1 ?_
  refine ⟨s1.heap.objs.size + 1, [s1.heap.objs.size + 1, s1.heap.objs.size], _, _, H1, rfl, I1.kept (t' := s1.toks) k, turn_enumL l _ s1.heap.objs.size xs.length ?_ ?_ ?_, ⟨⟨_, g1⟩, g2⟩, fun c hcm => ?_, q⟩
  · exact Nat.succ_ne_self _
  · exact Nat.ne_of_lt (Nat.lt_succ_of_lt hl)
  · exact Nat.ne_of_lt hl
  · have hc : s1.heap.objs.size ≤ c := by
      simp only [List.mem_cons, List.not_mem_nil, or_false] at hcm
      rcases hcm with e | e
      · rw [e]; exact Nat.le_succ _
      · rw [e]; exact Nat.le_refl _
    exact I1.fpOk hc (I1.hok.fresh hc)
theorem call_sum (hc : X.calm = true) : CallR X (.builtin "sum") (fun xs H Q => ∃ (p : Addr) (ns : List Int), xs = [.ref p] ∧ SqL X.K H p (ns.map V.int) ∧ Q (.int ns.sum) H) := by
  intro pins s σ H xs us Q I r h
  obtain ⟨p, ns, rfl, hq, q⟩ := h
  obtain ⟨u, rfl, ru⟩ := vals1 r
  cases ru
  obtain ⟨its, hl, hi, hz⟩ := I.ints hq
  obtain ⟨xs, hx⟩ := hi.allInts.items
  have hl' : s.heap.IsList p (intItems xs) := hx ▸ hl
  refine sum_intListG (I.ok.hd hc) hl' fun h' tk t' hk => ?_
  have e1 : ns = xs.toList.map (·.1) := by
    rw [← nums_intItems, ← hx]
    exact (show numsOf its.toArray.toList = ns from hi.numsOf).symm
  have e2 : preSum (numAt xs) xs.size = ns.sum := by
    rw [preSum_eq, List.take_of_length_le (by simp), e1]
  rw [e2]
  exact ⟨.int _, H, I.kept (t' := tk) hk, ⟨_, rfl⟩, q⟩
end
theorem b_sum : bootBuiltins "sum" = some (.builtin "sum") := by decide +kernel
theorem comp_enumP {K : PySem.W.Frag} {a acc : Addr} {xs : List V} {own : Nat} {ix : List Nat} {g : TG} {te : TE} {σ : St} {H1 : Hp} {Q : VK} (f : Nat → V) (hq1 : SqL K H1 a xs) (hn : H1 acc = none) (hz : xs.length ≤ sizeLine)
    (step : ∀ (i : Nat) (x : V) (t : Addr) (H : Hp) (R : VK), xs[i]? = some x → Same H1 H → H t = some (.tup [.int i, x]) → R (f i) H → g (.ref t) (blockSt own ix σ) H fun σ4 H4 => σ4.drop own = ix.map (fun i => (σ[i]?).getD none) ∧ te σ4 H4 R)
    (hd : ∀ H', Same H1 H' → H' acc = some (.lst ((List.range xs.length).map f)) → Q (.ref acc) H') : CompGo (Ite K a xs.length) own ix g tNoTest te σ H1 acc Q := by
  refine ⟨fun i m ys H => m = xs.length - i ∧ i ≤ xs.length ∧ ys = (List.range i).map f ∧ Same H1 H ∧ H acc = some (.lst ys), ⟨xs.length, by simp, Nat.zero_le _, rfl, Same.new hn, upd_same⟩, ?_⟩
  rintro i m zs H ⟨rfl, hi, rfl, sm, ha⟩
  refine ⟨ha, ?_⟩
  by_cases hlt : i < xs.length
  · refine .inr ⟨⟨xs, xs[i], sm.seq hq1, rfl, List.getElem?_eq_getElem hlt⟩, by rw [List.length_map, List.length_range]; omega, fun v H3 ⟨t, ht, hv, hy⟩ => ?_⟩
    have e := hy xs _ (sm.seq hq1) (List.getElem?_eq_getElem hlt)
    subst hv e
    have ha3 : (upd H t (.tup [.int i, xs[i]])) acc = some (.lst ((List.range i).map f)) := by rw [upd_ne (ne_of_none ha ht)]; exact ha
    exact step i _ t _ _ (List.getElem?_eq_getElem hlt) (sm.put ht) upd_same ⟨ha3, _, by omega, rfl, hlt, by rw [List.range_succ, List.map_append]; rfl, (sm.put ht).wr hn, upd_same⟩
  · have e : i = xs.length := by omega
    subst e
    exact .inl ⟨⟨rfl, xs, sm.seq hq1, rfl⟩, hd H sm ha⟩
end L2
namespace L2
open PySem PySem.Spec PyProof.Rows
section
variable {X : Cx}
end
end L2
namespace L2
open PySem PySem.Spec PyProof.Rows PySem.W PySem.Calls
section
variable {prog : Program} {w : World} {A : Around} {E : Value → Shared → Prop} {s : Shared} {K : Frag} {x C : Addr} {ox : Obj}
structure ExcLook (K : Frag) (C : Addr) : Prop where
  ga : findIn K (.ref C) "__getattribute__" = some (some (.builtin "BaseException.__getattribute__"))
  hk : findIn K (.ref C) "__getattr__" = some none
  cl : findIn K (.ref C) "__class__" = some (some (.builtin "object.__class__"))
  gt : specialIn K (.builtin "object.__class__") "__get__" = some (some (.builtin "getset_descriptor.__get__"))
  tk : takesIn K (.builtin "object.__class__") = some true
  mo : mroIn K C (.type "object") = some true
  mb : mroIn K C (.type "BaseException") = some true
open PySem.Builtin PySem.Builtin.ObjectAttr in
theorem looks_data {M : Model} {h : Heap} (X : K.In h) (L : ExcLook K C) : Looks M h (find (.ref x) (.ref C) "__class__") (Found.bind (.builtin "getset_descriptor.__get__") (.builtin "object.__class__")) := by
  have L1 := looks_findIn (M := M) X L.cl
  have L2 : Looks M h (getOf (some (.builtin "object.__class__"))) (some (.builtin "getset_descriptor.__get__")) := looks_specialIn X L.gt
  have L3 := looks_takesIn (M := M) X L.tk
  exact L1.andThen (L2.andThen ((show Looks M h (dataDescriptor? (some (.builtin "object.__class__")) (some (.builtin "getset_descriptor.__get__"))) (some (.builtin "getset_descriptor.__get__", .builtin "object.__class__")) from L3.andThen .now).andThen (Looks.tag .now)))
theorem check_ga {M : Model} {nameV : Value} {Q : Unit → Shared → Prop} {h : Heap} {g : Array GenState} {d : Drawn} {t : Nat} {os : OsState} (X : K.In h) (L : ExcLook K C) (hx : h.get? x = some ox) (hc : ox.cls = .ref C) (hq : Q () ⟨h, g, d, t, os⟩) :
    wpAny M A (checkBuiltinCall "BaseException.__getattribute__" ⟨[.ref x, nameV], []⟩) Q E ⟨h, g, d, t, os⟩ := by
  have hk : builtinKind "BaseException.__getattribute__" = some .slot := by decide +kernel
  have hsplit : splitId "BaseException.__getattribute__" = some ("BaseException", "__getattribute__") := by decide +kernel
  have ha := F.args_bexc_ga (.ref x) nameV
  have LT : Looks M h (typeOf (.ref x)) (.ref C) := hc ▸ (Looks.ld hx).andThen .now
  have LI : Looks M h (isInstance (.ref x) (.type "BaseException")) true := LT.andThen (looks_mroIn X L.mb)
  simp only [checkBuiltinCall, hk, hsplit]
  refine wpAny_bind (LI.at ?_)
  repeat (first | assumption | wp_step)
open PySem.Builtin PySem.Builtin.ObjectAttr PySem.Builtin.Getset_descriptor in
theorem class_getE {tp : Value} {R : Result → Shared → Prop} (X : K.In s.heap) (L : ExcLook K C) (hx : s.heap.get? x = some ox) (hc : ox.cls = .ref C)
    (h : R (.ok (.ret (.ref C))) s) : codeAny (model prog w) A (.call (.builtin "getset_descriptor.__get__") ⟨[.builtin "object.__class__", .ref x, tp], []⟩) R s := by
  obtain ⟨hh, g, dr, t, os⟩ := s
  have L0 : Looks (model prog w) hh (typeOf (.ref x)) (.ref C) := hc ▸ (Looks.ld hx).andThen .now
  have L1 := looks_mroIn (M := model prog w) X L.mo
  refine codeAny_call_builtin KF.slot_gs.plain KF.entry_gs (KF.slot_gs.check _ _ _ _ _ _ _ _ KF.type_class (KF.args_gs _ _ _) ?_)
  unfold Builtin.«getset_descriptor.__get__» descrGet
  rw [dga_obj]
  refine wpAny_bind (wpAny_pure ?_)
  unfold descrGetter descrCheckInstance descrNameAndClass isInstance
  simp only [KF.owner_class]
  repeat lk
  refine ⟨Code.quiet_builtin _ (by decide +kernel), codeAny_builtin KF.entry_class ?_⟩
  unfold Builtin.«object.__class__» shownTypeOf
  repeat lk
  exact h
theorem exc_class {Q : Option Value → Shared → Prop} (X : K.In s.heap) (L : ExcLook K C) (hx : s.heap.get? x = some ox) (hc : ox.cls = .ref C) (h : Q (some (.ref C)) { s with toks := s.toks + 1 }) : wpAny (model prog w) A (getAttr? (.ref x) "__class__") Q E s := by
  obtain ⟨hh, g, d, t, os⟩ := s
  have L0 : Looks (model prog w) hh (typeOf (.ref x)) (.ref C) := hc ▸ (Looks.ld hx).andThen .now
  have L1 := looks_findIn (M := model prog w) X L.ga
  have L2 := looks_findIn (M := model prog w) X L.hk
  unfold getAttr? getAttrBy? getAttrBy
  refine wpAny_bind (wpAny_mkText (wpAny_bind (wpAny_attempt (wpAny_holding (wpAny_bind (L0.at (wpAny_bind (L1.at ?_))))))))
  show wpAny _ _ (getAttrByItsOwn _ _ _ _ _ _) _ _ _
  unfold getAttrByItsOwn hookBefore
  refine wpAny_bind ?_
  show wpAny _ _ (typeLookup (.ref C) "__getattr__") _ _ _
  refine L2.at ?_
  refine wpAny_bind (wpAny_attempt (wpAny_holding ?_))
  show wpAny _ _ (boundAndCalled (.builtin "BaseException.__getattribute__") (.ref x) (.str "__class__" t)) _ _ _
  unfold boundAndCalled
  refine wpAny_bind (wpAny_of_eq (F.excAttr_ValueError.ga.bind (.ref x)) ?_)
  show wpAny _ _ (call (.builtin "BaseException.__getattribute__") [.ref x, .str "__class__" t]) _ _ _
  refine wpAny_call (codeAny_call_builtin F.excAttr_ValueError.ga.plain F.entry_bexc_ga (check_ga (t := t + 1) X L hx hc ?_))
  unfold Builtin.«object.__getattribute__»
  refine wpAny_bind (wpAny_of_eq (a := (Value.ref x, [Value.str "__class__" t])) rfl ?_)
  refine wpAny_bind (wpAny_of_eq (a := Str.ofString "__class__") rfl ?_)
  refine wpAny_bind (L0.at (wpAny_bind ((looks_data X L).at ?_)))
  show wpAny _ _ (holding [.builtin "object.__class__"] (call (.builtin "getset_descriptor.__get__") [.builtin "object.__class__", .ref x, .ref C]) >>= ret) _ _ _
  refine wpAny_bind (wpAny_holding (wpAny_call (class_getE (s := ⟨hh, g, d, t + 1, os⟩) X L hx hc (wpAny_pure ?_))))
  exact handed_on rfl (wpAny_pure h)
end
section
variable {K : Frag} {x C : Addr}
theorem kitx_exc (L : ExcLook K C) : KitX K (.ref x) (.ref C) (fun h => ∃ o, h.get? x = some o ∧ o.cls = .ref C) where
  ty := fun M h _ p => by
    obtain ⟨o, h1, h2⟩ := p
    exact h2 ▸ (Looks.ld h1).andThen .now
  it := fun _ _ X _ => by
    obtain ⟨cd, hcd, _⟩ := Option.bind_eq_some_iff.mp (show (clsIn K C).bind _ = some true from L.mo)
    unfold clsIn at hcd
    split at hcd
    · rename_i c' d' cd' sl' ho
      intro A' Q' E' s' k q
      unfold isType loadHead
      exact wpAny_bind (wpAny_loadPart (k _ _ (X _ _ ho)) (wpAny_pure q))
    · cases hcd
  ne := fun h tp dd its n sl X htp => by
    obtain ⟨cd, hcd, _⟩ := Option.bind_eq_some_iff.mp (show (clsIn K C).bind _ = some true from L.mo)
    refine Bool.eq_false_iff.mpr fun q => ?_
    have e : C = tp := Value.ref.inj (beq_iff_eq.mp q)
    subst e
    unfold clsIn at hcd
    split at hcd
    · rename_i c' d' cd' sl' ho
      have z := (X _ _ ho).symm.trans htp
      cases z
    · cases hcd
  ca := fun X p k => by
    obtain ⟨o, h1, h2⟩ := p
    exact exc_class X L h1 h2 k
end
inductive XTy (K : PySem.W.Frag) (H : Hp) : V → Value → Prop where
  | of {x : V} {t : Value} (h : TyOf K H x t) : XTy K H x t
  | exc {a C : Addr} (L : ExcLook K C) (h : H a = some (excIs a (.ref C))) : XTy K H (.ref a) (.ref C)
section
variable {X : Cx}
theorem call_isinstC : CallR X (.builtin "isinstance") (fun xs H Q => ∃ (x c : V) (u t : Value) (b : Bool), xs = [x, c] ∧ (∀ u', RelV c u' → u' = u) ∧ XTy X.K H x t ∧ kitOne X.K t u = some b ∧ Q (.bl b) H) := by
  intro pins s σ H xs us Q I r h
  obtain ⟨x, c, u, t, b, rfl, hu, ty, e, q⟩ := h
  obtain ⟨u1, u2, rfl, r1, r2⟩ := vals2 r
  have e2 := hu u2 r2
  subst e2
  cases ty with
  | of ty => exact isinst_ok I r1 ty e fun tk => ⟨.bl b, H, I.tok tk, rfl, q⟩
  | @exc a C L hx =>
    cases (show u1 = Value.ref a from r1)
    obtain ⟨⟨o, ho, hc⟩, _, _⟩ := (show ObjOk X.prog X.w H s.heap a (excIs a (.ref C)) from I.hok a _ hx)
    exact kia_one (kitx_exc L) I.kIn ⟨o, ho, hc⟩ e (fun z => nomatch z) fun tk => ⟨.bl b, H, I.tok tk, rfl, q⟩
end
noncomputable def PassesG (X : Cx) (G : St → Value → Hp → Prop) : Prop := ∀ (pins : List (Addr × Obj)) (σ : St) (H : Hp) (s : Shared) (e : Value) (s' : Shared), Inv X pins σ H s → CXE X.prog X.w X.stack H s (fun C _ H' => G σ C H') e s' → X.xe e s'
noncomputable def tFnG (sp : Sp) (G : St → Value → Hp → Prop) (t : TA) : TE := fun σ H Q => t σ H fun vs H1 => sp vs H1 Q fun C _ H' => G σ C H'
section
variable {X : Cx} {k : Nat} {x : Str} {ps : List Str} {sp : Sp} {p pos : Pos} {e : Expr} {es : List Expr} {t : TA} {G : St → Value → Hp → Prop}
theorem pe_fnG (F : FnE X.prog X.w X.K X.mg X.base k x ps sp) (hr : Room k X.A) (hg : Gl X x) (hx : PassesG X G) (ha : PA X (e :: es) t) (hdb : (x == ("__debug__" : Str)) = false := by decide)
    (he : starEach (e :: es) X.env = (false, eval e X.env) :: starEach es X.env := by rfl) (hpl : (backTo pos (starEach es X.env)).any (·.1) = false := by rfl) :
    PE X (.Call (.Name x p) (e :: es) [] pos) (tFnG sp G t) := by
  obtain ⟨f, fd, F, kp, b, m⟩ := F
  intro pins s σ H Q I h
  refine wpAny_Call_Name_kw (ld_glob I hg m ?_ hdb)
  refine PySem.W.callWith_K (h₀ := X.base) I.ok.mod.kin kp (thn (ha pos pins s σ H _ I h) fun us s1 ⟨vs, H1, I1, r, q⟩ => ⟨I1.kIn, ?_⟩) he hpl
  have hl : us.length = ps.length := by rw [← r.length]; exact F.len _ _ _ _ q
  have bb := b s1 us I1.kIn (by rw [List.append_nil]; exact hl)
  rw [List.append_nil] at bb
  refine wpAny_call (codeAny_mono (F.run X.A X.stack s1 H1 ⟨us, []⟩ us vs Q _ hr I1.env0 bb r q) fun rr s' hq => ?_)
  cases rr with
  | error e => exact hx pins σ H1 s1 e s' I1 hq
  | ok fl =>
    cases fl with
    | ret u => exact I1.after hq
    | next => exact False.elim hq
    | brk => exact False.elim hq
    | cont => exact False.elim hq
end
theorem passesE {P : Program} {w : World} {K : PySem.W.Frag} {mg : Str → Option Value} {base : Heap} {N : List Str} {qual : Str} {scope : Scope} {f : Addr} {cdv : Value} {A : Around} {outer : List Env} {s : Shared} {H : Hp} {E : XK} :
    PassesG (cxOf (CXE P w) P w K mg base N qual scope f cdv A outer s H E) (fun _ C H' => E C none H') :=
  fun _ _ _ _ _ _ I h => xe_pass (x := 0) I h fun _ _ z => z
abbrev Cx.pinned (X : Cx) (pn : List (Addr × Obj)) : Cx := { X with pn := pn }
theorem Inv.intoPn {X : Cx} {pins : List (Addr × Obj)} {σ : St} {H : Hp} {s : Shared} (I : Inv X pins σ H s) : Inv (X.pinned (X.pn ++ pins)) [] σ H s :=
  ⟨⟨I.ok.mod, I.ok.kind, I.ok.glob, I.ok.blt, I.ok.above, I.ok.inj, I.ok.has, I.ok.cab, I.ok.hd, I.ok.frames, I.ok.stk, I.ok.exf, I.ok.bs, I.ok.bsz, I.ok.noex, I.ok.exfs, I.ok.funs, I.ok.frf⟩, I.os, I.bare, I.base, I.loc, I.cell, I.free, I.freeC, fun p hp => I.pin p (by rw [List.append_nil] at hp; exact hp), I.hok, I.len⟩
theorem Inv.outPn {X : Cx} {pins pins1 : List (Addr × Obj)} {σ : St} {H : Hp} {s : Shared} (I : Inv (X.pinned (X.pn ++ pins)) pins1 σ H s) : Inv X pins σ H s :=
  ⟨⟨I.ok.mod, I.ok.kind, I.ok.glob, I.ok.blt, I.ok.above, I.ok.inj, I.ok.has, I.ok.cab, I.ok.hd, I.ok.frames, I.ok.stk, I.ok.exf, I.ok.bs, I.ok.bsz, I.ok.noex, I.ok.exfs, I.ok.funs, I.ok.frf⟩, I.os, I.bare, I.base, I.loc, I.cell, I.free, I.freeC, fun p hp => I.pin p (List.mem_append_left _ hp), I.hok, I.len⟩
theorem excMatches_base {M : Model} {A : Around} {E : Value → Shared → Prop} {h : Heap} {g : Array GenState} {d : Drawn} {t : Nat} {os : OsState} {x C CB : Addr} {ox : Obj} {bm bm2 : List Value} {Q : Bool → Shared → Prop} (hC : IsExcCls h C bm) (hB : IsExcCls h CB bm2) (hx : h.get? x = some ox) (hxc : ox.cls = .ref C)
    (hm : (Value.ref C :: bm).contains (.ref CB) = true) (hq : Q true ⟨h, g, d, t, os⟩) : wpAny M A (excMatches (.ref x) (.ref CB)) Q E ⟨h, g, d, t, os⟩ := by
  obtain ⟨N, nm, q, bs, hdct, sn, sub, ab, col, dd, k0, k1, k2, k3, k5, newId, hC, hb⟩ := hC
  obtain ⟨N', nm', q', bs', hdct', sn', sub', ab', col', dd', k0', k1', k2', k3', k5', newId', hB, hb'⟩ := hB
  have hcB : (Value.ref CB :: bm2).contains (.type "BaseException") = true := by rw [List.contains_cons, hb', Bool.or_true]
  have f := tc_notTuple
  unfold excMatches
  repeat (first | (with_reducible refine wpAny_loadPart_at hx ?_; rw [hxc]) | with_reducible refine wpAny_loadPart_at hB ?_ | (with_reducible refine wpAny_isSubtype_exc hB ?_; rw [hcB]) | (with_reducible refine wpAny_isSubtype_exc hC ?_; rw [hm]) | wp_step)
  exact hq
noncomputable def tTryG (K : PySem.W.Frag) (CB : Addr) (i : Nat) (tb : (St → Value → Hp → Prop) → TS) (t2 : TS) : TS := fun D σ H => tb (fun σ1 Cv H' => ∃ (C : Addr) (bmB : List Value) (newId : String), Cv = .ref C ∧ PySem.W.excIn K C bmB newId = true ∧ bmB.contains (.type "BaseException") = true ∧ PySem.W.mroIn K C (.ref CB) = some true ∧
  ∀ x, H' x = none → t2 { nx := fun σ3 H3 => D.nx ((σ3.set i (some .non)).set i none) H3, rt := fun _ _ => False } (σ1.set i (some (.ref x))) (upd H' x (excIs x (.ref C)))) D σ H
theorem ps_tryG {X : Cx} {n xn : Str} {tb : (St → Value → Hp → Prop) → TS} {t2 : TS} {CB : Addr} {i : Nat} {body : List Stmt} {b2 : Stmt} {bs2 : List Stmt} {np pos2 pos : Pos} {bmC : List Value} {idC : String}
    (hst : X.stack = X.env :: X.outer) (hfr : X.env.frame = some X.env.locals) (hN : X.N.Nodup) (hi : X.N[i]? = some n) (hl : X.env.scope.names.lookup n = some .local) (hkl : X.env.kindOf n = some .local)
    (hgC : Gl X xn) (hmC : X.mg xn = some (.ref CB)) (hqB : PySem.W.excIn X.K CB bmC idC = true) (hbB : bmC.contains (.type "BaseException") = true)
    (hb : ∀ (pn : List (Addr × Obj)) (xe : Value → Shared → Prop) (G : St → Value → Hp → Prop), PassesG ((X.pinned pn).wish xe) G → PSs ((X.pinned pn).wish xe) body (tb G)) (hb2 : ∀ x, PSs (X.inX x) (b2 :: bs2) t2)
    (hdC : (xn == ("__debug__" : Str)) = false := by decide) :
    PS X.nox (.Try body [.ExceptHandler (some (.Name xn np)) (some n) (b2 :: bs2) pos2] [] [] pos) (tTryG X.K CB i tb t2) := by
  intro pins s σ H D I h
  have I0 : Inv X pins σ H s := I.unwish
  refine wpAny_Try_except (wpAny_mono (hb (X.pn ++ pins) (fun e s' => ∃ (pins1 : List (Addr × Obj)) (σ1 : St) (H1 : Hp) (s1 : Shared), Inv (X.pinned (X.pn ++ pins)) pins1 σ1 H1 s1 ∧ CXE X.prog X.w X.stack H1 s1 (fun Cv _ H' => ∃ (C : Addr) (bmB : List Value) (newId : String), Cv = .ref C ∧ PySem.W.excIn X.K C bmB newId = true ∧ bmB.contains (.type "BaseException") = true ∧ PySem.W.mroIn X.K C (.ref CB) = some true ∧
      ∀ x, H' x = none → t2 { nx := fun σ3 H3 => D.nx ((σ3.set i (some .non)).set i none) H3, rt := fun _ _ => False } (σ1.set i (some (.ref x))) (upd H' x (excIs x (.ref C)))) e s') _ (fun pins1 σ1 H1 s1 e s' I1 z => ⟨pins1, σ1, H1, s1, I1.unwish, z⟩) [] s σ H D (I0.intoPn.wish _) h) (fun fl s1 x => ?_) fun e s' x => ?_)
  · cases fl with
    | next =>
      obtain ⟨σ', H', I', q⟩ := x
      exact wpAny_execs_nil ⟨σ', H', I'.unwish.outPn.wish _, q⟩
    | brk =>
      obtain ⟨σ', H', I', q⟩ := x
      exact ⟨σ', H', I'.unwish.outPn.wish _, q⟩
    | cont =>
      obtain ⟨σ', H', I', q⟩ := x
      exact ⟨σ', H', I'.unwish.outPn.wish _, q⟩
    | ret u =>
      obtain ⟨v, σ', H', I', r, q⟩ := x
      exact ⟨v, σ', H', I'.unwish.outPn.wish _, r, q⟩
  · obtain ⟨pins1, σ1, H1, s1, I1', x, Cv, a0, H', B, rfl, os, bare, fl, st, xn', xh, C, bmB, newId, rfl, hq, hbase, hmro, q2⟩ := x
    have I1 : Inv X pins σ1 H1 s1 := I1'.outPn
    have fl' : Heap.FlyingW B (X.env :: X.outer) x (.ref C) a0 s'.heap := by rw [← hst]; exact fl
    have hfs : X.A.frames = some (X.env :: X.outer) := by rw [← hst]; exact I.ok.frames
    refine wpAny_looks_onW hfs hfr fl' fun h₄ held up4 => wpAny_landsW held fun h₅ fl5 up5 => ?_
    have u05 := up4.trans up5
    obtain ⟨un5, ok5⟩ := st h₅ fl5.1 u05
    have I5 : Inv X pins σ1 H' { s' with heap := h₅ } := I1.call' (ch := []) os un5 ok5 bare (fun b z => absurd z (by simp))
    obtain ⟨ob, hob, hobc⟩ := fl5.there
    obtain ⟨bm, N', nm, qn, bs, hdct, sn, sub, ab, col, dd, k0, k1, k2, k3, k5, mN, hC, hNs, hni, TL, mro⟩ := own_obj I5.kIn hq
    obtain ⟨bm', N'', nm', qn', bs', hdct', sn', sub', ab', col', dd', k0', k1', k2', k3', k5', mN', hB', hNs', hni', TL', mro'⟩ := own_obj I5.kIn hqB
    refine wpAny_handleBy_cons (codeAny_handlers_test (Calls.Name_function_global I.ok.kind hgC (Calls.loadGlobal_global (by rw [I.ok.glob]; exact (I.ok.mod.glob.keeps fun b o e => I5.bk b o e)) hmC ?_) hdC)) (by intro q; cases q)
    refine excMatches_base ⟨N', nm, qn, bs, hdct, sn, sub, ab, col, dd, k0, k1, k2, k3, k5, newId, hC, TL.hasType hbase⟩ ⟨N'', nm', qn', bs', hdct', sn', sub', ab', col', dd', k0', k1', k2', k3', k5', _, hB', TL'.hasType hbB⟩ hob hobc (mro _ _ hmro) (codeAny_handlers_suite_as ?_)
    refine lands_againW fl5 fun h₇ fl7 up7 => ?_
    obtain ⟨un7, ok7⟩ := st h₇ fl7.1 (u05.trans up7)
    obtain ⟨ob7, hob7, hc7⟩ := fl7.there
    have I7 : Inv X.nox pins σ1 (upd H' x (excIs x (.ref C))) { s' with heap := h₇ } := caught_inv (I1.wish _) os bare un7 ok7 xn' xh hob7 hc7
    refine store_ok I7 hN hi (.inl hl) (v := .ref x) rfl (fun s8 I8 => ?_) (.inr hl)
    refine wpAny_mono (hb2 x pins s8 _ _ _ (I8.unwish.inX x) (q2 x xh)) (fun fl9 s9 x9 => ?_) fun _ _ z => False.elim z
    have hh : X.nox.calm = true → X.nox.A.handled = none := I.ok.hd
    cases fl9 with
    | next =>
      obtain ⟨σ3, H3, I9, q9⟩ := x9
      have I9' : Inv X.nox pins σ3 H3 s9 := (Inv.outX (X := X) hh I9).wish _
      have hi3 : i < σ3.length := by rw [I9'.len]; exact (List.getElem?_eq_some_iff.mp hi).1
      refine wpAny_bind (wpAny_bindName (store_ok I9' hN hi (.inl hl) (v := .non) (u := .none) rfl (fun s10 I10 => ?_) (.inr hl)))
      unfold unbindBehindTheSuite
      exact wpAny_onRaise (unbind_ok I10 hN hi hkl hl (List.getElem?_set_self hi3) fun s11 I11 => ⟨_, _, I11, q9⟩)
    | ret u => obtain ⟨_, _, _, _, _, z⟩ := x9; exact False.elim z
    | brk => obtain ⟨_, _, _, z⟩ := x9; exact False.elim z
    | cont => obtain ⟨_, _, _, z⟩ := x9; exact False.elim z
end L2
namespace L2
open PySem PySem.Spec PyProof.Rows
end L2
namespace L2
open PySem PySem.Spec PyProof.Rows
end L2
namespace L2
open PySem PySem.Spec PyProof.Rows
end L2
namespace L2
open PySem PySem.Spec PyProof.Rows
section
variable {X : Cx}
variable {a b : Expr} {ta tb : TE} {pos : Pos}
variable {tA tB' : TT} {rest : List Expr}
end
end L2
namespace L2
open PySem PySem.Spec PyProof.Rows
end L2
namespace L2
open PySem PySem.Spec PyProof.Rows
end L2
namespace L2
open PySem PySem.Spec PyProof.Rows
end L2
namespace L2
open PySem PySem.Spec PyProof.Rows
end L2
namespace L2
open PySem PySem.Spec PyProof.Rows
section
variable {X : Cx} {CX : CXT} {k : Nat} {f C : Addr} {fd : FuncData} {ps ks : List Str} {sp : Sp} {E : XK} {x m : Str} {p pos apos kpos : Pos} {e o : Expr} {es : List Expr} {kws : List Keyword} {te ta : TE} {t tk : TA} {nm : Option Str}
variable {g : List Value → List Value → List Value} {gV : List V → List V → List V}
end
end L2
namespace L2
open PySem PySem.Spec PyProof.Rows
end L2
namespace L2
open PySem PySem.Spec PyProof.Rows
section
variable {κ : Type} [DecidableEq κ]
noncomputable def valV (kvs : List (κ × V)) (k : κ) : Option V := (kvs.find? fun kv => decide (kv.1 = k)).map (·.2)
noncomputable def putK (kvs : List (κ × V)) (k : κ) (v : V) : List (κ × V) :=
  if (kvs.any fun kv => decide (kv.1 = k)) = true then kvs.map (fun kv => if kv.1 = k then (kv.1, v) else kv) else kvs ++ [(k, v)]
noncomputable def dropK (kvs : List (κ × V)) (k : κ) : List (κ × V) := kvs.filter fun kv => decide (kv.1 ≠ k)
theorem valV_pos {p : κ × V} {r : List (κ × V)} {k : κ} (e : p.1 = k) : valV (p :: r) k = some p.2 := by simp [valV, List.find?_cons, e]
theorem valV_neg {p : κ × V} {r : List (κ × V)} {k : κ} (e : ¬ p.1 = k) : valV (p :: r) k = valV r k := by simp [valV, List.find?_cons, e]
theorem valV_any (k : κ) : ∀ kvs : List (κ × V), (kvs.any fun kv => decide (kv.1 = k)) = (valV kvs k).isSome
  | [] => rfl
  | p :: r => by
    rw [List.any_cons]
    by_cases e : p.1 = k
    · simp only [valV_pos e, decide_eq_true e, Bool.true_or, Option.isSome_some]
    · rw [valV_neg e, decide_eq_false e, Bool.false_or]; exact valV_any k r
theorem RelO.isSome_eq {o : Option V} {u : Option Value} (r : RelO o u) : o.isSome = u.isSome := by
  cases o with
  | none => cases u with
    | none => rfl
    | some _ => exact (show False from r).elim
  | some _ => cases u with
    | none => exact (show False from r).elim
    | some _ => rfl
theorem RelO.getD {o : Option V} {u : Option Value} {d : V} {d' : Value} (r : RelO o u) (rd : RelV d d') : RelV (o.getD d) (u.getD d') := by
  cases o with
  | none => cases u with
    | none => exact rd
    | some _ => exact (show False from r).elim
  | some _ => cases u with
    | none => exact (show False from r).elim
    | some _ => exact r
theorem KV.val {kvs : List (κ × V)} {vs : List (κ × Value)} (r : KV kvs vs) (k : κ) : RelO (valV kvs k) (valueAt vs k) := by
  unfold KV at r
  induction r with
  | nil => exact True.intro
  | @cons p q ps qs h t ih =>
    obtain ⟨h1, h2⟩ := h
    by_cases e : p.1 = k
    · have e' : q.1 = k := h1.symm.trans e
      have b : valueAt (q :: qs) k = some q.2 := by simp [valueAt, List.find?_cons, e']
      rw [valV_pos e, b]; exact h2
    · have e' : ¬ q.1 = k := fun z => e (h1.trans z)
      have b : valueAt (q :: qs) k = valueAt qs k := by simp [valueAt, List.find?_cons, e']
      rw [valV_neg e, b]; exact ih
theorem KV.any {kvs : List (κ × V)} {vs : List (κ × Value)} (r : KV kvs vs) (k : κ) : (kvs.any fun kv => decide (kv.1 = k)) = vs.any fun kv => decide (kv.1 = k) := by
  unfold KV at r
  induction r with
  | nil => rfl
  | cons h t ih => rw [List.any_cons, List.any_cons, ih, h.1]
theorem KV.repl {kvs : List (κ × V)} {vs : List (κ × Value)} (r : KV kvs vs) (k : κ) {y : V} {u : Value} (ry : RelV y u) :
    KV (kvs.map fun kv => if kv.1 = k then (kv.1, y) else kv) (vs.map fun kv => if kv.1 = k then (kv.1, u) else kv) := by
  unfold KV at r ⊢
  induction r with
  | nil => exact .nil
  | @cons p q ps qs h t ih =>
    rw [List.map_cons, List.map_cons]
    refine .cons ?_ ih
    obtain ⟨h1, h2⟩ := h
    by_cases e : p.1 = k
    · rw [if_pos e, if_pos (h1.symm.trans e)]; exact ⟨h1, ry⟩
    · rw [if_neg e, if_neg (fun z => e (h1.trans z))]; exact ⟨h1, h2⟩
theorem KV.put {kvs : List (κ × V)} {vs : List (κ × Value)} (r : KV kvs vs) (k : κ) {y : V} {u : Value} (ry : RelV y u) : KV (putK kvs k y) (stored vs k u) := by
  unfold putK stored
  rw [r.any k]
  by_cases e : (vs.any fun kv => decide (kv.1 = k)) = true
  · rw [if_pos e, if_pos e]; exact r.repl k ry
  · rw [if_neg e, if_neg e]; exact Paired.snoc r ⟨rfl, ry⟩
theorem KV.drop {kvs : List (κ × V)} {vs : List (κ × Value)} (r : KV kvs vs) (k : κ) : KV (dropK kvs k) (without vs k) := by
  unfold KV at r ⊢
  unfold dropK without
  induction r with
  | nil => exact .nil
  | @cons p q ps qs h t ih =>
    obtain ⟨h1, h2⟩ := h
    rw [List.filter_cons, List.filter_cons]
    by_cases e : p.1 = k
    · have a : ¬ decide (p.1 ≠ k) = true := by simp [e]
      have b : ¬ decide (q.1 ≠ k) = true := by simp [h1.symm.trans e]
      rw [if_neg a, if_neg b]; exact ih
    · have e' : ¬ q.1 = k := fun z => e (h1.trans z)
      have a : decide (p.1 ≠ k) = true := by simp [e]
      have b : decide (q.1 ≠ k) = true := by simp [e']
      rw [if_pos a, if_pos b]; exact .cons ⟨h1, h2⟩ ih
theorem KV.length {kvs : List (κ × V)} {vs : List (κ × Value)} (r : KV kvs vs) : kvs.length = vs.length := Paired.length r
end
abbrev KT (H : Hp) : List (List Key × V) → List (List Key × Addr × Value) → Prop := Paired fun p q => p.1 = q.1 ∧ H q.2.1 = some (.tup (p.1.map kV)) ∧ RelV p.2 q.2.2
theorem KT.val {H : Hp} {kvs : List (List Key × V)} {xs : List (List Key × Addr × Value)} (r : KT H kvs xs) (k : List Key) : RelO (valV kvs k) ((atKey xs k).map (·.2)) := by
  induction r with
  | nil => exact True.intro
  | @cons p q ps qs h t ih =>
    obtain ⟨h1, _, h2⟩ := h
    by_cases e : p.1 = k
    · have e' : q.1 = k := h1.symm.trans e
      have b : atKey (q :: qs) k = some q.2 := by simp [atKey, List.find?_cons, e']
      rw [valV_pos e, b]; exact h2
    · have e' : ¬ q.1 = k := fun z => e (h1.trans z)
      have b : atKey (q :: qs) k = atKey qs k := by simp [atKey, List.find?_cons, e']
      rw [valV_neg e, b]; exact ih
theorem KT.repl {H : Hp} {kvs : List (List Key × V)} {xs : List (List Key × Addr × Value)} (r : KT H kvs xs) (k : List Key) {y : V} {u : Value} (ry : RelV y u) :
    KT H (kvs.map fun kv => if kv.1 = k then (kv.1, y) else kv) (xs.map (putAt k u)) := by
  induction r with
  | nil => exact .nil
  | @cons p q ps qs h t ih =>
    rw [List.map_cons, List.map_cons]
    refine .cons ?_ ih
    obtain ⟨h1, h2, h3⟩ := h
    unfold putAt
    by_cases e : p.1 = k
    · rw [if_pos e, if_pos (h1.symm.trans e)]; exact ⟨h1, h2, ry⟩
    · rw [if_neg e, if_neg (fun z => e (h1.trans z))]; exact ⟨h1, h2, h3⟩
theorem KT.put {H : Hp} {kvs : List (List Key × V)} {xs : List (List Key × Addr × Value)} (r : KT H kvs xs) (k : List Key) {b : Addr} {y : V} {u : Value} (hb : H b = some (.tup (k.map kV))) (ry : RelV y u) :
    KT H (putK kvs k y) (storedH xs k b u) := by
  have e : (kvs.any fun kv => decide (kv.1 = k)) = (atKey xs k).isSome := by
    rw [valV_any, (r.val k).isSome_eq, Option.isSome_map]
  unfold putK storedH
  rw [e]
  by_cases q : (atKey xs k).isSome = true
  · rw [if_pos q, if_pos q]; exact r.repl k ry
  · rw [if_neg q, if_neg q]; exact Paired.snoc r ⟨rfl, hb, ry⟩
theorem KT.keeps {H H' : Hp} {kvs : List (List Key × V)} {xs : List (List Key × Addr × Value)} (r : KT H kvs xs) (ht : ∀ b ys, H b = some (.tup ys) → H' b = some (.tup ys)) : KT H' kvs xs :=
  Paired.mapP r fun _ _ z => ⟨z.1, ht _ _ z.2.1, z.2.2⟩
section
variable {P : Program} {w : World} {H : Hp} {h : Heap} {a : Addr}
end
noncomputable def DGet (H : Hp) (a : Addr) (y : V) (r : Option V) : Prop :=
  (∃ kvs k, Rd H a (.dK kvs) ∧ y = kV k ∧ r = valV kvs k) ∨ ∃ kvs k b, Rd H a (.dT kvs) ∧ y = .ref b ∧ H b = some (.tup (k.map kV)) ∧ r = valV kvs k
noncomputable def DPut (H : Hp) (a : Addr) (y v : V) (H' : Hp) : Prop :=
  (∃ kvs k, H a = some (.dK kvs) ∧ y = kV k ∧ kvs.length < sizeLine ∧ H' = upd H a (.dK (putK kvs k v))) ∨
  ∃ kvs k b, H a = some (.dT kvs) ∧ y = .ref b ∧ H b = some (.tup (k.map kV)) ∧ kvs.length < sizeLine ∧ H' = upd H a (.dT (putK kvs k v))
theorem DGet.k {H : Hp} {a : Addr} {kvs : List (Key × V)} {k : Key} (e : H a = some (.dK kvs)) : DGet H a (kV k) (valV kvs k) := .inl ⟨kvs, k, .inl e, rfl, rfl⟩
theorem DGet.t {H : Hp} {a b : Addr} {kvs : List (List Key × V)} {k : List Key} (e : H a = some (.dT kvs)) (eb : H b = some (.tup (k.map kV))) : DGet H a (.ref b) (valV kvs k) := .inr ⟨kvs, k, b, .inl e, rfl, eb, rfl⟩
theorem DPut.k {H : Hp} {a : Addr} {kvs : List (Key × V)} {k : Key} {v : V} (e : H a = some (.dK kvs)) (hl : kvs.length < sizeLine) : DPut H a (kV k) v (upd H a (.dK (putK kvs k v))) := .inl ⟨kvs, k, e, rfl, hl, rfl⟩
theorem DPut.t {H : Hp} {a b : Addr} {kvs : List (List Key × V)} {k : List Key} {v : V} (e : H a = some (.dT kvs)) (eb : H b = some (.tup (k.map kV))) (hl : kvs.length < sizeLine) :
    DPut H a (.ref b) v (upd H a (.dT (putK kvs k v))) := .inr ⟨kvs, k, b, e, rfl, eb, hl, rfl⟩
section
variable {X : Cx} {pins : List (Addr × Obj)} {σ : St} {H : Hp} {s : Shared} {a : Addr} {y v : V} {u r : Value} {o : Option V} {A : Around} {E : Value → Shared → Prop}
end
section
variable {X : Cx} {pins : List (Addr × Obj)} {σ : St} {H : Hp} {s : Shared} {a : Addr} {kvs : List (Key × V)} {k : Key} {u : Value} {A : Around} {E : Value → Shared → Prop}
end
section
variable {X : Cx} {o i e value : Expr} {pos pos' tpos : Pos} {td ty tv : TE}
end
section
variable {X : Cx} {pos : Pos}
end
structure M1 (X : Cx) (o : Expr) (m : Str) (apos : Pos) (e : Expr) (cpos : Pos) : Prop where
  base : attributeBase o m X.env (eval o X.env) = eval o X.env
  few : ((backTo cpos (starEach [e] X.env)).all (fun x => !x.1) && (backToKw cpos (keywordEach [] X.env)).all (fun x => x.1.isSome)
    && decide (([e] : List Expr).length + ([] : List Keyword).length + (if ([] : List Keyword).isEmpty then 0 else 1) < 30)) = true
  line : (apos.endLine == cpos.line) = true
  trees : backTo cpos (starEach [e] X.env) = [(false, eval e X.env)]
structure M2 (X : Cx) (o : Expr) (m : Str) (apos : Pos) (e f : Expr) (cpos : Pos) : Prop where
  base : attributeBase o m X.env (eval o X.env) = eval o X.env
  few : ((backTo cpos (starEach [e, f] X.env)).all (fun x => !x.1) && (backToKw cpos (keywordEach [] X.env)).all (fun x => x.1.isSome)
    && decide (([e, f] : List Expr).length + ([] : List Keyword).length + (if ([] : List Keyword).isEmpty then 0 else 1) < 30)) = true
  line : (apos.endLine == cpos.line) = true
  trees : backTo cpos (starEach [e, f] X.env) = [(false, eval e X.env), (false, eval f X.env)]
section
variable {X : Cx} {pins : List (Addr × Obj)} {σ : St} {H : Hp} {s : Shared} {a : Addr} {y d : V} {u r : Value} {o : Option V} {A : Around} {E : Value → Shared → Prop}
end
section
variable {X : Cx} {o e f : Expr} {apos cpos : Pos} {td ty tx : TE}
end
section
variable {X : Cx} {pins : List (Addr × Obj)} {σ : St} {H : Hp} {s : Shared} {a : Addr} {kvs : List (Key × V)} {A : Around} {E : Value → Shared → Prop}
end
section
variable {X : Cx} {pins : List (Addr × Obj)} {σ : St} {H : Hp} {s : Shared} {a : Addr} {y : V} {u : Value} {A : Around} {E : Value → Shared → Prop}
end
end L2
namespace Att
open PySem PySem.W PySem.Calls PyProof.Rows
end Att
namespace L2
open PySem PySem.Spec PyProof.Rows
end L2
namespace L2
open PySem PySem.Spec PyProof.Rows
end L2
namespace L2
open PySem PySem.Spec PyProof.Rows
section
variable {X : Cx}
end
section
variable {κ : Type} [DecidableEq κ]
end
end L2
namespace L2
open PySem PySem.Spec PyProof.Rows
structure FunD (K : PySem.W.Frag) (x qual : Str) (st : Stmt) (f : Addr) (fd : FuncData) : Prop where
  ex : ∃ (oc : Value) (od : Option Addr) (dV kV doc pm : Value) (an : Option Addr) (cdv ct : Value) (osl : Array (Option Value)), fd = PySem.W.fnOf x qual (defArgs st) (defBody st) (defScope st) dV kV doc pm an cdv ct ∧ K.lookup f = some ⟨oc, od, .func fd, osl⟩ ∧ PySem.W.codeIn K cdv qual = true
section
variable {P : Program} {w : World} {K : PySem.W.Frag} {mg : Str → Option Value} {base : Heap}
theorem FunD.ok {x qual : Str} {st : Stmt} {f : Addr} {fd : FuncData} {N ps : List Str} {k : Nat} {sp : Sp} (F : FunD K x qual st f fd) (S : FnScope N ps (defScope st)) (len : ∀ vs H Q E, sp vs H Q E → vs.length = ps.length)
    (hbody : ∀ (cdv : Value) (A : Around) (outer : List Env) (s : Shared) (H : Hp) (vs : List V) (Q : VK) (E : XK), Room k (A.deeper (envOfC qual (defScope st) s.heap.objs.size f cdv)) → sp vs H Q E →
      ∃ t, PSs (cxOf CX0 P w K mg base N qual (defScope st) f cdv A outer s H E).nox (defBody st) t ∧ t { nx := fun _ H' => Q .non H', rt := Q } (start N vs) H) : FnOk P w K mg base CX0 (k + 1) f fd ps sp := by
  obtain ⟨oc, od, dV, kV, doc, pm, an, cdv, ct, osl, rfl, lk, hcd⟩ := F.ex
  refine fn_of lk hcd S len fun A outer s H vs Q E hr hsp => ?_
  obtain ⟨t, h, q⟩ := hbody cdv A outer s H vs Q E hr hsp
  exact ⟨t, fun pins s1 σ H1 D I h1 => wpAny_mono (h pins s1 σ H1 D (I.wish _) h1) (fun fl s2 x => by
    cases fl with
    | next => obtain ⟨σ', H', I', q⟩ := x; exact ⟨σ', H', I'.unwish, q⟩
    | brk => obtain ⟨σ', H', I', q⟩ := x; exact ⟨σ', H', I'.unwish, q⟩
    | cont => obtain ⟨σ', H', I', q⟩ := x; exact ⟨σ', H', I'.unwish, q⟩
    | ret u => obtain ⟨v, σ', H', I', r, q⟩ := x; exact ⟨v, σ', H', I'.unwish, r, q⟩) fun _ _ z => z.elim, q⟩
theorem FunD.okE {x qual : Str} {st : Stmt} {f : Addr} {fd : FuncData} {N ps : List Str} {k : Nat} {sp : Sp} (F : FunD K x qual st f fd) (S : FnScope N ps (defScope st)) (len : ∀ vs H Q E, sp vs H Q E → vs.length = ps.length)
    (hbody : ∀ (cdv : Value) (A : Around) (outer : List Env) (s : Shared) (H : Hp) (vs : List V) (Q : VK) (E : XK), Room k (A.deeper (envOfC qual (defScope st) s.heap.objs.size f cdv)) → sp vs H Q E →
      ∃ t, PSs (cxOf (CXE P w) P w K mg base N qual (defScope st) f cdv A outer s H E) (defBody st) t ∧ t { nx := fun _ H' => Q .non H', rt := Q } (start N vs) H) : FnOk P w K mg base (CXE P w) (k + 1) f fd ps sp := by
  obtain ⟨oc, od, dV, kV, doc, pm, an, cdv, ct, osl, rfl, lk, hcd⟩ := F.ex
  exact fn_of lk hcd S len fun A outer s H vs Q E hr hsp => hbody cdv A outer s H vs Q E hr hsp
theorem FunD.binds {x qual : Str} {st : Stmt} {f : Addr} {fd : FuncData} {ps : List Str} (F : FunD K x qual st f fd)
    (h : ∀ (dV kV doc pm : Value) (an : Option Addr) (cdv ct : Value) (us : List Value), us.length = ps.length → bindArgs (PySem.W.fnOf x qual (defArgs st) (defBody st) (defScope st) dV kV doc pm an cdv ct) ⟨us, []⟩ = pure (ps.zip us)) : Binds K fd ps [] := by
  obtain ⟨oc, od, dV, kV, doc, pm, an, cdv, ct, osl, rfl, lk, hcd⟩ := F.ex
  exact .all (h dV kV doc pm an cdv ct)
theorem fund_mk {x qual : Str} {st : Stmt} {f : Addr} {oc : Value} {od an : Option Addr} {osl : Array (Option Value)} {dV kV doc pm cdv ct : Value} (l : K.lookup f = some ⟨oc, od, .func (PySem.W.fnOf x qual (defArgs st) (defBody st) (defScope st) dV kV doc pm an cdv ct), osl⟩)
    (c : PySem.W.codeIn K cdv qual = true) : FunD K x qual st f (PySem.W.fnOf x qual (defArgs st) (defBody st) (defScope st) dV kV doc pm an cdv ct) := ⟨⟨oc, od, dV, kV, doc, pm, an, cdv, ct, osl, rfl, l, c⟩⟩
end
noncomputable def DefM (K : PySem.W.Frag) (x qual : Str) (st : Stmt) (ps : List Str) (f : Addr) : Prop := ∃ fd, FunD K x qual st f fd ∧ Binds K fd ps []
noncomputable def MtX (CX : CXT) (P : Program) (w : World) (K : PySem.W.Frag) (mg : Str → Option Value) (base : Heap) (k : Nat) (C : Addr) (m : Str) (ps : List Str) (sp : Sp) : Prop :=
  ∃ f fd, FnOk P w K mg base CX k f fd ps sp ∧ Cls K C ∧ Meth K C m f ∧ Binds K fd ps []
abbrev Mt (P : Program) (w : World) (K : PySem.W.Frag) (mg : Str → Option Value) (base : Heap) (k : Nat) (C : Addr) (m : Str) (ps : List Str) (sp : Sp) : Prop := MtX CX0 P w K mg base k C m ps sp
abbrev MtE (P : Program) (w : World) (K : PySem.W.Frag) (mg : Str → Option Value) (base : Heap) (k : Nat) (C : Addr) (m : Str) (ps : List Str) (sp : Sp) : Prop := MtX (CXE P w) P w K mg base k C m ps sp
noncomputable def MkX (CX : CXT) (P : Program) (w : World) (K : PySem.W.Frag) (mg : Str → Option Value) (base : Heap) (k : Nat) (C : Addr) (ps : List Str) (sp : Sp) : Prop :=
  ∃ f fd, FnOk P w K mg base CX k f fd ps sp ∧ Mk K C f ∧ Binds K fd ps []
noncomputable def tMt (C : Addr) (m : Str) (sp : Sp) (ta : TE) (t : TA) : TE := fun σ H Q => ta σ H fun x H1 => ∃ a dx fs, x = .ref a ∧ H1 a = some (.ins C dx fs) ∧ fs.lookup m = none ∧ t σ H1 fun vs H2 => sp (x :: vs) H2 Q E0
noncomputable def tMtG (C : Addr) (m : Str) (sp : Sp) (G : St → Value → Hp → Prop) (ta : TE) (t : TA) : TE := fun σ H Q => ta σ H fun x H1 => ∃ a dx fs, x = .ref a ∧ H1 a = some (.ins C dx fs) ∧ fs.lookup m = none ∧ t σ H1 fun vs H2 => sp (x :: vs) H2 Q fun C _ H' => G σ C H'
noncomputable def tMk (C : Addr) (sp : Sp) (t : TA) : TE := fun σ H Q => t σ H fun vs H1 => ∀ x dx, H1 x = none → H1 dx = none → dx ≠ x → sp (.ref x :: vs) (upd (upd H1 dx (.own x)) x (.ins C dx [])) (fun v H2 => v = .non ∧ Q (.ref x) H2) E0
section
variable {X : Cx} {CX : CXT} {k : Nat} {C : Addr} {x m : Str} {ps : List Str} {sp : Sp} {p pos apos : Pos} {e o : Expr} {es : List Expr} {ta : TE} {t : TA} {G : St → Value → Hp → Prop}
theorem run_mt {f a : Addr} {fd : FuncData} {pins : List (Addr × Obj)} {σ : St} {H : Hp} {s : Shared} {Q : VK} {E : XK} {us : List Value} {vs : List V} (F : FnOk X.prog X.w X.K X.mg X.base CX k f fd ps sp) (hr : Room k X.A) (b : Binds X.K fd ps [])
    (hx : ∀ e s', CX X.stack H s E e s' → X.xe e s') (I : Inv X pins σ H s) (r : Vals vs us) (h : sp (.ref a :: vs) H Q E) : wpAny (model X.prog X.w) X.A (call (.ref f) (.ref a :: us)) (EP X pins σ Q) X.xe s := by
  have r2 : Vals (V.ref a :: vs) (Value.ref a :: us) := .cons rfl r
  have hl : (Value.ref a :: us).length = ps.length := by rw [← r2.length]; exact F.len _ _ _ _ h
  have bb := b s (.ref a :: us) I.kIn (by rw [List.append_nil]; exact hl)
  rw [List.append_nil] at bb
  refine wpAny_call (codeAny_mono (F.run X.A X.stack s H ⟨.ref a :: us, []⟩ (.ref a :: us) (.ref a :: vs) Q E hr I.env0 bb r2 h) fun rr s' hq => ?_)
  cases rr with
  | error e => exact hx e s' hq
  | ok fl =>
    cases fl with
    | ret u => exact I.after hq
    | next => exact False.elim hq
    | brk => exact False.elim hq
    | cont => exact False.elim hq
theorem pe_mt {pl : Sem Bool} (he : PE X o ta) (F : Mt X.prog X.w X.K X.mg X.base k C m ps sp) (hr : Room k X.A) (ha : PA X (e :: es) t)
    (hst : starEach (e :: es) X.env = (false, eval e X.env) :: starEach es X.env := by rfl) (hpl : (backTo pos (starEach es X.env)).any (·.1) = false := by rfl)
    (ht : eval (.Call (.Attribute o m apos) (e :: es) [] pos) X.env = (do
      let ov ← eval o X.env
      standAt apos.atName
      let (f, first) ← holding [ov] (getMethod ov m pl)
      callWith pos f first (backTo pos (starEach (e :: es) X.env)) (backToKw pos (keywordEach [] X.env))) := by rfl) :
    PE X (.Call (.Attribute o m apos) (e :: es) [] pos) (tMt C m sp ta t) := by
  obtain ⟨f, fd, F, c, hm, b⟩ := F
  intro pins s σ H Q I h
  refine PySem.W.methodCall_KW (pl := pl) (thn (he pins s σ H _ I h) fun u s1 ⟨x, H1, I1, rx, a, dx, fs, ex, ea, l, q⟩ => ?_) ht
  subst ex
  obtain rfl : u = Value.ref a := rx
  refine getmeth_ok I1 ea c hm l ?_
  refine PySem.W.callWith_K (first := [.ref a]) (h₀ := X.base) I.ok.mod.kin hm.kp (thn (ha pos pins s1 σ H1 _ I1 q) fun us s2 ⟨vs, H2, I2, r, q2⟩ => ⟨I2.kIn, ?_⟩) hst hpl
  exact run_mt F hr b (fun _ _ z => z.elim) I2 r q2
theorem pe_mt0 {pl : Sem Bool} (he : PE X o ta) (F : Mt X.prog X.w X.K X.mg X.base k C m ps sp) (hr : Room k X.A)
    (ht : eval (.Call (.Attribute o m apos) [] [] pos) X.env = (do
      let ov ← eval o X.env
      standAt apos.atName
      let (f, first) ← holding [ov] (getMethod ov m pl)
      callWith pos f first (backTo pos (starEach [] X.env)) (backToKw pos (keywordEach [] X.env))) := by rfl) :
    PE X (.Call (.Attribute o m apos) [] [] pos) (tMt C m sp ta tNil) := by
  obtain ⟨f, fd, F, c, hm, b⟩ := F
  intro pins s σ H Q I h
  refine PySem.W.methodCall_KW (pl := pl) (thn (he pins s σ H _ I h) fun u s1 ⟨x, H1, I1, rx, a, dx, fs, ex, ea, l, q⟩ => ?_) ht
  subst ex
  obtain rfl : u = Value.ref a := rx
  refine getmeth_ok I1 ea c hm l ?_
  exact PySem.W.callWith_K0 (first := [.ref a]) I1.kIn hm.kp (run_mt (us := []) (vs := []) F hr b (fun _ _ z => z.elim) I1 .nil q)
theorem pe_mtG {pl : Sem Bool} (he : PE X o ta) (F : MtE X.prog X.w X.K X.mg X.base k C m ps sp) (hr : Room k X.A) (hx : PassesG X G) (ha : PA X (e :: es) t)
    (hst : starEach (e :: es) X.env = (false, eval e X.env) :: starEach es X.env := by rfl) (hpl : (backTo pos (starEach es X.env)).any (·.1) = false := by rfl)
    (ht : eval (.Call (.Attribute o m apos) (e :: es) [] pos) X.env = (do
      let ov ← eval o X.env
      standAt apos.atName
      let (f, first) ← holding [ov] (getMethod ov m pl)
      callWith pos f first (backTo pos (starEach (e :: es) X.env)) (backToKw pos (keywordEach [] X.env))) := by rfl) :
    PE X (.Call (.Attribute o m apos) (e :: es) [] pos) (tMtG C m sp G ta t) := by
  obtain ⟨f, fd, F, c, hm, b⟩ := F
  intro pins s σ H Q I h
  refine PySem.W.methodCall_KW (pl := pl) (thn (he pins s σ H _ I h) fun u s1 ⟨x, H1, I1, rx, a, dx, fs, ex, ea, l, q⟩ => ?_) ht
  subst ex
  obtain rfl : u = Value.ref a := rx
  refine getmeth_ok I1 ea c hm l ?_
  refine PySem.W.callWith_K (first := [.ref a]) (h₀ := X.base) I.ok.mod.kin hm.kp (thn (ha pos pins s1 σ H1 _ I1 q) fun us s2 ⟨vs, H2, I2, r, q2⟩ => ⟨I2.kIn, ?_⟩) hst hpl
  exact run_mt F hr b (fun e s' z => hx pins σ H2 s2 e s' I2 z) I2 r q2
theorem run_mk {f : Addr} {fd : FuncData} {pins : List (Addr × Obj)} {σ : St} {H : Hp} {s : Shared} {Q : VK} {E : XK} {us : List Value} {vs : List V} (M : Mk X.K C f) (F : FnOk X.prog X.w X.K X.mg X.base CX k f fd ps sp) (hr : Room (k + 1) X.A) (hb : Binds X.K fd ps [])
    (hx : ∀ (H : Hp) (s : Shared) (e : Value) (s' : Shared), Inv X pins σ H s → CX X.stack H s E e s' → X.xe e s') (I : Inv X pins σ H s) (r : Vals vs us)
    (h : ∀ x dx, H x = none → H dx = none → dx ≠ x → sp (.ref x :: vs) (upd (upd H dx (.own x)) x (.ins C dx [])) (fun v H2 => v = .non ∧ Q (.ref x) H2) E) :
    wpAny (model X.prog X.w) X.A (call (.ref C) us) (EP X pins σ Q) X.xe s := by
  have hq := h (s.heap.objs.size + 1) s.heap.objs.size (I.hok.fresh (Nat.le_succ _)) (I.hok.fresh (Nat.le_refl _)) (Nat.ne_of_lt (Nat.lt_succ_self _))
  have I2 := Inv.made (C := C) I
  have r2 : Vals (V.ref (s.heap.objs.size + 1) :: vs) (Value.ref (s.heap.objs.size + 1) :: us) := .cons rfl r
  have hl : (Value.ref (s.heap.objs.size + 1) :: us).length = ps.length := by rw [← r2.length]; exact F.len _ _ _ _ hq
  have bb := hb _ (Value.ref (s.heap.objs.size + 1) :: us) I2.kIn (by rw [List.append_nil]; exact hl)
  rw [List.append_nil] at bb
  refine wpAny_call (make_map (f := f) I.kIn M.makes M.init (beq_iff_eq.mp M.fn) (codeAny_mono (F.run _ X.stack _ _ ⟨Value.ref (s.heap.objs.size + 1) :: us, []⟩ (Value.ref (s.heap.objs.size + 1) :: us) _ _ E (hr.make C us [])
    (I2.env0.make C us []) bb r2 hq) fun r s' hq' => ?_))
  cases r with
  | error e => exact hx _ _ e s' I2 hq'
  | ok fl =>
    cases fl with
    | ret u =>
      obtain ⟨v, H', I3, rv, ev, q3⟩ := I2.after hq'
      subst ev
      exact ⟨rv, ⟨V.ref (s.heap.objs.size + 1), H', I3, rfl, q3⟩⟩
    | next => exact False.elim hq'
    | brk => exact False.elim hq'
    | cont => exact False.elim hq'
theorem pe_mk (F : MkX CX0 X.prog X.w X.K X.mg X.base k C ps sp) (hr : Room (k + 1) X.A) (hg : Gl X x) (hm : X.mg x = some (.ref C)) (ha : PA X (e :: es) t) (hdb : (x == ("__debug__" : Str)) = false := by decide)
    (he : starEach (e :: es) X.env = (false, eval e X.env) :: starEach es X.env := by rfl) (hpl : (backTo pos (starEach es X.env)).any (·.1) = false := by rfl) : PE X (.Call (.Name x p) (e :: es) [] pos) (tMk C sp t) := by
  obtain ⟨f, fd, F, M, b⟩ := F
  intro pins s σ H Q I h
  refine wpAny_Call_Name_kw (ld_glob I hg hm ?_ hdb)
  refine PySem.W.callWith_K (h₀ := X.base) I.ok.mod.kin M.kp (thn (ha pos pins s σ H _ I h) fun us s1 ⟨vs, H1, I1, r, q⟩ => ⟨I1.kIn, ?_⟩) he hpl
  exact run_mk M F hr b (fun _ _ _ _ _ z => z.elim) I1 r q
theorem pe_fldK (K : PySem.W.Frag) {f : Str} (he : PE X e ta) (hb : attributeBase e f X.env (eval e X.env) = eval e X.env) (hK : X.K = K := by rfl) : PE X (.Attribute e f pos) (tFld K ta f) := by
  subst hK
  exact pe_fld he hb
end
theorem op_eqLK (K : PySem.W.Frag) {X : Cx} (hu : X.A.units + 64 < cLine) (hK : X.K = K := by rfl) : OpR X (compareOp .Eq) (rEqL K) := by
  subst hK
  exact op_eqL hu
theorem MkX.plain {P : Program} {w : World} {K : PySem.W.Frag} {mg : Str → Option Value} {base : Heap} {k : Nat} {C : Addr} {ps : List Str} {sp : Sp} (F : MkX (CXE P w) P w K mg base k C ps sp) : MkX CX0 P w K mg base k C ps (fun vs H Q _ => sp vs H Q E0) := by
  obtain ⟨f, fd, F, r⟩ := F
  refine ⟨f, fd, ⟨fun vs H Q _ h => F.len vs H Q E0 h, fun A outer s H args us vs Q E hr e0 hb rv h => codeAny_mono (F.run A outer s H args us vs Q E0 hr e0 hb rv h) fun rr s' q => ?_⟩, r⟩
  cases rr with
  | ok fl => cases fl <;> exact q
  | error e =>
    obtain ⟨_, _, _, _, _, _, _, _, _, _, _, _, z⟩ := q
    exact False.elim z
end L2
namespace L2
open PySem PySem.Spec PyProof.Rows PySem.SeqAt
section
variable {X : Cx} {pins : List (Addr × Obj)} {σ : St} {H : Hp} {s : Shared}
end
section
variable {X : Cx}
end
end L2
namespace L2
open PySem PySem.Spec PyProof.Rows
section
variable {X : Cx}
noncomputable def rGetL (K : PySem.W.Frag) : V → V → Hp → VK → Prop := fun x y H Q => ∃ p xs i v, x = .ref p ∧ y = .int i ∧ SqL K H p xs ∧ 0 ≤ i ∧ atI xs i = some v ∧ Q v H
theorem get_list : PGet X (rGetL X.K) := by
  intro pins s σ H x y v u Q I rx ry h
  obtain ⟨p, xs, i, z, rfl, rfl, hq, h0, he, q⟩ := h
  cases rx
  obtain ⟨t, rfl⟩ := ry
  obtain ⟨its, r, pl, hz⟩ := I.list hq
  obtain ⟨j, h1, h2, h3, h4, h5⟩ := atI_get he
  obtain ⟨w, ew, rw'⟩ := r.get h2
  have hl := r.length
  have hn := line63
  have fin : EP X pins σ Q w s := ⟨z, H, I, rw', q⟩
  have hj : i.toNat = j := by
    rw [seqIndex_of h0 h5] at h1
    exact Option.some.inj h1
  exact wpAny_getItem_list pl.isList h0 (by omega) (by rw [hj]; simpa using ew) fin
end
end L2
namespace L2
open PySem PySem.Spec PyProof.Rows PySem.SeqAt
section
variable {X : Cx} {pins : List (Addr × Obj)} {σ : St} {H : Hp} {s : Shared}
end
section
variable {X : Cx}
noncomputable def rNeA (K : PySem.W.Frag) : R2 := fun x y H Q => rNe x y H Q ∨ rNeL K x y H Q
theorem op_neA (hu : X.A.units + 64 < cLine) : OpR X (compareOp .NotEq) (rNeA X.K) := by
  intro pins s σ H x y v u Q I rx ry h
  rcases h with h | h
  · exact op_ne pins s σ H x y v u Q I rx ry h
  · exact op_neL hu pins s σ H x y v u Q I rx ry h
end
noncomputable def DefMD (K : PySem.W.Frag) (x qual : Str) (st : Stmt) (ps : List Str) (d : Int) (f : Addr) : Prop := ∃ fd, FunD K x qual st f fd ∧ Binds K fd ps [] ∧ ∃ t, Binds K fd ps [.int d t]
noncomputable def MtDE (P : Program) (w : World) (K : PySem.W.Frag) (mg : Str → Option Value) (base : Heap) (k : Nat) (C : Addr) (m : Str) (ps : List Str) (d : Int) (sp : Sp) : Prop :=
  ∃ f fd, FnOk P w K mg base (CXE P w) k f fd ps sp ∧ Cls K C ∧ Meth K C m f ∧ ∃ t, Binds K fd ps [.int d t]
noncomputable def tMtD (C : Addr) (m : Str) (d : Int) (sp : Sp) (G : St → Value → Hp → Prop) (ta : TE) : TE := fun σ H Q => ta σ H fun x H1 => ∃ a dx fs, x = .ref a ∧ H1 a = some (.ins C dx fs) ∧ fs.lookup m = none ∧ sp [x, .int d] H1 Q fun C _ H' => G σ C H'
theorem pe_mtD0G {X : Cx} {k : Nat} {C : Addr} {m : Str} {ps : List Str} {sp : Sp} {pos apos : Pos} {o : Expr} {ta : TE} {G : St → Value → Hp → Prop} {d : Int} {pl : Sem Bool} (he : PE X o ta) (F : MtDE X.prog X.w X.K X.mg X.base k C m ps d sp) (hr : Room k X.A) (hx : PassesG X G)
    (ht : eval (.Call (.Attribute o m apos) [] [] pos) X.env = (do
      let ov ← eval o X.env
      standAt apos.atName
      let (f, first) ← holding [ov] (getMethod ov m pl)
      callWith pos f first (backTo pos (starEach [] X.env)) (backToKw pos (keywordEach [] X.env))) := by rfl) :
    PE X (.Call (.Attribute o m apos) [] [] pos) (tMtD C m d sp G ta) := by
  obtain ⟨f, fd, F, c, hm, t, b⟩ := F
  intro pins s σ H Q I h
  refine PySem.W.methodCall_KW (pl := pl) (thn (he pins s σ H _ I h) fun u s1 ⟨x, H1, I1, rx, a, dx, fs, ex, ea, l, q⟩ => ?_) ht
  subst ex
  obtain rfl : u = Value.ref a := rx
  refine getmeth_ok I1 ea c hm l ?_
  have r2 : Vals [V.ref a, V.int d] [Value.ref a, .int d t] := .cons rfl (.cons ⟨t, rfl⟩ .nil)
  have hl : [Value.ref a, .int d t].length = ps.length := by rw [← r2.length]; exact F.len _ _ _ _ q
  refine PySem.W.callWith_K0 (first := [.ref a]) I1.kIn hm.kp (wpAny_call (codeAny_mono (F.run X.A X.stack s1 H1 ⟨[.ref a], []⟩ [.ref a, .int d t] [.ref a, .int d] Q (fun C _ H' => G σ C H') hr I1.env0 (b s1 [.ref a] I1.kIn hl) r2 q) fun rr s' hq => ?_))
  cases rr with
  | error e => exact hx pins σ H1 s1 e s' I1 hq
  | ok fl =>
    cases fl with
    | ret u => exact I1.after hq
    | next => exact False.elim hq
    | brk => exact False.elim hq
    | cont => exact False.elim hq
end L2
namespace L2
open PySem PyProof.Rows
noncomputable def lexLt : List Int → List Int → Bool
  | [], ys => !ys.isEmpty
  | _ :: _, [] => false
  | x :: xs, y :: ys => if x = y then lexLt xs ys else decide (x < y)
section
variable {P : Program} {w : World} {A : Around} {E : Value → Shared → Prop} {s : Shared}
theorem lt_loop {x y : Addr} {vs us : List Value} {xs ys : List Int} (hx : s.heap.IsList x vs.toArray) (hy : s.heap.IsList y us.toArray) (ix : IntsAre vs xs) (iy : IntsAre us ys) {R : Result → Shared → Prop} :
    ∀ (k i : Nat), xs.length - i = k → i ≤ xs.length → i ≤ ys.length → R (.ok (.ret (.bool (lexLt (xs.drop i) (ys.drop i))))) s →
      codeAny (model P w) A (.builtin "list.__eq__.loop" ⟨[.ref x, .ref y, rawInt i, rawInt 0], []⟩) R s := by
  obtain ⟨ox, hox, _, nx, hdx⟩ := hx
  obtain ⟨oy, hoy, _, ny, hdy⟩ := hy
  have lx := IntsAre.length ix
  have ly := IntsAre.length iy
  have gx : ∀ {i : Nat} (h : i < xs.length), ∃ t, vs.toArray[((i : Nat) : Int).toNat]? = some (.int xs[i] t) := fun {i} h => by
    have hv : vs[i]? = some vs[i] := List.getElem?_eq_getElem (by omega)
    obtain ⟨t, e⟩ := IntsAre.int_at ix i _ hv
    refine ⟨t, ?_⟩
    rw [Int.toNat_natCast, List.getElem?_toArray, hv, e, List.getD_eq_getElem?_getD, List.getElem?_eq_getElem h]
    rfl
  have gy : ∀ {i : Nat} (h : i < ys.length), ∃ t, us.toArray[((i : Nat) : Int).toNat]? = some (.int ys[i] t) := fun {i} h => by
    have hv : us[i]? = some us[i] := List.getElem?_eq_getElem (by omega)
    obtain ⟨t, e⟩ := IntsAre.int_at iy i _ hv
    refine ⟨t, ?_⟩
    rw [Int.toNat_natCast, List.getElem?_toArray, hv, e, List.getD_eq_getElem?_getD, List.getElem?_eq_getElem h]
    rfl
  have ex : ∀ {i : Nat}, xs.length ≤ i → vs.toArray[((i : Nat) : Int).toNat]? = none := fun {i} h => by rw [Int.toNat_natCast, List.getElem?_toArray]; exact List.getElem?_eq_none (by omega)
  have ey : ∀ {i : Nat}, ys.length ≤ i → us.toArray[((i : Nat) : Int).toNat]? = none := fun {i} h => by rw [Int.toNat_natCast, List.getElem?_toArray]; exact List.getElem?_eq_none (by omega)
  intro k
  induction k with
  | zero =>
    intro i hk hi1 hi2 h
    refine codeAny_builtin MeetsSeq3.entry_eq_loop ?_
    rw [Around.under_plainId MeetsSeq3.plain_eq_loop _]
    refine wpAny_bind (m := Builtin.List.listItems (.ref x)) (listItems_at hox hdx ?_)
    refine wpAny_bind (m := Builtin.List.listItems (.ref y)) (listItems_at hoy hdy ?_)
    rw [ex (by omega)]
    refine wpAny_bind (m := Builtin.List.listItems (.ref x)) (listItems_at hox hdx ?_)
    refine wpAny_bind (m := Builtin.List.listItems (.ref y)) (listItems_at hoy hdy ?_)
    refine wpAny_pure ?_
    show R (.ok (.ret (.bool (decide (vs.toArray.size < us.toArray.size))))) s
    have e : lexLt (xs.drop i) (ys.drop i) = decide (vs.toArray.size < us.toArray.size) := by
      rw [List.drop_eq_nil_of_le (show xs.length ≤ i by omega), List.size_toArray, List.size_toArray]
      unfold lexLt
      rcases Nat.lt_or_ge i ys.length with z | z
      · rw [decide_eq_true (by omega)]
        cases hq : ys.drop i with
        | nil => rw [List.drop_eq_nil_iff] at hq; omega
        | cons a b => rfl
      · rw [decide_eq_false (by omega), List.drop_eq_nil_of_le z]; rfl
    rw [← e]; exact h
  | succ k ih =>
    intro i hk hi1 hi2 h
    refine codeAny_builtin MeetsSeq3.entry_eq_loop ?_
    rw [Around.under_plainId MeetsSeq3.plain_eq_loop _]
    refine wpAny_bind (m := Builtin.List.listItems (.ref x)) (listItems_at hox hdx ?_)
    refine wpAny_bind (m := Builtin.List.listItems (.ref y)) (listItems_at hoy hdy ?_)
    have hx' : i < xs.length := by omega
    obtain ⟨t1, e1⟩ := gx hx'
    rw [e1]
    rcases Nat.lt_or_ge i ys.length with z | z
    · obtain ⟨t2, e2⟩ := gy z
      rw [e2]
      rw [List.drop_eq_getElem_cons hx', List.drop_eq_getElem_cons z] at h
      refine wpAny_bind (wpAny_eqBool_int ?_)
      by_cases q : xs[i] = ys[i]
      · rw [show (xs[i] == ys[i]) = true by simp [q]]
        rw [if_pos rfl]
        rw [show lexLt (xs[i] :: xs.drop (i + 1)) (ys[i] :: ys.drop (i + 1)) = lexLt (xs.drop (i + 1)) (ys.drop (i + 1)) by rw [lexLt]; exact if_pos q] at h
        refine wpAny_pure ⟨plainId_quiet MeetsSeq3.plain_eq_loop _, ?_⟩
        have := ih (i + 1) (by omega) (by omega) (by omega) h
        rw [show ((i + 1 : Nat) : Int) = (i : Int) + 1 by omega] at this
        exact this
      · rw [show (xs[i] == ys[i]) = false by simp [q]]
        rw [if_neg (by simp)]
        refine wpAny_bind (m := Builtin.List.listItems (.ref x)) (listItems_at hox hdx ?_)
        refine wpAny_bind (m := Builtin.List.listItems (.ref y)) (listItems_at hoy hdy ?_)
        rw [e1, e2]
        rw [show lexLt (xs[i] :: xs.drop (i + 1)) (ys[i] :: ys.drop (i + 1)) = decide (xs[i] < ys[i]) by rw [lexLt]; exact if_neg q] at h
        refine wpAny_bind (m := richCompare .Lt (.int xs[i] t1) (.int ys[i] t2)) (lt_int ?_)
        exact wpAny_pure h
    · rw [ey z]
      refine wpAny_bind (m := Builtin.List.listItems (.ref x)) (listItems_at hox hdx ?_)
      refine wpAny_bind (m := Builtin.List.listItems (.ref y)) (listItems_at hoy hdy ?_)
      refine wpAny_pure ?_
      show R (.ok (.ret (.bool (decide (vs.toArray.size < us.toArray.size))))) s
      have e : lexLt (xs.drop i) (ys.drop i) = decide (vs.toArray.size < us.toArray.size) := by
        rw [List.drop_eq_getElem_cons hx', List.drop_eq_nil_of_le z, List.size_toArray, List.size_toArray, decide_eq_false (by omega)]
        rfl
      rw [← e]; exact h
theorem lt_lists {x y : Addr} {vs us : List Value} {xs ys : List Int} (hu : A.units < cLine) (hx : s.heap.IsList x vs.toArray) (hy : s.heap.IsList y us.toArray) (ix : IntsAre vs xs) (iy : IntsAre us ys) {Q : Bool → Shared → Prop} (h : Q (lexLt xs ys) s) :
    wpAny (model P w) A (keyLt' oneType' (.ref x) (.ref y)) Q E s := by
  rw [keyLt'_oneType, oneLt'_eq]
  simp only [if_true]
  refine wpAny_bind (wpAny_cRoomFor hu ?_)
  refine wpAny_bind (wpAny_callSpecialIfBound?_slot hx.typeIs F.slot_list_lt (wpAny_call (codeAny_call_builtin F.slot_list_lt.plain F.entry_list_lt (F.slot_list_lt.check _ _ _ _ _ _ _ _ hx.typeIs (F.args_list_lt_2 _ _) ?_))))
  refine wpAny_bind (m := isInstance (.ref y) (.type "list")) (wpAny_isInstance hy.typeIs (b := true) AutoSeq1.sub_list_list ?_)
  refine wpAny_pure ⟨plainId_quiet MeetsSeq3.plain_eq_loop _, ?_⟩
  refine lt_loop hx hy ix iy xs.length 0 (by omega) (Nat.zero_le _) (Nat.zero_le _) ?_
  exact wpAny_truthy_bool h
end
end L2
namespace L2
open PySem PyProof.Rows PySem.W
noncomputable def runB {α : Type} (n : Nat) (c : Nat → Nat → Bool) : KasT α → Option α
  | .ret a => some a
  | .ask i j k => if i < n ∧ j < n then runB n c (k (c i j)) else none
theorem runB_wp {α : Type} {n : Nat} {c : Nat → Nat → Bool} {cmp : Nat → Nat → (Bool → Shared → Prop) → Shared → Prop} {s : Shared} (hc : ∀ i j C, i < n → j < n → C (c i j) s → cmp i j C s) {Q : α → Shared → Prop} : ∀ (t : KasT α) {a : α}, runB n c t = some a → Q a s → t.kasWp cmp Q s
  | .ret b, a, e, h => by
    simp only [runB, Option.some.injEq] at e
    subst e
    exact h
  | .ask i j k, a, e, h => by
    unfold runB at e
    split at e
    · rename_i hij
      exact hc i j _ hij.1 hij.2 (runB_wp hc (k (c i j)) e h)
    · cases e
noncomputable def SortsTo (nss : List (List Int)) (p : List Nat) : Prop :=
  (nss.length < 2 ∧ p = List.range nss.length) ∨ (2 ≤ nss.length ∧ nss.length < 64 ∧ (runB nss.length (fun i j => lexLt (nss.getD i []) (nss.getD j [])) (kas_sort nss.length)).map (·.toList) = some p ∧ p.length = nss.length ∧ ∀ i ∈ p, i < nss.length)
section
variable {P : Program} {w : World} {A : Around} {E : Value → Shared → Prop} {s : Shared}
noncomputable def ListsAt (h : Heap) : List Value → List (List Int) → Prop := Paired fun v ns => ∃ (x : Addr) (vs : List Value), v = .ref x ∧ h.IsList x vs.toArray ∧ IntsAre vs ns
theorem paired_getL {α β : Type} {R : α → β → Prop} : ∀ {l : List α} {m : List β}, Paired R l m → ∀ {i : Nat} {a : α}, l[i]? = some a → ∃ b, m[i]? = some b ∧ R a b
  | _, _, .nil, i, a, h => by simp at h
  | _, _, .cons r t, 0, a, h => by simp at h; subst h; exact ⟨_, rfl, r⟩
  | _, _, .cons r t, i + 1, a, h => by
    rw [List.getElem?_cons_succ] at h ⊢
    exact paired_getL t h
theorem paired_mem_imp {α β : Type} {R S : α → β → Prop} : ∀ {l : List α} {m : List β}, Paired R l m → (∀ a b, a ∈ l → R a b → S a b) → Paired S l m
  | _, _, .nil, _ => .nil
  | _, _, .cons r t, f => .cons (f _ _ (List.mem_cons_self ..) r) (paired_mem_imp t fun a b ha => f a b (List.mem_cons_of_mem _ ha))
theorem sort_lists {a : Addr} {vs : List Value} {nss : List (List Int)} {n : Nat} {p : List Nat} {Q : PySem.Fin → Shared → Prop} (hu : A.units < cLine) (ho : s.heap.get? a = some (seqObj "list" vs.toArray n)) (hL : ListsAt s.heap vs nss) (hne : ∀ v ∈ vs, v ≠ .ref a) (hp : SortsTo nss p)
    (h : Q (.done (.ret .none)) { s with heap := sortedHeap s.heap a vs (p.map fun i => vs.getD i Value.none).toArray }) :
    wpAny (model P w) A (Builtin.«list.sort» ⟨[.ref a], []⟩) Q E s := by
  have hl : vs.length = nss.length := Paired.length hL
  have ha : a < s.heap.objs.size := Heap.lt_size ho
  obtain ⟨e1, ho1⟩ : ∃ e1, (s.heap.update a (Obj.mapSeq fun _ => (#[] : Array Value))).get? a = some (seqObj "list" #[] e1) := ⟨_, get?_update_seq ho fun _ => #[]⟩
  have kp : ∀ b o, b ≠ a → s.heap.get? b = some o → (((s.heap.update a (Obj.mapSeq fun _ => (#[] : Array Value))).push (seqObj "tuple" vs.toArray 0)).push (seqObj "list" #[] 0)).get? b = some o := fun b o hb e =>
    Heap.get?_push_of_some _ (Heap.get?_push_of_some _ ((Heap.get?_update_other _ _ (Ne.symm hb)).trans e))
  have hlt : vs.length < 64 := by rcases hp with ⟨h, _⟩ | ⟨_, h, _⟩ <;> omega
  have L2 : ListsAt (((s.heap.update a (Obj.mapSeq fun _ => (#[] : Array Value))).push (seqObj "tuple" vs.toArray 0)).push (seqObj "list" #[] 0)) vs nss := by
    refine paired_mem_imp hL fun v ns hv r => ?_
    obtain ⟨x, us, rfl, hx, hi⟩ := r
    have nx : x ≠ a := fun e => hne _ hv (by rw [e])
    obtain ⟨o, e, r⟩ := hx
    exact ⟨x, us, rfl, ⟨o, kp x o nx e, r⟩, hi⟩
  rw [list_sort_plain]
  refine wpAny_bind (listItems_at ho rfl ?_)
  refine wpAny_bind (listUpdate_at ho rfl ?_ (by rw [List.size_toArray, sizeLine_eq]; omega) (Nat.zero_le _))
  refine wpAny_bind (seqEpoch_at ho1 rfl ?_)
  refine wpAny_bind (wpAny_newTuple ?_ (by show vs.length ≤ _; rw [sizeLine_eq]; omega))
  refine wpAny_bind (wpAny_newList ?_ (Nat.zero_le _))
  refine wpAny_holding ?_
  show wpAny (model P w) A _ Q E { s with heap := ((s.heap.update a (Obj.mapSeq fun _ => (#[] : Array Value))).push (seqObj "tuple" vs.toArray 0)).push (seqObj "list" #[] 0) }
  dsimp only
  have ho6 : (((s.heap.update a (Obj.mapSeq fun _ => (#[] : Array Value))).push (seqObj "tuple" vs.toArray 0)).push (seqObj "list" #[] 0)).get? a = some (seqObj "list" #[] e1) := Heap.get?_push_of_some _ (Heap.get?_push_of_some _ ho1)
  have hpl : p.length = vs.length := by
    rcases hp with ⟨_, e⟩ | ⟨_, _, _, e⟩
    · rw [e, List.length_range, hl]
    · rw [e.1, hl]
  by_cases h2 : vs.toArray.size < 2
  · rw [if_pos h2, if_pos h2]
    have hpe : p = List.range vs.length := by
      rw [List.size_toArray] at h2
      rcases hp with ⟨_, e⟩ | ⟨e, _⟩
      · rw [e, hl]
      · omega
    have hout : ((pairsOf vs).map (·.2)) = (p.map fun i => vs.getD i Value.none).toArray := by
      rw [hpe]
      apply Array.toList_inj.mp
      apply List.ext_getElem?
      intro i
      rw [Array.toList_map, List.getElem?_map, List.getElem?_map]
      by_cases hi : i < vs.length
      · rw [List.getElem?_range hi]
        show _ = some (vs.getD i Value.none)
        rw [List.getD_eq_getElem?_getD, List.getElem?_eq_getElem hi]
        show ((vs.toArray.zip vs.toArray).toList[i]?).map _ = _
        simp [hi]
      · have z : (pairsOf vs).size = vs.length := pairsOf_size vs
        rw [List.getElem?_eq_none (l := List.range vs.length) (by simp; omega), List.getElem?_eq_none (l := (pairsOf vs).toList) (by simp; omega)]
        rfl
    refine wpAny_bind (wpAny_pure ?_)
    rw [StateT.run_pure]
    refine wpAny_bind (wpAny_pure ?_)
    dsimp only
    refine wpAny_bind (seqEpoch_at ho6 rfl ?_)
    refine wpAny_bind (listUpdate_at ho6 rfl ?_ (Nat.zero_le _) (by rw [Array.size_map]; show (pairsOf vs).size ≤ _; rw [pairsOf_size, sizeLine_eq]; omega))
    simp only [bne_self_eq_false, Bool.false_eq_true, if_false]
    refine wpAny_pure ?_
    rw [← hout] at h
    exact h
  · rw [if_neg h2, if_neg h2]
    rw [List.size_toArray] at h2
    obtain ⟨h2', h64, hr, _⟩ : 2 ≤ nss.length ∧ nss.length < 64 ∧ (runB nss.length (fun i j => lexLt (nss.getD i []) (nss.getD j [])) (kas_sort nss.length)).map (·.toList) = some p ∧ p.length = nss.length ∧ ∀ i ∈ p, i < nss.length := by
      rcases hp with ⟨e, _⟩ | e
      · omega
      · exact e
    refine wpAny_bind (kas_kind (T := .type "list") (by omega) (fun v hv => ?_) (by decide) (by decide) ?_)
    · obtain ⟨i, hi⟩ := List.getElem?_of_mem hv
      obtain ⟨ns, _, x, us, rfl, x1, _⟩ := paired_getL L2 hi
      obtain ⟨o, e, c, _⟩ := x1
      exact fun A Q E s1 k q => wpAny_typeOf (T := "list") ⟨o, k x o e, c⟩ q
    rw [← hl] at hr
    obtain ⟨pa, hr', rfl⟩ := Option.map_eq_some_iff.mp hr
    have est : SortSt.mk' oneType' (vs.toArray.zip vs.toArray) #[] 7 none = kas_st oneType' (pairsOf vs) (List.toArray (List.range vs.length)) := by
      have e := kas_range (pairsOf vs)
      rw [pairsOf_size] at e
      show SortSt.mk' oneType' (pairsOf vs) #[] 7 none = SortSt.mk' oneType' ((List.toArray (List.range vs.length)).map (kas_item (pairsOf vs))) #[] 7 none
      rw [e]
    have run := kas_runs (prog := P) (w := w) (A := A) (E := E) (κ := oneType') (it := pairsOf vs) (Q := fun _ st' s' => s' = ({ s with heap := ((s.heap.update a (Obj.mapSeq fun _ => (#[] : Array Value))).push (seqObj "tuple" vs.toArray 0)).push (seqObj "list" #[] 0) } : Shared) ∧ arrOf st' = pa.map (kas_item (pairsOf vs)) ∧ failedOf st' = none)
      (G := fun p' s' => p' = pa ∧ s' = ({ s with heap := ((s.heap.update a (Obj.mapSeq fun _ => (#[] : Array Value))).push (seqObj "tuple" vs.toArray 0)).push (seqObj "list" #[] 0) } : Shared)) (n := vs.length) (by omega) (by omega) (fun p' st' s' a1 a2 a3 a4 => ⟨a4.2, by rw [a2, a4.1], a3⟩)
      (runB_wp (fun i j C hi hj hC => ?_) (kas_sort vs.length) hr' ⟨rfl, rfl⟩)
    · rw [← est] at run
      refine wpAny_bind (wpAny_mono run ?_ fun _ _ e => e)
      rintro ⟨⟨⟩, st'⟩ s' ⟨rfl, har, hf⟩
      dsimp only
      have hout : (arrOf st').map (·.2) = (pa.toList.map fun i => vs.getD i Value.none).toArray := by
        apply Array.toList_inj.mp
        rw [har, Array.map_map, Array.toList_map]
        exact List.map_congr_left fun i _ => by show (kas_item (pairsOf vs) i).2 = _; rw [kas_item_eq]
      rw [hout]
      refine wpAny_bind (seqEpoch_at ho6 rfl ?_)
      refine wpAny_bind (listUpdate_at ho6 rfl ?_ (Nat.zero_le _) (by rw [List.size_toArray, List.length_map, hpl, sizeLine_eq]; omega))
      rw [hf]
      simp only [bne_self_eq_false, Bool.false_eq_true, if_false]
      exact wpAny_pure h
    · show wpAny _ _ (keyLt' oneType' (kas_item (pairsOf vs) i).1 (kas_item (pairsOf vs) j).1) C _ _
      rw [kas_item_eq, kas_item_eq]
      have gi : vs[i]? = some vs[i] := List.getElem?_eq_getElem hi
      have gj : vs[j]? = some vs[j] := List.getElem?_eq_getElem hj
      obtain ⟨xs, ei, x, us, e1, x1, x2⟩ := paired_getL L2 gi
      obtain ⟨ys, ej, y, us', e2, y1, y2⟩ := paired_getL L2 gj
      rw [List.getD_eq_getElem?_getD, List.getD_eq_getElem?_getD, gi, gj]
      simp only [Option.getD_some]
      rw [e1, e2]
      refine lt_lists hu x1 y1 x2 y2 ?_
      rw [List.getD_eq_getElem?_getD, List.getD_eq_getElem?_getD, ei, ej] at hC
      exact hC
theorem sorted_lists {l : Addr} {vs : List Value} {nss : List (List Int)} {p : List Nat} {Q : Value → Shared → Prop} (hu : A.units + 2 < cLine) (hl : s.heap.IsList l vs.toArray) (hL : ListsAt s.heap vs nss) (hp : SortsTo nss p)
    (h : Q (.ref (s.heap.objs.size + 1)) { s with heap := sortedAll s.heap vs (p.map fun i => vs.getD i Value.none).toArray }) :
    wpAny (model P w) A (call (.builtin "sorted") [.ref l]) Q E s := by
  have hlen : vs.length < 64 := by
    have := Paired.length hL
    rcases hp with ⟨h, _⟩ | ⟨_, h, _⟩ <;> omega
  refine Calls.call_function_entry kind_sorted plain_sorted entry_sorted (args_sorted1 _) ?_
  unfold Builtin.«sorted»
  refine wpAny_bind (m := checkCount "sorted" 1 1 _) (wpAny_pure ?_)
  refine wpAny_bind (collect_list hl ?_ (by rw [sizeLine_eq]; omega))
  refine wpAny_bind (wpAny_newList ?_ (by rw [sizeLine_eq]; omega))
  have hsz : ((s.heap.push (seqObj "list" #[] 0)).update s.heap.objs.size (Obj.mapSeq (· ++ vs.toArray))).objs.size = s.heap.objs.size + 1 := by rw [Heap.size_update, size_push']
  have hoL : (((s.heap.push (seqObj "list" #[] 0)).update s.heap.objs.size (Obj.mapSeq (· ++ vs.toArray))).push (seqObj "list" vs.toArray 0)).get? (s.heap.objs.size + 1) = some (seqObj "list" vs.toArray 0) := by
    rw [← hsz]; exact Heap.get?_push_size _ rfl
  show wpAny _ _ _ _ _ { s with heap := ((s.heap.push (seqObj "list" #[] 0)).update s.heap.objs.size (Obj.mapSeq (· ++ vs.toArray))).push (seqObj "list" vs.toArray 0) }
  rw [hsz]
  have hL2 : ListsAt (((s.heap.push (seqObj "list" #[] 0)).update s.heap.objs.size (Obj.mapSeq (· ++ vs.toArray))).push (seqObj "list" vs.toArray 0)) vs nss := by
    refine paired_mem_imp hL fun v ns hv r => ?_
    obtain ⟨x, us, rfl, ⟨o, e, r⟩, hi⟩ := r
    have hx : x < s.heap.objs.size := Heap.lt_size e
    exact ⟨x, us, rfl, ⟨o, Heap.get?_push_of_some _ ((Heap.get?_update_other _ _ (Nat.ne_of_gt hx)).trans (Heap.get?_push_of_some _ e)), r⟩, hi⟩
  have hne : ∀ v ∈ vs, v ≠ Value.ref (s.heap.objs.size + 1) := fun v hv e => by
    obtain ⟨i, hi⟩ := List.getElem?_of_mem hv
    obtain ⟨ns, _, x, us, e2, ⟨o, e3, _⟩, _⟩ := paired_getL hL hi
    rw [e] at e2
    have hx : x < s.heap.objs.size := Heap.lt_size e3
    have : s.heap.objs.size + 1 = x := Value.ref.inj e2
    rw [← this] at hx
    exact absurd hx (Nat.not_lt.mpr (Nat.le_succ _))
  refine wpAny_bind (wpAny_holding (wpAny_call_entry slot_list_sort ⟨_, hoL, rfl⟩ entry_list_sort (sort_lists ?_ hoL hL2 hne hp ⟨_, rfl, ?_⟩) (args_list_sort _)))
  · exact hu
  · exact wpAny_pure ⟨_, rfl, h⟩
end
end L2
namespace L2
open PySem PySem.Spec PyProof.Rows PySem.SeqAt
theorem SortsTo.lt {nss : List (List Int)} {p : List Nat} (h : SortsTo nss p) : p.length = nss.length ∧ nss.length < 64 ∧ ∀ i ∈ p, i < nss.length := by
  rcases h with ⟨h1, rfl⟩ | ⟨_, h1, _, h2, h3⟩
  · exact ⟨List.length_range, by omega, fun i hi => List.mem_range.mp hi⟩
  · exact ⟨h2, h1, h3⟩
section
variable {X : Cx} {pins : List (Addr × Obj)} {σ : St} {H : Hp} {s : Shared}
theorem vals_refsL : ∀ {as : List Addr} {us : List Value}, Vals (as.map V.ref) us → us = as.map Value.ref
  | [], _, r => by cases r; rfl
  | a :: as, _, r => by
    cases r with
    | cons h t =>
      have h' : _ = Value.ref a := h
      rw [h', vals_refsL t]
      rfl
theorem listsAt_of (I : Inv X pins σ H s) : ∀ {as : List Addr} {nss : List (List Int)}, Paired (fun b ns => SqL X.K H b (ns.map V.int)) as nss → ListsAt s.heap (as.map Value.ref) nss
  | _, _, .nil => .nil
  | _, _, .cons h t => by
    obtain ⟨vs, l, i, _⟩ := I.ints h
    exact .cons ⟨_, vs, rfl, l, i⟩ (listsAt_of I t)
theorem call_sortedLL (hu : X.A.units + 64 < cLine) : CallR X (.builtin "sorted") (fun xs H Q => ∃ (p : Addr) (as : List Addr) (nss : List (List Int)) (pm : List Nat), xs = [.ref p] ∧ SqL X.K H p (as.map V.ref) ∧ Paired (fun b ns => SqL X.K H b (ns.map V.int)) as nss ∧ SortsTo nss pm ∧ ∀ (l : Addr), H l = none → Q (.ref l) (upd H l (.lst (pm.map fun i => V.ref (as.getD i 0))))) := by
  intro pins s σ H xs us Q I r h
  obtain ⟨p, as, nss, pm, rfl, hq, hP, hS, q⟩ := h
  obtain ⟨u, rfl, ru⟩ := vals1 r
  cases ru
  obtain ⟨its, rv, pl, hz⟩ := I.list hq
  have e := vals_refsL rv
  subst e
  have al : as.length = nss.length := Paired.length hP
  obtain ⟨pl', n64, pb⟩ := hS.lt
  refine sorted_lists (by omega) pl.isList (listsAt_of I hP) hS ?_
  obtain ⟨e, he⟩ := sortedAll_at s.heap (as.map Value.ref) (pm.map fun i => (as.map Value.ref).getD i Value.none).toArray
  have vv : ∀ (l : List Nat), (∀ i ∈ l, i < as.length) → Vals (l.map fun i => V.ref (as.getD i 0)) (l.map fun i => (as.map Value.ref).getD i Value.none) := fun l => by
    induction l with
    | nil => exact fun _ => .nil
    | cons i l ih =>
      intro h
      refine .cons ?_ (ih fun j hj => h j (List.mem_cons_of_mem _ hj))
      have hi : i < as.length := h i (List.mem_cons_self ..)
      show (as.map Value.ref).getD i Value.none = Value.ref (as.getD i 0)
      rw [List.getD_eq_getElem?_getD, List.getD_eq_getElem?_getD, List.getElem?_map, List.getElem?_eq_getElem hi]
      rfl
  have new : ObjOk X.prog X.w (upd H (s.heap.objs.size + 1) (.lst (pm.map fun i => V.ref (as.getD i 0)))) (sortedAll s.heap (as.map Value.ref) (pm.map fun i => (as.map Value.ref).getD i Value.none).toArray) (s.heap.objs.size + 1) (.lst (pm.map fun i => V.ref (as.getD i 0))) :=
    ⟨by rw [List.length_map, sizeLine_eq]; omega, _, e, vv pm fun i hi => by rw [al]; exact pb i hi, by simpa [seqObj] using he⟩
  exact ⟨.ref (s.heap.objs.size + 1), _, I.laid (t' := s.toks) (fun _ _ => sortedAll_old) (Nat.le_succ _) new, rfl, q _ (I.hok.fresh (Nat.le_succ _))⟩
end
end L2
namespace Bw
open PySem L2
open Builtin.Int (intBits)
def top (i : Nat) : Stmt := PySem.Challenge.pw_bellwrite_k66_a_keen_hearer.main.body.getD i (.Pass ⟨0, 0, 0, 0⟩)
abbrev st_choose : Stmt := top 1
abbrev st_box_of : Stmt := top 10
abbrev st_heard_box : Stmt := top 11
abbrev st_box_count : Stmt := top 12
abbrev st_greatest_part : Stmt := top 13
abbrev st_box_number : Stmt := top 15
abbrev st_read : Stmt := top 16
abbrev st_refuse_silent : Stmt := top 18
abbrev st__law_cell_at : Stmt := top 23
abbrev st__law_drawn : Stmt := top 24
abbrev st__law_rows : Stmt := top 25
abbrev st__law_counts : Stmt := top 26
abbrev st__law_changed : Stmt := top 27
abbrev st__law_can : Stmt := top 28
abbrev st__law_due : Stmt := top 29
abbrev st__law_heard : Stmt := top 30
abbrev st_law : Stmt := top 31
abbrev st_Hearer_init : Stmt := inClass (top 20) 0
abbrev st_Hearer_turn : Stmt := inClass (top 20) 1
abbrev st_Hearer_knows : Stmt := inClass (top 20) 2
abbrev st_Hearer_earliest : Stmt := inClass (top 20) 3
abbrev st_Hearer_is_last_turn : Stmt := inClass (top 20) 4
abbrev st_Hearer_go_on : Stmt := inClass (top 20) 5
abbrev st_KeenHearer_knows : Stmt := inClass (top 21) 0
structure Own (K : PySem.W.Frag) (C_Hearer C_KeenHearer : Addr) : Prop where
  c_Hearer : Cls K C_Hearer
  n_Hearer_turns : NoAttr K C_Hearer "turns"
  n_Hearer_bells : NoAttr K C_Hearer "bells"
  n_Hearer_late : NoAttr K C_Hearer "late"
  n_Hearer_now : NoAttr K C_Hearer "now"
  n_Hearer_reading : NoAttr K C_Hearer "reading"
  n_Hearer_known : NoAttr K C_Hearer "known"
  c_KeenHearer : Cls K C_KeenHearer
  n_KeenHearer_turns : NoAttr K C_KeenHearer "turns"
  n_KeenHearer_bells : NoAttr K C_KeenHearer "bells"
  n_KeenHearer_late : NoAttr K C_KeenHearer "late"
  n_KeenHearer_now : NoAttr K C_KeenHearer "now"
  n_KeenHearer_reading : NoAttr K C_KeenHearer "reading"
  n_KeenHearer_known : NoAttr K C_KeenHearer "known"
  d_Hearer_init : ∃ f, DefM K "__init__" "Hearer.__init__" st_Hearer_init ["self", "turns", "bells", "late"] f ∧ Mk K C_Hearer f ∧ Mk K C_KeenHearer f
  d_Hearer_turn : ∃ f, DefMD K "turn" "Hearer.turn" st_Hearer_turn ["self", "many"] 0 f ∧ Meth K C_Hearer "turn" f ∧ Meth K C_KeenHearer "turn" f
  d_Hearer_knows : ∃ f, DefM K "knows" "Hearer.knows" st_Hearer_knows ["self", "reading"] f ∧ Meth K C_Hearer "knows" f
  d_Hearer_earliest : ∃ f, DefM K "earliest" "Hearer.earliest" st_Hearer_earliest ["self", "reading"] f ∧ Meth K C_Hearer "earliest" f ∧ Meth K C_KeenHearer "earliest" f
  d_Hearer_is_last_turn : ∃ f, DefM K "is_last_turn" "Hearer.is_last_turn" st_Hearer_is_last_turn ["self"] f ∧ Meth K C_Hearer "is_last_turn" f ∧ Meth K C_KeenHearer "is_last_turn" f
  d_Hearer_go_on : ∃ f, DefM K "go_on" "Hearer.go_on" st_Hearer_go_on ["self", "reading", "known"] f ∧ Meth K C_Hearer "go_on" f ∧ Meth K C_KeenHearer "go_on" f
  d_KeenHearer_knows : ∃ f, DefM K "knows" "KeenHearer.knows" st_KeenHearer_knows ["self", "reading"] f ∧ Meth K C_KeenHearer "knows" f
structure Txt (K : PySem.W.Frag) (mg : Str → Option Value) : Prop where
  z_range : mg "range" = none
  z_isinstance : mg "isinstance" = none
  z_int : mg "int" = none
  z_bool : mg "bool" = none
  z_len : mg "len" = none
  z_list : mg "list" = none
  z_min : mg "min" = none
  z_max : mg "max" = none
  z_enumerate : mg "enumerate" = none
  z_sum : mg "sum" = none
  z_all : mg "all" = none
  z_ValueError : mg "ValueError" = none
  z_sorted : mg "sorted" = none
noncomputable def cellOf (ns : List Int) (k : Int) : Int := ns.getD k.toNat 0
noncomputable def spCell (K : PySem.W.Frag) : Sp := fun vs H Q _ => ∃ (a : Addr) (ns : List Int) (k : Int), vs = [.ref a, .int k] ∧ SqL K H a (ns.map V.int) ∧ 0 ≤ k ∧ Q (.int (cellOf ns k)) H
structure RowL (row : List Int) : Prop where
  inc : row.Pairwise (· < ·)
  nn : ∀ x ∈ row, 0 ≤ x
  sz : ∀ x ∈ row, x < 2 ^ 200
theorem at_map {ns : List Int} {k : Nat} {x : Int} (h : ns[k]? = some x) : atI (ns.map V.int) (k : Int) = some (V.int x) := atI_nat (by rw [List.getElem?_map, h]; rfl)
theorem at_last {ns : List Int} (h : ns ≠ []) : ∃ x, atI (ns.map V.int) (-1) = some (V.int x) ∧ x ∈ ns ∧ ns.getLast? = some x := by
  obtain ⟨r, x, rfl⟩ : ∃ r x, ns = r ++ [x] := ⟨ns.dropLast, ns.getLast h, (List.dropLast_concat_getLast h).symm⟩
  refine ⟨x, ?_, by simp, by simp⟩
  rw [List.map_append]
  exact atI_last _ _
theorem cut1 {c : TT} {tA tB R : TS} {D : Ends} {σ : St} {H : Hp} (Pre : St → Hp → Prop) (tail : ∀ σ H, Pre σ H → R D σ H) (h : ∀ N : St → Hp → Prop, (∀ σ H, Pre σ H → N σ H) → tIfS c tA tB { D with nx := N } σ H) : tSeq (tIfS c tA tB) R D σ H := h (fun σ H => R D σ H) tail
abbrev bmV : List Value := [.type "ValueError", .type "Exception", .type "BaseException", .type "object"]
theorem comp_rangeI {lo : Int} {n : Nat} {acc : Addr} {own : Nat} {ix : List Nat} {g : TG} {te : TE} {σ : St} {H1 : Hp} {Q : VK} (Pv : Nat → List V → Hp → Prop) (hz : n ≤ sizeLine) (h0 : Pv 0 [] (upd H1 acc (.lst [])))
    (ha : ∀ i ys H, Pv i ys H → H acc = some (.lst ys) ∧ ys.length ≤ i)
    (step : ∀ (i : Nat) (ys : List V) (H : Hp) (R : VK), i < n → Pv i ys H → (∀ y H6, H6 acc = some (.lst ys) → Pv (i + 1) (ys ++ [y]) (upd H6 acc (.lst (ys ++ [y]))) → R y H6) → g (.int (lo + i)) (blockSt own ix σ) H fun σ4 H4 => σ4.drop own = ix.map (fun i => (σ[i]?).getD none) ∧ te σ4 H4 R)
    (hd : ∀ ys H, Pv n ys H → Q (.ref acc) H) : CompGo (Itr lo n) own ix g tNoTest te σ H1 acc Q := by
  refine ⟨fun i m ys H => m = n - i ∧ i ≤ n ∧ Pv i ys H, ⟨n, by simp, Nat.zero_le _, h0⟩, ?_⟩
  rintro i m ys H ⟨rfl, hi, p⟩
  obtain ⟨a1, a2⟩ := ha i ys H p
  refine ⟨a1, ?_⟩
  by_cases hlt : i < n
  · refine .inr ⟨hlt, by omega, fun x H3 y => ?_⟩
    obtain ⟨e, y⟩ := y
    subst e y
    exact step i ys _ _ hlt p fun y H6 e q => ⟨e, n - (i + 1), by omega, rfl, hlt, q⟩
  · have e : i = n := by omega
    subst e
    exact .inl ⟨Nat.le_refl _, hd ys H p⟩
theorem at_mapR {as : List Addr} {k : Nat} {b : Addr} (h : as[k]? = some b) : atI (as.map V.ref) (k : Int) = some (V.ref b) := atI_nat (by rw [List.getElem?_map, h]; rfl)
section
variable {P : Program} {w : World} {K : PySem.W.Frag} {mg : Str → Option Value} {base : Heap}
theorem sc__law_cell_at : FnScope ["script", "k"] ["script", "k"] (defScope st__law_cell_at) := ⟨rfl, rfl, rfl, by decide +kernel, rfl, by decide +kernel, by decide +kernel⟩
theorem ok_cell_at (D : Def K mg "_law_cell_at" st__law_cell_at ["script", "k"]) (T : Txt K mg) : Fn P w K mg base 1 "_law_cell_at" ["script", "k"] (spCell K) := by
  refine D.fn sc__law_cell_at (fun vs H Q E h => ?_) (fun f cdv A outer s H vs Q E hr h => ?_)
  · obtain ⟨n, k, c, rfl, _⟩ := h
    rfl
  · obtain ⟨a, ns, k, rfl, hS, k0, q⟩ := h
    refine ⟨_, (pss_cons (ps_if (pt_cmpR op_ltI (pv 1) (pe_callB call_len_seq (by rfl) T.z_len b_len (pa_cons (pv 0) pa_nil)) (nomark _))
        (pss_one (ps_ret (pe_ix ix_list (pv 0) (pv 1) (fun _ _ => rfl))))
        pss_nil)
      (pss_one (ps_ret pe_int))), ?_⟩
    refine ⟨_, rfl, _, rfl, _, _, rfl, .inl hS, _, _, rfl, rfl, _, rfl, ?_⟩
    rw [List.length_map]
    refine ifD (fun h => ?_) (fun h => ?_)
    · have hk : k.toNat < ns.length := by omega
      have e : atI (ns.map V.int) k = some (V.int (cellOf ns k)) := by
        have := at_map (ns := ns) (k := k.toNat) (x := cellOf ns k) (by unfold cellOf; rw [List.getD_eq_getElem?_getD, List.getElem?_eq_getElem hk]; rfl)
        rwa [show ((k.toNat : Nat) : Int) = k by omega] at this
      exact ⟨_, rfl, _, rfl, _, _, _, _, rfl, rfl, hS, e, q⟩
    · have e : cellOf ns k = 0 := by
        unfold cellOf
        rw [List.getD_eq_getElem?_getD, List.getElem?_eq_none (by omega)]
        rfl
      rw [e] at q
      exact q
end
section
noncomputable def spLaw (K : PySem.W.Frag) : Sp := fun vs H Q _ => ∃ (a : Addr) (ns : List Int), vs = [.ref a] ∧ SqL K H a (ns.map V.int) ∧ ns.length ≤ 63 ∧ ∀ H', Q (.bl true) H'
end
section
variable {P : Program} {w : World} {K : PySem.W.Frag} {mg : Str → Option Value} {base : Heap}
noncomputable def spDr : Sp := fun vs H Q _ => ∃ c k : Int, vs = [.int c, .int k] ∧ intBits k ≤ 100 ∧ ∀ d : Int, 0 ≤ d → d < 2 ^ 61 → Q (.int d) H
theorem sc__law_drawn : FnScope ["cell", "k", "number"] ["cell", "k"] (defScope st__law_drawn) := ⟨rfl, rfl, rfl, by decide +kernel, rfl, by decide +kernel, by decide +kernel⟩
theorem ok_dr (D : Def K mg "_law_drawn" st__law_drawn ["cell", "k"]) : Fn P w K mg base 1 "_law_drawn" ["cell", "k"] spDr := by
  refine D.fn sc__law_drawn (fun vs H Q E h => ?_) (fun f cdv A outer s H vs Q E hr h => ?_)
  · obtain ⟨c, k, rfl, _⟩ := h
    rfl
  · obtain ⟨c, k, rfl, kb, q⟩ := h
    refine ⟨_, (pss_cons (ps_set (i := 2) sc__law_drawn.nd rfl (Or.inl rfl) (pe_op op_modB (pe_op op_mulB (pe_op op_addI (pe_op op_addI (pe_op op_modB (pv 0) (pe_op op_powB pe_int pe_int)) (pe_op op_mulB pe_int (pv 1))) pe_int) pe_int) pe_int))
      (pss_cons (ps_set (i := 2) sc__law_drawn.nd rfl (Or.inl rfl) (pe_op op_modB (pe_op op_mulB (pv 2) (pv 2)) pe_int))
      (pss_one (ps_ret (pe_op op_fdivB (pe_op op_modB (pe_op op_addI (pe_op op_mulB (pv 2) pe_int) (pe_op op_mulB (pv 1) (pv 1))) pe_int) pe_int))))), ?_⟩
    have p40 : (0 : Int) < 10 ^ (40 : Int).toNat := by decide
    have l40 : (10 : Int) ^ (40 : Int).toNat < 2 ^ 140 := by decide
    have c0 := Int.emod_nonneg c (show (10 : Int) ^ (40 : Int).toNat ≠ 0 by decide)
    have c1 := Int.emod_lt_of_pos c p40
    have cb : intBits (c % 10 ^ (40 : Int).toNat) ≤ 140 := bits_of c0 (Int.lt_trans c1 l40)
    have kb7 : intBits (7 * k) ≤ 103 := intBits_mul_le (m := 3) (n := 100) (by decide) kb
    have b1 : intBits (c % 10 ^ (40 : Int).toNat + 7 * k + 1) ≤ 142 := bits_mono (intBits_add_le (m := 141) (n := 1) (bits_mono (intBits_add_le cb kb7) (by decide)) (by decide)) (by decide)
    refine ⟨_, rfl, _, _, rfl, rfl, ⟨by decide, by decide, by decide⟩, _, _, rfl, rfl, p40, _, rfl, _, _, rfl, rfl, ⟨3, 100, by decide, kb, by decide⟩, _, _, rfl, rfl, _, _, rfl, rfl, _, _, rfl, rfl, ⟨142, 40, b1, by decide, by decide⟩, _, _, rfl, rfl, (by decide), ?_⟩
    have n0 := Int.emod_nonneg ((c % 10 ^ (40 : Int).toNat + 7 * k + 1) * 2654435769) (show (2305843009213693951 : Int) ≠ 0 by decide)
    have n1 := Int.emod_lt_of_pos ((c % 10 ^ (40 : Int).toNat + 7 * k + 1) * 2654435769) (show (0 : Int) < 2305843009213693951 by decide)
    generalize (c % 10 ^ (40 : Int).toNat + 7 * k + 1) * 2654435769 % 2305843009213693951 = number at n0 n1 ⊢
    have nb : intBits number ≤ 62 := bits_of n0 (by omega)
    refine ⟨_, rfl, _, rfl, _, _, rfl, rfl, ⟨62, 62, nb, nb, by decide⟩, _, _, rfl, rfl, (by decide), ?_⟩
    have m0 := Int.emod_nonneg (number * number) (show (2305843009213693951 : Int) ≠ 0 by decide)
    have m1 := Int.emod_lt_of_pos (number * number) (show (0 : Int) < 2305843009213693951 by decide)
    generalize number * number % 2305843009213693951 = num at m0 m1 ⊢
    have mb : intBits num ≤ 62 := bits_of m0 (by omega)
    have r0 := Int.emod_nonneg (num * 40503 + k * k) (show (2305843009213693951 : Int) ≠ 0 by decide)
    have r1 := Int.emod_lt_of_pos (num * 40503 + k * k) (show (0 : Int) < 2305843009213693951 by decide)
    refine ⟨_, rfl, _, _, rfl, rfl, ⟨62, 20, mb, by decide, by decide⟩, _, rfl, _, rfl, _, _, rfl, rfl, ⟨100, 100, kb, kb, by decide⟩, _, _, rfl, rfl, _, _, rfl, rfl, (by decide), _, _, rfl, rfl, ⟨by decide, by decide⟩, q _ ?_ ?_⟩
    · omega
    · omega
end
section
variable {P : Program} {w : World} {K : PySem.W.Frag} {mg : Str → Option Value} {base : Heap}
theorem sc_choose : FnScope ["n", "k", "ways", "taken"] ["n", "k"] (defScope st_choose) := ⟨rfl, rfl, rfl, by decide +kernel, rfl, by decide +kernel, by decide +kernel⟩
theorem ok_choose (D : Def K mg "choose" st_choose ["n", "k"]) (T : Txt K mg) : Fn P w K mg base 1 "choose" ["n", "k"] spChoose := by
  refine D.fn sc_choose (fun vs H Q E h => ?_) (fun f cdv A outer s H vs Q E hr h => ?_)
  · obtain ⟨n, k, rfl, _⟩ := h
    rfl
  · obtain ⟨n, k, rfl, hn, hk, hk2, hb, q⟩ := h
    refine ⟨_, (pss_cons (ps_if (pt_cmpR op_gtI (pv 1) (pv 0) (nomark _))
        (pss_one (ps_ret pe_int))
        pss_nil)
      (pss_cons (ps_set (i := 2) sc_choose.nd rfl (Or.inl rfl) pe_int)
      (pss_cons (ps_for PassesOwn.never rfl (pi_range1 (by rfl) T.z_range (pa_cons (pv 1) pa_nil)) (pg_name (i := 3) sc_choose.nd rfl (Or.inl rfl))
        (pss_one (ps_set (i := 2) sc_choose.nd rfl (Or.inl rfl) (pe_op op_fdivB (pe_op op_mulB (pv 2) (pe_op op_subI (pv 0) (pv 3))) (pe_op op_addI (pv 3) pe_int)))))
      (pss_one (ps_ret (pv 2)))))), ?_⟩
    refine ⟨_, rfl, _, rfl, _, _, rfl, rfl, _, rfl, ?_⟩
    refine ite2 (fun h => ?_) (fun h => ?_)
    · have h' : n < k := of_decide_eq_true h
      have e := ch_above hn h'
      rw [e] at q
      exact q
    · have h' : ¬ n < k := fun z => h (decide_eq_true z)
      refine ⟨_, rfl, k, rfl, by omega, by omega, for_range (n := k.toNat) (fun i σ H' => ∃ v, σ = [some (.int n), some (.int k), some (.int (ch n i)), v] ∧ H' = H) ⟨none, ?_, rfl⟩ ?_ ?_⟩
      · have e := ch_zero n
        show _ = [some (V.int n), some (V.int k), some (V.int (ch n 0)), none]
        rw [e]
        rfl
      · rintro i σ H' hi ⟨v, rfl, rfl⟩
        have hi' : (i : Int) < k := by omega
        refine ⟨_, rfl, _, rfl, _, rfl, _, _, rfl, rfl, _, _, rfl, rfl, ?_, _, rfl, _, _, rfl, rfl, _, _, rfl, rfl, ?_, ?_⟩
        · refine ⟨100000 * i + 1, 100000, bits_ch hb hn, ?_, by omega⟩
          exact intBits_le_of_natAbs (by omega) hb
        · exact ⟨by omega, bits_of (by omega) (by omega)⟩
        · have e := ch_step (n := n) (i := i) (by omega)
          have e0 : (0 : Int) + (i : Int) = (i : Int) := by omega
          refine ⟨some (.int (0 + (i : Int))), ?_, rfl⟩
          rw [e0, e]
          rfl
      · rintro σ H' ⟨v, rfl, rfl⟩
        refine ⟨_, rfl, ?_⟩
        have e : ((k.toNat : Nat) : Int) = k := by omega
        rw [e]
        exact q
end
noncomputable def boxL (late : Int) (ns : List Int) : List Int := (List.range ns.length).map fun i => (ns.getD i 0 - (i : Int)) / (late + 1)
noncomputable def bellL (late : Int) (bs : List Int) : List Int := (List.range bs.length).map fun i => bs.getD i 0 * (late + 1) + (i : Int)
theorem boxL_length (late : Int) (ns : List Int) : (boxL late ns).length = ns.length := by unfold boxL; simp
theorem bellL_length (late : Int) (ns : List Int) : (bellL late ns).length = ns.length := by unfold bellL; simp
theorem boxL_get {late : Int} {ns : List Int} {i : Nat} {x : Int} (h : ns[i]? = some x) : (boxL late ns)[i]? = some ((x - (i : Int)) / (late + 1)) := by
  have hi := (List.getElem?_eq_some_iff.mp h).1
  unfold boxL
  rw [List.getElem?_map, List.getElem?_range hi]
  simp [List.getD_eq_getElem?_getD, h]
theorem bellL_get {late : Int} {ns : List Int} {i : Nat} {x : Int} (h : ns[i]? = some x) : (bellL late ns)[i]? = some (x * (late + 1) + (i : Int)) := by
  have hi := (List.getElem?_eq_some_iff.mp h).1
  unfold bellL
  rw [List.getElem?_map, List.getElem?_range hi]
  simp [List.getD_eq_getElem?_getD, h]
theorem boxL_get' {late : Int} {ns : List Int} {i : Nat} {y : Int} (h : (boxL late ns)[i]? = some y) : ∃ x, ns[i]? = some x ∧ y = (x - (i : Int)) / (late + 1) := by
  have hi := (List.getElem?_eq_some_iff.mp h).1
  rw [boxL_length] at hi
  have g := boxL_get (late := late) (List.getElem?_eq_getElem hi)
  rw [g] at h
  exact ⟨_, List.getElem?_eq_getElem hi, (Option.some.inj h).symm⟩
theorem bellL_get' {late : Int} {ns : List Int} {i : Nat} {y : Int} (h : (bellL late ns)[i]? = some y) : ∃ x, ns[i]? = some x ∧ y = x * (late + 1) + (i : Int) := by
  have hi := (List.getElem?_eq_some_iff.mp h).1
  rw [bellL_length] at hi
  have g := bellL_get (late := late) (List.getElem?_eq_getElem hi)
  rw [g] at h
  exact ⟨_, List.getElem?_eq_getElem hi, (Option.some.inj h).symm⟩
structure BoxL (bs : List Int) : Prop where
  inc : bs.Pairwise (· ≤ ·)
  nn : ∀ x ∈ bs, 0 ≤ x
  sz : ∀ x ∈ bs, x < 2 ^ 200
noncomputable def Szs (m : Nat) (ns : List Int) : Prop := ∀ x ∈ ns, intBits x ≤ m
theorem BoxL.szs {bs : List Int} (h : BoxL bs) : Szs 200 bs := fun x hx => bits_of (h.nn x hx) (h.sz x hx)
theorem RowL.szs {bs : List Int} (h : RowL bs) : Szs 200 bs := fun x hx => bits_of (h.nn x hx) (h.sz x hx)
section
variable {P : Program} {w : World} {K : PySem.W.Frag} {mg : Str → Option Value} {base : Heap}
noncomputable def spBoxOf (K : PySem.W.Frag) : Sp := fun vs H Q _ => ∃ (a : Addr) (ns : List Int) (late : Int), vs = [.ref a, .int late] ∧ SqL K H a (ns.map V.int) ∧ ns.length ≤ 1000 ∧ 0 ≤ late ∧ intBits late ≤ 8000 ∧
  ∀ (p : Addr) (H' : Hp), Same H H' → H p = none → H' p = some (.lst ((boxL late ns).map V.int)) → Q (.ref p) H'
end
section
variable {P : Program} {w : World} {K : PySem.W.Frag} {mg : Str → Option Value} {base : Heap}
theorem sc_box_of : FnScope ["row", "late"] ["row", "late"] (defScope st_box_of) := ⟨rfl, rfl, rfl, by decide +kernel, rfl, by decide +kernel, by decide +kernel⟩
theorem ok_box_of (D : Def K mg "box_of" st_box_of ["row", "late"]) (T : Txt K mg) : Fn P w K mg base 1 "box_of" ["row", "late"] (spBoxOf K) := by
  refine D.fn sc_box_of (fun vs H Q E h => ?_) (fun f cdv A outer s H vs Q E hr h => ?_)
  · obtain ⟨a, ns, late, rfl, _⟩ := h
    rfl
  · obtain ⟨a, ns, late, rfl, hA, hl, l0, lb, q⟩ := h
    refine ⟨_, (pss_one (ps_ret (pe_comp (own := ["place", "turn"]) (fr := ["late"]) (ix := [1]) rfl ⟨rfl, rfl, rfl, rfl, rfl, rfl⟩ (pi_enumL (by rfl) T.z_enumerate (pa_cons (pv 0) pa_nil)) (fun _ _ _ _ _ => (pg_tupK K (n := 2) rfl (pgs_cons (pg_name (i := 0) (show (["place", "turn", "late"] : List Str).Nodup by decide +kernel) rfl (Or.inl rfl)) (pgs_cons (pg_name (i := 1) (show (["place", "turn", "late"] : List Str).Nodup by decide +kernel) rfl (Or.inl rfl)) pgs_nil)))) (fun _ _ _ _ _ => pts_nil) (fun _ _ _ _ _ => (pe_op op_fdivB (pe_op op_subI (pv 1) (pv 0)) (pe_op op_addI (pv 2) pe_int)))))), ?_⟩
    have lb1 : intBits (late + 1) ≤ 9000 := bits_mono (intBits_add_le (m := 8000) (n := 1) lb (by decide)) (by decide)
    refine ⟨_, rfl, a, _, rfl, hA, fun acc hacc => comp_enumP (K := K) (a := a) (xs := ns.map V.int) (fun i => V.int ((ns.getD i 0 - (i : Int)) / (late + 1))) hA hacc ?_ ?_ ?_⟩
    · rw [List.length_map]; exact Nat.le_of_lt (small1000 hl)
    · intro i x t H2 R hx sm ht hR
      rw [List.getElem?_map] at hx
      obtain ⟨x', hx', rfl⟩ := Option.map_eq_some_iff.mp hx
      simp only [List.getD_eq_getElem?_getD, hx', Option.getD_some] at hR
      exact ⟨t, _, rfl, SqT.of ht, rfl, _, _, rfl, _, _, rfl, rfl, rfl, _, rfl, _, rfl, _, _, rfl, rfl, _, rfl, _, _, rfl, rfl, _, _, rfl, rfl, ⟨by omega, lb1⟩, hR⟩
    · intro H2 sm ha
      rw [List.length_map] at ha
      refine q acc H2 sm hacc ?_
      rw [ha]
      unfold boxL
      rw [List.map_map]
      rfl
end
noncomputable def numTo (bs : List Int) : Nat → Int
  | 0 => 0
  | i + 1 => numTo bs i + ch (bs.getD i 0 + (i : Int)) ((i : Int) + 1)
noncomputable def numB (bs : List Int) : Int := numTo bs bs.length
structure IsBox (bs : List Int) : Prop where
  inc : bs.Pairwise (· ≤ ·)
  nn : ∀ x ∈ bs, 0 ≤ x
theorem BoxL.is {bs : List Int} (h : BoxL bs) : IsBox bs := ⟨h.inc, h.nn⟩
theorem sum_map_range (f : Nat → Int) (n : Nat) : ((List.range (n + 1)).map f).sum = ((List.range n).map f).sum + f n := by
  rw [List.range_succ, List.map_append, List.sum_append]
  simp
theorem numTo_sum (bs : List Int) : ∀ n : Nat, numTo bs n = ((List.range n).map fun i => ch (bs.getD i 0 + (i : Int)) ((i : Int) + 1)).sum
  | 0 => rfl
  | n + 1 => by
    rw [sum_map_range, ← numTo_sum bs n]
    rfl
theorem IsBox.get {bs : List Int} (B : IsBox bs) {i j : Nat} {x y : Int} (h : i ≤ j) (hx : bs[i]? = some x) (hy : bs[j]? = some y) : x ≤ y := by
  obtain ⟨h1, e1⟩ := List.getElem?_eq_some_iff.mp hx
  obtain ⟨h2, e2⟩ := List.getElem?_eq_some_iff.mp hy
  rcases Nat.lt_or_eq_of_le h with z | z
  · have := List.pairwise_iff_getElem.mp B.inc i j h1 h2 z
    omega
  · subst z; omega
theorem IsBox.nn' {bs : List Int} (B : IsBox bs) {i : Nat} : 0 ≤ bs.getD i 0 := by
  rw [List.getD_eq_getElem?_getD]
  cases h : bs[i]? with
  | none => exact Int.le_refl _
  | some x => exact B.nn x (List.mem_of_getElem? h)
theorem IsBox.le' {bs : List Int} (B : IsBox bs) {i j : Nat} (h : i ≤ j) (hj : j < bs.length) : bs.getD i 0 ≤ bs.getD j 0 := by
  have hi : i < bs.length := by omega
  rw [List.getD_eq_getElem?_getD, List.getD_eq_getElem?_getD, List.getElem?_eq_getElem hi, List.getElem?_eq_getElem hj]
  exact B.get h (List.getElem?_eq_getElem hi) (List.getElem?_eq_getElem hj)
theorem numTo_nonneg (bs : List Int) : ∀ n, 0 ≤ numTo bs n
  | 0 => Int.le_refl _
  | n + 1 => by
    have := numTo_nonneg bs n
    have := ch_nonneg (bs.getD n 0 + (n : Int)) ((n : Int) + 1)
    show 0 ≤ numTo bs n + _
    omega
theorem numTo_lt {bs : List Int} (B : IsBox bs) : ∀ (i : Nat) (c : Int), i ≤ bs.length → 0 ≤ c → (∀ j, j < i → bs.getD j 0 ≤ c) → numTo bs i < ch (c + (i : Int)) (i : Int)
  | 0, c, _, _, _ => by
    show (0 : Int) < ch (c + ((0 : Nat) : Int)) 0
    rw [ch_zero]; decide
  | i + 1, c, hi, hc, hb => by
    have b0 := B.nn' (i := i)
    have ih := numTo_lt B i (bs.getD i 0) (by omega) b0 (fun j hj => B.le' (by omega) (by omega))
    have p := ch_succ (n := bs.getD i 0 + (i : Int)) (k := (i : Int)) (by omega) (by omega)
    have m := ch_mono (m := bs.getD i 0 + (i : Int) + 1) (n := c + ((i + 1 : Nat) : Int)) (k := ((i + 1 : Nat) : Int)) (by have := hb i (by omega); omega)
    rw [show ((i + 1 : Nat) : Int) = (i : Int) + 1 by omega] at m ⊢
    show numTo bs i + ch (bs.getD i 0 + (i : Int)) ((i : Int) + 1) < _
    omega
theorem numTo_top {bs : List Int} (B : IsBox bs) {i : Nat} (hi : i < bs.length) : IsTop ((i : Int) + 1) (numTo bs (i + 1)) (bs.getD i 0 + (i : Int)) := by
  have b0 := B.nn' (i := i)
  have a := numTo_lt B (i + 1) (bs.getD i 0) hi b0 (fun j hj => B.le' (by omega) hi)
  have n0 := numTo_nonneg bs i
  refine ⟨by omega, ?_, ?_⟩
  · show _ ≤ numTo bs i + _
    omega
  · rw [show ((i + 1 : Nat) : Int) = (i : Int) + 1 by omega] at a
    rw [show bs.getD i 0 + (i : Int) + 1 = bs.getD i 0 + ((i : Int) + 1) by omega]
    exact a
theorem numTo_inj {as bs : List Int} (A : IsBox as) (B : IsBox bs) : ∀ i : Nat, i ≤ as.length → i ≤ bs.length → numTo as i = numTo bs i → ∀ j, j < i → as.getD j 0 = bs.getD j 0
  | 0, _, _, _, j, hj => absurd hj (Nat.not_lt_zero _)
  | i + 1, ha, hb, e, j, hj => by
    have ta := numTo_top A (i := i) ha
    have tb := numTo_top B (i := i) hb
    rw [e] at ta
    have u := ta.unique tb
    have u' : as.getD i 0 = bs.getD i 0 := by omega
    by_cases hji : j = i
    · rw [hji]; exact u'
    · have e' : numTo as i + ch (as.getD i 0 + (i : Int)) ((i : Int) + 1) = numTo bs i + ch (bs.getD i 0 + (i : Int)) ((i : Int) + 1) := e
      rw [u'] at e'
      exact numTo_inj A B i (by omega) (by omega) (by omega) j (by omega)
theorem numB_inj {as bs : List Int} (A : IsBox as) (B : IsBox bs) (hl : as.length = bs.length) (e : numB as = numB bs) : as = bs := by
  refine List.ext_getElem? fun i => ?_
  unfold numB at e
  rw [hl] at e
  by_cases hi : i < as.length
  · have := numTo_inj A B bs.length (by omega) (Nat.le_refl _) e i (by omega)
    rw [List.getD_eq_getElem?_getD, List.getD_eq_getElem?_getD, List.getElem?_eq_getElem hi, List.getElem?_eq_getElem (by omega : i < bs.length)] at this
    rw [List.getElem?_eq_getElem hi, List.getElem?_eq_getElem (by omega : i < bs.length)]
    congr 1
  · rw [List.getElem?_eq_none (by omega), List.getElem?_eq_none (by omega)]
section
variable {P : Program} {w : World} {K : PySem.W.Frag} {mg : Str → Option Value} {base : Heap}
noncomputable def spNum (K : PySem.W.Frag) : Sp := fun vs H Q _ => ∃ (a : Addr) (bs : List Int), vs = [.ref a] ∧ SqL K H a (bs.map V.int) ∧ bs.length ≤ 900 ∧ (∀ x ∈ bs, 0 ≤ x) ∧ Szs 70000 bs ∧
  ∀ H', Same H H' → Q (.int (numB bs)) H'
theorem sc_box_number : FnScope ["box"] ["box"] (defScope st_box_number) := ⟨rfl, rfl, rfl, by decide +kernel, rfl, by decide +kernel, by decide +kernel⟩
theorem ok_box_number (D : Def K mg "box_number" st_box_number ["box"]) (T : Txt K mg) (G_choose : Fn P w K mg base 1 "choose" ["n", "k"] spChoose) : Fn P w K mg base 2 "box_number" ["box"] (spNum K) := by
  refine D.fn sc_box_number (fun vs H Q E h => ?_) (fun f cdv A outer s H vs Q E hr h => ?_)
  · obtain ⟨a, bs, rfl, _⟩ := h
    rfl
  · obtain ⟨a, bs, rfl, hA, hl, nn, sz, q⟩ := h
    refine ⟨_, (pss_one (ps_ret (pe_callB (call_sum rfl) (by rfl) T.z_sum b_sum (pa_cons (pe_comp (own := ["place", "part"]) (fr := []) (ix := []) rfl ⟨rfl, rfl, rfl, rfl, rfl, rfl⟩ (pi_enumL (by rfl) T.z_enumerate (pa_cons (pv 0) pa_nil)) (fun _ _ _ _ _ => (pg_tupK K (n := 2) rfl (pgs_cons (pg_name (i := 0) (show (["place", "part"] : List Str).Nodup by decide +kernel) rfl (Or.inl rfl)) (pgs_cons (pg_name (i := 1) (show (["place", "part"] : List Str).Nodup by decide +kernel) rfl (Or.inl rfl)) pgs_nil)))) (fun _ _ _ _ _ => pts_nil) (fun _ _ _ _ _ => (pe_fn G_choose (hr.mono (by decide)) (by rfl) (pa_cons (pe_op op_addI (pv 1) (pv 0)) (pa_cons (pe_op op_addI (pv 0) pe_int) pa_nil))))) pa_nil)))), ?_⟩
    refine ⟨_, rfl, a, _, rfl, hA, fun acc hacc => comp_enumP (K := K) (a := a) (xs := bs.map V.int) (fun i => V.int (ch (bs.getD i 0 + (i : Int)) ((i : Int) + 1))) hA hacc ?_ ?_ ?_⟩
    · rw [List.length_map]; exact Nat.le_of_lt (small1000 (by omega))
    · intro i x t H2 R hx sm ht hR
      rw [List.getElem?_map] at hx
      obtain ⟨x', hx', rfl⟩ := Option.map_eq_some_iff.mp hx
      simp only [List.getD_eq_getElem?_getD, hx', Option.getD_some] at hR
      have hi := (List.getElem?_eq_some_iff.mp hx').1
      have x0 := nn x' (List.mem_of_getElem? hx')
      have xb := sz x' (List.mem_of_getElem? hx')
      exact ⟨t, _, rfl, SqT.of ht, rfl, _, _, rfl, _, _, rfl, rfl, rfl, _, rfl, _, rfl, _, _, rfl, rfl, _, rfl, _, _, rfl, rfl, _, _, rfl, by omega, by omega, by omega, bits_mono (intBits_add_le (m := 70000) (n := 64) xb (bits_of (by omega) (by omega))) (by decide), hR⟩
    · intro H2 sm ha
      rw [List.length_map] at ha
      refine ⟨acc, (List.range bs.length).map fun i => ch (bs.getD i 0 + (i : Int)) ((i : Int) + 1), rfl, SqL.of ?_, ?_⟩
      · rw [ha, List.map_map]; rfl
      · rw [← numTo_sum]
        exact q H2 sm
end
noncomputable def AscB : Int → List Int → Prop
  | _, [] => True
  | b, x :: r => b ≤ x ∧ AscB x r
theorem ascb_all : ∀ {b : Int} {xs : List Int}, AscB b xs → ∀ x ∈ xs, b ≤ x
  | _, [], _, _, z => nomatch z
  | b, y :: r, h, x, hx => by
    rcases List.mem_cons.mp hx with e | e
    · rw [e]; exact h.1
    · have := ascb_all h.2 x e
      have := h.1
      omega
theorem ascb_pw : ∀ {b : Int} {xs : List Int}, AscB b xs → xs.Pairwise (· ≤ ·)
  | _, [], _ => List.Pairwise.nil
  | _, _ :: _, h => List.pairwise_cons.mpr ⟨ascb_all h.2, ascb_pw h.2⟩
theorem ascb_of : ∀ {b : Int} {xs : List Int}, xs.Pairwise (· ≤ ·) → (∀ x ∈ xs, b ≤ x) → AscB b xs
  | _, [], _, _ => trivial
  | _, x :: r, hp, h => by
    obtain ⟨p1, p2⟩ := List.pairwise_cons.mp hp
    exact ⟨h x (by simp), ascb_of p2 p1⟩
theorem isBox_asc {bs : List Int} : IsBox bs ↔ AscB 0 bs := ⟨fun h => ascb_of h.inc h.nn, fun h => ⟨ascb_pw h, ascb_all h⟩⟩
theorem ascb_drop {bs : List Int} {i : Nat} {x b : Int} (h : bs[i]? = some x) : AscB b (bs.drop i) ↔ b ≤ x ∧ AscB x (bs.drop (i + 1)) := by
  obtain ⟨hi, e⟩ := List.getElem?_eq_some_iff.mp h
  rw [List.drop_eq_getElem_cons hi, e]
  exact Iff.rfl
section
variable {P : Program} {w : World} {K : PySem.W.Frag} {mg : Str → Option Value} {base : Heap}
noncomputable def spHBoxE (K : PySem.W.Frag) (C : Addr) : Sp := fun vs H Q E => ∃ (a : Addr) (ns : List Int) (late : Int), vs = [.ref a, .int late] ∧ SqL K H a (ns.map V.int) ∧ ns.length ≤ 1000 ∧ 0 ≤ late ∧ intBits late ≤ 8000 ∧
  (IsBox (boxL late ns) → ∀ (p : Addr) (H' : Hp), Same H H' → H p = none → H' p = some (.lst ((boxL late ns).map V.int)) → Q (.ref p) H') ∧
  (¬ IsBox (boxL late ns) → ∀ H', Same H H' → E (.ref C) none H')
theorem sc_heard_box : FnScope ["reading", "late", "box", "before", "part"] ["reading", "late"] (defScope st_heard_box) := ⟨rfl, rfl, rfl, by decide +kernel, rfl, by decide +kernel, by decide +kernel⟩
theorem ok_heard_boxE {C_NoReading : Addr} (D : Def K mg "heard_box" st_heard_box ["reading", "late"]) (T : Txt K mg) (m_NoReading : mg "NoReading" = some (.ref C_NoReading)) (x_NoReading : PySem.W.excIn K C_NoReading bmV "ValueError.__new__" = true) (G_box_of : Fn P w K mg base 1 "box_of" ["row", "late"] (spBoxOf K)) : FnE P w K mg base 2 "heard_box" ["reading", "late"] (spHBoxE K C_NoReading) := by
  refine D.fnE sc_heard_box (fun vs H Q E h => ?_) (fun f cdv A outer s H vs Q E hr h => ?_)
  · obtain ⟨a, ns, late, rfl, _⟩ := h
    rfl
  · obtain ⟨a, ns, late, rfl, hA, hl, l0, lb, q, q2⟩ := h
    refine ⟨_, (pss_cons (ps_set (i := 2) sc_heard_box.nd rfl (Or.inl rfl) (pe_fn G_box_of (hr.mono (by decide)) (by rfl) (pa_cons (pv 0) (pa_cons (pv 1) pa_nil))))
      (pss_cons (ps_set (i := 3) sc_heard_box.nd rfl (Or.inl rfl) pe_int)
      (pss_cons (ps_for PassesOwn.leaving rfl (pi_list (pv 2)) (pg_name (i := 4) sc_heard_box.nd rfl (Or.inl rfl))
        (pss_cons (ps_if (pt_cmpR op_ltI (pv 4) (pv 3) (nomark _))
          (pss_one (ps_raise PySem.F.excBase_ValueError x_NoReading (by rfl) m_NoReading (pa_cons pe_str pa_nil)))
          pss_nil)
        (pss_one (ps_set (i := 3) sc_heard_box.nd rfl (Or.inl rfl) (pv 4)))))
      (pss_one (ps_ret (pv 2)))))), ?_⟩
    refine ⟨_, rfl, _, rfl, a, ns, late, rfl, hA, hl, l0, lb, fun p H1 s1 hp h1 => ?_⟩
    generalize hbs : boxL late ns = bs at h1 q q2
    refine ⟨_, rfl, p, rfl, ⟨_, SqL.of h1⟩, for_list (K := K) (a := p) (xs := bs.map V.int) (fun i σ H2 => ∃ (before : Int) (v4 : Option V), σ = [some (.ref a), some (.int late), some (.ref p), some (.int before), v4] ∧ H2 = H1 ∧ (IsBox bs ↔ AscB before (bs.drop i)))
      ⟨0, none, rfl, rfl, by rw [List.drop_zero]; exact isBox_asc⟩ (fun i σ H2 _ ⟨_, _, _, e, _⟩ => e ▸ SqL.of h1) ?_ ?_⟩
    · rintro i y σ H2 hi ⟨before, v4, rfl, rfl, hb⟩
      rw [List.getElem?_map] at hi
      obtain ⟨x, hx, rfl⟩ := Option.map_eq_some_iff.mp hi
      rw [ascb_drop hx] at hb
      refine ⟨_, rfl, _, rfl, _, _, rfl, rfl, _, rfl, ifD (fun h => ?_) (fun h => ⟨_, rfl, x, _, rfl, rfl, hb.trans ⟨fun z => z.2, fun z => ⟨by omega, z⟩⟩⟩)⟩
      exact ⟨(by decide), q2 (fun B => by have := (hb.mp B).1; omega) _ s1⟩
    · rintro σ H2 ⟨before, v4, rfl, rfl, hb⟩
      rw [List.length_map, List.drop_length] at hb
      exact ⟨_, rfl, q (hb.mpr trivial) p _ s1 hp h1⟩
end
noncomputable def cnt (turns bells late : Int) : Int := if turns < bells then 0 else ch ((turns - bells) / (late + 1) + bells) bells
noncomputable def spCount : Sp := fun vs H Q _ => ∃ turns bells late : Int, vs = [.int turns, .int bells, .int late] ∧ 0 ≤ bells ∧ bells ≤ 1000 ∧ 0 ≤ late ∧ intBits late ≤ 8000 ∧ intBits turns ≤ 70000 ∧ Q (.int (cnt turns bells late)) H
section
variable {P : Program} {w : World} {K : PySem.W.Frag} {mg : Str → Option Value} {base : Heap}
noncomputable def spGreat : Sp := fun vs H Q _ => ∃ turns bells late : Int, vs = [.int turns, .int bells, .int late] ∧ 0 ≤ late ∧ intBits late ≤ 8000 ∧ Q (.int ((turns - bells) / (late + 1))) H
theorem sc_greatest_part : FnScope ["turns", "bells", "late"] ["turns", "bells", "late"] (defScope st_greatest_part) := ⟨rfl, rfl, rfl, by decide +kernel, rfl, by decide +kernel, by decide +kernel⟩
theorem ok_greatest_part (D : Def K mg "greatest_part" st_greatest_part ["turns", "bells", "late"]) : Fn P w K mg base 1 "greatest_part" ["turns", "bells", "late"] spGreat := by
  refine D.fn sc_greatest_part (fun vs H Q E h => ?_) (fun f cdv A outer s H vs Q E hr h => ?_)
  · obtain ⟨a, b, c, rfl, _⟩ := h
    rfl
  · obtain ⟨turns, bells, late, rfl, l0, lb, q⟩ := h
    refine ⟨_, (pss_one (ps_ret (pe_op op_fdivB (pe_op op_subI (pv 0) (pv 1)) (pe_op op_addI (pv 2) pe_int)))), ?_⟩
    have lb1 : intBits (late + 1) ≤ 9000 := bits_mono (intBits_add_le (m := 8000) (n := 1) lb (by decide)) (by decide)
    exact ⟨_, rfl, _, rfl, _, _, rfl, rfl, _, rfl, _, _, rfl, rfl, _, _, rfl, rfl, ⟨by omega, lb1⟩, q⟩
theorem sc_box_count : FnScope ["turns", "bells", "late"] ["turns", "bells", "late"] (defScope st_box_count) := ⟨rfl, rfl, rfl, by decide +kernel, rfl, by decide +kernel, by decide +kernel⟩
theorem ok_box_count (D : Def K mg "box_count" st_box_count ["turns", "bells", "late"]) (T : Txt K mg) (G_greatest_part : Fn P w K mg base 1 "greatest_part" ["turns", "bells", "late"] spGreat) (G_choose : Fn P w K mg base 1 "choose" ["n", "k"] spChoose) : Fn P w K mg base 2 "box_count" ["turns", "bells", "late"] spCount := by
  refine D.fn sc_box_count (fun vs H Q E h => ?_) (fun f cdv A outer s H vs Q E hr h => ?_)
  · obtain ⟨a, b, c, rfl, _⟩ := h
    rfl
  · obtain ⟨turns, bells, late, rfl, b0, b1, l0, lb, tb, q⟩ := h
    refine ⟨_, (pss_cons (ps_if (pt_cmpR op_gtI (pv 1) (pv 0) (nomark _))
        (pss_one (ps_ret pe_int))
        pss_nil)
      (pss_one (ps_ret (pe_fn G_choose (hr.mono (by decide)) (by rfl) (pa_cons (pe_op op_addI (pe_fn G_greatest_part (hr.mono (by decide)) (by rfl) (pa_cons (pv 0) (pa_cons (pv 1) (pa_cons (pv 2) pa_nil)))) (pv 1)) (pa_cons (pv 1) pa_nil)))))), ?_⟩
    unfold cnt at q
    refine ⟨_, rfl, _, rfl, _, _, rfl, rfl, _, rfl, ifD (fun h => ?_) (fun h => ?_)⟩
    · rw [if_pos h] at q
      exact q
    · rw [if_neg h] at q
      have d0 : 0 ≤ (turns - bells) / (late + 1) := Int.ediv_nonneg (by omega) (by omega)
      have db : intBits ((turns - bells) / (late + 1)) ≤ 70000 := by
        have h2 := Int.ediv_le_self (late + 1) (show 0 ≤ turns - bells by omega)
        exact intBits_le_of_natAbs (y := turns) (by omega) tb
      refine ⟨_, rfl, _, rfl, _, rfl, turns, bells, late, rfl, l0, lb, _, rfl, _, _, rfl, rfl, _, rfl, _, bells, rfl, by omega, b0, b1, ?_, q⟩
      exact bits_mono (intBits_add_le (m := 70000) (n := 64) db (bits_of b0 (by omega))) (by decide)
end
theorem cnt_pos {turns bells late : Int} (b0 : 0 ≤ bells) (h : bells ≤ turns) (l0 : 0 ≤ late) : 0 < cnt turns bells late := by
  unfold cnt
  rw [if_neg (by omega)]
  have d0 : 0 ≤ (turns - bells) / (late + 1) := Int.ediv_nonneg (by omega) (by omega)
  exact ch_pos b0 (by omega)
noncomputable def GoodR (turns bells late : Int) (ns : List Int) : Prop := (ns.length : Int) = bells ∧ IsBox (boxL late ns) ∧ numB (boxL late ns) < cnt turns bells late
theorem num_lt_cnt {bs : List Int} (B : IsBox bs) {turns late : Int} (l0 : 0 ≤ late) (ht : (bs.length : Int) ≤ turns) (h : ∀ x ∈ bs, x ≤ (turns - (bs.length : Int)) / (late + 1)) : numB bs < cnt turns (bs.length : Int) late := by
  unfold cnt numB
  rw [if_neg (by omega)]
  refine numTo_lt B bs.length _ (Nat.le_refl _) (Int.ediv_nonneg (by omega) (by omega)) fun j hj => ?_
  rw [List.getD_eq_getElem?_getD, List.getElem?_eq_getElem hj]
  exact h _ (List.getElem_mem hj)
section
variable {P : Program} {w : World} {K : PySem.W.Frag} {mg : Str → Option Value} {base : Heap}
noncomputable def spReadE (K : PySem.W.Frag) (C : Addr) : Sp := fun vs H Q E => ∃ (a : Addr) (ns : List Int) (turns bells late : Int), vs = [.ref a, .int turns, .int bells, .int late] ∧ SqL K H a (ns.map V.int) ∧ ns.length ≤ 60 ∧ 0 ≤ bells ∧ bells ≤ 60 ∧ 0 ≤ late ∧ intBits late ≤ 8000 ∧ intBits turns ≤ 70000 ∧ Szs 70000 (boxL late ns) ∧
  (GoodR turns bells late ns → ∀ H', Same H H' → Q (.int (numB (boxL late ns))) H') ∧ (¬ GoodR turns bells late ns → ∀ H', Same H H' → E (.ref C) none H')
theorem sc_read : FnScope ["reading", "turns", "bells", "late", "message"] ["reading", "turns", "bells", "late"] (defScope st_read) := ⟨rfl, rfl, rfl, by decide +kernel, rfl, by decide +kernel, by decide +kernel⟩
theorem ok_readE {C_NoReading : Addr} (D : Def K mg "read" st_read ["reading", "turns", "bells", "late"]) (T : Txt K mg) (m_NoReading : mg "NoReading" = some (.ref C_NoReading)) (x_NoReading : PySem.W.excIn K C_NoReading bmV "ValueError.__new__" = true) (G_box_count : Fn P w K mg base 2 "box_count" ["turns", "bells", "late"] spCount) (GE_heard_box : FnE P w K mg base 2 "heard_box" ["reading", "late"] (spHBoxE K C_NoReading)) (G_box_number : Fn P w K mg base 2 "box_number" ["box"] (spNum K)) :
    FnE P w K mg base 3 "read" ["reading", "turns", "bells", "late"] (spReadE K C_NoReading) := by
  refine D.fnE sc_read (fun vs H Q E h => ?_) (fun f cdv A outer s H vs Q E hr h => ?_)
  · obtain ⟨a, b, c, d, e, rfl, _⟩ := h
    rfl
  · obtain ⟨a, ns, turns, bells, late, rfl, hA, hl, b0, b60, l0, lb, tb, sz, q1, q2⟩ := h
    refine ⟨_, (pss_cons (ps_if (pt_cmpR op_neI (pe_callB call_len_seq (by rfl) T.z_len b_len (pa_cons (pv 0) pa_nil)) (pv 2) (nomark _))
        (pss_one (ps_raise PySem.F.excBase_ValueError x_NoReading (by rfl) m_NoReading (pa_cons pe_str pa_nil)))
        pss_nil)
      (pss_cons (ps_set (i := 4) sc_read.nd rfl (Or.inl rfl) (pe_fn G_box_number (hr.mono (by decide)) (by rfl) (pa_cons (pe_fnG GE_heard_box (hr.mono (by decide)) (by rfl) passesE (pa_cons (pv 0) (pa_cons (pv 3) pa_nil))) pa_nil)))
      (pss_cons (ps_if (pt_cmpR op_geI (pv 4) (pe_fn G_box_count (hr.mono (by decide)) (by rfl) (pa_cons (pv 1) (pa_cons (pv 2) (pa_cons (pv 3) pa_nil)))) (nomark _))
        (pss_one (ps_raise PySem.F.excBase_ValueError x_NoReading (by rfl) m_NoReading (pa_cons pe_str pa_nil)))
        pss_nil)
      (pss_one (ps_ret (pv 4)))))), ?_⟩
    refine ⟨_, rfl, _, _, rfl, .inl hA, _, rfl, _, _, rfl, rfl, _, rfl, ?_⟩
    rw [List.length_map]
    refine ifND (fun e => ⟨(by decide), q2 (fun g => e g.1) _ (Same.refl _)⟩) (fun e => ?_)
    refine ⟨_, rfl, _, rfl, a, ns, late, rfl, hA, by omega, l0, lb, fun B p H1 s1 hp h1 => ?_, fun nB H1 s1 => q2 (fun g => nB g.2.1) _ s1⟩
    refine ⟨p, boxL late ns, rfl, SqL.of h1, by rw [boxL_length]; omega, B.nn, sz, fun H2 s2 => ?_⟩
    refine ⟨_, rfl, _, rfl, _, rfl, _, rfl, turns, bells, late, rfl, by omega, by omega, l0, lb, tb, _, _, rfl, rfl, _, rfl, ifD (fun h => ?_) (fun h => ?_)⟩
    · exact ⟨(by decide), q2 (fun g => by have := g.2.2; omega) _ (s1.trans s2)⟩
    · exact ⟨_, rfl, q1 ⟨e, B, by omega⟩ _ (s1.trans s2)⟩
end
section
variable {P : Program} {w : World} {K : PySem.W.Frag} {mg : Str → Option Value} {base : Heap}
theorem sc_refuse_silent : FnScope ["turns", "bells"] ["turns", "bells"] (defScope st_refuse_silent) := ⟨rfl, rfl, rfl, by decide +kernel, rfl, by decide +kernel, by decide +kernel⟩
noncomputable def spSilE (C : Addr) : Sp := fun vs H Q E => ∃ turns bells : Int, vs = [.int turns, .int bells] ∧ 0 ≤ bells ∧ ((1 ≤ bells ∧ bells ≤ turns) → Q .non H) ∧ (¬ (1 ≤ bells ∧ bells ≤ turns) → E (.ref C) none H)
theorem ok_silentE (D : Def K mg "refuse_silent" st_refuse_silent ["turns", "bells"]) (T : Txt K mg) {C_NoRow : Addr} (m_NoRow : mg "NoRow" = some (.ref C_NoRow)) (x_NoRow : PySem.W.excIn K C_NoRow bmV "ValueError.__new__" = true) : FnE P w K mg base 1 "refuse_silent" ["turns", "bells"] (spSilE C_NoRow) := by
  refine D.fnE sc_refuse_silent (fun vs H Q E h => ?_) (fun f cdv A outer s H vs Q E hr h => ?_)
  · obtain ⟨a, b, rfl, _⟩ := h
    rfl
  · obtain ⟨turns, bells, rfl, b0, q1, q2⟩ := h
    refine ⟨_, (pss_one (ps_if (pw_or (pt_cmpR op_eqI (pv 1) pe_int (nomark _)) (pw_or1 (pt_cmpR op_gtI (pv 1) (pv 0) (nomark _)))).pt
        (pss_one (ps_raise PySem.F.excBase_ValueError x_NoRow (by rfl) m_NoRow (pa_cons pe_str pa_nil)))
        pss_nil)), ?_⟩
    exact ⟨_, rfl, _, _, rfl, rfl, _, rfl, ifD (fun z => ⟨(by decide), q2 (by omega)⟩) (fun z => ⟨_, rfl, _, rfl, _, _, rfl, rfl, _, rfl, ifD (fun z2 => ⟨(by decide), q2 (by omega)⟩) (fun z2 => q1 (by omega))⟩)⟩
end
noncomputable def flds (t b l n : Int) (r : Addr) (k : Bool) : List (Str × V) := [("turns", .int t), ("bells", .int b), ("late", .int l), ("now", .int n), ("reading", .ref r), ("known", .bl k)]
theorem ne_turns_bells : ¬ (("turns" : Str) = "bells") := by decide +kernel
theorem ne_turns_late : ¬ (("turns" : Str) = "late") := by decide +kernel
theorem ne_turns_now : ¬ (("turns" : Str) = "now") := by decide +kernel
theorem ne_turns_reading : ¬ (("turns" : Str) = "reading") := by decide +kernel
theorem ne_turns_known : ¬ (("turns" : Str) = "known") := by decide +kernel
theorem ne_bells_turns : ¬ (("bells" : Str) = "turns") := by decide +kernel
theorem ne_bells_late : ¬ (("bells" : Str) = "late") := by decide +kernel
theorem ne_bells_now : ¬ (("bells" : Str) = "now") := by decide +kernel
theorem ne_bells_reading : ¬ (("bells" : Str) = "reading") := by decide +kernel
theorem ne_bells_known : ¬ (("bells" : Str) = "known") := by decide +kernel
theorem ne_late_turns : ¬ (("late" : Str) = "turns") := by decide +kernel
theorem ne_late_bells : ¬ (("late" : Str) = "bells") := by decide +kernel
theorem ne_late_now : ¬ (("late" : Str) = "now") := by decide +kernel
theorem ne_late_reading : ¬ (("late" : Str) = "reading") := by decide +kernel
theorem ne_late_known : ¬ (("late" : Str) = "known") := by decide +kernel
theorem ne_now_turns : ¬ (("now" : Str) = "turns") := by decide +kernel
theorem ne_now_bells : ¬ (("now" : Str) = "bells") := by decide +kernel
theorem ne_now_late : ¬ (("now" : Str) = "late") := by decide +kernel
theorem ne_now_reading : ¬ (("now" : Str) = "reading") := by decide +kernel
theorem ne_now_known : ¬ (("now" : Str) = "known") := by decide +kernel
theorem ne_reading_turns : ¬ (("reading" : Str) = "turns") := by decide +kernel
theorem ne_reading_bells : ¬ (("reading" : Str) = "bells") := by decide +kernel
theorem ne_reading_late : ¬ (("reading" : Str) = "late") := by decide +kernel
theorem ne_reading_now : ¬ (("reading" : Str) = "now") := by decide +kernel
theorem ne_reading_known : ¬ (("reading" : Str) = "known") := by decide +kernel
theorem ne_known_turns : ¬ (("known" : Str) = "turns") := by decide +kernel
theorem ne_known_bells : ¬ (("known" : Str) = "bells") := by decide +kernel
theorem ne_known_late : ¬ (("known" : Str) = "late") := by decide +kernel
theorem ne_known_now : ¬ (("known" : Str) = "now") := by decide +kernel
theorem ne_known_reading : ¬ (("known" : Str) = "reading") := by decide +kernel
theorem lk_turns (t b l n : Int) (r : Addr) (k : Bool) : (flds t b l n r k).lookup ("turns" : Str) = some (V.int t) := by
  unfold flds
  simp only [List.lookup_cons, beq_self_eq_true]
theorem lk_bells (t b l n : Int) (r : Addr) (k : Bool) : (flds t b l n r k).lookup ("bells" : Str) = some (V.int b) := by
  unfold flds
  simp only [List.lookup_cons, show (("bells" : Str) == "turns") = false from beq_eq_false_iff_ne.mpr ne_bells_turns, beq_self_eq_true]
theorem lk_late (t b l n : Int) (r : Addr) (k : Bool) : (flds t b l n r k).lookup ("late" : Str) = some (V.int l) := by
  unfold flds
  simp only [List.lookup_cons, show (("late" : Str) == "turns") = false from beq_eq_false_iff_ne.mpr ne_late_turns, show (("late" : Str) == "bells") = false from beq_eq_false_iff_ne.mpr ne_late_bells, beq_self_eq_true]
theorem lk_now (t b l n : Int) (r : Addr) (k : Bool) : (flds t b l n r k).lookup ("now" : Str) = some (V.int n) := by
  unfold flds
  simp only [List.lookup_cons, show (("now" : Str) == "turns") = false from beq_eq_false_iff_ne.mpr ne_now_turns, show (("now" : Str) == "bells") = false from beq_eq_false_iff_ne.mpr ne_now_bells, show (("now" : Str) == "late") = false from beq_eq_false_iff_ne.mpr ne_now_late, beq_self_eq_true]
theorem lk_reading (t b l n : Int) (r : Addr) (k : Bool) : (flds t b l n r k).lookup ("reading" : Str) = some (V.ref r) := by
  unfold flds
  simp only [List.lookup_cons, show (("reading" : Str) == "turns") = false from beq_eq_false_iff_ne.mpr ne_reading_turns, show (("reading" : Str) == "bells") = false from beq_eq_false_iff_ne.mpr ne_reading_bells, show (("reading" : Str) == "late") = false from beq_eq_false_iff_ne.mpr ne_reading_late, show (("reading" : Str) == "now") = false from beq_eq_false_iff_ne.mpr ne_reading_now, beq_self_eq_true]
theorem lk_known (t b l n : Int) (r : Addr) (k : Bool) : (flds t b l n r k).lookup ("known" : Str) = some (V.bl k) := by
  unfold flds
  simp only [List.lookup_cons, show (("known" : Str) == "turns") = false from beq_eq_false_iff_ne.mpr ne_known_turns, show (("known" : Str) == "bells") = false from beq_eq_false_iff_ne.mpr ne_known_bells, show (("known" : Str) == "late") = false from beq_eq_false_iff_ne.mpr ne_known_late, show (("known" : Str) == "now") = false from beq_eq_false_iff_ne.mpr ne_known_now, show (("known" : Str) == "reading") = false from beq_eq_false_iff_ne.mpr ne_known_reading, beq_self_eq_true]
theorem lk_no {t b l n : Int} {r : Addr} {k : Bool} {m : Str} (h0 : ¬ m = "turns") (h1 : ¬ m = "bells") (h2 : ¬ m = "late") (h3 : ¬ m = "now") (h4 : ¬ m = "reading") (h5 : ¬ m = "known") : (flds t b l n r k).lookup m = none := by
  unfold flds
  simp only [List.lookup_cons, List.lookup_nil, beq_eq_false_iff_ne.mpr h0, beq_eq_false_iff_ne.mpr h1, beq_eq_false_iff_ne.mpr h2, beq_eq_false_iff_ne.mpr h3, beq_eq_false_iff_ne.mpr h4, beq_eq_false_iff_ne.mpr h5]
theorem put_now (t b l n : Int) (r : Addr) (k : Bool) (m : Int) : putF "now" (V.int m) (flds t b l n r k) = flds t b l m r k := by
  unfold flds
  simp only [putF, if_neg ne_turns_now, if_neg ne_bells_now, if_neg ne_late_now, if_true]
theorem put_reading (t b l n : Int) (r : Addr) (k : Bool) (q : Addr) : putF "reading" (V.ref q) (flds t b l n r k) = flds t b l n q k := by
  unfold flds
  simp only [putF, if_neg ne_turns_reading, if_neg ne_bells_reading, if_neg ne_late_reading, if_neg ne_now_reading, if_true]
theorem put_known (t b l n : Int) (r : Addr) (k : Bool) (j : Bool) : putF "known" (V.bl j) (flds t b l n r k) = flds t b l n r j := by
  unfold flds
  simp only [putF, if_neg ne_turns_known, if_neg ne_bells_known, if_neg ne_late_known, if_neg ne_now_known, if_neg ne_reading_known, if_true]
theorem put_all (t b l n : Int) (r : Addr) (k : Bool) : putF "known" (V.bl k) (putF "reading" (V.ref r) (putF "now" (V.int n) (putF "late" (V.int l) (putF "bells" (V.int b) (putF "turns" (V.int t) []))))) = flds t b l n r k := by
  unfold flds
  simp only [putF, if_neg ne_turns_bells, if_neg ne_turns_late, if_neg ne_bells_late, if_neg ne_turns_now, if_neg ne_bells_now, if_neg ne_late_now, if_neg ne_turns_reading, if_neg ne_bells_reading, if_neg ne_late_reading, if_neg ne_now_reading, if_neg ne_turns_known, if_neg ne_bells_known, if_neg ne_late_known, if_neg ne_now_known, if_neg ne_reading_known]
noncomputable def ear (b n : Int) (qs : List Int) : List Int := qs ++ (List.range (b - (qs.length : Int)).toNat).map (fun (i : Nat) => n + 1 + (i : Int))
noncomputable def SameX (x : Addr) (H H' : Hp) : Prop := ∀ a o, H a = some o → a ≠ x → H' a = some o
theorem SameX.of {x : Addr} {H H' : Hp} (s : Same H H') : SameX x H H' := fun a o h _ => s a o h
theorem SameX.trans {x : Addr} {H H' H2 : Hp} (s : SameX x H H') (s2 : SameX x H' H2) : SameX x H H2 := fun a o h n => s2 a o (s a o h n) n
theorem SameX.put {x : Addr} {H H' : Hp} {o : HO} (s : SameX x H H') : SameX x H (upd H' x o) := fun a v h n => by rw [upd_ne n]; exact s a v h n
theorem SameX.new {x p : Addr} {H H' : Hp} {o : HO} (s : SameX x H H') (hp : H' p = none) : SameX x H (upd H' p o) := fun a v h n => (Same.new hp) a v (s a v h n)
theorem flat_one (v : Int) : ∀ m : Nat, (List.replicate m [V.int v]).flatten = (List.replicate m v).map V.int
  | 0 => rfl
  | m + 1 => by
    rw [List.replicate_succ, List.flatten_cons, flat_one v m, List.replicate_succ, List.map_cons]
    rfl
structure HrT (K : PySem.W.Frag) (C : Addr) : Prop where
  cl : Cls K C
  n1 : NoAttr K C "turns"
  n2 : NoAttr K C "bells"
  n3 : NoAttr K C "late"
  n4 : NoAttr K C "now"
  n5 : NoAttr K C "reading"
  n6 : NoAttr K C "known"
theorem no_last {t b l n : Int} {r : Addr} {k : Bool} : (flds t b l n r k).lookup ("is_last_turn" : Str) = none := lk_no (by decide +kernel) (by decide +kernel) (by decide +kernel) (by decide +kernel) (by decide +kernel) (by decide +kernel)
theorem no_ear {t b l n : Int} {r : Addr} {k : Bool} : (flds t b l n r k).lookup ("earliest" : Str) = none := lk_no (by decide +kernel) (by decide +kernel) (by decide +kernel) (by decide +kernel) (by decide +kernel) (by decide +kernel)
theorem no_knows {t b l n : Int} {r : Addr} {k : Bool} : (flds t b l n r k).lookup ("knows" : Str) = none := lk_no (by decide +kernel) (by decide +kernel) (by decide +kernel) (by decide +kernel) (by decide +kernel) (by decide +kernel)
theorem no_go {t b l n : Int} {r : Addr} {k : Bool} : (flds t b l n r k).lookup ("go_on" : Str) = none := lk_no (by decide +kernel) (by decide +kernel) (by decide +kernel) (by decide +kernel) (by decide +kernel) (by decide +kernel)
theorem no_turn {t b l n : Int} {r : Addr} {k : Bool} : (flds t b l n r k).lookup ("turn" : Str) = none := lk_no (by decide +kernel) (by decide +kernel) (by decide +kernel) (by decide +kernel) (by decide +kernel) (by decide +kernel)
theorem flds_len {t b l n : Int} {r : Addr} {k : Bool} : (flds t b l n r k).length < 1000 := by show 6 < 1000; decide
section
variable {P : Program} {w : World} {K : PySem.W.Frag} {mg : Str → Option Value} {base : Heap} {C : Addr}
noncomputable def spLast (C : Addr) : Sp := fun vs H Q _ => ∃ (x dx r : Addr) (t b l n : Int) (k : Bool), vs = [.ref x] ∧ H x = some (.ins C dx (flds t b l n r k)) ∧ Q (.bl (decide (n = t + l - 1))) H
theorem sc_Hearer_is_last_turn : FnScope ["self"] ["self"] (defScope st_Hearer_is_last_turn) := ⟨rfl, rfl, rfl, by decide +kernel, rfl, by decide +kernel, by decide +kernel⟩
theorem ok_last {f : Addr} {fd : FuncData} (F : FunD K "is_last_turn" "Hearer.is_last_turn" st_Hearer_is_last_turn f fd) (T : Txt K mg) (hT : HrT K C) : FnOk P w K mg base CX0 1 f fd ["self"] (spLast C) := by
  refine F.ok sc_Hearer_is_last_turn (fun vs H Q E h => ?_) (fun cdv A outer s H vs Q E hr h => ?_)
  · obtain ⟨x, dx, r, t, b, l, n, k, rfl, _⟩ := h
    rfl
  · obtain ⟨x, dx, r, t, b, l, n, k, rfl, hx, q⟩ := h
    refine ⟨_, (pss_one (ps_ret (pe_cmpR op_eqI (pe_fld (pv 0) rfl) (pe_op op_subI (pe_op op_addI (pe_fld (pv 0) rfl) (pe_fld (pv 0) rfl)) pe_int) (nomark _)))), ?_⟩
    exact ⟨_, rfl, x, C, dx, _, _, rfl, hx, hT.cl, hT.n4, lk_now .., _, rfl, x, C, dx, _, _, rfl, hx, hT.cl, hT.n1, lk_turns .., _, rfl, x, C, dx, _, _, rfl, hx, hT.cl, hT.n3, lk_late .., _, _, rfl, rfl, _, _, rfl, rfl, _, _, rfl, rfl, q⟩
noncomputable def spGo (C : Addr) : Sp := fun vs H Q _ => ∃ (x dx r qa : Addr) (t b l n : Int) (k kb : Bool), vs = [.ref x, .ref qa, .bl kb] ∧ H x = some (.ins C dx (flds t b l n r k)) ∧
  ∀ (n' : Int) (r' : Addr) (k' : Bool) (H' : Hp), SameX x H H' → H' x = some (.ins C dx (flds t b l n' r' k')) → ((n = t + l - 1 ∧ n' = 0 ∧ k' = false ∧ H r' = none ∧ H' r' = some (.lst [])) ∨ (¬ n = t + l - 1 ∧ n' = n + 1 ∧ r' = qa ∧ k' = kb)) → Q .non H'
theorem sc_Hearer_go_on : FnScope ["self", "reading", "known"] ["self", "reading", "known"] (defScope st_Hearer_go_on) := ⟨rfl, rfl, rfl, by decide +kernel, rfl, by decide +kernel, by decide +kernel⟩
theorem ok_go {f : Addr} {fd : FuncData} (F : FunD K "go_on" "Hearer.go_on" st_Hearer_go_on f fd) (T : Txt K mg) (hT : HrT K C) (M_is_last_turn : Mt P w K mg base 1 C "is_last_turn" ["self"] (spLast C)) : FnOk P w K mg base CX0 2 f fd ["self", "reading", "known"] (spGo C) := by
  refine F.ok sc_Hearer_go_on (fun vs H Q E h => ?_) (fun cdv A outer s H vs Q E hr h => ?_)
  · obtain ⟨x, dx, r, qa, t, b, l, n, k, kb, rfl, _⟩ := h
    rfl
  · obtain ⟨x, dx, r, qa, t, b, l, n, k, kb, rfl, hx, q⟩ := h
    refine ⟨_, (pss_one (ps_if (pt_val (pe_mt0 (pv 0) M_is_last_turn (hr.mono (by decide))))
        (pss_cons (ps_fld (pv 0) pe_int rfl)
        (pss_cons (ps_fld (pv 0) (pe_lst pa_nil) rfl)
        (pss_one (ps_fld (pv 0) pe_bl rfl))))
        (pss_cons (ps_fld (pv 0) (pe_op op_addI (pe_fld (pv 0) rfl) pe_int) rfl)
        (pss_cons (ps_fld (pv 0) (pv 1) rfl)
        (pss_one (ps_fld (pv 0) (pv 2) rfl)))))), ?_⟩
    refine ⟨_, rfl, x, dx, _, rfl, hx, no_last, x, dx, r, t, b, l, n, k, rfl, hx, _, rfl, ifD (fun z => ?_) (fun z => ?_)⟩
    · refine ⟨_, rfl, x, C, dx, _, rfl, hx, hT.cl, hT.n4, flds_len, ?_⟩
      rw [put_now]
      refine ⟨(by decide), fun r' hr' => ?_⟩
      have nr : r' ≠ x := fun e => by rw [e, upd_same] at hr'; cases hr'
      have h1 : (upd (upd H x (.ins C dx (flds t b l 0 r k))) r' (.lst [])) x = some (.ins C dx (flds t b l 0 r k)) := (Same.new hr') _ _ upd_same
      refine ⟨_, rfl, x, C, dx, _, rfl, h1, hT.cl, hT.n5, flds_len, ?_⟩
      rw [put_reading]
      refine ⟨_, rfl, x, C, dx, _, rfl, upd_same, hT.cl, hT.n6, flds_len, ?_⟩
      rw [put_known]
      refine q 0 r' false _ (((SameX.of (Same.refl _)).put.new hr').put.put) upd_same (.inl ⟨z, rfl, rfl, ?_, ?_⟩)
      · rw [upd_ne nr] at hr'; exact hr'
      · rw [upd_ne nr, upd_ne nr, upd_same]
    · refine ⟨_, rfl, x, C, dx, _, _, rfl, hx, hT.cl, hT.n4, lk_now .., _, _, rfl, rfl, _, rfl, x, C, dx, _, rfl, hx, hT.cl, hT.n4, flds_len, ?_⟩
      rw [put_now]
      refine ⟨_, rfl, _, rfl, x, C, dx, _, rfl, upd_same, hT.cl, hT.n5, flds_len, ?_⟩
      rw [put_reading]
      refine ⟨_, rfl, _, rfl, x, C, dx, _, rfl, upd_same, hT.cl, hT.n6, flds_len, ?_⟩
      rw [put_known]
      exact q _ qa kb _ ((SameX.of (Same.refl _)).put.put.put) upd_same (.inr ⟨z, rfl, rfl, rfl⟩)
noncomputable def spEar (C : Addr) : Sp := fun vs H Q _ => ∃ (x dx r qa : Addr) (t b l n : Int) (k : Bool) (qs : List Int), vs = [.ref x, .ref qa] ∧ H x = some (.ins C dx (flds t b l n r k)) ∧ H qa = some (.lst (qs.map V.int)) ∧ (qs.length : Int) ≤ b ∧ b ≤ 60 ∧
  ∀ (p : Addr) (H' : Hp), Same H H' → H p = none → H' p = some (.lst ((ear b n qs).map V.int)) → Q (.ref p) H'
theorem sc_Hearer_earliest : FnScope ["self", "reading", "missing"] ["self", "reading"] (defScope st_Hearer_earliest) := ⟨rfl, rfl, rfl, by decide +kernel, rfl, by decide +kernel, by decide +kernel⟩
theorem ok_ear {f : Addr} {fd : FuncData} (F : FunD K "earliest" "Hearer.earliest" st_Hearer_earliest f fd) (T : Txt K mg) (hT : HrT K C) : FnOk P w K mg base CX0 1 f fd ["self", "reading"] (spEar C) := by
  refine F.ok sc_Hearer_earliest (fun vs H Q E h => ?_) (fun cdv A outer s H vs Q E hr h => ?_)
  · obtain ⟨x, dx, r, qa, t, b, l, n, k, qs, rfl, _⟩ := h
    rfl
  · obtain ⟨x, dx, r, qa, t, b, l, n, k, qs, rfl, hx, hq, hl, b60, q⟩ := h
    refine ⟨_, (pss_cons (ps_set (i := 2) sc_Hearer_earliest.nd rfl (Or.inl rfl) (pe_op op_subI (pe_fld (pv 0) rfl) (pe_callB call_len_seq (by rfl) T.z_len b_len (pa_cons (pv 1) pa_nil))))
      (pss_one (ps_ret (pe_op op_cat (pv 1) (pe_comp (own := ["place"]) (fr := ["self"]) (ix := [0]) rfl ⟨rfl, rfl, rfl, rfl, rfl, rfl⟩ (pi_range1 (by rfl) T.z_range (pa_cons (pv 2) pa_nil)) (fun _ _ _ _ _ => (pg_name (i := 0) (show (["place", "self"] : List Str).Nodup by decide +kernel) rfl (Or.inl rfl))) (fun _ _ _ _ _ => pts_nil) (fun _ _ _ _ _ => (pe_op op_addI (pe_op op_addI (pe_fldK K (pv 1) rfl) pe_int) (pv 0)))))))), ?_⟩
    refine ⟨_, rfl, x, C, dx, _, _, rfl, hx, hT.cl, hT.n2, lk_bells .., _, rfl, _, _, rfl, .inl (SqL.of hq), _, _, rfl, rfl, ?_⟩
    rw [List.length_map]
    refine ⟨_, rfl, _, rfl, b - (qs.length : Int), rfl, by omega, by omega, fun acc hacc => comp_rangeP (lo := 0) (n := (b - (qs.length : Int)).toNat) (fun i => V.int (n + 1 + (i : Int))) hacc (Nat.le_of_lt (small1000 (by omega))) (fun i H6 R hi s6 hR => ?_) ?_⟩
    · rw [show (0 : Int) + (i : Int) = (i : Int) by omega]
      exact ⟨rfl, _, rfl, x, C, dx, _, _, rfl, s6 _ _ hx, hT.cl, hT.n4, lk_now .., _, _, rfl, rfl, _, rfl, _, _, rfl, rfl, hR⟩
    refine ⟨qa, acc, _, _, rfl, rfl, (Same.new hacc) _ _ hq, upd_same, ?_, fun p hp => ?_⟩
    · rw [List.length_map, List.length_map, List.length_range]
      exact Nat.le_of_lt (small1000 (by omega))
    refine q p _ ((Same.new hacc).put hp) ((Same.new hacc).free hp) ?_
    rw [upd_same]
    unfold ear
    rw [List.map_append, List.map_map]
    rfl
theorem ear_len {b n : Int} {qs : List Int} (h : (qs.length : Int) ≤ b) : (ear b n qs).length = b.toNat := by
  unfold ear
  rw [List.length_append, List.length_map, List.length_range]
  omega
noncomputable def spInitE (C CR : Addr) : Sp := fun vs H Q E => ∃ (x dx : Addr) (t b l : Int), vs = [.ref x, .int t, .int b, .int l] ∧ H x = some (.ins C dx []) ∧ 0 ≤ b ∧
  (1 ≤ b ∧ b ≤ t → ∀ (r : Addr) (H' : Hp), SameX x H H' → H r = none → H' x = some (.ins C dx (flds t b l 0 r false)) → H' r = some (.lst []) → Q .non H') ∧ (¬ (1 ≤ b ∧ b ≤ t) → E (.ref CR) none H)
theorem sc_Hearer_init : FnScope ["self", "turns", "bells", "late"] ["self", "turns", "bells", "late"] (defScope st_Hearer_init) := ⟨rfl, rfl, rfl, by decide +kernel, rfl, by decide +kernel, by decide +kernel⟩
theorem ok_init {f : Addr} {fd : FuncData} (F : FunD K "__init__" "Hearer.__init__" st_Hearer_init f fd) (T : Txt K mg) (hT : HrT K C) {C_NoRow : Addr} (GE_refuse_silent : FnE P w K mg base 1 "refuse_silent" ["turns", "bells"] (spSilE C_NoRow)) : FnOk P w K mg base (CXE P w) 2 f fd ["self", "turns", "bells", "late"] (spInitE C C_NoRow) := by
  refine F.okE sc_Hearer_init (fun vs H Q E h => ?_) (fun cdv A outer s H vs Q E hr h => ?_)
  · obtain ⟨x, dx, t, b, l, rfl, _⟩ := h
    rfl
  · obtain ⟨x, dx, t, b, l, rfl, hx, b0, q1, q2⟩ := h
    refine ⟨_, (pss_cons (ps_expr (pe_fnG GE_refuse_silent (hr.mono (by decide)) (by rfl) passesE (pa_cons (pv 1) (pa_cons (pv 2) pa_nil))))
      (pss_cons (ps_fld (pv 0) (pv 1) rfl)
      (pss_cons (ps_fld (pv 0) (pv 2) rfl)
      (pss_cons (ps_fld (pv 0) (pv 3) rfl)
      (pss_cons (ps_fld (pv 0) pe_int rfl)
      (pss_cons (ps_fld (pv 0) (pe_lst pa_nil) rfl)
      (pss_one (ps_fld (pv 0) pe_bl rfl)))))))), ?_⟩
    refine ⟨_, rfl, _, rfl, t, b, rfl, b0, fun g => ?_, q2⟩
    refine ⟨_, rfl, _, rfl, x, C, dx, _, rfl, hx, hT.cl, hT.n1, (by show 0 < 1000; decide), ?_⟩
    refine ⟨_, rfl, _, rfl, x, C, dx, _, rfl, upd_same, hT.cl, hT.n2, (by show 1 < 1000; decide), ?_⟩
    refine ⟨_, rfl, _, rfl, x, C, dx, _, rfl, upd_same, hT.cl, hT.n3, (by simp only [putF, if_neg ne_turns_bells]; show 2 < 1000; decide), ?_⟩
    refine ⟨_, rfl, x, C, dx, _, rfl, upd_same, hT.cl, hT.n4, (by simp only [putF, if_neg ne_turns_bells, if_neg ne_turns_late, if_neg ne_bells_late]; show 3 < 1000; decide), ?_⟩
    refine ⟨(by decide), fun r hr' => ?_⟩
    have nr : r ≠ x := fun e => by rw [e, upd_same] at hr'; cases hr'
    refine ⟨_, rfl, x, C, dx, _, rfl, (Same.new hr') _ _ upd_same, hT.cl, hT.n5, (by simp only [putF, if_neg ne_turns_bells, if_neg ne_turns_late, if_neg ne_bells_late, if_neg ne_turns_now, if_neg ne_bells_now, if_neg ne_late_now]; show 4 < 1000; decide), ?_⟩
    refine ⟨_, rfl, x, C, dx, _, rfl, upd_same, hT.cl, hT.n6, (by simp only [putF, if_neg ne_turns_bells, if_neg ne_turns_late, if_neg ne_bells_late, if_neg ne_turns_now, if_neg ne_bells_now, if_neg ne_late_now, if_neg ne_turns_reading, if_neg ne_bells_reading, if_neg ne_late_reading, if_neg ne_now_reading]; show 5 < 1000; decide), ?_⟩
    rw [put_all]
    refine q1 g r _ ((((((SameX.of (Same.refl _)).put.put.put.put).new hr').put).put)) ?_ upd_same ?_
    · rw [upd_ne nr, upd_ne nr, upd_ne nr, upd_ne nr] at hr'; exact hr'
    · rw [upd_ne nr, upd_ne nr, upd_same]
noncomputable def spKnE (C CN : Addr) (KN : Int → Int → Int → Int → List Int → Option Bool) : Sp := fun vs H Q E => ∃ (x dx r qa : Addr) (t b l n : Int) (k : Bool) (qs : List Int), vs = [.ref x, .ref qa] ∧ H x = some (.ins C dx (flds t b l n r k)) ∧ H qa = some (.lst (qs.map V.int)) ∧ (qs.length : Int) ≤ b ∧ b ≤ 60 ∧ 1 ≤ b ∧ 0 ≤ l ∧ intBits l ≤ 100 ∧
  (∀ kb, KN t b l n qs = some kb → ∀ (H' : Hp), Same H H' → Q (.bl kb) H') ∧ (KN t b l n qs = none → ∀ (H' : Hp), Same H H' → E (.ref CN) none H')
noncomputable def spTurnE (C CN : Addr) (KN : Int → Int → Int → Int → List Int → Option Bool) : Sp := fun vs H Q E => ∃ (x dx r : Addr) (t b l n many : Int) (k : Bool) (rd : List Int), vs = [.ref x, .int many] ∧ H x = some (.ins C dx (flds t b l n r k)) ∧ H r = some (.lst (rd.map V.int)) ∧ (rd.length : Int) ≤ b ∧ b ≤ 60 ∧ 1 ≤ b ∧ 0 ≤ l ∧ intBits l ≤ 100 ∧ intBits t ≤ 1000 ∧
  (0 ≤ many → (rd.length : Int) + many ≤ b → Szs 70000 (boxL l (ear b n (rd ++ List.replicate many.toNat n)))) ∧
  ((many < 0 ∨ b < (rd.length : Int) + many ∨ KN t b l n (rd ++ List.replicate many.toNat n) = none ∨ (KN t b l n (rd ++ List.replicate many.toNat n) = some true ∧ k = false ∧ ¬ GoodR t b l (ear b n (rd ++ List.replicate many.toNat n)))) → ∀ (H' : Hp), Same H H' → E (.ref CN) none H') ∧
  (∀ kb, 0 ≤ many → (rd.length : Int) + many ≤ b → KN t b l n (rd ++ List.replicate many.toNat n) = some kb → (kb = true → k = false → GoodR t b l (ear b n (rd ++ List.replicate many.toNat n))) →
    ∀ (p r' : Addr) (n' : Int) (k' : Bool) (rd' : List Int) (H' : Hp), SameX x H H' → H p = none → H r' = none → p ≠ r' → H' p = some (.lst ((if kb = true ∧ k = false then [numB (boxL l (ear b n (rd ++ List.replicate many.toNat n)))] else []).map V.int)) → H' x = some (.ins C dx (flds t b l n' r' k')) → H' r' = some (.lst (rd'.map V.int)) →
    ((n = t + l - 1 ∧ n' = 0 ∧ k' = false ∧ rd' = []) ∨ (¬ n = t + l - 1 ∧ n' = n + 1 ∧ k' = kb ∧ rd' = rd ++ List.replicate many.toNat n)) → Q (.ref p) H')
theorem sc_Hearer_turn : FnScope ["self", "many", "reading", "known", "messages"] ["self", "many"] (defScope st_Hearer_turn) := ⟨rfl, rfl, rfl, by decide +kernel, rfl, by decide +kernel, by decide +kernel⟩
theorem ok_turnE {f : Addr} {fd : FuncData} (F : FunD K "turn" "Hearer.turn" st_Hearer_turn f fd) (T : Txt K mg) (hT : HrT K C) {C_NoReading : Addr} (m_NoReading : mg "NoReading" = some (.ref C_NoReading)) (x_NoReading : PySem.W.excIn K C_NoReading bmV "ValueError.__new__" = true) {KN : Int → Int → Int → Int → List Int → Option Bool} (ME_knows : MtE P w K mg base 3 C "knows" ["self", "reading"] (spKnE C C_NoReading KN)) (M_earliest : Mt P w K mg base 1 C "earliest" ["self", "reading"] (spEar C)) (M_go_on : Mt P w K mg base 2 C "go_on" ["self", "reading", "known"] (spGo C)) (GE_read : FnE P w K mg base 3 "read" ["reading", "turns", "bells", "late"] (spReadE K C_NoReading)) : FnOk P w K mg base (CXE P w) 4 f fd ["self", "many"] (spTurnE C C_NoReading KN) := by
  refine F.okE sc_Hearer_turn (fun vs H Q E h => ?_) (fun cdv A outer s H vs Q E hr h => ?_)
  · obtain ⟨x, dx, r, t, b, l, n, many, k, rd, rfl, _⟩ := h
    rfl
  · obtain ⟨x, dx, r, t, b, l, n, many, k, rd, rfl, hx, hrd, rb, b60, b1, l0, lb, tb, sz, qE, q⟩ := h
    refine ⟨_, (pss_cons (ps_if (pt_cmpR op_ltI (pv 1) pe_int (nomark _))
        (pss_one (ps_raise PySem.F.excBase_ValueError x_NoReading (by rfl) m_NoReading (pa_cons pe_str pa_nil)))
        pss_nil)
      (pss_cons (ps_if (pt_cmpR op_gtI (pe_op op_addI (pe_callB call_len_seq (by rfl) T.z_len b_len (pa_cons (pe_fld (pv 0) rfl) pa_nil)) (pv 1)) (pe_fld (pv 0) rfl) (nomark _))
        (pss_one (ps_raise PySem.F.excBase_ValueError x_NoReading (by rfl) m_NoReading (pa_cons pe_str pa_nil)))
        pss_nil)
      (pss_cons (ps_set (i := 2) sc_Hearer_turn.nd rfl (Or.inl rfl) (pe_op op_cat (pe_fld (pv 0) rfl) (pe_op op_rep (pe_lst (pa_cons (pe_fld (pv 0) rfl) pa_nil)) (pv 1))))
      (pss_cons (ps_set (i := 3) sc_Hearer_turn.nd rfl (Or.inl rfl) (pe_mtG (pv 0) ME_knows (hr.mono (by decide)) passesE (pa_cons (pv 2) pa_nil)))
      (pss_cons (ps_set (i := 4) sc_Hearer_turn.nd rfl (Or.inl rfl) (pe_lst pa_nil))
      (pss_cons (ps_if (pw_and (pt_val (pv 3)) (pw_and1 (pt_not (pt_val (pe_fld (pv 0) rfl))))).pt
        (pss_one (ps_expr (pe_bm PySem.F.plainAttrs_list PySem.F.slot_list_append PySem.F.type_list_append mt_append (pv 4) (pa_cons (pe_fnG GE_read (hr.mono (by decide)) (by rfl) passesE (pa_cons (pe_mt (pv 0) M_earliest (hr.mono (by decide)) (pa_cons (pv 2) pa_nil)) (pa_cons (pe_fld (pv 0) rfl) (pa_cons (pe_fld (pv 0) rfl) (pa_cons (pe_fld (pv 0) rfl) pa_nil))))) pa_nil))))
        pss_nil)
      (pss_cons (ps_expr (pe_mt (pv 0) M_go_on (hr.mono (by decide)) (pa_cons (pv 2) (pa_cons (pv 3) pa_nil))))
      (pss_one (ps_ret (pv 4)))))))))), ?_⟩
    have lb8 : intBits l ≤ 8000 := bits_mono lb (by decide)
    refine ⟨_, rfl, _, _, rfl, rfl, _, rfl, ifD (fun z => ⟨(by decide), qE (.inl z) H (Same.refl _)⟩) (fun m0 => ?_)⟩
    refine ⟨_, rfl, x, C, dx, _, _, rfl, hx, hT.cl, hT.n5, lk_reading .., _, _, rfl, .inl (SqL.of hrd), _, rfl, _, _, rfl, rfl, _, rfl, x, C, dx, _, _, rfl, hx, hT.cl, hT.n2, lk_bells .., _, _, rfl, rfl, _, rfl, ?_⟩
    rw [List.length_map]
    refine ifD (fun z => ⟨(by decide), qE (.inr (.inl (by omega))) H (Same.refl _)⟩) (fun mb => ?_)
    have m0 : 0 ≤ many := by omega
    have mb : (rd.length : Int) + many ≤ b := by omega
    have hl : ((rd ++ List.replicate many.toNat n).length : Int) ≤ b := by rw [List.length_append, List.length_replicate]; omega
    have sz := sz m0 mb
    have q := fun kb => q kb m0 mb
    refine ⟨_, rfl, x, C, dx, _, _, rfl, hx, hT.cl, hT.n5, lk_reading .., _, rfl, x, C, dx, _, _, rfl, hx, hT.cl, hT.n4, lk_now .., (by show 1 ≤ sizeLine; decide), fun a1 ha1 => ⟨_, rfl, a1, many, _, rfl, rfl, upd_same, by omega, by omega, ?_, fun a2 ha2 => ?_⟩⟩
    · show 1 * many.toNat ≤ sizeLine
      exact Nat.le_of_lt (small1000 (by omega))
    rw [flat_one]
    refine ⟨r, a2, _, _, rfl, rfl, ((Same.new ha1).put ha2) _ _ hrd, upd_same, ?_, fun p3 hp3 => ?_⟩
    · rw [List.length_map, List.length_map, List.length_replicate]
      exact Nat.le_of_lt (small1000 (by omega))
    rw [← List.map_append]
    have s3 : Same H (upd (upd (upd H a1 (.lst [V.int n])) a2 (.lst ((List.replicate many.toNat n).map V.int))) p3 (.lst ((rd ++ List.replicate many.toNat n).map V.int))) := ((Same.new ha1).put ha2).put hp3
    have hp3H : H p3 = none := ((Same.new ha1).put ha2).free hp3
    have hq3 : (upd (upd (upd H a1 (.lst [V.int n])) a2 (.lst ((List.replicate many.toNat n).map V.int))) p3 (.lst ((rd ++ List.replicate many.toNat n).map V.int))) p3 = some (.lst ((rd ++ List.replicate many.toNat n).map V.int)) := upd_same
    generalize upd (upd (upd H a1 (.lst [V.int n])) a2 (.lst ((List.replicate many.toNat n).map V.int))) p3 (.lst ((rd ++ List.replicate many.toNat n).map V.int)) = H3 at s3 hq3 ⊢
    generalize rd ++ List.replicate many.toNat n = qs at hl sz qE q hq3 ⊢
    refine ⟨_, rfl, x, dx, _, rfl, s3 _ _ hx, no_knows, _, rfl, x, dx, r, p3, t, b, l, n, k, qs, rfl, s3 _ _ hx, hq3, hl, b60, b1, l0, lb, fun kb hkb H4 s4 => ?_, fun z H4 s4 => qE (.inr (.inr (.inl z))) H4 (s3.trans s4)⟩
    have q := q kb hkb
    refine ⟨(by decide), fun pm hpm => ?_⟩
    have s5 : Same H (upd H4 pm (.lst [])) := (s3.trans s4).put hpm
    have hm5 : (upd H4 pm (.lst [])) pm = some (.lst []) := upd_same
    have hq5 : (upd H4 pm (.lst [])) p3 = some (.lst (qs.map V.int)) := (Same.new hpm) _ _ (s4 _ _ hq3)
    have hpmH : H pm = none := (s3.trans s4).free hpm
    have nmq : pm ≠ p3 := fun e => by rw [e, s4 _ _ hq3] at hpm; cases hpm
    have nmx : pm ≠ x := fun e => by rw [e, hx] at hpmH; cases hpmH
    have nqx : p3 ≠ x := fun e => by rw [e, hx] at hp3H; cases hp3H
    generalize upd H4 pm (.lst []) = H5 at s5 hm5 hq5 ⊢
    have hx5 := s5 _ _ hx
    have fin : (kb = true → k = false → GoodR t b l (ear b n qs)) → ∀ (Hm : Hp), SameX x H Hm → Hm x = some (.ins C dx (flds t b l n r k)) → Hm p3 = some (.lst (qs.map V.int)) → Hm pm = some (.lst ((if kb = true ∧ k = false then [numB (boxL l (ear b n qs))] else []).map V.int)) →
        ∀ (n' : Int) (r' : Addr) (k' : Bool) (H6 : Hp), SameX x Hm H6 → H6 x = some (.ins C dx (flds t b l n' r' k')) → ((n = t + l - 1 ∧ n' = 0 ∧ k' = false ∧ Hm r' = none ∧ H6 r' = some (.lst [])) ∨ (¬ n = t + l - 1 ∧ n' = n + 1 ∧ r' = p3 ∧ k' = kb)) → Q (.ref pm) H6 := by
      intro gg Hm sm hxm hqm hmm n' r' k' H6 s6 hx6 cs
      rcases cs with ⟨c1, c2, c3, c4, c5⟩ | ⟨c1, c2, c3, c4⟩
      · have nr : r' ≠ x := fun e => by rw [e, hxm] at c4; cases c4
        have hr0 : H r' = none := by
          cases e : H r' with
          | none => rfl
          | some o => have := sm _ _ e nr; rw [c4] at this; cases this
        exact q gg pm r' n' k' [] H6 (sm.trans s6) hpmH hr0 (fun e => by rw [← e, hmm] at c4; cases c4) (s6 _ _ hmm nmx) hx6 c5 (.inl ⟨c1, c2, c3, rfl⟩)
      · subst c3
        exact q gg pm r' n' k' qs H6 (sm.trans s6) hpmH hp3H nmq (s6 _ _ hmm nmx) hx6 (s6 _ _ hqm nqx) (.inr ⟨c1, c2, c4, rfl⟩)
    cases kb with
    | false =>
      refine ⟨_, rfl, _, rfl, iteF ?_⟩
      exact ⟨_, rfl, x, dx, _, rfl, hx5, no_go, _, rfl, _, rfl, x, dx, r, p3, t, b, l, n, k, false, rfl, hx5, fun n' r' k' H6 s6 hx6 cs => ⟨_, rfl, fin (fun z => nomatch z) H5 (SameX.of s5) hx5 hq5 hm5 n' r' k' H6 s6 hx6 cs⟩⟩
    | true =>
      refine ⟨_, rfl, _, rfl, iteT ⟨_, rfl, x, C, dx, _, _, rfl, hx5, hT.cl, hT.n6, lk_known .., _, rfl, ?_⟩⟩
      cases k with
      | true =>
        refine iteF ?_
        exact ⟨_, rfl, x, dx, _, rfl, hx5, no_go, _, rfl, _, rfl, x, dx, r, p3, t, b, l, n, true, true, rfl, hx5, fun n' r' k' H6 s6 hx6 cs => ⟨_, rfl, fin (fun _ z => nomatch z) H5 (SameX.of s5) hx5 hq5 hm5 n' r' k' H6 s6 hx6 cs⟩⟩
      | false =>
        refine iteT ?_
        refine ⟨_, rfl, .inl ⟨rfl, _, SqL.of hm5⟩, _, rfl, x, dx, _, rfl, hx5, no_ear, _, rfl, x, dx, r, p3, t, b, l, n, false, qs, rfl, hx5, hq5, hl, b60, fun pe H6 s6 _ hE => ?_⟩
        have hx6 := s6 _ _ hx5
        refine ⟨_, rfl, x, C, dx, _, _, rfl, hx6, hT.cl, hT.n1, lk_turns .., _, rfl, x, C, dx, _, _, rfl, hx6, hT.cl, hT.n2, lk_bells .., _, rfl, x, C, dx, _, _, rfl, hx6, hT.cl, hT.n3, lk_late .., pe, ear b n qs, t, b, l, rfl, SqL.of hE, by rw [ear_len hl]; omega, by omega, b60, l0, lb8, bits_mono tb (by decide), sz, fun gd H7 s7 => ?_, fun ng H7 s7 => qE (.inr (.inr (.inr ⟨hkb, rfl, ng⟩))) H7 ((s5.trans s6).trans s7)⟩
        have s57 := s6.trans s7
        refine ⟨pm, _, _, rfl, rfl, s57 _ _ hm5, (by show 0 < sizeLine; decide), ?_⟩
        have hx8 : (upd H7 pm (.lst ([] ++ [V.int (numB (boxL l (ear b n qs)))]))) x = some (.ins C dx (flds t b l n r false)) := by rw [upd_ne nmx.symm]; exact s57 _ _ hx5
        have hq8 : (upd H7 pm (.lst ([] ++ [V.int (numB (boxL l (ear b n qs)))]))) p3 = some (.lst (qs.map V.int)) := by rw [upd_ne nmq.symm]; exact s57 _ _ hq5
        have s8 : SameX x H (upd H7 pm (.lst ([] ++ [V.int (numB (boxL l (ear b n qs)))]))) := fun a o e _ => by rw [upd_ne (ne_of_none e hpmH)]; exact s57 _ _ (s5 _ _ e)
        have hm8 : (upd H7 pm (.lst ([] ++ [V.int (numB (boxL l (ear b n qs)))]))) pm = some (.lst ((if true = true ∧ false = false then [numB (boxL l (ear b n qs))] else []).map V.int)) := by rw [upd_same, if_pos ⟨rfl, rfl⟩]; rfl
        generalize upd H7 pm (.lst ([] ++ [V.int (numB (boxL l (ear b n qs)))])) = H8 at hx8 hq8 s8 hm8 ⊢
        exact ⟨_, rfl, x, dx, _, rfl, hx8, no_go, _, rfl, _, rfl, x, dx, r, p3, t, b, l, n, false, true, rfl, hx8, fun n' r' k' H9 s9 hx9 cs => ⟨_, rfl, fin (fun _ _ => gd) H8 s8 hx8 hq8 hm8 n' r' k' H9 s9 hx9 cs⟩⟩
end
theorem pget {α β : Type} {R : α → β → Prop} : ∀ {l : List α} {m : List β}, Paired R l m → ∀ {i : Nat} {a : α}, l[i]? = some a → ∃ b, m[i]? = some b ∧ R a b
  | _, _, .nil, _, _, h => by simp at h
  | _, _, .cons r _, 0, _, h => by
    simp at h
    subst h
    exact ⟨_, rfl, r⟩
  | _, _, .cons _ t, i + 1, _, h => by
    simp at h
    obtain ⟨b, hb, r⟩ := pget t h
    exact ⟨b, by simpa using hb, r⟩
theorem plen {α β : Type} {R : α → β → Prop} : ∀ {l : List α} {m : List β}, Paired R l m → l.length = m.length
  | _, _, .nil => rfl
  | _, _, .cons _ t => by rw [List.length_cons, List.length_cons, plen t]
theorem LL.at {H : Hp} {as : List Addr} {nss : List (List Int)} (h : Paired (fun b (ns : List Int) => H b = some (.lst (ns.map V.int))) as nss) {i : Nat} {ns : List Int} (hn : nss[i]? = some ns) : ∃ b, as[i]? = some b ∧ H b = some (.lst (ns.map V.int)) := by
  have hl := plen h
  have hi : i < as.length := by rw [hl]; exact (List.getElem?_eq_some_iff.mp hn).1
  obtain ⟨z, hz, r⟩ := pget h (List.getElem?_eq_getElem hi)
  rw [hn] at hz
  cases hz
  exact ⟨_, List.getElem?_eq_getElem hi, r⟩
theorem boxL_ear {l b n : Int} {qs : List Int} (h : (qs.length : Int) ≤ b) : boxL l (ear b n qs) = boxL l qs ++ List.replicate (b - (qs.length : Int)).toNat ((n + 1 - (qs.length : Int)) / (l + 1)) := by
  apply List.ext_getElem?
  intro i
  by_cases hi : i < qs.length
  · rw [List.getElem?_append_left (by rw [boxL_length]; exact hi), boxL_get (x := qs[i]) (by unfold ear; rw [List.getElem?_append_left hi, List.getElem?_eq_getElem hi]), boxL_get (List.getElem?_eq_getElem hi)]
  · rw [List.getElem?_append_right (by rw [boxL_length]; omega), boxL_length, List.getElem?_replicate]
    by_cases h2 : i - qs.length < (b - (qs.length : Int)).toNat
    · rw [if_pos h2, boxL_get (x := n + 1 + ((i - qs.length : Nat) : Int)) (by unfold ear; rw [List.getElem?_append_right (by omega), List.getElem?_map, List.getElem?_range h2]; rfl), show n + 1 + ((i - qs.length : Nat) : Int) - (i : Int) = n + 1 - (qs.length : Int) by omega]
    · rw [if_neg h2, List.getElem?_eq_none]
      rw [boxL_length, ear_len h]
      omega
theorem isbox_rep {fx : List Int} {k : Nat} {c : Int} (hk : 0 < k) : IsBox (fx ++ List.replicate k c) ↔ IsBox fx ∧ 0 ≤ c ∧ ∀ x ∈ fx, x ≤ c := by
  have hc : c ∈ List.replicate k c := List.mem_replicate.mpr ⟨by omega, rfl⟩
  constructor
  · intro B
    obtain ⟨p1, p2, p3⟩ := List.pairwise_append.mp B.inc
    exact ⟨⟨p1, fun x hx => B.nn x (List.mem_append_left _ hx)⟩, B.nn c (List.mem_append_right _ hc), fun x hx => p3 x hx c hc⟩
  · rintro ⟨B, c0, h⟩
    refine ⟨List.pairwise_append.mpr ⟨B.inc, List.pairwise_replicate.mpr (.inr (Int.le_refl _)), fun x hx y hy => by rw [List.eq_of_mem_replicate hy]; exact h x hx⟩, fun x hx => ?_⟩
    rcases List.mem_append.mp hx with z | z
    · exact B.nn x z
    · rw [List.eq_of_mem_replicate z]; exact c0
noncomputable def KNk (t b l n : Int) (qs : List Int) : Option Bool := open Classical in if IsBox (boxL l (ear b n qs)) ∧ ∃ z, (boxL l (ear b n qs)).getLast? = some z ∧ z ≤ (t - b) / (l + 1) then some (decide ((qs.length : Int) = b) || decide ((boxL l (ear b n qs)).getLast? = some ((t - b) / (l + 1)))) else none
theorem knk_none {t b l n : Int} {qs : List Int} : KNk t b l n qs = none ↔ ¬ (IsBox (boxL l (ear b n qs)) ∧ ∃ z, (boxL l (ear b n qs)).getLast? = some z ∧ z ≤ (t - b) / (l + 1)) := by
  unfold KNk
  constructor
  · intro h z
    rw [if_pos z] at h
    cases h
  · intro h
    rw [if_neg h]
theorem knk_some {t b l n : Int} {qs : List Int} {kb : Bool} : KNk t b l n qs = some kb ↔ (IsBox (boxL l (ear b n qs)) ∧ ∃ z, (boxL l (ear b n qs)).getLast? = some z ∧ z ≤ (t - b) / (l + 1)) ∧ kb = (decide ((qs.length : Int) = b) || decide ((boxL l (ear b n qs)).getLast? = some ((t - b) / (l + 1)))) := by
  unfold KNk
  constructor
  · intro h
    by_cases z : IsBox (boxL l (ear b n qs)) ∧ ∃ z, (boxL l (ear b n qs)).getLast? = some z ∧ z ≤ (t - b) / (l + 1)
    · rw [if_pos z] at h; exact ⟨z, (Option.some.inj h).symm⟩
    · rw [if_neg z] at h; cases h
  · rintro ⟨h, e⟩
    rw [if_pos h, e]
theorem last_rep {fx : List Int} {k : Nat} {c : Int} (hk : 0 < k) : (fx ++ List.replicate k c).getLast? = some c := by
  obtain ⟨j, rfl⟩ : ∃ j, k = j + 1 := ⟨k - 1, by omega⟩
  rw [List.replicate_succ', ← List.append_assoc, List.getLast?_append]
  rfl
theorem fx_le {l n : Int} {qs : List Int} (l0 : 0 ≤ l) (hx : ∀ x ∈ qs, x ≤ n) (B : IsBox (boxL l qs)) : ∀ x ∈ boxL l qs, x ≤ (n + 1 - (qs.length : Int)) / (l + 1) := fun x hx' => by
  have hne : 0 < qs.length := by
    rcases Nat.eq_zero_or_pos qs.length with z | z
    · rw [List.eq_nil_of_length_eq_zero z] at hx'
      exact nomatch hx'
    · exact z
  have hl : qs.length - 1 < qs.length := by omega
  obtain ⟨i, hi, ei⟩ := List.getElem_of_mem hx'
  have hi' := hi
  rw [boxL_length] at hi'
  have g := B.get (show i ≤ qs.length - 1 by omega) (by rw [List.getElem?_eq_getElem hi, ei]) (boxL_get (late := l) (List.getElem?_eq_getElem hl))
  have := hx _ (List.getElem_mem hl)
  exact Int.le_trans g (Int.ediv_le_ediv (by omega) (by omega))
theorem knk_mono {t b l n c : Int} {qs : List Int} (l0 : 0 ≤ l) (c0 : 0 ≤ c) {kb : Bool} (hm : ((qs ++ List.replicate c.toNat (n + 1)).length : Int) ≤ b) (h1 : KNk t b l n qs = some true) (h2 : KNk t b l (n + 1) (qs ++ List.replicate c.toNat (n + 1)) = some kb) : kb = true := by
  rw [(knk_some.mp h2).2]
  have ql : ((qs ++ List.replicate c.toNat (n + 1)).length : Int) = (qs.length : Int) + c := by rw [List.length_append, List.length_replicate]; omega
  by_cases full : ((qs ++ List.replicate c.toNat (n + 1)).length : Int) = b
  · rw [decide_eq_true full]; rfl
  rw [decide_eq_false full, Bool.false_or]
  have hk : 0 < (b - (qs.length : Int)).toNat := by omega
  have hk2 : 0 < (b - ((qs ++ List.replicate c.toNat (n + 1)).length : Int)).toNat := by omega
  have be := boxL_ear (l := l) (n := n) (qs := qs) (b := b) (by omega)
  have be2 := boxL_ear (l := l) (n := n + 1) hm
  have e1 := (knk_some.mp h1).2
  rw [decide_eq_false (by omega), Bool.false_or, be, last_rep hk] at e1
  have e1 := Option.some.inj (of_decide_eq_true e1.symm)
  obtain ⟨⟨B2, z, hz, zG⟩, _⟩ := knk_some.mp h2
  rw [be2, last_rep hk2] at hz
  rw [be2, last_rep hk2]
  have hz := Option.some.inj hz
  apply decide_eq_true
  rw [hz]
  congr 1
  have ge : (t - b) / (l + 1) ≤ z := by
    rw [← e1, ← hz, ql]
    by_cases c1 : c = 0
    · rw [c1]
      exact Int.ediv_le_ediv (by omega) (by omega)
    · rw [be2] at B2
      obtain ⟨B3, _, le⟩ := (isbox_rep hk2).mp B2
      have hq : qs.length < (qs ++ List.replicate c.toNat (n + 1)).length := by omega
      have a1 : (qs ++ List.replicate c.toNat (n + 1))[qs.length]? = some (n + 1) := by rw [List.getElem?_append_right (Nat.le_refl _), Nat.sub_self, List.getElem?_replicate, if_pos (by omega)]
      have a2 := boxL_get (late := l) a1
      have := le _ (List.mem_of_getElem? a2)
      rw [ql] at this
      exact this
  omega
section
variable {P : Program} {w : World} {K : PySem.W.Frag} {mg : Str → Option Value} {base : Heap} {C : Addr}
theorem sc_KeenHearer_knows : FnScope ["self", "reading", "least", "greatest"] ["self", "reading"] (defScope st_KeenHearer_knows) := ⟨rfl, rfl, rfl, by decide +kernel, rfl, by decide +kernel, by decide +kernel⟩
theorem ok_keenE {f : Addr} {fd : FuncData} (F : FunD K "knows" "KeenHearer.knows" st_KeenHearer_knows f fd) (T : Txt K mg) (hT : HrT K C) {C_NoReading : Addr} (m_NoReading : mg "NoReading" = some (.ref C_NoReading)) (x_NoReading : PySem.W.excIn K C_NoReading bmV "ValueError.__new__" = true) (M_earliest : Mt P w K mg base 1 C "earliest" ["self", "reading"] (spEar C)) (GE_heard_box : FnE P w K mg base 2 "heard_box" ["reading", "late"] (spHBoxE K C_NoReading)) (G_greatest_part : Fn P w K mg base 1 "greatest_part" ["turns", "bells", "late"] spGreat) : FnOk P w K mg base (CXE P w) 3 f fd ["self", "reading"] (spKnE C C_NoReading KNk) := by
  refine F.okE sc_KeenHearer_knows (fun vs H Q E h => ?_) (fun cdv A outer s H vs Q E hr h => ?_)
  · obtain ⟨x, dx, r, qa, t, b, l, n, k, qs, rfl, _⟩ := h
    rfl
  · obtain ⟨x, dx, r, qa, t, b, l, n, k, qs, rfl, hx, hq, hl, b60, b1, l0, lb, q1, q2⟩ := h
    refine ⟨_, (pss_cons (ps_set (i := 2) sc_KeenHearer_knows.nd rfl (Or.inl rfl) (pe_ix ix_list (pe_fnG GE_heard_box (hr.mono (by decide)) (by rfl) passesE (pa_cons (pe_mt (pv 0) M_earliest (hr.mono (by decide)) (pa_cons (pv 1) pa_nil)) (pa_cons (pe_fld (pv 0) rfl) pa_nil))) (pe_un un_neg pe_int) (fun _ _ => rfl)))
      (pss_cons (ps_set (i := 3) sc_KeenHearer_knows.nd rfl (Or.inl rfl) (pe_fn G_greatest_part (hr.mono (by decide)) (by rfl) (pa_cons (pe_fld (pv 0) rfl) (pa_cons (pe_fld (pv 0) rfl) (pa_cons (pe_fld (pv 0) rfl) pa_nil)))))
      (pss_cons (ps_if (pt_cmpR op_gtI (pv 2) (pv 3) (nomark _))
        (pss_one (ps_raise PySem.F.excBase_ValueError x_NoReading (by rfl) m_NoReading (pa_cons pe_str pa_nil)))
        pss_nil)
      (pss_one (ps_ret (pe_or (pe_cmpR op_eqI (pe_callB call_len_seq (by rfl) T.z_len b_len (pa_cons (pv 1) pa_nil)) (pe_fld (pv 0) rfl) (nomark _)) (pe_one (pe_cmpR op_eqI (pv 2) (pv 3) (nomark _))))))))), ?_⟩
    have lb8 : intBits l ≤ 8000 := bits_mono lb (by decide)
    have el := ear_len (n := n) hl
    refine ⟨_, rfl, x, dx, _, rfl, hx, no_ear, _, rfl, x, dx, r, qa, t, b, l, n, k, qs, rfl, hx, hq, hl, b60, fun p H1 s1 hp h1 => ?_⟩
    refine ⟨_, rfl, x, C, dx, _, _, rfl, s1 _ _ hx, hT.cl, hT.n3, lk_late .., p, ear b n qs, l, rfl, SqL.of h1, by rw [el]; omega, l0, lb8, fun B p2 H2 s2 hp2 h2 => ?_, fun nB H2 s2 => q2 (knk_none.mpr fun z => nB z.1) H2 (s1.trans s2)⟩
    have ne : boxL l (ear b n qs) ≠ [] := fun e => by
      have := boxL_length l (ear b n qs)
      rw [e, el] at this
      simp at this
      omega
    obtain ⟨g, ga, _, gg⟩ := at_last ne
    have hx2 := s2 _ _ (s1 _ _ hx)
    have hq2 := s2 _ _ (s1 _ _ hq)
    refine ⟨_, rfl, _, _, _, _, rfl, rfl, SqL.of h2, ga, ?_⟩
    refine ⟨_, rfl, x, C, dx, _, _, rfl, hx2, hT.cl, hT.n1, lk_turns .., _, rfl, x, C, dx, _, _, rfl, hx2, hT.cl, hT.n2, lk_bells .., _, rfl, x, C, dx, _, _, rfl, hx2, hT.cl, hT.n3, lk_late .., t, b, l, rfl, l0, lb8, ?_⟩
    refine ⟨_, rfl, _, rfl, _, _, rfl, rfl, _, rfl, ifD (fun z => ⟨(by decide), q2 (knk_none.mpr fun y => ?_) H2 (s1.trans s2)⟩) (fun z => ?_)⟩
    · obtain ⟨_, z', e, h⟩ := y
      rw [gg] at e
      have := Option.some.inj e
      omega
    have q := fun kb hk => q1 kb hk H2 (s1.trans s2)
    have kn : ∀ kb, kb = (decide ((qs.length : Int) = b) || decide (g = (t - b) / (l + 1))) → KNk t b l n qs = some kb := fun kb e => knk_some.mpr ⟨⟨B, g, gg, by omega⟩, by
      rw [e, gg]
      congr 1
      exact decide_eq_decide.mpr ⟨fun z => by rw [z], fun z => Option.some.inj z⟩⟩
    refine ⟨_, rfl, _, _, rfl, .inl (SqL.of hq2), _, rfl, x, C, dx, _, _, rfl, hx2, hT.cl, hT.n2, lk_bells .., _, _, rfl, rfl, ?_⟩
    rw [List.length_map]
    by_cases e : (qs.length : Int) = b
    · rw [decide_eq_true e]
      exact ⟨true, rfl, iteT (q true (kn true (by rw [decide_eq_true e]; rfl)))⟩
    · rw [decide_eq_false e]
      exact ⟨false, rfl, iteF ⟨_, rfl, _, rfl, _, _, rfl, rfl, q _ (kn _ (by rw [decide_eq_false e, Bool.false_or]))⟩⟩
end
theorem bd_set {fs : List Int} {lo hi v : Int} {j : Nat} (h : ∀ x ∈ fs, lo ≤ x ∧ x ≤ hi) (hv : lo ≤ v ∧ v ≤ hi) : ∀ x ∈ fs.set j v, lo ≤ x ∧ x ≤ hi := fun x hx => by
  rcases List.mem_or_eq_of_mem_set hx with z | z
  · exact h x z
  · rw [z]; exact hv
theorem at_neg {m : Int} (h0 : 0 ≤ m) (h1 : m < 4) : ∃ v : Int, atI [V.int (-1), V.int 0, V.int (-5), V.int 9] m = some (V.int v) ∧ -5 ≤ v ∧ v ≤ 9 := by
  rcases (by omega : m = 0 ∨ m = 1 ∨ m = 2 ∨ m = 3) with rfl | rfl | rfl | rfl
  · exact ⟨-1, rfl, by decide, by decide⟩
  · exact ⟨0, rfl, by decide, by decide⟩
  · exact ⟨-5, rfl, by decide, by decide⟩
  · exact ⟨9, rfl, by decide, by decide⟩
section
variable {P : Program} {w : World} {K : PySem.W.Frag} {mg : Str → Option Value} {base : Heap}
noncomputable def spChg (K : PySem.W.Frag) : Sp := fun vs H Q _ => ∃ (a c : Addr) (ns cs : List Int), vs = [.ref a, .ref c] ∧ SqL K H a (ns.map V.int) ∧ H c = some (.lst (cs.map V.int)) ∧ cs.length ≤ 900 ∧ (∀ c ∈ cs, 0 ≤ c ∧ c ≤ 300) ∧
  ∀ (p : Addr) (fs : List Int) (H' : Hp), Same H H' → H p = none → H' p = some (.lst (fs.map V.int)) → fs.length = cs.length → (∀ x ∈ fs, -5 ≤ x ∧ x ≤ 303) → Q (.ref p) H'
theorem sc__law_changed : FnScope ["script", "counts", "found", "k", "cell", "at", "to", "way"] ["script", "counts"] (defScope st__law_changed) := ⟨rfl, rfl, rfl, by decide +kernel, rfl, by decide +kernel, by decide +kernel⟩
theorem ok_changed (D : Def K mg "_law_changed" st__law_changed ["script", "counts"]) (T : Txt K mg) (G__law_cell_at : Fn P w K mg base 1 "_law_cell_at" ["script", "k"] (spCell K)) (G__law_drawn : Fn P w K mg base 1 "_law_drawn" ["cell", "k"] spDr) : Fn P w K mg base 2 "_law_changed" ["script", "counts"] (spChg K) := by
  refine D.fn sc__law_changed (fun vs H Q E h => ?_) (fun f cdv A outer s H vs Q E hr h => ?_)
  · obtain ⟨a, c, ns, cs, rfl, _⟩ := h
    rfl
  · obtain ⟨a, c, ns, cs, rfl, hS, hC, cl, cb, q⟩ := h
    have hu := hu64 hr
    refine ⟨_, (pss_cons (ps_set (i := 2) sc__law_changed.nd rfl (Or.inl rfl) (pe_callTy call_list_of (by rfl) T.z_list b_list (pa_cons (pv 1) pa_nil)))
      (pss_cons (ps_if (pw_or (pt_cmpR (op_eqL hu) (pv 1) (pe_lst pa_nil) (nomark _)) (pw_or1 (pt_cmpR op_eqI (pe_op op_modB (pe_fn G__law_drawn (hr.mono (by decide)) (by rfl) (pa_cons (pe_fn G__law_cell_at (hr.mono (by decide)) (by rfl) (pa_cons (pv 0) (pa_cons pe_int pa_nil))) (pa_cons pe_int pa_nil))) pe_int) pe_int (nomark _)))).pt
        (pss_one (ps_ret (pv 2)))
        pss_nil)
      (pss_cons (ps_for PassesOwn.never rfl (pi_range1 (by rfl) T.z_range (pa_cons (pe_op op_addI pe_int (pe_op op_modB (pe_fn G__law_drawn (hr.mono (by decide)) (by rfl) (pa_cons (pe_fn G__law_cell_at (hr.mono (by decide)) (by rfl) (pa_cons (pv 0) (pa_cons pe_int pa_nil))) (pa_cons pe_int pa_nil))) pe_int)) pa_nil)) (pg_name (i := 3) sc__law_changed.nd rfl (Or.inl rfl))
        (pss_cons (ps_set (i := 4) sc__law_changed.nd rfl (Or.inl rfl) (pe_fn G__law_cell_at (hr.mono (by decide)) (by rfl) (pa_cons (pv 0) (pa_cons (pe_op op_addI pe_int (pv 3)) pa_nil))))
        (pss_cons (ps_set (i := 5) sc__law_changed.nd rfl (Or.inl rfl) (pe_op op_modB (pe_fn G__law_drawn (hr.mono (by decide)) (by rfl) (pa_cons (pv 4) (pa_cons pe_int pa_nil))) (pe_callB call_len_seq (by rfl) T.z_len b_len (pa_cons (pv 2) pa_nil))))
        (pss_cons (ps_set (i := 6) sc__law_changed.nd rfl (Or.inl rfl) (pe_op op_modB (pe_fn G__law_drawn (hr.mono (by decide)) (by rfl) (pa_cons (pv 4) (pa_cons pe_int pa_nil))) (pe_callB call_len_seq (by rfl) T.z_len b_len (pa_cons (pv 2) pa_nil))))
        (pss_cons (ps_set (i := 7) sc__law_changed.nd rfl (Or.inl rfl) (pe_op op_modB (pe_fn G__law_drawn (hr.mono (by decide)) (by rfl) (pa_cons (pv 4) (pa_cons pe_int pa_nil))) pe_int))
        (pss_one (ps_if (pt_cmpR op_eqI (pv 7) pe_int (nomark _))
          (pss_one (ps_asg (pe_op op_addI (pe_ix ix_list (pv 2) (pv 5) (fun _ _ => rfl)) pe_int) (pg_sub (pv 2) (pv 5) set_list)))
          (pss_one (ps_if (pt_cmpR op_eqI (pv 7) pe_int (nomark _))
            (pss_one (ps_asg (pe_ix ix_list (pe_lst (pa_cons (pe_un un_neg pe_int) (pa_cons pe_int (pa_cons (pe_un un_neg pe_int) (pa_cons pe_int pa_nil))))) (pe_op op_modB (pe_fn G__law_drawn (hr.mono (by decide)) (by rfl) (pa_cons (pv 4) (pa_cons pe_int pa_nil))) pe_int) (fun _ _ => rfl)) (pg_sub (pv 2) (pv 5) set_list)))
            (pss_one (ps_if (pt_cmpR op_gtI (pe_ix ix_list (pv 2) (pv 5) (fun _ _ => rfl)) pe_int (nomark _))
              (pss_cons (ps_asg (pe_op op_subI (pe_ix ix_list (pv 2) (pv 5) (fun _ _ => rfl)) pe_int) (pg_sub (pv 2) (pv 5) set_list))
              (pss_one (ps_asg (pe_op op_addI (pe_ix ix_list (pv 2) (pv 6) (fun _ _ => rfl)) (pe_callTy call_int1 (by rfl) T.z_int b_int (pa_cons (pe_cmpR op_gtI (pv 7) pe_int (nomark _)) pa_nil))) (pg_sub (pv 2) (pv 6) set_list))))
              pss_nil)))))))))))
      (pss_one (ps_ret (pv 2)))))), ?_⟩
    refine ⟨_, rfl, _, _, rfl, .inl (SqL.of hC), fun p hp => ?_⟩
    have s1 : Same H (upd H p (.lst (cs.map V.int))) := Same.new hp
    have h1 : (upd H p (.lst (cs.map V.int))) p = some (.lst (cs.map V.int)) := upd_same
    generalize upd H p (.lst (cs.map V.int)) = H1 at s1 h1 ⊢
    have ret : ∀ H2, Same H1 H2 → Q (.ref p) H2 := fun H2 s2 => q p cs H2 (s1.trans s2) hp (s2 _ _ h1) rfl (fun x hx => by have := cb x hx; omega)
    refine ⟨_, rfl, (by decide), fun pe hpe => ⟨c, pe, cs, [], rfl, rfl, SqL.of ((Same.new hpe) _ _ (s1 _ _ hC)), SqL.of upd_same, _, rfl, ?_⟩⟩
    have s2 : Same H1 (upd H1 pe (.lst [])) := Same.new hpe
    generalize upd H1 pe (.lst []) = H2 at s2 ⊢
    have h2 := s2 _ _ h1
    refine ifD (fun _ => ⟨_, rfl, ret H2 s2⟩) (fun ne => ?_)
    refine ⟨_, rfl, a, ns, 0, rfl, (s1.trans s2).seq hS, by decide, _, 30, rfl, by decide, fun d1 d10 d11 => ⟨_, _, rfl, rfl, (by decide), _, _, rfl, rfl, _, rfl, ifD (fun _ => ⟨_, rfl, ret H2 s2⟩) (fun _ => ?_)⟩⟩
    refine ⟨_, rfl, a, ns, 0, rfl, (s1.trans s2).seq hS, by decide, _, 31, rfl, by decide, fun d2 d20 d21 => ⟨_, _, rfl, rfl, (by decide), _, _, rfl, rfl, ?_⟩⟩
    have m0 := Int.emod_nonneg d2 (show (3 : Int) ≠ 0 by decide)
    have m3 := Int.emod_lt_of_pos d2 (show (0 : Int) < 3 by decide)
    generalize d2 % 3 = dm at m0 m3 ⊢
    have c0 : 0 < cs.length := by
      cases cs with
      | nil => exact absurd rfl ne
      | cons x r => exact Nat.succ_pos _
    refine ⟨1 + dm, rfl, by omega, by omega, for_range (n := (1 + dm).toNat) (fun k σ H3 => ∃ (fs : List Int) (v3 v4 v5 v6 v7 : Option V), σ = [some (.ref a), some (.ref c), some (.ref p), v3, v4, v5, v6, v7] ∧ Same H H3 ∧ H3 p = some (.lst (fs.map V.int)) ∧ fs.length = cs.length ∧ ∀ x ∈ fs, -5 ≤ x ∧ x ≤ 300 + (k : Int)) ⟨cs, none, none, none, none, none, rfl, s1.trans s2, h2, rfl, fun x hx => by have := cb x hx; omega⟩ ?_ ?_⟩
    · rintro k σ H3 hk ⟨fs, v3, v4, v5, v6, v7, rfl, s3, h3, fl, fb⟩
      rw [show (0 : Int) + (k : Int) = (k : Int) by omega]
      refine ⟨_, rfl, _, rfl, _, _, rfl, rfl, a, ns, 13 + (k : Int), rfl, s3.seq hS, by omega, ?_⟩
      generalize cellOf ns (13 + (k : Int)) = cell
      refine ⟨_, rfl, cell, 32, rfl, by decide, fun e1 e10 e11 => ⟨_, rfl, _, _, rfl, .inl (SqL.of h3), _, _, rfl, rfl, by rw [List.length_map]; omega, ?_⟩⟩
      refine ⟨_, rfl, cell, 33, rfl, by decide, fun e2 e20 e21 => ⟨_, rfl, _, _, rfl, .inl (SqL.of h3), _, _, rfl, rfl, by rw [List.length_map]; omega, ?_⟩⟩
      refine ⟨_, rfl, cell, 34, rfl, by decide, fun e3 e30 e31 => ⟨_, _, rfl, rfl, (by decide), ?_⟩⟩
      rw [List.length_map]
      have i0 := Int.emod_nonneg e1 (show (fs.length : Int) ≠ 0 by omega)
      have i1 := Int.emod_lt_of_pos e1 (show 0 < (fs.length : Int) by omega)
      have j0 := Int.emod_nonneg e2 (show (fs.length : Int) ≠ 0 by omega)
      have j1 := Int.emod_lt_of_pos e2 (show 0 < (fs.length : Int) by omega)
      obtain ⟨i, hi⟩ : ∃ i : Nat, (i : Int) = e1 % (fs.length : Int) := ⟨_, Int.toNat_of_nonneg i0⟩
      obtain ⟨j, hj⟩ : ∃ j : Nat, (j : Int) = e2 % (fs.length : Int) := ⟨_, Int.toNat_of_nonneg j0⟩
      rw [← hi, ← hj]
      have il : i < fs.length := by omega
      have jl : j < fs.length := by omega
      generalize e3 % 6 = way
      have gi := at_map (ns := fs) (k := i) (List.getElem?_eq_getElem il)
      have xi := fb _ (List.getElem_mem il)
      generalize hxi : fs[i] = x at gi xi
      have ixi : ∀ (gs : List Int), gs.length = fs.length → ixN (gs.map V.int).length (i : Int) = some i := fun gs gl => by
        unfold ixN
        rw [List.length_map, if_pos (by omega), if_pos (by omega), Int.toNat_natCast]
      have ixj : ∀ (gs : List Int), gs.length = fs.length → ixN (gs.map V.int).length (j : Int) = some j := fun gs gl => by
        unfold ixN
        rw [List.length_map, if_pos (by omega), if_pos (by omega), Int.toNat_natCast]
      have fb1 : ∀ x ∈ fs, -5 ≤ x ∧ x ≤ 300 + ((k + 1 : Nat) : Int) := fun x hx => by have := fb x hx; omega
      refine ⟨_, rfl, _, _, rfl, rfl, _, rfl, ifD (fun w0 => ?_) (fun w0 => ?_)⟩
      · refine ⟨_, rfl, _, rfl, _, _, _, _, rfl, rfl, SqL.of h3, gi, _, _, rfl, rfl, _, rfl, _, rfl, p, _, _, i, rfl, rfl, h3, ixi fs rfl, ?_⟩
        exact ⟨fs.set i (x + 1), _, _, _, _, _, rfl, s3.wr hp, by rw [upd_same, List.map_set], by rw [List.length_set]; exact fl, bd_set fb1 (by omega)⟩
      refine ⟨_, rfl, _, _, rfl, rfl, _, rfl, ifD (fun w1 => ?_) (fun w1 => ?_)⟩
      · refine ⟨_, rfl, _, rfl, (by decide), fun pl hpl => ⟨_, rfl, cell, 35, rfl, by decide, fun e4 e40 e41 => ⟨_, _, rfl, rfl, (by decide), ?_⟩⟩⟩
        obtain ⟨v, ev, v0, v1⟩ := at_neg (Int.emod_nonneg e4 (show (4 : Int) ≠ 0 by decide)) (Int.emod_lt_of_pos e4 (show (0 : Int) < 4 by decide))
        refine ⟨_, _, _, _, rfl, rfl, SqL.of upd_same, ev, _, rfl, _, rfl, p, _, _, i, rfl, rfl, (Same.new hpl) _ _ h3, ixi fs rfl, ?_⟩
        exact ⟨fs.set i v, _, _, _, _, _, rfl, (s3.put hpl).wr hp, by rw [upd_same, List.map_set], by rw [List.length_set]; exact fl, bd_set fb1 (by omega)⟩
      refine ⟨_, rfl, _, rfl, _, _, _, _, rfl, rfl, SqL.of h3, gi, _, _, rfl, rfl, _, rfl, ifD (fun w2 => ?_) (fun w2 => ?_)⟩
      · refine ⟨_, rfl, _, rfl, _, _, _, _, rfl, rfl, SqL.of h3, gi, _, _, rfl, rfl, _, rfl, _, rfl, p, _, _, i, rfl, rfl, h3, ixi fs rfl, ?_⟩
        have h4 : (upd H3 p (.lst ((fs.map V.int).set i (.int (x - 1))))) p = some (.lst ((fs.set i (x - 1)).map V.int)) := by rw [upd_same, List.map_set]
        have s4 : Same H (upd H3 p (.lst ((fs.map V.int).set i (.int (x - 1))))) := s3.wr hp
        generalize upd H3 p (.lst ((fs.map V.int).set i (.int (x - 1)))) = H4 at s4 h4 ⊢
        have gl : (fs.set i (x - 1)).length = fs.length := List.length_set
        have gb : ∀ z ∈ fs.set i (x - 1), -5 ≤ z ∧ z ≤ 300 + (k : Int) := bd_set fb (by omega)
        generalize fs.set i (x - 1) = gs at h4 gl gb
        have gj := at_map (ns := gs) (k := j) (List.getElem?_eq_getElem (by omega))
        have yj := gb _ (List.getElem_mem (show j < gs.length by omega))
        generalize gs[j]'(by omega) = y at gj yj
        refine ⟨_, rfl, _, rfl, _, _, _, _, rfl, rfl, SqL.of h4, gj, _, rfl, _, _, rfl, rfl, .inr ⟨_, rfl, _, _, rfl, rfl, _, rfl, _, rfl, p, _, _, j, rfl, rfl, h4, ixj gs gl, ?_⟩⟩
        refine ⟨gs.set j (y + if decide (2 < way) = true then 1 else 0), _, _, _, _, _, rfl, s4.wr hp, by rw [upd_same, List.map_set], by rw [List.length_set, gl]; exact fl, bd_set (fun x hx => ?_) ?_⟩
        · have := gb x hx; omega
        · split <;> omega
      · exact ⟨fs, _, _, _, _, _, rfl, s3, h3, fl, fb1⟩
    · rintro σ H3 ⟨fs, v3, v4, v5, v6, v7, rfl, s3, h3, fl, fb⟩
      exact ⟨_, rfl, q p fs H3 s3 hp h3 fl (fun x hx => by have := fb x hx; omega)⟩
end
noncomputable def rdAt (cs : List Int) (L : Int) : Nat → List Int
  | 0 => []
  | i + 1 => if ((i + 1 : Nat) : Int) % L = 0 then [] else rdAt cs L i ++ List.replicate (cs.getD i 0).toNat ((i : Int) % L)
noncomputable def nowAt (cs : List Int) (L : Int) (i : Nat) : List Int := rdAt cs L i ++ List.replicate (cs.getD i 0).toNat ((i : Int) % L)
theorem rd_zero {cs : List Int} {L : Int} {i : Nat} (h : (i : Int) % L = 0) : rdAt cs L i = [] := by
  cases i with
  | zero => rfl
  | succ i => show (if _ then _ else _) = _; rw [if_pos h]
theorem rd_next {cs : List Int} {L : Int} {i : Nat} (h : ¬ ((i + 1 : Nat) : Int) % L = 0) : rdAt cs L (i + 1) = nowAt cs L i := by
  show (if _ then _ else _) = _
  rw [if_neg h]
  rfl
theorem next_mod {g L : Int} (hL : 0 < L) : (g + 1) % L = if g % L = L - 1 then 0 else g % L + 1 := by
  have d := Int.mul_ediv_add_emod g L
  have r0 := Int.emod_nonneg g (show L ≠ 0 by omega)
  have r1 := Int.emod_lt_of_pos g hL
  by_cases h : g % L = L - 1
  · rw [if_pos h]
    have e : g + 1 = L * (g / L + 1) := by rw [Int.mul_add, Int.mul_one]; omega
    rw [e, Int.mul_emod_right]
  · rw [if_neg h]
    have e : g + 1 = (g % L + 1) + L * (g / L) := by omega
    rw [e, Int.add_mul_emod_self_left]
    exact Int.emod_eq_of_lt (by omega) (by omega)
theorem now_le {cs : List Int} {L : Int} (hL : 0 < L) : ∀ (i : Nat), ∀ x ∈ nowAt cs L i, 0 ≤ x ∧ x ≤ (i : Int) % L
  | 0 => fun x hx => by
    rcases List.mem_append.mp hx with z | z
    · exact nomatch z
    · rw [List.eq_of_mem_replicate z]
      exact ⟨Int.emod_nonneg _ (by omega), Int.le_refl _⟩
  | i + 1 => fun x hx => by
    have n0 := Int.emod_nonneg ((i + 1 : Nat) : Int) (show L ≠ 0 by omega)
    rcases List.mem_append.mp hx with z | z
    · by_cases h : ((i + 1 : Nat) : Int) % L = 0
      · rw [rd_zero h] at z
        exact nomatch z
      · rw [rd_next h] at z
        have := now_le hL i x z
        have nm := next_mod (g := (i : Int)) hL
        rw [show (i : Int) + 1 = ((i + 1 : Nat) : Int) by omega] at nm
        by_cases y : (i : Int) % L = L - 1
        · rw [if_pos y] at nm
          exact absurd nm h
        · rw [if_neg y] at nm
          omega
    · rw [List.eq_of_mem_replicate z]
      exact ⟨n0, Int.le_refl _⟩
theorem mod_le {i L : Int} (h : 0 ≤ i) (hL : 0 < L) : i % L ≤ i := by
  have h1 := Int.mul_ediv_add_emod i L
  have h2 := Int.mul_nonneg (show 0 ≤ L by omega) (Int.ediv_nonneg h (show 0 ≤ L by omega))
  omega
theorem szs_small {l : Int} {ns : List Int} (h : ∀ x ∈ ns, 0 ≤ x ∧ x ≤ 100000) (hl : ns.length ≤ 1000) : Szs 70000 (boxL l ns) := fun y hy => by
  obtain ⟨i, hi, e⟩ := List.getElem_of_mem hy
  obtain ⟨x, hx, rfl⟩ := boxL_get' (i := i) (by rw [List.getElem?_eq_getElem hi, e])
  have := h x (List.mem_of_getElem? hx)
  rw [boxL_length] at hi
  refine bits_mono (intBits_le_of_natAbs (y := x - (i : Int)) (Int.natAbs_ediv_le_natAbs _ _) (intBits_sub_le (m := 64) (n := 64) (bits_of (by omega) (by omega)) (bits_of (by omega) (by omega)))) (by decide)
noncomputable def TurnBad (KN : Int → Int → Int → Int → List Int → Option Bool) (t b l n ci : Int) (k : Bool) (rd : List Int) : Prop := ci < 0 ∨ b < (rd.length : Int) + ci ∨ KN t b l n (rd ++ List.replicate ci.toNat n) = none ∨ (KN t b l n (rd ++ List.replicate ci.toNat n) = some true ∧ k = false ∧ ¬ GoodR t b l (ear b n (rd ++ List.replicate ci.toNat n)))
theorem made_same {H H3 : Hp} {x dx C : Addr} (nx : H x = none) (ndx : H dx = none) (sx : SameX x (upd (upd H dx (.own x)) x (.ins C dx [])) H3) : Same H H3 := fun a o h => sx a o (by rw [upd_ne (ne_of_none h nx), upd_ne (ne_of_none h ndx)]; exact h) (ne_of_none h nx)
theorem at_due {as : List Addr} {tl : List V} {i : Nat} {b : Addr} (h : as[i]? = some b) : atI (as.map V.ref ++ tl) (i : Int) = some (V.ref b) := by
  have hi := (List.getElem?_eq_some_iff.mp h).1
  exact atI_nat (by rw [List.getElem?_append_left (by rw [List.length_map]; exact hi), List.getElem?_map, h]; rfl)
theorem at_dueN {as : List Addr} : atI (as.map V.ref ++ [.non]) (as.length : Int) = some V.non := by
  exact atI_nat (by rw [List.getElem?_append_right (by rw [List.length_map]; exact Nat.le_refl _), List.length_map, Nat.sub_self]; rfl)
theorem ear_bd2 {b n : Int} {qs : List Int} (h : ∀ x ∈ qs, 0 ≤ x ∧ x ≤ 100000) (n0 : 0 ≤ n) (nL : n ≤ 1000) (b60 : b ≤ 60) : ∀ x ∈ ear b n qs, 0 ≤ x ∧ x ≤ 100000 := fun x hx => by
  rcases List.mem_append.mp hx with z | z
  · exact h x z
  · obtain ⟨i, hi, rfl⟩ := List.mem_map.mp z
    have := List.mem_range.mp hi
    omega
noncomputable def stepB (st : Int) (box : List Int) : List (List Int) := (List.range (st + 1 - box.headD 0).toNat).map fun (j : Nat) => (box.headD 0 + (j : Int)) :: box
noncomputable def genB (st : Int) : Nat → List (List Int)
  | 0 => [[]]
  | i + 1 => (genB st i).flatMap (stepB st)
noncomputable def wayB (nss : List (List Int)) : Option (List Nat) :=
  if nss.length < 2 then some (List.range nss.length) else (runB nss.length (fun i j => lexLt (nss.getD i []) (nss.getD j [])) (PySem.W.kas_sort nss.length)).map (·.toList)
noncomputable def upB : List Int → Bool
  | x :: y :: r => decide (x ≤ y) && upB (y :: r)
  | _ => true
noncomputable def boxB (b : Nat) (st : Int) (k : Nat) (bx : List Int) : Bool := decide (bx.length = b) && upB bx && bx.all (fun x => decide (0 ≤ x ∧ x ≤ st)) && decide (numB bx = (k : Int))
noncomputable def goodB (b : Nat) (st : Int) : Bool :=
  match wayB (genB st b) with
  | none => false
  | some p => decide (p.length = (genB st b).length) && p.all (fun i => decide (i < (genB st b).length)) && decide ((genB st b).length < 64) && decide (((genB st b).length : Int) = ch (st + b) b) &&
    (List.range (genB st b).length).all (fun k => boxB b st k ((genB st b).getD (p.getD k 0) []).reverse)
theorem good_all : ([1, 2, 3].all fun b => [0, 1, 2, 3].all fun (st : Nat) => goodB b (st : Int)) = true := by decide +kernel
theorem upB_inc : ∀ {l : List Int}, upB l = true → l.Pairwise (· ≤ ·)
  | [], _ => List.Pairwise.nil
  | [x], _ => List.pairwise_singleton _ _
  | x :: y :: r, h => by
    unfold upB at h
    rw [Bool.and_eq_true] at h
    have hy := upB_inc h.2
    have hxy := of_decide_eq_true h.1
    rw [List.pairwise_cons]
    refine ⟨fun z hz => ?_, hy⟩
    rcases List.mem_cons.mp hz with rfl | hz
    · exact hxy
    · exact Int.le_trans hxy ((List.pairwise_cons.mp hy).1 z hz)
structure Boxes (b : Nat) (st : Int) (L : List (List Int)) : Prop where
  len : (L.length : Int) = ch (st + b) b
  sm : L.length < 64
  at' : ∀ (k : Nat) (bx : List Int), L[k]? = some bx → bx.length = b ∧ IsBox bx ∧ (∀ x ∈ bx, x ≤ st) ∧ numB bx = (k : Int)
theorem boxes_of {b : Nat} {st : Int} (h1 : 1 ≤ b) (h3 : b ≤ 3) (s0 : 0 ≤ st) (s3 : st ≤ 3) : ∃ p, SortsTo (genB st b) p ∧ Boxes b st (p.map fun i => ((genB st b).getD i []).reverse) := by
  have g : goodB b st = true := by
    have ha := good_all
    rw [List.all_eq_true] at ha
    have hb := ha b (by simp; omega)
    rw [List.all_eq_true] at hb
    have := hb st.toNat (by simp; omega)
    rwa [show ((st.toNat : Nat) : Int) = st by omega] at this
  unfold goodB at g
  cases hw : wayB (genB st b) with
  | none => rw [hw] at g; cases g
  | some p =>
    rw [hw] at g
    simp only [Bool.and_eq_true, decide_eq_true_eq, List.all_eq_true] at g
    obtain ⟨⟨⟨⟨g1, g2⟩, g3⟩, g4⟩, g5⟩ := g
    have lt : ∀ i ∈ p, i < (genB st b).length := fun i hi => g2 i hi
    refine ⟨p, ?_, ⟨by rw [List.length_map, g1]; exact g4, by rw [List.length_map, g1]; exact g3, fun k bx hk => ?_⟩⟩
    · unfold wayB at hw
      split at hw
      · rename_i h
        exact .inl ⟨h, (Option.some.inj hw).symm⟩
      · exact .inr ⟨by omega, g3, hw, g1, lt⟩
    · rw [List.getElem?_map] at hk
      obtain ⟨i, hi, rfl⟩ := Option.map_eq_some_iff.mp hk
      have kl := (List.getElem?_eq_some_iff.mp hi).1
      have := g5 k (List.mem_range.mpr (by omega))
      rw [List.getD_eq_getElem?_getD (l := p), hi, Option.getD_some] at this
      unfold boxB at this
      simp only [Bool.and_eq_true, decide_eq_true_eq, List.all_eq_true] at this
      obtain ⟨⟨⟨a1, a2⟩, a3⟩, a4⟩ := this
      exact ⟨a1, ⟨upB_inc a2, fun x hx => (a3 x hx).1⟩, fun x hx => (a3 x hx).2, a4⟩
theorem flatB_take {st : Int} {nss : List (List Int)} {j : Nat} {one : List Int} (h : nss[j]? = some one) : (nss.take (j + 1)).flatMap (stepB st) = (nss.take j).flatMap (stepB st) ++ stepB st one := by
  rw [List.take_add_one, h, List.flatMap_append]
  simp
theorem stepB_len (st : Int) (box : List Int) : (stepB st box).length = (st + 1 - box.headD 0).toNat := by unfold stepB; simp
theorem genB_mem {st : Int} : ∀ (i : Nat) (bx : List Int), bx ∈ genB st i → bx.length = i ∧ ∀ x ∈ bx, 0 ≤ x ∧ x ≤ st
  | 0, bx, h => by
    have : bx = [] := by simpa [genB] using h
    subst this
    exact ⟨rfl, fun _ z => nomatch z⟩
  | i + 1, bx, h => by
    unfold genB at h
    obtain ⟨c, hc, h⟩ := List.mem_flatMap.mp h
    obtain ⟨h1, h2⟩ := genB_mem i c hc
    unfold stepB at h
    obtain ⟨j, hj, rfl⟩ := List.mem_map.mp h
    have hj := List.mem_range.mp hj
    refine ⟨by rw [List.length_cons, h1], fun x hx => ?_⟩
    rcases List.mem_cons.mp hx with rfl | hx
    · cases c with
      | nil => simp at hj ⊢; omega
      | cons y r =>
        have := h2 y (List.mem_cons_self ..)
        simp at hj ⊢
        omega
    · exact h2 x hx
theorem flatB_le {st : Int} (s3 : st ≤ 3) : ∀ (nss : List (List Int)), (∀ bx ∈ nss, ∀ x ∈ bx, 0 ≤ x ∧ x ≤ st) → (nss.flatMap (stepB st)).length ≤ nss.length * 4
  | [], _ => Nat.zero_le _
  | c :: r, h => by
    rw [List.flatMap_cons, List.length_append, stepB_len, List.length_cons, Nat.succ_mul]
    have ih := flatB_le s3 r fun bx hb => h bx (List.mem_cons_of_mem _ hb)
    have : (st + 1 - c.headD 0).toNat ≤ 4 := by
      cases c with
      | nil => simp; omega
      | cons y r' =>
        have := h (y :: r') (List.mem_cons_self ..) y (List.mem_cons_self ..)
        simp; omega
    omega
theorem genB_le {st : Int} (s3 : st ≤ 3) : ∀ (i : Nat), (genB st i).length ≤ 4 ^ i
  | 0 => by simp [genB]
  | i + 1 => by
    have h1 := flatB_le s3 (genB st i) fun bx hb => (genB_mem i bx hb).2
    have h2 := genB_le s3 i
    show ((genB st i).flatMap (stepB st)).length ≤ _
    rw [Nat.pow_succ]
    exact Nat.le_trans h1 (Nat.mul_le_mul_right 4 h2)
theorem paired_append {α β : Type} {F : α → β → Prop} : ∀ {as : List α} {bs : List β} {cs : List α} {ds : List β}, Paired F as bs → Paired F cs ds → Paired F (as ++ cs) (bs ++ ds)
  | _, _, _, _, .nil, h => h
  | _, _, _, _, .cons x y, h => .cons x (paired_append y h)
theorem paired_snoc {α β : Type} {F : α → β → Prop} {as : List α} {bs : List β} {a : α} {b : β} (h : Paired F as bs) (x : F a b) : Paired F (as ++ [a]) (bs ++ [b]) := paired_append h (.cons x .nil)
section
variable {P : Program} {w : World} {K : PySem.W.Frag} {mg : Str → Option Value} {base : Heap}
noncomputable def spRows : Sp := fun vs H Q _ => ∃ bells steps late : Int, vs = [.int bells, .int steps, .int late] ∧ 1 ≤ bells ∧ bells ≤ 3 ∧ 0 ≤ steps ∧ steps ≤ 3 ∧ 0 ≤ late ∧ late ≤ 10 ∧
  ∀ (p : Addr) (L : List (List Int)) (H' : Hp), Same H H' → H p = none → LL H' p (L.map (bellL late)) → Boxes bells.toNat steps L → Q (.ref p) H'
theorem sc__law_rows : FnScope ["bells", "steps", "late", "boxes", "i", "more", "box", "low", "rows"] ["bells", "steps", "late"] (defScope st__law_rows) := ⟨rfl, rfl, rfl, by decide +kernel, rfl, by decide +kernel, by decide +kernel⟩
theorem ok_rows (D : Def K mg "_law_rows" st__law_rows ["bells", "steps", "late"]) (T : Txt K mg) : Fn P w K mg base 1 "_law_rows" ["bells", "steps", "late"] spRows := by
  refine D.fn sc__law_rows (fun vs H Q E h => ?_) (fun f cdv A outer s H vs Q E hr h => ?_)
  · obtain ⟨a, b, c, rfl, _⟩ := h
    rfl
  · obtain ⟨bells, steps, late, rfl, b1, b3, st0, st3, l0, l4, q⟩ := h
    have hu := hu64 hr
    refine ⟨_, (pss_cons (ps_set (i := 3) sc__law_rows.nd rfl (Or.inl rfl) (pe_lst (pa_cons (pe_lst pa_nil) pa_nil)))
      (pss_cons (ps_for PassesOwn.never rfl (pi_range1 (by rfl) T.z_range (pa_cons (pv 0) pa_nil)) (pg_name (i := 4) sc__law_rows.nd rfl (Or.inl rfl))
        (pss_cons (ps_set (i := 5) sc__law_rows.nd rfl (Or.inl rfl) (pe_lst pa_nil))
        (pss_cons (ps_for PassesOwn.never rfl (pi_list (pv 3)) (pg_name (i := 6) sc__law_rows.nd rfl (Or.inr rfl))
          (pss_cons (ps_set (i := 7) sc__law_rows.nd rfl (Or.inl rfl) (pe_ix ix_list (pe_op op_cat (pv 6) (pe_lst (pa_cons pe_int pa_nil))) pe_int (fun _ _ => rfl)))
          (pss_one (ps_set (i := 5) sc__law_rows.nd rfl (Or.inl rfl) (pe_op op_cat (pv 5) (pe_comp (own := ["c"]) (fr := ["box"]) (ix := [6]) rfl ⟨rfl, rfl, rfl, rfl, rfl, rfl⟩ (pi_range2 (by rfl) T.z_range (pa_cons (pv 7) (pa_cons (pe_op op_addI (pv 1) pe_int) pa_nil))) (fun _ _ _ _ _ => (pg_name (i := 0) (show (["c", "box"] : List Str).Nodup by decide +kernel) rfl (Or.inl rfl))) (fun _ _ _ _ _ => pts_nil) (fun _ _ _ _ _ => (pe_op op_cat (pe_lst (pa_cons (pv 0) pa_nil)) (pv 1)))))))))
        (pss_one (ps_set (i := 3) sc__law_rows.nd rfl (Or.inl rfl) (pv 5))))))
      (pss_cons (ps_set (i := 8) sc__law_rows.nd rfl (Or.inl rfl) (pe_lst pa_nil))
      (pss_cons (ps_for PassesOwn.never rfl (pi_list (pe_callB (call_sortedLL hu) (by rfl) T.z_sorted b_sorted (pa_cons (pv 3) pa_nil))) (pg_name (i := 6) sc__law_rows.nd rfl (Or.inr rfl))
        (pss_one (ps_expr (pe_bm PySem.F.plainAttrs_list PySem.F.slot_list_append PySem.F.type_list_append mt_append (pv 8) (pa_cons (pe_comp (own := ["i"]) (fr := ["box", "late", "bells"]) (ix := [6, 2, 0]) rfl ⟨rfl, rfl, rfl, rfl, rfl, rfl⟩ (pi_range1 (by rfl) T.z_range (pa_cons (pv 0) pa_nil)) (fun _ _ _ _ _ => (pg_name (i := 0) (show (["i", "box", "late", "bells"] : List Str).Nodup by decide +kernel) rfl (Or.inl rfl))) (fun _ _ _ _ _ => pts_nil) (fun _ _ _ _ _ => (pe_op op_addI (pe_op op_mulB (pe_ix (ix_listK K) (pv 1) (pe_op op_subI (pe_op op_subI (pv 3) pe_int) (pv 0)) (fun _ _ => rfl)) (pe_op op_addI (pv 2) pe_int)) (pv 0)))) pa_nil)))))
      (pss_one (ps_ret (pv 8))))))), ?_⟩
    refine ⟨(by decide), fun p0 hp0 => ⟨(by show 1 ≤ sizeLine; decide), fun p1 hp1 => ?_⟩⟩
    have s1 : Same H (upd (upd H p0 (.lst [])) p1 (.lst [V.ref p0])) := (Same.new hp0).put hp1
    have h1 : LL (upd (upd H p0 (.lst [])) p1 (.lst [V.ref p0])) p1 [[]] := ⟨[p0], upd_same, .cons ((Same.new hp1) _ _ upd_same) .nil⟩
    generalize upd (upd H p0 (.lst [])) p1 (.lst [V.ref p0]) = H1 at s1 h1 ⊢
    refine ⟨_, rfl, _, rfl, by omega, by omega, for_range (n := bells.toNat) (fun i σ H2 => ∃ (pb : Addr) (v4 v5 v6 v7 : Option V), σ = [some (.int bells), some (.int steps), some (.int late), some (.ref pb), v4, v5, v6, v7, none] ∧ Same H H2 ∧ LL H2 pb (genB steps i)) ⟨p1, none, none, none, none, rfl, s1, h1⟩ ?_ ?_⟩
    · rintro i σ H2 hi ⟨pb, v4, v5, v6, v7, rfl, s2, hB⟩
      have gm := genB_mem (st := steps) i
      have gl := genB_le st3 i
      have g16 : (genB steps i).length ≤ 16 := by
        have : i = 0 ∨ i = 1 ∨ i = 2 := by omega
        rcases this with rfl | rfl | rfl <;> omega
      generalize hg : genB steps i = nss at hB gm g16
      obtain ⟨as, eB, pB⟩ := hB
      have al := paired_len pB
      refine ⟨(by decide), fun pm hpm => ?_⟩
      have s3 : Same H2 (upd H2 pm (.lst [])) := Same.new hpm
      refine ⟨_, rfl, pb, rfl, ⟨_, SqL.of (s3 _ _ eB)⟩, for_list (K := K) (a := pb) (xs := as.map V.ref) (fun j σ H3 => ∃ (pm : Addr) (v6 v7 : Option V), σ = [some (.int bells), some (.int steps), some (.int late), some (.ref pb), some (.int (0 + (i : Int))), some (.ref pm), v6, v7, none] ∧ Same H2 H3 ∧ LL H3 pm ((nss.take j).flatMap (stepB steps)))
        ⟨pm, v6, v7, rfl, s3, ⟨[], upd_same, .nil⟩⟩ (fun j σ H3 _ ⟨_, _, _, _, s4, _⟩ => SqL.of (s4 _ _ eB)) ?_ ?_⟩
      · rintro j y σ H3 hj ⟨pm, v6, v7, rfl, s4, hM⟩
        rw [List.getElem?_map] at hj
        obtain ⟨b, hjb, rfl⟩ := Option.map_eq_some_iff.mp hj
        obtain ⟨one, hone, hb1⟩ := paired_get pB hjb
        have hb3 := s4 _ _ hb1
        obtain ⟨ol, ob⟩ := gm one (List.mem_of_getElem? hone)
        have jl : j < nss.length := (List.getElem?_eq_some_iff.mp hone).1
        have fl := flatB_le st3 (nss.take j) fun bx hb => (gm bx (List.mem_of_mem_take hb)).2
        rw [List.length_take] at fl
        refine ⟨_, rfl, (by show 1 ≤ sizeLine; decide), fun t1 ht1 => ⟨b, t1, _, _, rfl, rfl, (Same.new ht1) _ _ hb3, upd_same, by rw [List.length_map, sizeLine_eq]; simp; omega, fun t2 ht2 => ?_⟩⟩
        have s5 : Same H3 (upd (upd H3 t1 (.lst [V.int 0])) t2 (.lst (one.map V.int ++ [V.int 0]))) := (Same.new ht1).put ht2
        have h5 : (upd (upd H3 t1 (.lst [V.int 0])) t2 (.lst (one.map V.int ++ [V.int 0]))) t2 = some (.lst ((one ++ [0]).map V.int)) := by rw [upd_same, List.map_append]; rfl
        generalize upd (upd H3 t1 (.lst [V.int 0])) t2 (.lst (one.map V.int ++ [V.int 0])) = H5 at s5 h5 ⊢
        have e0 : atI ((one ++ [0]).map V.int) 0 = some (V.int (one.headD 0)) := at_map (k := 0) (by cases one <;> rfl)
        refine ⟨_, _, _, _, rfl, rfl, SqL.of h5, e0, ?_⟩
        have lo0 : 0 ≤ one.headD 0 ∧ one.headD 0 ≤ steps := by
          cases one with
          | nil => exact ⟨by simp, by simp; omega⟩
          | cons x r => exact ob x (List.mem_cons_self ..)
        have hb5 := s5 _ _ hb3
        have s45 := s4.trans s5
        obtain ⟨ms, eM, pM⟩ := hM
        have ml := paired_len pM
        have eM5 := s5 _ _ eM
        have pM5 : Paired (fun b (ns : List Int) => H5 b = some (.lst (ns.map V.int))) ms ((nss.take j).flatMap (stepB steps)) := paired_imp (fun _ _ h => s5 _ _ h) pM
        refine ⟨_, rfl, _, rfl, _, rfl, _, _, rfl, rfl, _, _, rfl, ⟨by omega, by omega, by omega, by omega⟩, fun acc hacc => comp_rangeI (lo := one.headD 0) (n := (steps + 1 - one.headD 0).toNat) (fun i ys H6 => ∃ cs : List Addr, ys = cs.map V.ref ∧ Same H5 H6 ∧ H6 acc = some (.lst ys) ∧ Paired (fun b (ns : List Int) => b ≠ acc ∧ H6 b = some (.lst (ns.map V.int))) cs ((List.range i).map fun (j : Nat) => (one.headD 0 + (j : Int)) :: one)) (Nat.le_of_lt (small1000 (by omega))) ⟨[], rfl, Same.new hacc, upd_same, .nil⟩ (fun i ys H6 ⟨cs, e, _, h, pr⟩ => ⟨h, by rw [e, List.length_map, paired_len pr]; simp⟩) ?_ ?_⟩
        · rintro i' ys H6 R hi' ⟨cs, rfl, s6, hacc6, pc⟩ hR
          refine ⟨rfl, _, rfl, (by show 1 ≤ sizeLine; decide), fun t3 ht3 => ⟨_, rfl, t3, b, _, _, rfl, rfl, upd_same, (Same.new ht3) _ _ (s6 _ _ hb5), by rw [List.length_map, sizeLine_eq]; simp; omega, fun t4 ht4 => ?_⟩⟩
          have s7 : Same H6 (upd (upd H6 t3 (.lst [V.int (one.headD 0 + (i' : Int))])) t4 (.lst ([V.int (one.headD 0 + (i' : Int))] ++ one.map V.int))) := (Same.new ht3).put ht4
          have h7 : (upd (upd H6 t3 (.lst [V.int (one.headD 0 + (i' : Int))])) t4 (.lst ([V.int (one.headD 0 + (i' : Int))] ++ one.map V.int))) t4 = some (.lst (((one.headD 0 + (i' : Int)) :: one).map V.int)) := upd_same
          have n4 : t4 ≠ acc := (ne_of_none ((Same.new ht3) _ _ hacc6) ht4).symm
          generalize upd (upd H6 t3 (.lst [V.int (one.headD 0 + (i' : Int))])) t4 (.lst ([V.int (one.headD 0 + (i' : Int))] ++ one.map V.int)) = H7 at s7 h7 ⊢
          refine hR _ _ (s7 _ _ hacc6) ⟨cs ++ [t4], by rw [List.map_append]; rfl, (s6.trans s7).wr hacc, upd_same, ?_⟩
          rw [List.range_succ, List.map_append]
          refine paired_snoc (paired_imp (fun b ns h => ⟨h.1, by rw [upd_ne h.1]; exact s7 _ _ h.2⟩) pc) ⟨n4, by rw [upd_ne n4]; exact h7⟩
        · rintro ys H6 ⟨cs, rfl, s6, hacc6, pc⟩
          have cl := paired_len pc
          refine ⟨_, acc, _, _, rfl, rfl, s6 _ _ eM5, hacc6, ?_, fun t5 ht5 => ?_⟩
          · rw [List.length_map, List.length_map, ml, cl, List.length_map, List.length_range, sizeLine_eq]
            omega
          refine ⟨t5, _, _, rfl, (s45.trans s6).put ht5, ⟨ms ++ cs, by rw [upd_same, List.map_append], ?_⟩⟩
          rw [flatB_take hone]
          refine paired_append (paired_imp (fun b ns h => (s6.put ht5) _ _ h) pM5) ?_
          show Paired _ cs ((List.range (steps + 1 - one.headD 0).toNat).map fun (j : Nat) => (one.headD 0 + (j : Int)) :: one)
          exact paired_imp (fun b ns h => (Same.new ht5) _ _ h.2) pc
      · rintro σ H3 ⟨pm, v6, v7, rfl, s4, hM⟩
        rw [List.length_map, al, List.take_length] at hM
        refine ⟨_, rfl, pm, _, _, _, _, rfl, s2.trans s4, ?_⟩
        rw [show genB steps (i + 1) = nss.flatMap (stepB steps) by rw [← hg]; rfl]
        exact hM
    · rintro σ H2 ⟨pb, v4, v5, v6, v7, rfl, s2, hB⟩
      obtain ⟨p, hS, bx⟩ := boxes_of (b := bells.toNat) (st := steps) (by omega) (by omega) st0 st3
      have gm := genB_mem (st := steps) bells.toNat
      obtain ⟨pl, n64, pb64⟩ := hS.lt
      generalize genB steps bells.toNat = nss at hB hS bx gm pl n64 pb64
      obtain ⟨as, eB, pB⟩ := hB
      have al := paired_len pB
      refine ⟨(by decide), fun pr hpr => ?_⟩
      have s3 : Same H2 (upd H2 pr (.lst [])) := Same.new hpr
      have h3 : (upd H2 pr (.lst [])) pr = some (.lst []) := upd_same
      generalize upd H2 pr (.lst []) = H3 at s3 h3 ⊢
      refine ⟨_, rfl, pb, as, nss, p, rfl, SqL.of (s3 _ _ eB), paired_imp (fun _ _ h => SqL.of (s3 _ _ h)) pB, hS, fun ps hps => ?_⟩
      have s4 : Same H3 (upd H3 ps (.lst (p.map fun i => V.ref (as.getD i 0)))) := Same.new hps
      have h4 : (upd H3 ps (.lst (p.map fun i => V.ref (as.getD i 0)))) ps = some (.lst (p.map fun i => V.ref (as.getD i 0))) := upd_same
      have nps : pr ≠ ps := ne_of_none h3 hps
      have h4r := s4 _ _ h3
      have s24 := s3.trans s4
      generalize upd H3 ps (.lst (p.map fun i => V.ref (as.getD i 0))) = H4 at s4 h4 h4r s24 ⊢
      refine ⟨ps, rfl, ⟨_, SqL.of h4⟩, for_list (K := K) (a := ps) (xs := p.map fun i => V.ref (as.getD i 0)) (fun j σ H5 => ∃ (v6 : Option V), σ = [some (.int bells), some (.int steps), some (.int late), some (.ref pb), v4, v5, v6, v7, some (.ref pr)] ∧ Same H2 H5 ∧ H5 ps = some (.lst (p.map fun i => V.ref (as.getD i 0))) ∧ LLm H5 pr (((p.map fun i => (nss.getD i []).reverse).take j).map (bellL late)))
        ⟨v6, rfl, s24, h4, ⟨[], h4r, .nil⟩⟩ (fun j σ H5 _ ⟨_, _, _, h, _⟩ => SqL.of h) ?_ ?_⟩
      · rintro j y σ H5 hj ⟨v6, rfl, s5, h5, hM⟩
        rw [List.getElem?_map] at hj
        obtain ⟨i0, hi0, rfl⟩ := Option.map_eq_some_iff.mp hj
        have il := pb64 i0 (List.mem_of_getElem? hi0)
        have jl := (List.getElem?_eq_some_iff.mp hi0).1
        have ha : as[i0]? = some (as.getD i0 0) := by rw [List.getD_eq_getElem?_getD, List.getElem?_eq_getElem (show i0 < as.length by omega)]; rfl
        obtain ⟨one, hone, hb1⟩ := paired_get pB ha
        obtain ⟨ol, ob⟩ := gm one (List.mem_of_getElem? hone)
        have hb5 := s5 _ _ hb1
        have e1 : nss.getD i0 [] = one := by rw [List.getD_eq_getElem?_getD, hone]; rfl
        generalize as.getD i0 0 = b at hb5
        obtain ⟨ms, eM, pM⟩ := hM
        have ml := paired_len pM
        rw [List.length_map, List.length_take, List.length_map] at ml
        refine ⟨_, rfl, .inl ⟨rfl, _, SqL.of eM⟩, _, rfl, _, rfl, by omega, by omega, fun acc hacc => comp_rangeP (lo := 0) (n := bells.toNat) (fun i => V.int (one.reverse.getD i 0 * (late + 1) + (i : Int))) hacc (Nat.le_of_lt (small1000 (by omega))) ?_ ?_⟩
        · intro i' H6 R hi' s6 hR
          have g : atI (one.map V.int) (bells - 1 - (0 + (i' : Int))) = some (V.int (one.reverse.getD i' 0)) := by
            rw [show bells - 1 - (0 + (i' : Int)) = ((bells.toNat - 1 - i' : Nat) : Int) by omega]
            refine at_map ?_
            rw [List.getD_eq_getElem?_getD, List.getElem?_reverse (by omega), ol, List.getElem?_eq_getElem (show bells.toNat - 1 - i' < one.length by omega)]
            rfl
          have xb := ob (one.reverse.getD i' 0) (by
            rw [List.getD_eq_getElem?_getD, List.getElem?_eq_getElem (show i' < one.reverse.length by rw [List.length_reverse]; omega)]
            exact List.mem_reverse.mp (List.getElem_mem _))
          have hR' : R (V.int (one.reverse.getD i' 0 * (late + 1) + (0 + (i' : Int)))) H6 := by rw [show (0 : Int) + (i' : Int) = (i' : Int) by omega]; exact hR
          exact ⟨rfl, _, rfl, _, rfl, _, _, rfl, rfl, _, rfl, _, _, rfl, rfl, _, _, _, _, rfl, rfl, SqL.of (s6 _ _ hb5), g, _, rfl, _, _, rfl, rfl, _, _, rfl, rfl, ⟨10, 10, bits_of xb.1 (by omega), bits_of (by omega) (by omega), by decide⟩, _, rfl, _, _, rfl, rfl, hR'⟩
        · have eL : (List.range bells.toNat).map (fun i => V.int (one.reverse.getD i 0 * (late + 1) + (i : Int))) = (bellL late one.reverse).map V.int := by
            unfold bellL
            rw [List.length_reverse, ol, List.map_map]
            rfl
          rw [eL]
          have s6 : Same H5 (upd H5 acc (.lst ((bellL late one.reverse).map V.int))) := Same.new hacc
          have h6 : (upd H5 acc (.lst ((bellL late one.reverse).map V.int))) acc = some (.lst ((bellL late one.reverse).map V.int)) := upd_same
          have na : acc ≠ pr := (ne_of_none eM hacc).symm
          generalize upd H5 acc (.lst ((bellL late one.reverse).map V.int)) = H6 at s6 h6 ⊢
          refine ⟨pr, _, _, rfl, rfl, s6 _ _ eM, by rw [List.length_map, ml]; exact small1000 (by omega), _, rfl, (s5.trans s6).wr hpr, by rw [upd_ne (Ne.symm nps)]; exact s6 _ _ h5, ?_⟩
          have := LLm.push pM s6 h6 na
          have eT : ((p.map fun i => (nss.getD i []).reverse).take (j + 1)).map (bellL late) = ((p.map fun i => (nss.getD i []).reverse).take j).map (bellL late) ++ [bellL late one.reverse] := by
            rw [List.take_add_one, List.getElem?_map, hi0, List.map_append]
            show _ ++ [bellL late (nss.getD i0 []).reverse] = _
            rw [e1]
          rw [eT]
          exact this
      · rintro σ H5 ⟨v6, rfl, s5, h5, hM⟩
        rw [List.length_map, List.take_of_length_le (by rw [List.length_map]; exact Nat.le_refl _)] at hM
        exact ⟨_, rfl, q pr _ H5 (s2.trans s5) (s2.free hpr) hM.ll bx⟩
end
section
variable {P : Program} {w : World} {K : PySem.W.Frag} {mg : Str → Option Value} {base : Heap}
noncomputable def spCnts66 (K : PySem.W.Frag) : Sp := fun vs H Q _ => ∃ (a pr : Addr) (ns : List Int) (R : List (List Int)) (W l : Int), vs = [.ref a, .ref pr, .int W, .int l] ∧ SqL K H a (ns.map V.int) ∧ LL H pr R ∧ 0 < R.length ∧ R.length < 64 ∧ 0 < W ∧ W ≤ 40 ∧ 0 ≤ l ∧ l ≤ 10 ∧ (∀ row ∈ R, row.length ≤ 3 ∧ ∀ x ∈ row, 0 ≤ x ∧ x + l < W) ∧
  ∀ (p : Addr) (cs : List Int) (H' : Hp), Same H H' → H p = none → H' p = some (.lst (cs.map V.int)) → cs.length ≤ 900 → (∀ c ∈ cs, 0 ≤ c ∧ c ≤ 300) → Q (.ref p) H'
theorem sc__law_counts : FnScope ["script", "rows", "whole", "late", "many", "counts", "k", "row", "i", "delay"] ["script", "rows", "whole", "late"] (defScope st__law_counts) := ⟨rfl, rfl, rfl, by decide +kernel, rfl, by decide +kernel, by decide +kernel⟩
theorem ok_counts66 (D : Def K mg "_law_counts" st__law_counts ["script", "rows", "whole", "late"]) (T : Txt K mg) (G__law_cell_at : Fn P w K mg base 1 "_law_cell_at" ["script", "k"] (spCell K)) (G__law_drawn : Fn P w K mg base 1 "_law_drawn" ["cell", "k"] spDr) : Fn P w K mg base 2 "_law_counts" ["script", "rows", "whole", "late"] (spCnts66 K) := by
  refine D.fn sc__law_counts (fun vs H Q E h => ?_) (fun f cdv A outer s H vs Q E hr h => ?_)
  · obtain ⟨a, pr, ns, R, W, l, rfl, _⟩ := h
    rfl
  · obtain ⟨a, pr, ns, R, W, l, rfl, hS, hR, R0, R64, W0, W40, l0, l10, rb, q⟩ := h
    refine ⟨_, (pss_cons (ps_set (i := 4) sc__law_counts.nd rfl (Or.inl rfl) (pe_op op_modB (pe_fn G__law_drawn (hr.mono (by decide)) (by rfl) (pa_cons (pe_fn G__law_cell_at (hr.mono (by decide)) (by rfl) (pa_cons (pv 0) (pa_cons pe_int pa_nil))) (pa_cons pe_int pa_nil))) pe_int))
      (pss_cons (ps_set (i := 5) sc__law_counts.nd rfl (Or.inl rfl) (pe_op op_rep (pe_lst (pa_cons pe_int pa_nil)) (pe_op op_addI (pe_op op_mulB (pv 4) (pv 2)) (pe_op op_modB (pe_fn G__law_drawn (hr.mono (by decide)) (by rfl) (pa_cons (pe_fn G__law_cell_at (hr.mono (by decide)) (by rfl) (pa_cons (pv 0) (pa_cons pe_int pa_nil))) (pa_cons pe_int pa_nil))) (pe_op op_mulB pe_int (pv 2))))))
      (pss_cons (ps_for PassesOwn.never rfl (pi_range1 (by rfl) T.z_range (pa_cons (pv 4) pa_nil)) (pg_name (i := 6) sc__law_counts.nd rfl (Or.inl rfl))
        (pss_cons (ps_set (i := 7) sc__law_counts.nd rfl (Or.inl rfl) (pe_ix ix_list (pv 1) (pe_op op_modB (pe_fn G__law_drawn (hr.mono (by decide)) (by rfl) (pa_cons (pe_fn G__law_cell_at (hr.mono (by decide)) (by rfl) (pa_cons (pv 0) (pa_cons (pe_op op_addI pe_int (pv 6)) pa_nil))) (pa_cons pe_int pa_nil))) (pe_callB call_len_seq (by rfl) T.z_len b_len (pa_cons (pv 1) pa_nil))) (fun _ _ => rfl)))
        (pss_one (ps_for PassesOwn.never rfl (pi_range1 (by rfl) T.z_range (pa_cons (pe_callB call_len_seq (by rfl) T.z_len b_len (pa_cons (pv 7) pa_nil)) pa_nil)) (pg_name (i := 8) sc__law_counts.nd rfl (Or.inl rfl))
          (pss_cons (ps_set (i := 9) sc__law_counts.nd rfl (Or.inl rfl) (pe_op op_modB (pe_fn G__law_drawn (hr.mono (by decide)) (by rfl) (pa_cons (pe_fn G__law_cell_at (hr.mono (by decide)) (by rfl) (pa_cons (pv 0) (pa_cons (pe_op op_addI pe_int (pv 6)) pa_nil))) (pa_cons (pe_op op_addI pe_int (pv 8)) pa_nil))) (pe_op op_addI (pv 3) pe_int)))
          (pss_one (ps_augS (pv 5) (pe_op op_addI (pe_op op_addI (pe_op op_mulB (pv 6) (pv 2)) (pe_ix ix_list (pv 7) (pv 8) (fun _ _ => rfl))) (pv 9)) get_list pe_int ip_add set_list)))))))
      (pss_one (ps_ret (pv 5)))))), ?_⟩
    refine ⟨_, rfl, a, ns, 0, rfl, hS, by decide, _, 10, rfl, by decide, fun d1 d10 d11 => ⟨_, _, rfl, rfl, (by decide), ?_⟩⟩
    have m0 := Int.emod_nonneg d1 (show (5 : Int) ≠ 0 by decide)
    have m5 := Int.emod_lt_of_pos d1 (show (0 : Int) < 5 by decide)
    generalize d1 % 5 = many at m0 m5 ⊢
    have mW0 : 0 ≤ many * W := Int.mul_nonneg m0 (by omega)
    have mW1 : many * W ≤ 5 * 40 := Int.mul_le_mul (by omega) (by omega) (by omega) (by decide)
    refine ⟨(by decide), fun l1 hl1 => ⟨_, rfl, _, rfl, _, _, rfl, rfl, ⟨64, 64, bits_of m0 (by omega), bits_of (by omega) (by omega), by decide⟩, _, rfl, a, ns, 0, rfl, (Same.new hl1).seq hS, by decide, _, 11, rfl, by decide, fun d2 d20 d21 => ⟨_, rfl, _, _, rfl, rfl, ⟨64, 64, by decide, bits_of (by omega) (by omega), by decide⟩, _, _, rfl, rfl, by omega, _, _, rfl, rfl, ?_⟩⟩⟩
    have r0 := Int.emod_nonneg d2 (show 2 * W ≠ 0 by omega)
    have r1 := Int.emod_lt_of_pos d2 (show 0 < 2 * W by omega)
    obtain ⟨N, hN⟩ : ∃ N : Nat, (N : Int) = many * W + d2 % (2 * W) := ⟨_, Int.toNat_of_nonneg (by omega)⟩
    rw [← hN]
    refine ⟨l1, (N : Int), _, rfl, rfl, upd_same, by omega, by omega, by show 1 * ((N : Int)).toNat ≤ sizeLine; exact Nat.le_of_lt (small1000 (by omega)), fun pc hpc => ?_⟩
    rw [show ((N : Int)).toNat = N by omega, flat_one]
    have pc0 : H pc = none := (Same.new hl1).free hpc
    have s1 : Same H (upd (upd H l1 (.lst [V.int 0])) pc (.lst ((List.replicate N (0 : Int)).map V.int))) := (Same.new hl1).put hpc
    have h1 : (upd (upd H l1 (.lst [V.int 0])) pc (.lst ((List.replicate N (0 : Int)).map V.int))) pc = some (.lst ((List.replicate N (0 : Int)).map V.int)) := upd_same
    generalize upd (upd H l1 (.lst [V.int 0])) pc (.lst ((List.replicate N (0 : Int)).map V.int)) = H1 at s1 h1 ⊢
    obtain ⟨rs, eR, pR⟩ := hR
    have rl := paired_len pR
    refine ⟨_, rfl, many, rfl, by omega, by omega, for_range (n := many.toNat) (fun k σ H2 => ∃ (cs : List Int) (v6 v7 v8 v9 : Option V), σ = [some (.ref a), some (.ref pr), some (.int W), some (.int l), some (.int many), some (.ref pc), v6, v7, v8, v9] ∧ Same H H2 ∧ H2 pc = some (.lst (cs.map V.int)) ∧ cs.length = N ∧ ∀ c ∈ cs, 0 ≤ c ∧ c ≤ (k : Int) * 60) ⟨List.replicate N 0, none, none, none, none, rfl, s1, h1, List.length_replicate, fun c hc => by rw [List.eq_of_mem_replicate hc]; omega⟩ ?_ ?_⟩
    · rintro k σ H2 hk ⟨cs, v6, v7, v8, v9, rfl, sm, hC, cl, cb⟩
      rw [show (0 : Int) + (k : Int) = (k : Int) by omega]
      refine ⟨_, rfl, _, rfl, _, rfl, _, _, rfl, rfl, a, ns, 1 + (k : Int), rfl, sm.seq hS, by omega, _, 12, rfl, by decide, fun d d0 d1 => ⟨_, rfl, _, _, rfl, .inl (SqL.of (sm _ _ eR)), _, _, rfl, rfl, by rw [List.length_map]; omega, ?_⟩⟩
      rw [List.length_map]
      have e0 := Int.emod_nonneg d (show (rs.length : Int) ≠ 0 by omega)
      have e1 := Int.emod_lt_of_pos d (show 0 < (rs.length : Int) by omega)
      obtain ⟨at', hat⟩ : ∃ at' : Nat, (at' : Int) = d % (rs.length : Int) := ⟨_, Int.toNat_of_nonneg e0⟩
      rw [← hat] at e1 ⊢
      have hra : rs[at']? = some rs[at'] := List.getElem?_eq_getElem (by omega)
      obtain ⟨row, hrow, hpb⟩ := paired_get pR hra
      obtain ⟨row3, rowb⟩ := rb row (List.mem_of_getElem? hrow)
      refine ⟨_, _, _, _, rfl, rfl, SqL.of (sm _ _ eR), at_mapR hra, ?_⟩
      have hB4 := sm _ _ hpb
      generalize rs[at'] = pb at hB4 hpb
      refine ⟨_, rfl, _, _, rfl, .inl (SqL.of hB4), _, rfl, by rw [List.length_map]; omega, by rw [List.length_map]; omega, for_range (n := ((row.map V.int).length : Int).toNat) (fun i σ H5 => ∃ (cs : List Int) (v8 v9 : Option V), σ = [some (.ref a), some (.ref pr), some (.int W), some (.int l), some (.int many), some (.ref pc), some (.int (k : Int)), some (.ref pb), v8, v9] ∧ Same H H5 ∧ H5 pb = some (.lst (row.map V.int)) ∧ H5 pc = some (.lst (cs.map V.int)) ∧ cs.length = N ∧ ∀ c ∈ cs, 0 ≤ c ∧ c ≤ (k : Int) * 60 + (i : Int)) ⟨cs, v8, v9, rfl, sm, hB4, hC, cl, fun c hc => by have := cb c hc; omega⟩ ?_ ?_⟩
      · rintro i σ H5 hi ⟨cs2, u8, u9, rfl, s5, hB5, hC5, cl2, cb2⟩
        rw [List.length_map] at hi
        have hi' : i < row.length := by omega
        rw [show (0 : Int) + (i : Int) = (i : Int) by omega]
        refine ⟨_, rfl, _, rfl, _, _, rfl, rfl, a, ns, 7 + (k : Int), rfl, s5.seq hS, by omega, _, rfl, _, _, rfl, rfl, _, 20 + (i : Int), rfl, bits_of (by omega) (by omega), fun d d0 d1 => ⟨_, rfl, _, _, rfl, rfl, _, _, rfl, rfl, by omega, ?_⟩⟩
        have e0 := Int.emod_nonneg d (show l + 1 ≠ 0 by omega)
        have e1 := Int.emod_lt_of_pos d (show 0 < l + 1 by omega)
        generalize d % (l + 1) = dl at e0 e1 ⊢
        have gx := at_map (ns := row) (k := i) (List.getElem?_eq_getElem hi')
        obtain ⟨x0, x1⟩ := rowb row[i] (List.getElem_mem hi')
        generalize row[i] = x at gx x0 x1
        have kW0 : 0 ≤ (k : Int) * W := Int.mul_nonneg (by omega) (by omega)
        have kW1 : (k : Int) * W + W ≤ many * W := by
          have := Int.mul_le_mul_of_nonneg_right (a := (k : Int) + 1) (b := many) (c := W) (by omega) (by omega)
          rw [Int.add_mul, Int.one_mul] at this
          exact this
        have j0 : 0 ≤ (k : Int) * W + x + dl := by omega
        have j1 : (k : Int) * W + x + dl < (N : Int) := by omega
        have npb : pb ≠ pc := fun e => by
          rw [e] at hpb
          rw [hpb] at pc0
          cases pc0
        refine ⟨_, rfl, _, rfl, _, rfl, _, _, rfl, rfl, ⟨64, 64, bits_of (by omega) (by omega), bits_of (by omega) (by omega), by decide⟩, _, rfl, _, rfl, _, _, _, _, rfl, rfl, SqL.of hB5, gx, _, _, rfl, rfl, _, rfl, _, _, rfl, rfl, ?_⟩
        generalize (k : Int) * W + x + dl = j at j0 j1 ⊢
        obtain ⟨jn, rfl⟩ : ∃ jn : Nat, (jn : Int) = j := ⟨_, Int.toNat_of_nonneg j0⟩
        have hj : jn < cs2.length := by omega
        have gj := at_map (ns := cs2) (k := jn) (List.getElem?_eq_getElem hj)
        refine ⟨pc, _, (jn : Int), _, rfl, rfl, SqL.of hC5, j0, gj, _, _, rfl, rfl, pc, _, _, jn, rfl, rfl, hC5, ?_, ?_⟩
        · unfold ixN
          rw [List.length_map, if_pos (by omega), if_pos (by omega), Int.toNat_natCast]
        refine ⟨cs2.set jn (cs2[jn] + 1), _, _, rfl, s5.wr pc0, by rw [upd_ne npb]; exact hB5, by rw [upd_same, List.map_set], by rw [List.length_set]; exact cl2, bd_set (fun x hx => ?_) ?_⟩
        · have := cb2 x hx; omega
        · have := cb2 _ (List.getElem_mem hj); omega
      · rintro σ H5 ⟨cs2, u8, u9, rfl, s5, hB5, hC5, cl2, cb2⟩
        rw [List.length_map] at cb2
        exact ⟨cs2, _, _, _, _, rfl, s5, hC5, cl2, fun c hc => by have := cb2 c hc; omega⟩
    · rintro σ H2 ⟨cs, v6, v7, v8, v9, rfl, sm, hC, cl, cb⟩
      exact ⟨_, rfl, q pc cs H2 sm pc0 hC (by omega) (fun c hc => by have := cb c hc; omega)⟩
end
noncomputable def Can66 (row qs : List Int) (gone l : Int) : Prop := qs.length ≤ row.length ∧ ∀ (i : Nat) (x : Int), row[i]? = some x → (∀ r, qs[i]? = some r → x ≤ r ∧ r ≤ x + l) ∧ (qs.length ≤ i → gone ≤ x + l)
theorem can66_iff {bx qs : List Int} {n l : Int} (l0 : 0 ≤ l) (B : IsBox bx) : Can66 (bellL l bx) qs (n + 1) l ↔ qs.length ≤ bx.length ∧ (∀ (i : Nat) (x : Int), i < qs.length → bx[i]? = some x → (boxL l qs)[i]? = some x) ∧ ∀ x, bx[qs.length]? = some x → (n + 1 - (qs.length : Int)) / (l + 1) ≤ x := by
  have D : 0 < l + 1 := by omega
  constructor
  · rintro ⟨h1, h2⟩
    rw [bellL_length] at h1
    refine ⟨h1, fun i x hi hx => ?_, fun x hx => ?_⟩
    · have hq := List.getElem?_eq_getElem hi
      have := (h2 i _ (bellL_get hx)).1 _ hq
      rw [boxL_get hq]
      have e : (qs[i] - (i : Int)) / (l + 1) = x := by
        have e1 : qs[i] - (i : Int) = (qs[i] - (i : Int) - x * (l + 1)) + (l + 1) * x := by rw [Int.mul_comm (l + 1) x]; omega
        rw [e1, Int.add_mul_ediv_left _ _ (by omega), Int.ediv_eq_zero_of_lt (by omega) (by omega)]
        omega
      rw [e]
    · have := (h2 qs.length _ (bellL_get hx)).2 (Nat.le_refl _)
      have : (n + 1 - (qs.length : Int)) / (l + 1) < x + 1 := (Int.ediv_lt_iff_lt_mul D).mpr (by rw [Int.add_mul, Int.one_mul]; omega)
      omega
  · rintro ⟨h1, h2, h3⟩
    refine ⟨by rw [bellL_length]; exact h1, fun i y hy => ?_⟩
    obtain ⟨x, hx, rfl⟩ := bellL_get' hy
    refine ⟨fun r hr => ?_, fun hi => ?_⟩
    · have hi := (List.getElem?_eq_some_iff.mp hr).1
      have e := h2 i x hi hx
      rw [boxL_get hr] at e
      have e := Option.some.inj e
      have d1 := Int.mul_ediv_add_emod (r - (i : Int)) (l + 1)
      have d2 := Int.emod_nonneg (r - (i : Int)) (show l + 1 ≠ 0 by omega)
      have d3 := Int.emod_lt_of_pos (r - (i : Int)) D
      rw [e, Int.mul_comm] at d1
      omega
    · have il := (List.getElem?_eq_some_iff.mp hx).1
      have hm := List.getElem?_eq_getElem (show qs.length < bx.length by omega)
      have g := h3 _ hm
      have le := B.get hi hm hx
      have d1 := Int.mul_ediv_add_emod (n + 1 - (qs.length : Int)) (l + 1)
      have d3 := Int.emod_lt_of_pos (n + 1 - (qs.length : Int)) D
      have d4 := Int.mul_le_mul_of_nonneg_right (show (n + 1 - (qs.length : Int)) / (l + 1) ≤ x by omega) (show 0 ≤ l + 1 by omega)
      rw [Int.mul_comm] at d1
      omega
noncomputable def InF (b : Nat) (st : Int) (bx : List Int) : Prop := bx.length = b ∧ IsBox bx ∧ ∀ x ∈ bx, x ≤ st
theorem Boxes.all {b : Nat} {st : Int} {L : List (List Int)} (h : Boxes b st L) (b1 : 1 ≤ b) (s0 : 0 ≤ st) {bx : List Int} (hb : InF b st bx) : ∃ k : Nat, L[k]? = some bx ∧ numB bx = (k : Int) := by
  obtain ⟨h1, h2, h3⟩ := hb
  have lt := num_lt_cnt (turns := st + b) (late := 0) h2 (Int.le_refl 0) (by rw [h1]; omega) (fun x hx => by
    have := h3 x hx
    rw [h1, show (st + (b : Int) - (b : Int)) / (0 + 1) = st by rw [show st + (b : Int) - (b : Int) = st by omega]; omega]
    exact this)
  have n0 : 0 ≤ numB bx := numTo_nonneg bx _
  unfold cnt at lt
  rw [h1, if_neg (by omega), show (st + (b : Int) - (b : Int)) / (0 + 1) + (b : Int) = st + b by rw [show st + (b : Int) - (b : Int) = st by omega]; omega, ← h.len] at lt
  have hk : (numB bx).toNat < L.length := by omega
  obtain ⟨a1, a2, _, a4⟩ := h.at' (numB bx).toNat _ (List.getElem?_eq_getElem hk)
  have e : L[(numB bx).toNat] = bx := numB_inj a2 h2 (by omega) (by omega)
  exact ⟨(numB bx).toNat, by rw [List.getElem?_eq_getElem hk, e], by omega⟩
theorem can_none {t b l n st : Int} {qs bx : List Int} (b1 : 1 ≤ b) (l0 : 0 ≤ l) (n0 : 0 ≤ n) (hst : st = (t - b) / (l + 1)) (hx : ∀ x ∈ qs, x ≤ n) (hb : InF b.toNat st bx) (hc : Can66 (bellL l bx) qs (n + 1) l) : (qs.length : Int) ≤ b ∧ KNk t b l n qs ≠ none := by
  obtain ⟨h1, h2, h3⟩ := hb
  obtain ⟨c1, c2, c3⟩ := (can66_iff l0 h2).mp hc
  have hm : (qs.length : Int) ≤ b := by omega
  refine ⟨hm, fun z => knk_none.mp z ?_⟩
  have pre : boxL l qs = bx.take qs.length := by
    apply List.ext_getElem?
    intro i
    by_cases hi : i < qs.length
    · have := List.getElem?_eq_getElem (show i < bx.length by omega)
      rw [c2 i _ hi this, List.getElem?_take, if_pos hi, this]
    · rw [List.getElem?_eq_none (by rw [boxL_length]; omega), List.getElem?_eq_none (by rw [List.length_take]; omega)]
  have Bq : IsBox (boxL l qs) := by
    rw [pre]
    exact ⟨h2.inc.sublist (List.take_sublist _ _), fun x hx => h2.nn x (List.mem_of_mem_take hx)⟩
  rw [boxL_ear hm]
  rcases Int.lt_or_eq_of_le hm with mb | mb
  · have hk : 0 < (b - (qs.length : Int)).toNat := by omega
    have fx := fx_le l0 hx Bq
    have hm' := List.getElem?_eq_getElem (show qs.length < bx.length by omega)
    have g := c3 _ hm'
    have g0 : 0 ≤ (n + 1 - (qs.length : Int)) / (l + 1) := by
      cases hq : boxL l qs with
      | nil =>
        have : qs.length = 0 := by rw [← boxL_length l qs, hq]; rfl
        exact Int.ediv_nonneg (by omega) (by omega)
      | cons y r =>
        have hy : y ∈ boxL l qs := by rw [hq]; exact List.mem_cons_self ..
        exact Int.le_trans (Bq.nn y hy) (fx y hy)
    exact ⟨(isbox_rep hk).mpr ⟨Bq, g0, fx⟩, _, last_rep hk, by rw [← hst]; exact Int.le_trans g (h3 _ (List.getElem_mem _))⟩
  · rw [show (b - (qs.length : Int)).toNat = 0 by omega, List.replicate_zero, List.append_nil]
    have e : boxL l qs = bx := by rw [pre]; exact List.take_of_length_le (by omega)
    rw [e]
    have hl : bx.length - 1 < bx.length := by omega
    exact ⟨h2, bx[bx.length - 1], by rw [List.getLast?_eq_getElem?, List.getElem?_eq_getElem hl], by rw [← hst]; exact h3 _ (List.getElem_mem _)⟩
theorem can_some {t b l n st : Int} {qs : List Int} {kb : Bool} (b1 : 1 ≤ b) (l0 : 0 ≤ l) (hst : st = (t - b) / (l + 1)) (hm : (qs.length : Int) ≤ b) (hk : KNk t b l n qs = some kb) :
    (InF b.toNat st (boxL l (ear b n qs)) ∧ Can66 (bellL l (boxL l (ear b n qs))) qs (n + 1) l) ∧
    (kb = true → ∀ bx, InF b.toNat st bx → Can66 (bellL l bx) qs (n + 1) l → bx = boxL l (ear b n qs)) ∧
    (kb = false → ∃ bx, InF b.toNat st bx ∧ Can66 (bellL l bx) qs (n + 1) l ∧ bx ≠ boxL l (ear b n qs)) := by
  obtain ⟨⟨B, z, hz, zs⟩, ek⟩ := knk_some.mp hk
  rw [← hst] at zs ek
  have el : (boxL l (ear b n qs)).length = b.toNat := by rw [boxL_length, ear_len hm]
  have be := boxL_ear (l := l) (n := n) hm
  have all : ∀ x ∈ boxL l (ear b n qs), x ≤ st := fun x hx => by
    obtain ⟨i, hi, e⟩ := List.getElem_of_mem hx
    rw [List.getLast?_eq_getElem?] at hz
    have := B.get (show i ≤ (boxL l (ear b n qs)).length - 1 by omega) (by rw [List.getElem?_eq_getElem hi, e]) hz
    omega
  have pre : ∀ (i : Nat), i < qs.length → (boxL l (ear b n qs))[i]? = (boxL l qs)[i]? := fun i hi => by rw [be, List.getElem?_append_left (by rw [boxL_length]; exact hi)]
  have post : ∀ (i : Nat), qs.length ≤ i → (i : Int) < b → (boxL l (ear b n qs))[i]? = some ((n + 1 - (qs.length : Int)) / (l + 1)) := fun i h1 h2 => by
    rw [be, List.getElem?_append_right (by rw [boxL_length]; exact h1), boxL_length, List.getElem?_replicate, if_pos (by omega)]
  refine ⟨⟨⟨el, B, all⟩, (can66_iff l0 B).mpr ⟨by omega, fun i x hi hx => by rw [← pre i hi]; exact hx, fun x hx => ?_⟩⟩, fun kt bx hb hc => ?_, fun kf => ?_⟩
  · have il := (List.getElem?_eq_some_iff.mp hx).1
    rw [post qs.length (Nat.le_refl _) (by omega)] at hx
    rw [Option.some.inj hx]
    exact Int.le_refl _
  · obtain ⟨h1, h2, h3⟩ := hb
    obtain ⟨c1, c2, c3⟩ := (can66_iff l0 h2).mp hc
    apply List.ext_getElem?
    intro i
    by_cases hi : i < b.toNat
    · have hbx := List.getElem?_eq_getElem (show i < bx.length by omega)
      by_cases hq : i < qs.length
      · rw [pre i hq, hbx, c2 i _ hq hbx]
      · rw [post i (by omega) (by omega), hbx]
        have hmx := List.getElem?_eq_getElem (show qs.length < bx.length by omega)
        have g := c3 _ hmx
        have le := h2.get (show qs.length ≤ i by omega) hmx hbx
        have up := h3 bx[i] (List.getElem_mem _)
        have kk : decide ((qs.length : Int) = b) = false := decide_eq_false (by omega)
        rw [kt, kk, Bool.false_or] at ek
        have last := of_decide_eq_true ek.symm
        rw [List.getLast?_eq_getElem?, el, post (b.toNat - 1) (by omega) (by omega)] at last
        have := Option.some.inj last
        congr 1
        omega
    · rw [List.getElem?_eq_none (by omega), List.getElem?_eq_none (by omega)]
  · rw [kf] at ek
    have ek := ek.symm
    rw [Bool.or_eq_false_iff] at ek
    have nb := of_decide_eq_false ek.1
    have nl := of_decide_eq_false ek.2
    have hk' : 0 < (b - (qs.length : Int)).toNat := by omega
    rw [be] at B nl
    rw [last_rep hk'] at nl
    obtain ⟨Bq, g0, fx⟩ := (isbox_rep hk').mp B
    have gs : (n + 1 - (qs.length : Int)) / (l + 1) < st := by
      have h1 := all _ (List.mem_of_getElem? (post qs.length (Nat.le_refl _) (by omega)))
      have h2 : (n + 1 - (qs.length : Int)) / (l + 1) ≠ st := fun e => nl (by rw [e])
      omega
    have B2 : IsBox (boxL l qs ++ List.replicate (b - (qs.length : Int)).toNat st) := (isbox_rep hk').mpr ⟨Bq, by omega, fun x hx => by have := fx x hx; omega⟩
    have len2 : (boxL l qs ++ List.replicate (b - (qs.length : Int)).toNat st).length = b.toNat := by rw [List.length_append, boxL_length, List.length_replicate]; omega
    have at2 : (boxL l qs ++ List.replicate (b - (qs.length : Int)).toNat st)[qs.length]? = some st := by rw [List.getElem?_append_right (by rw [boxL_length]; exact Nat.le_refl _), boxL_length, Nat.sub_self, List.getElem?_replicate, if_pos hk']
    refine ⟨_, ⟨len2, B2, fun x hx => ?_⟩, (can66_iff l0 B2).mpr ⟨by omega, fun i x hi hx => ?_, fun x hx => ?_⟩, fun e => ?_⟩
    · rcases List.mem_append.mp hx with z | z
      · have := fx x z; omega
      · rw [List.eq_of_mem_replicate z]; exact Int.le_refl _
    · rwa [List.getElem?_append_left (by rw [boxL_length]; exact hi)] at hx
    · rw [at2] at hx
      have := Option.some.inj hx
      omega
    · have h1 := post qs.length (Nat.le_refl _) (by omega)
      rw [← e, at2] at h1
      have := Option.some.inj h1
      omega
noncomputable def left66 (L : List (List Int)) (l : Int) (qs : List Int) (gone : Int) : List Int := open Classical in ((List.range L.length).filter (fun k => decide (Can66 (bellL l (L.getD k [])) qs gone l))).map (fun (k : Nat) => (k : Int))
theorem left_end {t b l n st : Int} {qs : List Int} {L : List (List Int)} (b1 : 1 ≤ b) (l0 : 0 ≤ l) (n0 : 0 ≤ n) (s0 : 0 ≤ st) (hst : st = (t - b) / (l + 1)) (hx : ∀ x ∈ qs, x ≤ n) (hL : Boxes b.toNat st L) :
    ((b < (qs.length : Int) ∨ KNk t b l n qs = none) → left66 L l qs (n + 1) = []) ∧
    ((qs.length : Int) ≤ b → KNk t b l n qs = some true → left66 L l qs (n + 1) = [numB (boxL l (ear b n qs))]) ∧
    ((qs.length : Int) ≤ b → KNk t b l n qs = some false → 1 < (left66 L l qs (n + 1)).length) := by
  classical
  have inF : ∀ {k : Nat} {bx : List Int}, L[k]? = some bx → InF b.toNat st bx := fun {k bx} h => by
    obtain ⟨a1, a2, a3, _⟩ := hL.at' k bx h
    exact ⟨a1, a2, a3⟩
  have memf : ∀ k : Nat, k ∈ (List.range L.length).filter (fun k => decide (Can66 (bellL l (L.getD k [])) qs (n + 1) l)) ↔ k < L.length ∧ Can66 (bellL l (L.getD k [])) qs (n + 1) l := fun k => by
    rw [List.mem_filter, List.mem_range, decide_eq_true_eq]
  have gd : ∀ {k : Nat} (h : k < L.length), L[k]? = some (L.getD k []) := fun {k} h => by rw [List.getD_eq_getElem?_getD, List.getElem?_eq_getElem h]; rfl
  refine ⟨fun h => ?_, fun hm hk => ?_, fun hm hk => ?_⟩
  · unfold left66
    rw [List.map_eq_nil_iff, List.eq_nil_iff_forall_not_mem]
    intro k hk
    obtain ⟨h1, h2⟩ := (memf k).mp hk
    obtain ⟨z1, z2⟩ := can_none (t := t) b1 l0 n0 hst hx (inF (gd h1)) h2
    rcases h with h | h
    · omega
    · exact z2 h
  · obtain ⟨⟨c1, c2⟩, c3, _⟩ := can_some (t := t) b1 l0 hst hm hk
    obtain ⟨k, hk1, hk2⟩ := hL.all (by omega) s0 c1
    have kl := (List.getElem?_eq_some_iff.mp hk1).1
    have uq : ∀ j, j ∈ (List.range L.length).filter (fun k => decide (Can66 (bellL l (L.getD k [])) qs (n + 1) l)) ↔ j = k := fun j => by
      rw [memf]
      constructor
      · rintro ⟨j1, j2⟩
        have e := c3 rfl _ (inF (gd j1)) j2
        have := (hL.at' j _ (gd j1)).2.2.2
        rw [e, hk2] at this
        omega
      · rintro rfl
        refine ⟨kl, ?_⟩
        rw [List.getD_eq_getElem?_getD, hk1]
        exact c2
    unfold left66
    rw [hk2]
    have nd : ((List.range L.length).filter (fun k => decide (Can66 (bellL l (L.getD k [])) qs (n + 1) l))).Nodup := List.nodup_range.filter _
    generalize (List.range L.length).filter (fun k => decide (Can66 (bellL l (L.getD k [])) qs (n + 1) l)) = F at uq nd
    have : F = [k] := by
      cases F with
      | nil => exact absurd ((uq k).mpr rfl) (fun z => nomatch z)
      | cons x r =>
        obtain rfl := (uq x).mp (List.mem_cons_self ..)
        cases r with
        | nil => rfl
        | cons y r =>
          obtain rfl := (uq y).mp (List.mem_cons_of_mem _ (List.mem_cons_self ..))
          exact absurd (List.mem_cons_self ..) (List.nodup_cons.mp nd).1
    rw [this]
    rfl
  · obtain ⟨⟨c1, c2⟩, _, c3⟩ := can_some (t := t) b1 l0 hst hm hk
    obtain ⟨bx, d1, d2, d3⟩ := c3 rfl
    obtain ⟨k, hk1, hk2⟩ := hL.all (by omega) s0 c1
    obtain ⟨j, hj1, hj2⟩ := hL.all (by omega) s0 d1
    have kl := (List.getElem?_eq_some_iff.mp hk1).1
    have jl := (List.getElem?_eq_some_iff.mp hj1).1
    have km : k ∈ (List.range L.length).filter (fun k => decide (Can66 (bellL l (L.getD k [])) qs (n + 1) l)) := (memf k).mpr ⟨kl, by rw [List.getD_eq_getElem?_getD, hk1]; exact c2⟩
    have jm : j ∈ (List.range L.length).filter (fun k => decide (Can66 (bellL l (L.getD k [])) qs (n + 1) l)) := (memf j).mpr ⟨jl, by rw [List.getD_eq_getElem?_getD, hj1]; exact d2⟩
    have ne : j ≠ k := fun e => by
      subst e
      rw [hk1] at hj1
      exact d3 (Option.some.inj hj1).symm
    unfold left66
    rw [List.length_map]
    generalize (List.range L.length).filter (fun k => decide (Can66 (bellL l (L.getD k [])) qs (n + 1) l)) = F at km jm
    match F, km, jm with
    | [], km, _ => exact nomatch km
    | [x], km, jm => exact absurd ((List.mem_singleton.mp jm).trans (List.mem_singleton.mp km).symm) ne
    | _ :: _ :: _, _, _ => simp
section
variable {P : Program} {w : World} {K : PySem.W.Frag} {mg : Str → Option Value} {base : Heap}
noncomputable def spCan66 : Sp := fun vs H Q _ => ∃ (ra qa : Addr) (row qs : List Int) (gone l : Int), vs = [.ref ra, .ref qa, .int gone, .int l] ∧ H ra = some (.lst (row.map V.int)) ∧ H qa = some (.lst (qs.map V.int)) ∧ row.length ≤ 100 ∧ ∀ cb : Bool, (cb = true ↔ Can66 row qs gone l) → Q (.bl cb) H
theorem sc__law_can : FnScope ["row", "reading", "gone", "late", "i"] ["row", "reading", "gone", "late"] (defScope st__law_can) := ⟨rfl, rfl, rfl, by decide +kernel, rfl, by decide +kernel, by decide +kernel⟩
theorem ok_can66 (D : Def K mg "_law_can" st__law_can ["row", "reading", "gone", "late"]) (T : Txt K mg) : Fn P w K mg base 1 "_law_can" ["row", "reading", "gone", "late"] spCan66 := by
  refine D.fn sc__law_can (fun vs H Q E h => ?_) (fun f cdv A outer s H vs Q E hr h => ?_)
  · obtain ⟨ra, qa, row, qs, gone, l, rfl, _⟩ := h
    rfl
  · obtain ⟨ra, qa, row, qs, gone, l, rfl, hR, hQ, rl, q⟩ := h
    refine ⟨_, (pss_cons (ps_if (pt_cmpR op_gtI (pe_callB call_len_seq (by rfl) T.z_len b_len (pa_cons (pv 1) pa_nil)) (pe_callB call_len_seq (by rfl) T.z_len b_len (pa_cons (pv 0) pa_nil)) (nomark _))
        (pss_one (ps_ret pe_bl))
        pss_nil)
      (pss_cons (ps_for PassesOwn.never rfl (pi_range1 (by rfl) T.z_range (pa_cons (pe_callB call_len_seq (by rfl) T.z_len b_len (pa_cons (pv 0) pa_nil)) pa_nil)) (pg_name (i := 4) sc__law_can.nd rfl (Or.inl rfl))
        (pss_cons (ps_if (pw_and (pt_cmpR op_ltI (pv 4) (pe_callB call_len_seq (by rfl) T.z_len b_len (pa_cons (pv 1) pa_nil)) (nomark _)) (pw_and1 (pt_not (pt_chain op_leI op_leI (pe_ix ix_list (pv 0) (pv 4) (fun _ _ => rfl)) (pe_ix ix_list (pv 1) (pv 4) (fun _ _ => rfl)) (pe_op op_addI (pe_ix ix_list (pv 0) (pv 4) (fun _ _ => rfl)) (pv 3)))))).pt
          (pss_one (ps_ret pe_bl))
          pss_nil)
        (pss_one (ps_if (pw_and (pt_cmpR op_geI (pv 4) (pe_callB call_len_seq (by rfl) T.z_len b_len (pa_cons (pv 1) pa_nil)) (nomark _)) (pw_and1 (pt_cmpR op_ltI (pe_op op_addI (pe_ix ix_list (pv 0) (pv 4) (fun _ _ => rfl)) (pv 3)) (pv 2) (nomark _)))).pt
          (pss_one (ps_ret pe_bl))
          pss_nil))))
      (pss_one (ps_ret pe_bl)))), ?_⟩
    have no : ¬ Can66 row qs gone l → Q (.bl false) H := fun z => q false ⟨fun y => (nomatch y), fun y => absurd y z⟩
    refine ⟨_, rfl, _, _, rfl, .inl (SqL.of hQ), _, rfl, _, _, rfl, .inl (SqL.of hR), _, _, rfl, rfl, _, rfl, ?_⟩
    rw [List.length_map, List.length_map]
    refine ifD (fun h => no fun y => by have := y.1; omega) (fun h => ?_)
    refine ⟨_, rfl, _, _, rfl, .inl (SqL.of hR), ?_⟩
    rw [List.length_map]
    refine ⟨_, rfl, by omega, by omega, for_range (n := row.length) (fun i σ H2 => ∃ (v4 : Option V), σ = [some (.ref ra), some (.ref qa), some (.int gone), some (.int l), v4] ∧ H2 = H ∧ ∀ (j : Nat) (x : Int), j < i → row[j]? = some x → (∀ r, qs[j]? = some r → x ≤ r ∧ r ≤ x + l) ∧ (qs.length ≤ j → gone ≤ x + l)) ⟨none, rfl, rfl, fun j x z => absurd z (Nat.not_lt_zero _)⟩ ?_ ?_⟩
    · rintro i σ H2 hi ⟨v4, rfl, rfl, inv⟩
      rw [show (0 : Int) + (i : Int) = (i : Int) by omega]
      have ex := List.getElem?_eq_getElem hi
      have gx := at_map ex
      generalize row[i] = x at ex gx
      have bad : ¬ ((∀ r, qs[i]? = some r → x ≤ r ∧ r ≤ x + l) ∧ (qs.length ≤ i → gone ≤ x + l)) → Q (.bl false) H2 := fun z => no fun y => z (y.2 i x ex)
      have fin : (∀ r, qs[i]? = some r → x ≤ r ∧ r ≤ x + l) → (qs.length ≤ i → gone ≤ x + l) → ∃ (v4 : Option V), [some (V.ref ra), some (.ref qa), some (.int gone), some (.int l), some (.int (i : Int))] = [some (.ref ra), some (.ref qa), some (.int gone), some (.int l), v4] ∧ H2 = H2 ∧ ∀ (j : Nat) (x : Int), j < i + 1 → row[j]? = some x → (∀ r, qs[j]? = some r → x ≤ r ∧ r ≤ x + l) ∧ (qs.length ≤ j → gone ≤ x + l) := fun c2 c3 => ⟨_, rfl, rfl, fun j x' hj ex' => by
        rcases Nat.lt_or_eq_of_le (Nat.lt_succ_iff.mp hj) with z | z
        · exact inv j x' z ex'
        · subst z
          rw [ex] at ex'
          rw [← Option.some.inj ex']
          exact ⟨c2, c3⟩⟩
      by_cases hq : i < qs.length
      · have er := List.getElem?_eq_getElem hq
        have gr := at_map er
        generalize qs[i] = r at er gr
        refine ⟨_, rfl, _, rfl, _, _, rfl, .inl (SqL.of hQ), _, _, rfl, rfl, _, rfl, ?_⟩
        rw [List.length_map]
        refine ifT (by omega) ⟨_, rfl, _, rfl, _, _, _, _, rfl, rfl, SqL.of hR, gx, _, rfl, _, rfl, _, _, _, _, rfl, rfl, SqL.of hQ, gr, _, _, rfl, rfl, _, rfl, ifD (fun z1 => ⟨_, rfl, _, rfl, _, _, _, _, rfl, rfl, SqL.of hR, gx, _, rfl, _, _, rfl, rfl, _, _, rfl, rfl, _, rfl, ifND (fun z2 => bad fun w => z2 (w.1 r er).2) (fun z2 => ?_)⟩) (fun z1 => ⟨_, rfl, iteT (bad fun w => z1 (w.1 r er).1)⟩)⟩
        refine ⟨_, rfl, _, rfl, _, _, rfl, .inl (SqL.of hQ), _, _, rfl, rfl, _, rfl, ?_⟩
        rw [List.length_map]
        exact ifF (by omega) (fin (fun r' e => by
          rw [er] at e
          have := Option.some.inj e
          omega) (fun z => by omega))
      · refine ⟨_, rfl, _, rfl, _, _, rfl, .inl (SqL.of hQ), _, _, rfl, rfl, _, rfl, ?_⟩
        rw [List.length_map]
        refine ifF (by omega) ?_
        refine ⟨_, rfl, _, rfl, _, _, rfl, .inl (SqL.of hQ), _, _, rfl, rfl, _, rfl, ?_⟩
        rw [List.length_map]
        refine ifT (by omega) ⟨_, rfl, _, rfl, _, _, _, _, rfl, rfl, SqL.of hR, gx, _, rfl, _, _, rfl, rfl, _, rfl, _, _, rfl, rfl, _, rfl, ifD (fun z => bad fun w => by have := w.2 (by omega); omega) (fun z => fin (fun r' e => by rw [List.getElem?_eq_none (by omega)] at e; cases e) (fun _ => by omega))⟩
    · rintro σ H2 ⟨v4, rfl, rfl, inv⟩
      exact q true ⟨fun _ => ⟨by omega, fun i x hx => inv i x (List.getElem?_eq_some_iff.mp hx).1 hx⟩, fun _ => rfl⟩
end
noncomputable def knAt (cs : List Int) (L t b l : Int) : Nat → Bool
  | 0 => false
  | i + 1 => if ((i + 1 : Nat) : Int) % L = 0 then false else (KNk t b l ((i : Int) % L) (nowAt cs L i)).getD false
noncomputable def DueBadK (cs : List Int) (L t b l : Int) (i : Nat) : Prop := cs.getD i 0 < 0 ∨ b < ((nowAt cs L i).length : Int) ∨ KNk t b l ((i : Int) % L) (nowAt cs L i) = none
noncomputable def dueToldK (cs : List Int) (L t b l : Int) (i : Nat) : List Int := if KNk t b l ((i : Int) % L) (nowAt cs L i) = some true ∧ knAt cs L t b l i = false then [numB (boxL l (ear b ((i : Int) % L) (nowAt cs L i)))] else []
theorem kn_zero {cs : List Int} {L t b l : Int} {i : Nat} (h : (i : Int) % L = 0) : knAt cs L t b l i = false := by
  cases i with
  | zero => rfl
  | succ i => show (if _ then _ else _) = _; rw [if_pos h]
theorem kn_next {cs : List Int} {L t b l : Int} {i : Nat} (h : ¬ ((i + 1 : Nat) : Int) % L = 0) : knAt cs L t b l (i + 1) = (KNk t b l ((i : Int) % L) (nowAt cs L i)).getD false := by
  show (if _ then _ else _) = _
  rw [if_neg h]
theorem kn_stay {cs : List Int} {L t b l : Int} {i : Nat} {kb : Bool} (hL : 0 < L) (l0 : 0 ≤ l) (c0 : 0 ≤ cs.getD i 0) (hb : ((nowAt cs L i).length : Int) ≤ b) (h1 : knAt cs L t b l i = true) (h2 : KNk t b l ((i : Int) % L) (nowAt cs L i) = some kb) : kb = true := by
  cases i with
  | zero => cases h1
  | succ i =>
    by_cases h : ((i + 1 : Nat) : Int) % L = 0
    · rw [kn_zero h] at h1; cases h1
    · rw [kn_next h] at h1
      have nm := next_mod (g := (i : Int)) hL
      rw [show (i : Int) + 1 = ((i + 1 : Nat) : Int) by omega] at nm
      have nm : ((i + 1 : Nat) : Int) % L = (i : Int) % L + 1 := by
        by_cases y : (i : Int) % L = L - 1
        · rw [if_pos y] at nm; exact absurd nm h
        · rw [if_neg y] at nm; exact nm
      have en : nowAt cs L (i + 1) = nowAt cs L i ++ List.replicate (cs.getD (i + 1) 0).toNat ((i : Int) % L + 1) := by
        show rdAt cs L (i + 1) ++ _ = _
        rw [rd_next h, nm]
      rw [en] at hb h2
      rw [nm] at h2
      have h3 : KNk t b l ((i : Int) % L) (nowAt cs L i) = some true := by
        cases e : KNk t b l ((i : Int) % L) (nowAt cs L i) with
        | none => rw [e] at h1; cases h1
        | some x => rw [e] at h1; exact congrArg some h1
      exact knk_mono l0 c0 hb h3 h2
theorem comp_rangeF {lo : Int} {n : Nat} {acc : Addr} {own : Nat} {ix : List Nat} {g : TG} {tt : TT} {te : TE} {σ : St} {H1 : Hp} {Q : VK} (f : Nat → Bool) (h : Nat → V) (hn : H1 acc = none) (hz : n ≤ sizeLine)
    (step : ∀ (i : Nat) (H : Hp) (R1 : VK) (R2 : Hp → Prop), i < n → Same H1 H → (f i = true → R1 (h i) H) → (f i = false → R2 H) → g (.int (lo + i)) (blockSt own ix σ) H fun σ4 H4 => σ4.drop own = ix.map (fun i => (σ[i]?).getD none) ∧ tt σ4 H4 fun ok H5 => if ok = true then te σ4 H5 R1 else R2 H5)
    (hd : Q (.ref acc) (upd H1 acc (.lst (((List.range n).filter f).map h)))) : CompGo (Itr lo n) own ix g tt te σ H1 acc Q := by
  refine ⟨fun i m ys H => m = n - i ∧ i ≤ n ∧ ys = ((List.range i).filter f).map h ∧ H = upd H1 acc (.lst ys), ⟨n, by simp, Nat.zero_le _, rfl, rfl⟩, ?_⟩
  rintro i m ys H ⟨rfl, hi, rfl, rfl⟩
  refine ⟨upd_same, ?_⟩
  by_cases hlt : i < n
  · refine .inr ⟨hlt, ?_, fun x H3 y => ?_⟩
    · have h1 := List.length_filter_le f (List.range i)
      rw [List.length_range] at h1
      rw [List.length_map]
      omega
    obtain ⟨e, y⟩ := y
    subst e y
    refine step i _ _ _ hlt (Same.new hn) (fun fx => ⟨upd_same, n - (i + 1), by omega, rfl, hlt, ?_, by rw [upd_upd]⟩) (fun fx => ⟨n - (i + 1), by omega, rfl, hlt, ?_, rfl⟩)
    · rw [List.range_succ, List.filter_append, List.map_append]
      simp [fx]
    · rw [List.range_succ, List.filter_append, List.map_append]
      simp [fx]
  · have e : i = n := by omega
    subst e
    exact .inl ⟨Nat.le_refl _, hd⟩
theorem now_up {cs : List Int} {L : Int} (hL : 0 < L) (i : Nat) : ∀ x ∈ nowAt cs L i, x ≤ (i : Int) % L := fun x hx => (now_le hL i x hx).2
noncomputable def DueInv66 (H : Hp) (c rw pd : Addr) (cs : List Int) (L t b l : Int) (i : Nat) (σ : St) (H2 : Hp) : Prop := ∃ (as : List Addr) (pr : Addr) (rv : List Int) (tv : Bool) (v5 v6 v7 : Option V), σ = [some (.ref c), some (.ref rw), some (.int L), some (.int l), some (.ref pd), some (.ref pr), some (.bl tv), v5, v6, v7] ∧ Same H H2 ∧ H2 pd = some (.lst (as.map V.ref)) ∧ as.length = i ∧ (∀ (j : Nat) (x : Addr), as[j]? = some x → x ≠ pd ∧ H2 x = some (.lst ((dueToldK cs L t b l j).map V.int)) ∧ ¬ DueBadK cs L t b l j) ∧ pr ≠ pd ∧ H2 pr = some (.lst (rv.map V.int)) ∧ (rv.length : Int) ≤ b ∧ (¬ (i : Int) % L = 0 → rv = rdAt cs L i ∧ tv = knAt cs L t b l i)
section
variable {P : Program} {w : World} {K : PySem.W.Frag} {mg : Str → Option Value} {base : Heap}
structure Fr66 (t b l st : Int) : Prop where
  b1 : 1 ≤ b
  b3 : b ≤ 3
  bt : b ≤ t
  l0 : 0 ≤ l
  l10 : l ≤ 10
  s0 : 0 ≤ st
  s3 : st ≤ 3
  tl : t + l ≤ 40
  est : st = (t - b) / (l + 1)
noncomputable def spDue66 : Sp := fun vs H Q _ => ∃ (c rw : Addr) (cs : List Int) (t b l st : Int) (Lb : List (List Int)), vs = [.ref c, .ref rw, .int (t + l), .int l] ∧ H c = some (.lst (cs.map V.int)) ∧ LL H rw (Lb.map (bellL l)) ∧ Boxes b.toNat st Lb ∧ Fr66 t b l st ∧ cs.length ≤ 900 ∧ (∀ x ∈ cs, -5 ≤ x ∧ x ≤ 303) ∧
  ∀ (p : Addr) (as : List Addr) (tl : List V) (H' : Hp), Same H H' → H p = none → H' p = some (.lst (as.map V.ref ++ tl)) → as.length ≤ cs.length → (∀ (j : Nat) (x : Addr), as[j]? = some x → H' x = some (.lst ((dueToldK cs (t + l) t b l j).map V.int)) ∧ ¬ DueBadK cs (t + l) t b l j) → ((tl = [] ∧ as.length = cs.length) ∨ (tl = [.non] ∧ as.length < cs.length ∧ DueBadK cs (t + l) t b l as.length)) → Q (.ref p) H'
theorem sc__law_due : FnScope ["counts", "rows", "whole", "late", "due", "reading", "told", "at", "turn", "left"] ["counts", "rows", "whole", "late"] (defScope st__law_due) := ⟨rfl, rfl, rfl, by decide +kernel, rfl, by decide +kernel, by decide +kernel⟩
theorem ok_due66 (D : Def K mg "_law_due" st__law_due ["counts", "rows", "whole", "late"]) (T : Txt K mg) (G__law_can : Fn P w K mg base 1 "_law_can" ["row", "reading", "gone", "late"] spCan66) : Fn P w K mg base 3 "_law_due" ["counts", "rows", "whole", "late"] spDue66 := by
  classical
  refine D.fn sc__law_due (fun vs H Q E h => ?_) (fun f cdv A outer s H vs Q E hr h => ?_)
  · obtain ⟨c, rw, cs, t, b, l, st, Lb, rfl, _⟩ := h
    rfl
  · obtain ⟨c, rw, cs, t, b, l, st, Lb, rfl, hC, hRw, hLb, FR, cl, cb, q⟩ := h
    obtain ⟨b1, b3, bt, l0, l10, st0, st3, t40, est⟩ := id FR
    have hu := hu64 hr
    refine ⟨_, (pss_cons (ps_set (i := 4) sc__law_due.nd rfl (Or.inl rfl) (pe_lst pa_nil))
      (pss_cons (ps_set (i := 5) sc__law_due.nd rfl (Or.inr rfl) (pe_lst pa_nil))
      (pss_cons (ps_set (i := 6) sc__law_due.nd rfl (Or.inl rfl) pe_bl)
      (pss_cons (ps_for PassesOwn.never rfl (pi_range1 (by rfl) T.z_range (pa_cons (pe_callB call_len_seq (by rfl) T.z_len b_len (pa_cons (pv 0) pa_nil)) pa_nil)) (pg_name (i := 7) sc__law_due.nd rfl (Or.inl rfl))
        (pss_cons (ps_set (i := 8) sc__law_due.nd rfl (Or.inr rfl) (pe_op op_modB (pv 7) (pv 2)))
        (pss_cons (ps_if (pt_cmpR op_eqI (pv 8) pe_int (nomark _))
          (pss_cons (ps_set (i := 5) sc__law_due.nd rfl (Or.inr rfl) (pe_lst pa_nil))
          (pss_one (ps_set (i := 6) sc__law_due.nd rfl (Or.inl rfl) pe_bl)))
          pss_nil)
        (pss_cons (ps_if (pt_cmpR op_ltI (pe_ix ix_list (pv 0) (pv 7) (fun _ _ => rfl)) pe_int (nomark _))
          (pss_one (ps_ret (pe_op op_cat (pv 4) (pe_lst (pa_cons pe_non pa_nil)))))
          pss_nil)
        (pss_cons (ps_set (i := 5) sc__law_due.nd rfl (Or.inr rfl) (pe_op op_cat (pv 5) (pe_op op_rep (pe_lst (pa_cons (pv 8) pa_nil)) (pe_ix ix_list (pv 0) (pv 7) (fun _ _ => rfl)))))
        (pss_cons (ps_setC (k := 9) (own := ["k"]) (fr := ["reading", "late", "rows", "turn"]) (ix := [5, 3, 1, 8]) rfl sc__law_due.nd rfl rfl ⟨rfl, rfl, rfl, rfl, rfl, rfl⟩ (pi_range1 (by rfl) T.z_range (pa_cons (pe_callB call_len_seq (by rfl) T.z_len b_len (pa_cons (pv 1) pa_nil)) pa_nil)) (fun _ _ _ _ _ => (pg_name (i := 0) (show (["k", "reading", "late", "rows", "turn"] : List Str).Nodup by decide +kernel) rfl (Or.inl rfl))) (fun _ _ _ _ _ => pts_one (pt_val (pe_fn G__law_can (hr.mono (by decide)) (by rfl) (pa_cons (pe_ix (ix_listK K) (pv 3) (pv 0) (fun _ _ => rfl)) (pa_cons (pv 1) (pa_cons (pe_op op_addI (pv 4) pe_int) (pa_cons (pv 2) pa_nil))))))) (fun _ _ _ _ _ => (pv 0)))
        (pss_cons (ps_if (pt_cmpR (op_eqL hu) (pv 9) (pe_lst pa_nil) (nomark _))
          (pss_one (ps_ret (pe_op op_cat (pv 4) (pe_lst (pa_cons pe_non pa_nil)))))
          pss_nil)
        (pss_one (ps_if (pw_or (pt_val (pv 6)) (pw_or1 (pt_cmpR op_gtI (pe_callB call_len_seq (by rfl) T.z_len b_len (pa_cons (pv 9) pa_nil)) pe_int (nomark _)))).pt
          (pss_one (ps_expr (pe_bm PySem.F.plainAttrs_list PySem.F.slot_list_append PySem.F.type_list_append mt_append (pv 4) (pa_cons (pe_lst pa_nil) pa_nil))))
          (pss_cons (ps_expr (pe_bm PySem.F.plainAttrs_list PySem.F.slot_list_append PySem.F.type_list_append mt_append (pv 4) (pa_cons (pv 9) pa_nil)))
          (pss_one (ps_set (i := 6) sc__law_due.nd rfl (Or.inl rfl) pe_bl))))))))))))
      (pss_one (ps_ret (pv 4))))))), ?_⟩
    refine ⟨(by decide), fun pd hpd => ⟨(by decide), fun pr hpr => ?_⟩⟩
    obtain ⟨L, hL⟩ : ∃ L, L = t + l := ⟨_, rfl⟩
    have L0 : 0 < L := by omega
    have s1 : Same H (upd (upd H pd (.lst [])) pr (.lst [])) := (Same.new hpd).put hpr
    have npr : pr ≠ pd := (ne_of_none (show (upd H pd (.lst [])) pd = some (.lst []) from upd_same) hpr).symm
    have hd1 : (upd (upd H pd (.lst [])) pr (.lst [])) pd = some (.lst []) := by rw [upd_ne npr.symm]; exact upd_same
    have hr1 : (upd (upd H pd (.lst [])) pr (.lst [])) pr = some (.lst []) := upd_same
    generalize upd (upd H pd (.lst [])) pr (.lst []) = H1 at s1 hd1 hr1 ⊢
    rw [← hL] at q ⊢
    obtain ⟨rs, eR, pR⟩ := hRw
    have rl := paired_len pR
    rw [List.length_map] at rl
    have r64 := hLb.sm
    refine ⟨_, rfl, _, _, rfl, .inl (SqL.of (s1 _ _ hC)), ?_⟩
    rw [List.length_map]
    refine ⟨_, rfl, by omega, by omega, for_range (n := cs.length) (DueInv66 H c rw pd cs L t b l) ⟨[], pr, [], false, none, none, none, rfl, s1, hd1, rfl, (fun j x h => by simp at h), npr, hr1, by show (0 : Int) ≤ b; omega, fun z => absurd (Int.zero_emod _) z⟩ ?_ ?_⟩
    · rintro i σ H2 hi ⟨as, pr, rv, tv, v5, v6, v7, rfl, s2, hD, al, hA, npr, hR, rl', hrv⟩
      rw [show (0 : Int) + (i : Int) = (i : Int) by omega]
      have hc2 := s2 _ _ hC
      have ec : cs[i]? = some (cs.getD i 0) := by rw [List.getD_eq_getElem?_getD, List.getElem?_eq_getElem hi]; rfl
      have gc := at_map ec
      have cbi := cb _ (List.mem_of_getElem? ec)
      have rlen : ((rdAt cs L i).length : Int) ≤ b := by
        by_cases z : (i : Int) % L = 0
        · rw [rd_zero z]; show (0 : Int) ≤ b; omega
        · rw [← (hrv z).1]; exact rl'
      have hBd : DueBadK cs L t b l i ↔ (cs.getD i 0 < 0 ∨ b < ((nowAt cs L i).length : Int) ∨ KNk t b l ((i : Int) % L) (nowAt cs L i) = none) := Iff.rfl
      have hTd : dueToldK cs L t b l i = if KNk t b l ((i : Int) % L) (nowAt cs L i) = some true ∧ knAt cs L t b l i = false then [numB (boxL l (ear b ((i : Int) % L) (nowAt cs L i)))] else [] := rfl
      have hq : nowAt cs L i = rdAt cs L i ++ List.replicate (cs.getD i 0).toNat ((i : Int) % L) := rfl
      have hnx : ¬ ((i + 1 : Nat) : Int) % L = 0 → rdAt cs L (i + 1) = nowAt cs L i := rd_next
      have hkn : ¬ ((i + 1 : Nat) : Int) % L = 0 → knAt cs L t b l (i + 1) = (KNk t b l ((i : Int) % L) (nowAt cs L i)).getD false := kn_next
      have hst := fun (kb : Bool) (z1 : 0 ≤ cs.getD i 0) (z2 : ((nowAt cs L i).length : Int) ≤ b) (z3 : knAt cs L t b l i = true) (z4 : KNk t b l ((i : Int) % L) (nowAt cs L i) = some kb) => kn_stay L0 l0 z1 z2 z3 z4
      have nup := now_up (cs := cs) (L := L) L0 i
      generalize cs.getD i 0 = ci at ec gc cbi hBd hTd hq hst
      refine ⟨_, rfl, _, rfl, _, _, rfl, rfl, by omega, ?_⟩
      have fin : DueBadK cs L t b l i → ∀ (H5 : Hp), Same H H5 → Same H2 H5 → ∀ p5 p6, H5 p5 = none → (upd H5 p5 (.lst [.non])) p6 = none → Q (.ref p6) (upd (upd H5 p5 (.lst [.non])) p6 (.lst (as.map V.ref ++ [.non]))) := fun bd H5 s5 s25 p5 p6 h5 h6 => q p6 as [.non] _ ((s5.put h5).put h6) ((s5.put h5).free h6) upd_same (by omega) (fun j x hx => ⟨((s25.put h5).put h6) _ _ (hA j x hx).2.1, (hA j x hx).2.2⟩) (.inr ⟨rfl, by omega, by rw [al]; exact bd⟩)
      have as1 : (as.map V.ref).length + 1 ≤ sizeLine := by rw [List.length_map]; exact Nat.le_of_lt (small1000 (by omega))
      try dsimp only [gName]
      change tSeq (tIfS _ _ _) _ _ _ _
      refine cut1 (fun σ H3 => ∃ pr' : Addr, σ = [some (.ref c), some (.ref rw), some (.int L), some (.int l), some (.ref pd), some (.ref pr'), some (.bl (knAt cs L t b l i)), some (.int (i : Int)), some (.int ((i : Int) % L)), v7] ∧ Same H2 H3 ∧ H3 pr' = some (.lst ((rdAt cs L i).map V.int))) ?t1 (fun N hN => ⟨_, rfl, _, _, rfl, rfl, _, rfl, ifD (fun z => ⟨(by decide), fun p2 hp2 => hN _ _ ⟨p2, by rw [kn_zero z]; rfl, Same.new hp2, by rw [rd_zero z]; exact upd_same⟩⟩) (fun z => hN _ _ ⟨pr, by rw [(hrv z).2]; rfl, Same.refl _, by rw [← (hrv z).1]; exact hR⟩)⟩)
      rintro σ H3 ⟨pr', rfl, s3, hR3⟩
      have hc3 := s3 _ _ hc2
      have hd3 := s3 _ _ hD
      generalize hn : (i : Int) % L = n at hBd hTd hq hkn hst nup ⊢
      have n0 : 0 ≤ n := by rw [← hn]; exact Int.emod_nonneg _ (by omega)
      have n1 : n ≤ (i : Int) := by rw [← hn]; exact mod_le (by omega) L0
      generalize hkv : knAt cs L t b l i = kv at hTd hst ⊢
      refine ⟨_, rfl, _, rfl, _, _, _, _, rfl, rfl, SqL.of hc3, gc, _, _, rfl, rfl, _, rfl, ifD (fun z => ⟨_, rfl, (by decide), fun p5 hp5 => ⟨pd, p5, _, _, rfl, rfl, (Same.new hp5) _ _ hd3, upd_same, as1, fun p6 hp6 => fin (hBd.mpr (.inl z)) H3 (s2.trans s3) s3 p5 p6 hp5 hp6⟩⟩) (fun c0 => ?_)⟩
      refine ⟨_, rfl, _, rfl, (by show 1 ≤ sizeLine; decide), fun a1 ha1 => ⟨_, rfl, _, rfl, _, _, _, _, rfl, rfl, SqL.of ((Same.new ha1) _ _ hc3), gc, a1, ci, _, rfl, rfl, upd_same, by omega, by omega, ?_, fun a2 ha2 => ?_⟩⟩
      · show 1 * ci.toNat ≤ sizeLine
        exact Nat.le_of_lt (small1000 (by omega))
      rw [flat_one]
      refine ⟨pr', a2, _, _, rfl, rfl, ((Same.new ha1).put ha2) _ _ hR3, upd_same, ?_, fun p3 hp3 => ?_⟩
      · rw [List.length_map, List.length_map, List.length_replicate]
        exact Nat.le_of_lt (small1000 (by omega))
      rw [← List.map_append, ← hq]
      have qlen : (nowAt cs L i).length ≤ 500 := by rw [hq, List.length_append, List.length_replicate]; omega
      have s4 : Same H2 (upd (upd (upd H3 a1 (.lst [V.int n])) a2 (.lst ((List.replicate ci.toNat n).map V.int))) p3 (.lst ((nowAt cs L i).map V.int))) := ((s3.put ha1).put ha2).put hp3
      have h4 : (upd (upd (upd H3 a1 (.lst [V.int n])) a2 (.lst ((List.replicate ci.toNat n).map V.int))) p3 (.lst ((nowAt cs L i).map V.int))) p3 = some (.lst ((nowAt cs L i).map V.int)) := upd_same
      have n3 : p3 ≠ pd := (ne_of_none (((s3.put ha1).put ha2) _ _ hD) hp3).symm
      generalize upd (upd (upd H3 a1 (.lst [V.int n])) a2 (.lst ((List.replicate ci.toNat n).map V.int))) p3 (.lst ((nowAt cs L i).map V.int)) = H4 at s4 h4 ⊢
      have hD4 := s4 _ _ hD
      generalize nowAt cs L i = qs at hBd hTd hq hnx hkn hst nup h4 qlen
      have s04 := s2.trans s4
      refine ⟨_, rfl, _, _, rfl, .inl (SqL.of (s04 _ _ eR)), _, rfl, by rw [List.length_map]; omega, by rw [List.length_map]; omega, ?_⟩
      rw [List.length_map, show ((rs.length : Nat) : Int).toNat = Lb.length by omega]
      intro pl hpl
      refine comp_rangeF (lo := 0) (n := Lb.length) (fun k => decide (Can66 (bellL l (Lb.getD k [])) qs (n + 1) l)) (fun (k : Nat) => V.int (k : Int)) hpl (Nat.le_of_lt (small1000 (by omega))) (fun k H5 R1 R2 hk s5 hy hn' => ?_) ?_
      · have hrk : rs[k]? = some rs[k] := List.getElem?_eq_getElem (by omega)
        obtain ⟨row, hrow, hpb⟩ := paired_get pR hrk
        rw [List.getElem?_map, List.getElem?_eq_getElem hk] at hrow
        have hrow := Option.some.inj hrow
        subst hrow
        have hbx := hLb.at' k _ (List.getElem?_eq_getElem hk)
        have eg : Lb.getD k [] = Lb[k] := by rw [List.getD_eq_getElem?_getD, List.getElem?_eq_getElem hk]; rfl
        rw [eg] at hy hn'
        rw [show (0 : Int) + (k : Int) = (k : Int) by omega]
        refine ⟨rfl, _, rfl, _, rfl, _, _, _, _, rfl, rfl, SqL.of (s5 _ _ (s04 _ _ eR)), at_mapR hrk, _, rfl, _, rfl, _, _, rfl, rfl, _, rfl, rs[k], p3, bellL l Lb[k], qs, n + 1, l, rfl, s5 _ _ (s04 _ _ hpb), s5 _ _ h4, by rw [bellL_length, hbx.1]; omega, fun cb' hcb => ⟨cb', rfl, ?_⟩⟩
        cases cb' with
        | true => exact iteT ⟨_, rfl, hy (decide_eq_true (hcb.mp rfl))⟩
        | false => exact iteF (hn' (decide_eq_false fun z => nomatch hcb.mpr z))
      have eL : ((List.range Lb.length).filter (fun k => decide (Can66 (bellL l (Lb.getD k [])) qs (n + 1) l))).map (fun (k : Nat) => V.int (k : Int)) = (left66 Lb l qs (n + 1)).map V.int := by
        unfold left66
        rw [List.map_map]
        congr 1
      rw [eL]
      obtain ⟨k1, k2, k3⟩ := left_end (t := t) (b := b) (l := l) (n := n) (st := st) (qs := qs) (L := Lb) b1 l0 n0 st0 est nup hLb
      generalize left66 Lb l qs (n + 1) = lf at k1 k2 k3 ⊢
      have s5 : Same H2 (upd H4 pl (.lst (lf.map V.int))) := s4.put hpl
      have h5 : (upd H4 pl (.lst (lf.map V.int))) pl = some (.lst (lf.map V.int)) := upd_same
      have h45 : (upd H4 pl (.lst (lf.map V.int))) p3 = some (.lst (qs.map V.int)) := (Same.new hpl) _ _ h4
      have npl : pl ≠ pd := (ne_of_none hD4 hpl).symm
      generalize upd H4 pl (.lst (lf.map V.int)) = H5 at s5 h5 h45 ⊢
      refine ⟨_, rfl, (by decide), fun pe hpe => ⟨pl, pe, lf, [], rfl, rfl, SqL.of ((Same.new hpe) _ _ h5), SqL.of upd_same, _, rfl, ?_⟩⟩
      have s6 : Same H2 (upd H5 pe (.lst [])) := s5.put hpe
      have h6 : (upd H5 pe (.lst [])) pl = some (.lst (lf.map V.int)) := (Same.new hpe) _ _ h5
      have h46 : (upd H5 pe (.lst [])) p3 = some (.lst (qs.map V.int)) := (Same.new hpe) _ _ h45
      generalize upd H5 pe (.lst []) = H6 at s6 h6 h46 ⊢
      have hD6 := s6 _ _ hD
      refine ifD (fun e => ⟨_, rfl, (by decide), fun p5 hp5 => ⟨pd, p5, _, _, rfl, rfl, (Same.new hp5) _ _ hD6, upd_same, as1, fun p6 hp6 => fin (hBd.mpr ?_) H6 (s2.trans s6) s6 p5 p6 hp5 hp6⟩⟩) (fun ne => ?_)
      · by_cases z : b < (qs.length : Int)
        · exact .inr (.inl z)
        · refine .inr (.inr ?_)
          cases ek : KNk t b l n qs with
          | none => rfl
          | some kb =>
            cases kb with
            | true => rw [k2 (by omega) ek] at e; cases e
            | false => have := k3 (by omega) ek; rw [e] at this; cases this
      have qb : (qs.length : Int) ≤ b := by
        rcases (by omega : (qs.length : Int) ≤ b ∨ b < (qs.length : Int)) with z | z
        · exact z
        · exact absurd (k1 (.inl z)) ne
      obtain ⟨kb, ek⟩ : ∃ kb, KNk t b l n qs = some kb := by
        cases ek : KNk t b l n qs with
        | none => exact absurd (k1 (.inr ek)) ne
        | some kb => exact ⟨kb, rfl⟩
      have nb : ¬ DueBadK cs L t b l i := fun z => by
        rcases hBd.mp z with z | z | z
        · exact c0 z
        · omega
        · rw [ek] at z; cases z
      rw [ek] at hTd hkn
      have go : ∀ (tv : Bool) (pn : Addr) (H7 : Hp), Same H6 H7 → pn ≠ pd → H7 pn = some (.lst ((dueToldK cs L t b l i).map V.int)) → tv = kb → DueInv66 H c rw pd cs L t b l (i + 1) [some (.ref c), some (.ref rw), some (.int L), some (.int l), some (.ref pd), some (.ref p3), some (.bl tv), some (.int (i : Int)), some (.int n), some (.ref pl)] (upd H7 pd (.lst (as.map V.ref ++ [.ref pn]))) := fun tv pn H7 s7 npn hpn et => by
        refine ⟨as ++ [pn], p3, qs, tv, _, _, _, rfl, (s2.trans (s6.trans s7)).wr hpd, by rw [upd_same, List.map_append]; rfl, by rw [List.length_append, al]; rfl, fun j x hx => ?_, n3, by rw [upd_ne n3]; exact s7 _ _ h46, qb, fun z => ⟨(hnx z).symm, by rw [hkn z, et]; rfl⟩⟩
        by_cases hj : j < as.length
        · rw [List.getElem?_append_left hj] at hx
          obtain ⟨y1, y2, y3⟩ := hA j x hx
          exact ⟨y1, by rw [upd_ne y1]; exact s7 _ _ (s6 _ _ y2), y3⟩
        · have hj2 := (List.getElem?_eq_some_iff.mp hx).1
          rw [List.length_append, List.length_singleton] at hj2
          have ej : j = i := by omega
          subst ej
          rw [List.getElem?_append_right (by omega), al, Nat.sub_self] at hx
          have : pn = x := by simpa using hx
          subst this
          exact ⟨npn, by rw [upd_ne npn]; exact hpn, nb⟩
      have asl : (as.map V.ref).length < sizeLine := by rw [List.length_map]; exact small1000 (by omega)
      have quiet : dueToldK cs L t b l i = [] → kv = kb → ∀ pn, H6 pn = none → DueInv66 H c rw pd cs L t b l (i + 1) [some (.ref c), some (.ref rw), some (.int L), some (.int l), some (.ref pd), some (.ref p3), some (.bl kv), some (.int (i : Int)), some (.int n), some (.ref pl)] (upd (upd H6 pn (.lst [])) pd (.lst (as.map V.ref ++ [.ref pn]))) := fun e1 e2 pn hpn => go kv pn _ (Same.new hpn) (ne_of_none hD6 hpn).symm (by rw [e1]; exact upd_same) e2
      refine ⟨_, rfl, _, rfl, ?_⟩
      cases kv with
      | true =>
        have ekb := hst kb (by omega) qb rfl ek
        refine iteT ⟨_, rfl, .inl ⟨rfl, _, SqL.of hD6⟩, (by decide), fun pn hpn => ⟨pd, _, _, rfl, rfl, (Same.new hpn) _ _ hD6, asl, quiet (by rw [hTd, if_neg (fun z => nomatch z.2)]) ekb.symm pn hpn⟩⟩
      | false =>
        refine iteF ⟨_, rfl, _, _, rfl, .inl (SqL.of h6), _, _, rfl, rfl, _, rfl, ?_⟩
        rw [List.length_map]
        cases kb with
        | false =>
          have := k3 qb ek
          exact ifT (by omega) ⟨_, rfl, .inl ⟨rfl, _, SqL.of hD6⟩, (by decide), fun pn hpn => ⟨pd, _, _, rfl, rfl, (Same.new hpn) _ _ hD6, asl, quiet (by rw [hTd, if_neg (fun z => nomatch z.1)]) rfl pn hpn⟩⟩
        | true =>
          have en := k2 qb ek
          rw [if_pos ⟨rfl, rfl⟩] at hTd
          rw [← hTd] at en
          refine ifF (by rw [en, hTd]; simp) ?_
          rw [en] at h6
          exact ⟨_, rfl, .inl ⟨rfl, _, SqL.of hD6⟩, _, rfl, pd, _, _, rfl, rfl, hD6, asl, go true pl H6 (Same.refl _) npl h6 rfl⟩
    · rintro σ H2 ⟨as, pr, rv, tv, v5, v6, v7, rfl, s2, hD, al, hA, npr, hR, rl', hrv⟩
      exact ⟨_, rfl, q pd as [] H2 s2 hpd (by rw [List.append_nil]; exact hD) (by omega) (fun j x hx => (hA j x hx).2) (.inl ⟨rfl, al⟩)⟩
end
section
variable {P : Program} {w : World} {K : PySem.W.Frag} {mg : Str → Option Value} {base : Heap}
noncomputable def spHeard64 (C : Addr) (KN : Int → Int → Int → Int → List Int → Option Bool) : Sp := fun vs H Q _ => ∃ (x dx r : Addr) (t b l n many : Int) (k plain : Bool) (rd : List Int), vs = [.ref x, .int many, .bl plain] ∧ (plain = true → many = 0) ∧ H x = some (.ins C dx (flds t b l n r k)) ∧ H r = some (.lst (rd.map V.int)) ∧ (rd.length : Int) ≤ b ∧ b ≤ 60 ∧ 1 ≤ b ∧ 0 ≤ l ∧ intBits l ≤ 100 ∧ intBits t ≤ 1000 ∧
  (0 ≤ many → (rd.length : Int) + many ≤ b → Szs 70000 (boxL l (ear b n (rd ++ List.replicate many.toNat n)))) ∧
  (TurnBad KN t b l n many k rd → ∀ (H' : Hp), Same H H' → Q .non H') ∧
  (∀ kb, 0 ≤ many → (rd.length : Int) + many ≤ b → KN t b l n (rd ++ List.replicate many.toNat n) = some kb → (kb = true → k = false → GoodR t b l (ear b n (rd ++ List.replicate many.toNat n))) →
    ∀ (p r' : Addr) (n' : Int) (k' : Bool) (rd' : List Int) (H' : Hp), SameX x H H' → H p = none → H r' = none → p ≠ r' → H' p = some (.lst ((if kb = true ∧ k = false then [numB (boxL l (ear b n (rd ++ List.replicate many.toNat n)))] else []).map V.int)) → H' x = some (.ins C dx (flds t b l n' r' k')) → H' r' = some (.lst (rd'.map V.int)) →
    ((n = t + l - 1 ∧ n' = 0 ∧ k' = false ∧ rd' = []) ∨ (¬ n = t + l - 1 ∧ n' = n + 1 ∧ k' = kb ∧ rd' = rd ++ List.replicate many.toNat n)) → Q (.ref p) H')
theorem sc__law_heard : FnScope ["hearer", "count", "plain", "caught", "found", "e"] ["hearer", "count", "plain"] (defScope st__law_heard) := ⟨rfl, rfl, rfl, by decide +kernel, rfl, by decide +kernel, by decide +kernel⟩
theorem ok_heard64 (D : Def K mg "_law_heard" st__law_heard ["hearer", "count", "plain"]) (T : Txt K mg) {C_BellError : Addr} (m_BellError : mg "BellError" = some (.ref C_BellError)) {C_NoRow : Addr} (m_NoRow : mg "NoRow" = some (.ref C_NoRow)) {C_NoReading : Addr} (m_NoReading : mg "NoReading" = some (.ref C_NoReading)) {C_TooGreat : Addr} (m_TooGreat : mg "TooGreat" = some (.ref C_TooGreat)) {C_TooMany : Addr} (m_TooMany : mg "TooMany" = some (.ref C_TooMany)) {C_NoNote : Addr} (m_NoNote : mg "NoNote" = some (.ref C_NoNote)) {C_Hearer : Addr} (m_Hearer : mg "Hearer" = some (.ref C_Hearer)) {C_KeenHearer : Addr} (m_KeenHearer : mg "KeenHearer" = some (.ref C_KeenHearer))  (x_BellError : PySem.W.excIn K C_BellError bmV "ValueError.__new__" = true) (x_NoRow : PySem.W.excIn K C_NoRow bmV "ValueError.__new__" = true) (x_NoReading : PySem.W.excIn K C_NoReading bmV "ValueError.__new__" = true) (r_mro : PySem.W.mroIn K C_NoReading (.ref C_BellError) = some true) (r_ga : PySem.W.findIn K (.ref C_NoReading) "__getattribute__" = some (some (.builtin "BaseException.__getattribute__"))) (r_hk : PySem.W.findIn K (.ref C_NoReading) "__getattr__" = some none) (r_cl : PySem.W.findIn K (.ref C_NoReading) "__class__" = some (some (.builtin "object.__class__"))) (r_mo : PySem.W.mroIn K C_NoReading (.type "object") = some true) (r_mb : PySem.W.mroIn K C_NoReading (.type "BaseException") = some true) (r_gt : PySem.W.specialIn K (.builtin "object.__class__") "__get__" = some (some (.builtin "getset_descriptor.__get__"))) (r_tk : PySem.W.takesIn K (.builtin "object.__class__") = some true) (i_NoNote : PySem.W.kitOne K (.ref C_NoReading) (.ref C_NoNote) = some false) (i_NoReading : PySem.W.kitOne K (.ref C_NoReading) (.ref C_NoReading) = some true) (i_TooGreat : PySem.W.kitOne K (.ref C_NoReading) (.ref C_TooGreat) = some false) (i_NoRow : PySem.W.kitOne K (.ref C_NoReading) (.ref C_NoRow) = some false) (i_TooMany : PySem.W.kitOne K (.ref C_NoReading) (.ref C_TooMany) = some false) (i_Value : PySem.W.kitOne K (.ref C_NoReading) (.type "ValueError") = some true) (r_clK : PySem.W.findIn K (.ref C_KeenHearer) "__class__" = some (some (.builtin "object.__class__"))) (r_moK : PySem.W.mroIn K C_KeenHearer (.type "object") = some true) (i_Keen : PySem.W.kitOne K (.ref C_KeenHearer) (.ref C_Hearer) = some true) {C : Addr} {KN : Int → Int → Int → Int → List Int → Option Bool} (ME_turn : MtE P w K mg base 4 C "turn" ["self", "many"] (spTurnE C C_NoReading KN)) (MD_turn : MtDE P w K mg base 4 C "turn" ["self", "many"] 0 (spTurnE C C_NoReading KN)) : Fn P w K mg base 5 "_law_heard" ["hearer", "count", "plain"] (spHeard64 C KN) := by
  refine D.fn sc__law_heard (fun vs H Q E h => ?_) (fun f cdv A outer s H vs Q E hr h => ?_)
  · obtain ⟨x, dx, r, t, b, l, n, many, k, plain, rd, rfl, _⟩ := h
    rfl
  · obtain ⟨x, dx, r, t, b, l, n, many, k, plain, rd, rfl, hpl, hx, hrd, rb, b60, b1, l0, lb, tb, sz, qE, q⟩ := h
    have XL : ExcLook K C_NoReading := ⟨r_ga, r_hk, r_cl, r_gt, r_tk, r_mo, r_mb⟩
    refine ⟨_, (pss_cons (ps_set (i := 3) sc__law_heard.nd rfl (Or.inl rfl) pe_non)
      (pss_cons (ps_set (i := 4) sc__law_heard.nd rfl (Or.inl rfl) pe_non)
      (pss_cons (ps_tryG (i := 5) rfl rfl sc__law_heard.nd rfl rfl rfl (by rfl) m_BellError x_BellError (by decide) (fun pn xe G hx => (pss_one (ps_if (pt_val (pv 2))
          (pss_one (ps_set (i := 4) sc__law_heard.nd rfl (Or.inl rfl) (pe_mtD0G (pv 0) MD_turn (hr.mono (by decide)) hx)))
          (pss_one (ps_set (i := 4) sc__law_heard.nd rfl (Or.inl rfl) (pe_mtG (pv 0) ME_turn (hr.mono (by decide)) hx (pa_cons (pv 1) pa_nil))))))) (fun x => (pss_one (ps_set (i := 3) sc__law_heard.nd rfl (Or.inl rfl) (pv 5)))))
      (pss_cons (ps_if (pt_cmpR op_isN (pv 3) pe_non (nomark _))
        (pss_one (ps_ret (pv 4)))
        pss_nil)
      (pss_cons (ps_if (pw_or (pt_val (pe_callB call_isinstC (by rfl) T.z_isinstance b_isinstance (pa_cons (pv 3) (pa_cons (pe_glob (v := .ref C_NoNote) (by rfl) m_NoNote rfl) pa_nil)))) (pw_or (pt_val (pe_callB call_isinstC (by rfl) T.z_isinstance b_isinstance (pa_cons (pv 3) (pa_cons (pe_glob (v := .ref C_NoRow) (by rfl) m_NoRow rfl) pa_nil)))) (pw_or1 (pt_val (pe_callB call_isinstC (by rfl) T.z_isinstance b_isinstance (pa_cons (pv 3) (pa_cons (pe_glob (v := .ref C_TooGreat) (by rfl) m_TooGreat rfl) pa_nil))))))).pt
        (pss_one (ps_ret pe_str))
        pss_nil)
      (pss_cons (ps_if (pw_and (pt_val (pe_callB call_isinstC (by rfl) T.z_isinstance b_isinstance (pa_cons (pv 3) (pa_cons (pe_glob (v := .ref C_NoReading) (by rfl) m_NoReading rfl) pa_nil)))) (pw_and (pt_val (pe_callB call_isinstC (by rfl) T.z_isinstance b_isinstance (pa_cons (pv 3) (pa_cons (pe_bltn (v := .ty "ValueError") (by rfl) T.z_ValueError b_ValueError rfl) pa_nil)))) (pw_and1 (pt_not (pt_val (pe_callB call_isinstC (by rfl) T.z_isinstance b_isinstance (pa_cons (pv 3) (pa_cons (pe_glob (v := .ref C_TooMany) (by rfl) m_TooMany rfl) pa_nil)))))))).pt
        (pss_one (ps_ret pe_non))
        pss_nil)
      (pss_one (ps_ret pe_str)))))))), ?_⟩
    refine ⟨_, rfl, _, rfl, ?_⟩
    cases plain
    case' true =>
      obtain rfl := hpl rfl
      refine iteT ⟨_, rfl, x, dx, _, rfl, hx, no_turn, x, dx, r, t, b, l, n, 0, k, rd, rfl, hx, hrd, rb, b60, b1, l0, lb, tb, sz, fun bd H2 s2 => ⟨C_NoReading, bmV, _, rfl, x_NoReading, by decide, r_mro, fun e he => ⟨_, rfl, ?_⟩⟩, fun kb m0 mb hk gg p r' n' k' rd' H2 sX hp hr' npr hp2 hx2 hr2 cs => ⟨_, rfl, rfl, _, rfl, ifT rfl ⟨_, rfl, q kb m0 mb hk gg p r' n' k' rd' H2 sX hp hr' npr hp2 hx2 hr2 cs⟩⟩⟩
    case' false =>
      refine iteF ⟨_, rfl, x, dx, _, rfl, hx, no_turn, _, rfl, x, dx, r, t, b, l, n, many, k, rd, rfl, hx, hrd, rb, b60, b1, l0, lb, tb, sz, fun bd H2 s2 => ⟨C_NoReading, bmV, _, rfl, x_NoReading, by decide, r_mro, fun e he => ⟨_, rfl, ?_⟩⟩, fun kb m0 mb hk gg p r' n' k' rd' H2 sX hp hr' npr hp2 hx2 hr2 cs => ⟨_, rfl, rfl, _, rfl, ifT rfl ⟨_, rfl, q kb m0 mb hk gg p r' n' k' rd' H2 sX hp hr' npr hp2 hx2 hr2 cs⟩⟩⟩
    all_goals
      have s3 := s2.put (o := excIs e (.ref C_NoReading)) he
      have h3 : (upd H2 e (excIs e (.ref C_NoReading))) e = some (excIs e (.ref C_NoReading)) := upd_same
      generalize upd H2 e (excIs e (.ref C_NoReading)) = H3 at s3 h3 ⊢
      refine ⟨_, rfl, rfl, _, rfl, ifF (fun z => nomatch z) ?_⟩
      refine ⟨_, rfl, _, _, _, _, false, rfl, fun _ z => z, .exc XL h3, i_NoNote, _, rfl, iteF ⟨_, rfl, _, _, _, _, false, rfl, fun _ z => z, .exc XL h3, i_NoRow, _, rfl, iteF ⟨_, rfl, _, _, _, _, false, rfl, fun _ z => z, .exc XL h3, i_TooGreat, _, rfl, iteF ?_⟩⟩⟩
      exact ⟨_, rfl, _, _, _, _, true, rfl, fun _ z => z, .exc XL h3, i_NoReading, _, rfl, iteT ⟨_, rfl, _, _, _, _, true, rfl, fun _ z => z, .exc XL h3, i_Value, _, rfl, iteT ⟨_, rfl, _, _, _, _, false, rfl, fun _ z => z, .exc XL h3, i_TooMany, _, rfl, iteT (qE bd H3 s3)⟩⟩⟩
end
theorem knk_good {t b l n : Int} {qs : List Int} {kb : Bool} (b1 : 1 ≤ b) (bt : b ≤ t) (l0 : 0 ≤ l) (hm : (qs.length : Int) ≤ b) (h : KNk t b l n qs = some kb) : GoodR t b l (ear b n qs) := by
  obtain ⟨⟨B, z, hz, zG⟩, _⟩ := knk_some.mp h
  have el := ear_len (n := n) hm
  have bl := boxL_length l (ear b n qs)
  refine ⟨by omega, B, ?_⟩
  have eb : ((boxL l (ear b n qs)).length : Int) = b := by omega
  have zl : (boxL l (ear b n qs))[b.toNat - 1]? = some z := by
    rw [List.getLast?_eq_getElem?, bl, el] at hz
    exact hz
  have c := num_lt_cnt (turns := t) B l0 (by omega) (fun x hx => by
    obtain ⟨i, hi, ei⟩ := List.getElem_of_mem hx
    have := B.get (show i ≤ b.toNat - 1 by omega) (by rw [List.getElem?_eq_getElem hi, ei]) zl
    rw [eb]
    omega)
  rw [eb] at c
  exact c
theorem badK_iff {t b l n ci : Int} {k : Bool} {rd qs : List Int} (b1 : 1 ≤ b) (bt : b ≤ t) (l0 : 0 ≤ l) (hq : qs = rd ++ List.replicate ci.toNat n) : TurnBad KNk t b l n ci k rd ↔ (ci < 0 ∨ b < (qs.length : Int) ∨ KNk t b l n qs = none) := by
  unfold TurnBad
  rw [← hq]
  by_cases c0 : ci < 0
  · exact ⟨fun _ => .inl c0, fun _ => .inl c0⟩
  have ql : (qs.length : Int) = (rd.length : Int) + ci := by rw [hq, List.length_append, List.length_replicate]; omega
  constructor
  · rintro (z | z | z | ⟨z1, z2, z3⟩)
    · exact absurd z c0
    · exact .inr (.inl (by omega))
    · exact .inr (.inr z)
    · by_cases y : b < (qs.length : Int)
      · exact .inr (.inl y)
      · exact absurd (knk_good b1 bt l0 (by omega) z1) z3
  · rintro (z | z | z)
    · exact absurd z c0
    · exact .inr (.inl (by omega))
    · exact .inr (.inr (.inl z))
section
variable {P : Program} {w : World} {K : PySem.W.Frag} {mg : Str → Option Value} {base : Heap}
theorem sc_law : FnScope ["script", "cell", "bells", "late", "steps", "turns", "rows", "counts", "due", "hearer", "held", "at", "found"] ["script"] (defScope st_law) := ⟨rfl, rfl, rfl, by decide +kernel, rfl, by decide +kernel, by decide +kernel⟩
theorem ok_law {f : Addr} {fd : FuncData} (F : Fun K "law" "law" st_law f fd) (T : Txt K mg) (D_choose : Def K mg "choose" st_choose ["n", "k"]) (D_box_of : Def K mg "box_of" st_box_of ["row", "late"]) (D_heard_box : Def K mg "heard_box" st_heard_box ["reading", "late"]) (D_box_count : Def K mg "box_count" st_box_count ["turns", "bells", "late"]) (D_greatest_part : Def K mg "greatest_part" st_greatest_part ["turns", "bells", "late"]) (D_box_number : Def K mg "box_number" st_box_number ["box"]) (D_read : Def K mg "read" st_read ["reading", "turns", "bells", "late"]) (D_refuse_silent : Def K mg "refuse_silent" st_refuse_silent ["turns", "bells"]) (D__law_cell_at : Def K mg "_law_cell_at" st__law_cell_at ["script", "k"]) (D__law_drawn : Def K mg "_law_drawn" st__law_drawn ["cell", "k"]) (D__law_rows : Def K mg "_law_rows" st__law_rows ["bells", "steps", "late"]) (D__law_counts : Def K mg "_law_counts" st__law_counts ["script", "rows", "whole", "late"]) (D__law_changed : Def K mg "_law_changed" st__law_changed ["script", "counts"]) (D__law_can : Def K mg "_law_can" st__law_can ["row", "reading", "gone", "late"]) (D__law_due : Def K mg "_law_due" st__law_due ["counts", "rows", "whole", "late"]) (D__law_heard : Def K mg "_law_heard" st__law_heard ["hearer", "count", "plain"]) {C_BellError : Addr} (m_BellError : mg "BellError" = some (.ref C_BellError)) {C_NoRow : Addr} (m_NoRow : mg "NoRow" = some (.ref C_NoRow)) {C_NoReading : Addr} (m_NoReading : mg "NoReading" = some (.ref C_NoReading)) {C_TooGreat : Addr} (m_TooGreat : mg "TooGreat" = some (.ref C_TooGreat)) {C_TooMany : Addr} (m_TooMany : mg "TooMany" = some (.ref C_TooMany)) {C_NoNote : Addr} (m_NoNote : mg "NoNote" = some (.ref C_NoNote)) {C_Hearer : Addr} (m_Hearer : mg "Hearer" = some (.ref C_Hearer)) {C_KeenHearer : Addr} (m_KeenHearer : mg "KeenHearer" = some (.ref C_KeenHearer))  (x_BellError : PySem.W.excIn K C_BellError bmV "ValueError.__new__" = true) (x_NoRow : PySem.W.excIn K C_NoRow bmV "ValueError.__new__" = true) (x_NoReading : PySem.W.excIn K C_NoReading bmV "ValueError.__new__" = true) (r_mro : PySem.W.mroIn K C_NoReading (.ref C_BellError) = some true) (r_ga : PySem.W.findIn K (.ref C_NoReading) "__getattribute__" = some (some (.builtin "BaseException.__getattribute__"))) (r_hk : PySem.W.findIn K (.ref C_NoReading) "__getattr__" = some none) (r_cl : PySem.W.findIn K (.ref C_NoReading) "__class__" = some (some (.builtin "object.__class__"))) (r_mo : PySem.W.mroIn K C_NoReading (.type "object") = some true) (r_mb : PySem.W.mroIn K C_NoReading (.type "BaseException") = some true) (r_gt : PySem.W.specialIn K (.builtin "object.__class__") "__get__" = some (some (.builtin "getset_descriptor.__get__"))) (r_tk : PySem.W.takesIn K (.builtin "object.__class__") = some true) (i_NoNote : PySem.W.kitOne K (.ref C_NoReading) (.ref C_NoNote) = some false) (i_NoReading : PySem.W.kitOne K (.ref C_NoReading) (.ref C_NoReading) = some true) (i_TooGreat : PySem.W.kitOne K (.ref C_NoReading) (.ref C_TooGreat) = some false) (i_NoRow : PySem.W.kitOne K (.ref C_NoReading) (.ref C_NoRow) = some false) (i_TooMany : PySem.W.kitOne K (.ref C_NoReading) (.ref C_TooMany) = some false) (i_Value : PySem.W.kitOne K (.ref C_NoReading) (.type "ValueError") = some true) (r_clK : PySem.W.findIn K (.ref C_KeenHearer) "__class__" = some (some (.builtin "object.__class__"))) (r_moK : PySem.W.mroIn K C_KeenHearer (.type "object") = some true) (i_Keen : PySem.W.kitOne K (.ref C_KeenHearer) (.ref C_Hearer) = some true) (O : Own K C_Hearer C_KeenHearer) : FnOk P w K mg base CX0 6 f fd ["script"] (spLaw K) := by
  have hK : HrT K C_KeenHearer := ⟨O.c_KeenHearer, O.n_KeenHearer_turns, O.n_KeenHearer_bells, O.n_KeenHearer_late, O.n_KeenHearer_now, O.n_KeenHearer_reading, O.n_KeenHearer_known⟩
  have G_choose : Fn P w K mg base 1 "choose" ["n", "k"] spChoose := ok_choose D_choose T
  have G_greatest_part : Fn P w K mg base 1 "greatest_part" ["turns", "bells", "late"] spGreat := ok_greatest_part D_greatest_part
  have G_box_count : Fn P w K mg base 2 "box_count" ["turns", "bells", "late"] spCount := ok_box_count D_box_count T G_greatest_part G_choose
  have GE_heard_box := ok_heard_boxE D_heard_box T m_NoReading x_NoReading (ok_box_of (P := P) (w := w) (base := base) D_box_of T)
  have GE_read := ok_readE D_read T m_NoReading x_NoReading G_box_count GE_heard_box (ok_box_number D_box_number T G_choose)
  have GE_refuse_silent := ok_silentE (P := P) (w := w) (base := base) D_refuse_silent T m_NoRow x_NoRow
  obtain ⟨f1, ⟨fd1, F1, b1⟩, l1, l1'⟩ := O.d_Hearer_is_last_turn
  obtain ⟨f2, ⟨fd2, F2, b2⟩, l2, l2'⟩ := O.d_Hearer_earliest
  obtain ⟨f3, ⟨fd3, F3, b3⟩, l3, l3'⟩ := O.d_Hearer_go_on
  obtain ⟨f5, ⟨fd5, F5, b5⟩, l5⟩ := O.d_KeenHearer_knows
  obtain ⟨f6, ⟨fd6, F6, b6, t6, b6'⟩, l6, l6'⟩ := O.d_Hearer_turn
  obtain ⟨f7, ⟨fd7, F7, b7⟩, l7, l7'⟩ := O.d_Hearer_init
  have Ml : Mt P w K mg base 1 C_KeenHearer "is_last_turn" ["self"] (spLast C_KeenHearer) := ⟨f1, fd1, ok_last F1 T hK, hK.cl, l1', b1⟩
  have Me : Mt P w K mg base 1 C_KeenHearer "earliest" ["self", "reading"] (spEar C_KeenHearer) := ⟨f2, fd2, ok_ear F2 T hK, hK.cl, l2', b2⟩
  have Mg : Mt P w K mg base 2 C_KeenHearer "go_on" ["self", "reading", "known"] (spGo C_KeenHearer) := ⟨f3, fd3, ok_go F3 T hK Ml, hK.cl, l3', b3⟩
  have ME_knows : MtE P w K mg base 3 C_KeenHearer "knows" ["self", "reading"] (spKnE C_KeenHearer C_NoReading KNk) := ⟨f5, fd5, ok_keenE F5 T hK m_NoReading x_NoReading Me GE_heard_box G_greatest_part, hK.cl, l5, b5⟩
  have FT := ok_turnE F6 T hK m_NoReading x_NoReading ME_knows Me Mg GE_read
  have ME_turn : MtE P w K mg base 4 C_KeenHearer "turn" ["self", "many"] (spTurnE C_KeenHearer C_NoReading KNk) := ⟨f6, fd6, FT, hK.cl, l6', b6⟩
  have MD_turn : MtDE P w K mg base 4 C_KeenHearer "turn" ["self", "many"] 0 (spTurnE C_KeenHearer C_NoReading KNk) := ⟨f6, fd6, FT, hK.cl, l6', t6, b6'⟩
  have MKE_KeenHearer : MkX (CXE P w) P w K mg base 2 C_KeenHearer ["self", "turns", "bells", "late"] (spInitE C_KeenHearer C_NoRow) := ⟨f7, fd7, ok_init F7 T hK GE_refuse_silent, l7', b7⟩
  have MK_KeenHearer := MKE_KeenHearer.plain
  have G__law_cell_at : Fn P w K mg base 1 "_law_cell_at" ["script", "k"] (spCell K) := ok_cell_at D__law_cell_at T
  have G__law_drawn : Fn P w K mg base 1 "_law_drawn" ["cell", "k"] spDr := ok_dr D__law_drawn
  have G__law_rows := ok_rows (P := P) (w := w) (base := base) D__law_rows T
  have G__law_counts := ok_counts66 D__law_counts T G__law_cell_at G__law_drawn
  have G__law_changed := ok_changed D__law_changed T G__law_cell_at G__law_drawn
  have G__law_due := ok_due66 (P := P) (w := w) (base := base) D__law_due T (ok_can66 D__law_can T)
  have G__law_heard := ok_heard64 D__law_heard T m_BellError m_NoRow m_NoReading m_TooGreat m_TooMany m_NoNote m_Hearer m_KeenHearer x_BellError x_NoRow x_NoReading r_mro r_ga r_hk r_cl r_mo r_mb r_gt r_tk i_NoNote i_NoReading i_TooGreat i_NoRow i_TooMany i_Value r_clK r_moK i_Keen ME_turn MD_turn
  refine F.ok sc_law (fun vs H Q E h => ?_) (fun cdv A outer s H vs Q E hr h => ?_)
  · obtain ⟨a, ns, rfl, _⟩ := h
    rfl
  · obtain ⟨a, ns, rfl, hS, hlen, q⟩ := h
    have hu := hu64 hr
    refine ⟨_, (pss_cons (ps_set (i := 1) sc_law.nd rfl (Or.inl rfl) (pe_fn G__law_cell_at (hr.mono (by decide)) (by rfl) (pa_cons (pv 0) (pa_cons pe_int pa_nil))))
      (pss_cons (ps_set (i := 2) sc_law.nd rfl (Or.inl rfl) (pe_op op_addI pe_int (pe_op op_modB (pe_fn G__law_drawn (hr.mono (by decide)) (by rfl) (pa_cons (pv 1) (pa_cons pe_int pa_nil))) pe_int)))
      (pss_cons (ps_set (i := 3) sc_law.nd rfl (Or.inl rfl) (pe_op op_modB (pe_fn G__law_drawn (hr.mono (by decide)) (by rfl) (pa_cons (pv 1) (pa_cons pe_int pa_nil))) pe_int))
      (pss_cons (ps_set (i := 4) sc_law.nd rfl (Or.inl rfl) (pe_op op_modB (pe_fn G__law_drawn (hr.mono (by decide)) (by rfl) (pa_cons (pv 1) (pa_cons pe_int pa_nil))) pe_int))
      (pss_cons (ps_set (i := 5) sc_law.nd rfl (Or.inl rfl) (pe_op op_addI (pe_op op_addI (pv 2) (pe_op op_mulB (pv 4) (pe_op op_addI (pv 3) pe_int))) (pe_op op_modB (pe_fn G__law_drawn (hr.mono (by decide)) (by rfl) (pa_cons (pv 1) (pa_cons pe_int pa_nil))) (pe_op op_addI (pv 3) pe_int))))
      (pss_cons (ps_set (i := 6) sc_law.nd rfl (Or.inl rfl) (pe_fn G__law_rows (hr.mono (by decide)) (by rfl) (pa_cons (pv 2) (pa_cons (pv 4) (pa_cons (pv 3) pa_nil)))))
      (pss_cons (ps_set (i := 7) sc_law.nd rfl (Or.inl rfl) (pe_fn G__law_changed (hr.mono (by decide)) (by rfl) (pa_cons (pv 0) (pa_cons (pe_fn G__law_counts (hr.mono (by decide)) (by rfl) (pa_cons (pv 0) (pa_cons (pv 6) (pa_cons (pe_op op_addI (pv 5) (pv 3)) (pa_cons (pv 3) pa_nil))))) pa_nil))))
      (pss_cons (ps_set (i := 8) sc_law.nd rfl (Or.inl rfl) (pe_fn G__law_due (hr.mono (by decide)) (by rfl) (pa_cons (pv 7) (pa_cons (pv 6) (pa_cons (pe_op op_addI (pv 5) (pv 3)) (pa_cons (pv 3) pa_nil))))))
      (pss_cons (ps_set (i := 9) sc_law.nd rfl (Or.inl rfl) (pe_mk MK_KeenHearer (hr.mono (by decide)) (by rfl) m_KeenHearer (pa_cons (pv 5) (pa_cons (pv 2) (pa_cons (pv 3) pa_nil)))))
      (pss_cons (ps_if (pt_not (pt_val (pe_callB call_isinstC (by rfl) T.z_isinstance b_isinstance (pa_cons (pv 9) (pa_cons (pe_glob (v := .ref C_Hearer) (by rfl) m_Hearer rfl) pa_nil)))))
        (pss_one (ps_ret pe_bl))
        pss_nil)
      (pss_cons (ps_set (i := 10) sc_law.nd rfl (Or.inl rfl) (pe_lst pa_nil))
      (pss_cons (ps_for PassesOwn.never rfl (pi_range1 (by rfl) T.z_range (pa_cons (pe_callB call_len_seq (by rfl) T.z_len b_len (pa_cons (pv 8) pa_nil)) pa_nil)) (pg_name (i := 11) sc_law.nd rfl (Or.inl rfl))
        (pss_cons (ps_set (i := 12) sc_law.nd rfl (Or.inl rfl) (pe_fn G__law_heard (hr.mono (by decide)) (by rfl) (pa_cons (pv 9) (pa_cons (pe_ix ix_list (pv 7) (pv 11) (fun _ _ => rfl)) (pa_cons (pe_and (pe_cmpR op_eqI (pe_ix ix_list (pv 7) (pv 11) (fun _ _ => rfl)) pe_int (nomark _)) (pe_one (pe_cmpR op_eqI (pe_op op_modB (pv 11) pe_int) pe_int (nomark _)))) pa_nil)))))
        (pss_cons (ps_if (pw_or (pt_cmpR (op_neA hu) (pv 12) (pe_ix ix_list (pv 8) (pv 11) (fun _ _ => rfl)) (nomark _)) (pw_or1 (pw_and (pt_cmpR op_notN (pe_ix ix_list (pv 8) (pv 11) (fun _ _ => rfl)) pe_non (nomark _)) (pw_and1 (pt_not (pt_val (pe_callB call_isinst (by rfl) T.z_isinstance b_isinstance (pa_cons (pv 12) (pa_cons (pe_bltn (v := .ty "list") (by rfl) T.z_list b_list rfl) pa_nil))))))).pt)).pt
          (pss_one (ps_ret pe_bl))
          pss_nil)
        (pss_one (ps_if (pt_cmpR op_notN (pe_ix ix_list (pv 8) (pv 11) (fun _ _ => rfl)) pe_non (nomark _))
          (pss_cons (ps_if (pt_not (pt_val (pe_callB (call_all rfl) (by rfl) T.z_all b_all (pa_cons (pe_comp (own := ["number"]) (fr := []) (ix := []) rfl ⟨rfl, rfl, rfl, rfl, rfl, rfl⟩ (pi_list (pv 12)) (fun _ _ _ _ _ => (pg_name (i := 0) (show (["number"] : List Str).Nodup by decide +kernel) rfl (Or.inl rfl))) (fun _ _ _ _ _ => pts_nil) (fun _ _ _ _ _ => (pe_and (pe_callB (call_isinstK K) (by rfl) T.z_isinstance b_isinstance (pa_cons (pv 0) (pa_cons (pe_bltn (v := .ty "int") (by rfl) T.z_int b_int rfl) pa_nil))) (pe_one (pe_not (pe_callB (call_isinstK K) (by rfl) T.z_isinstance b_isinstance (pa_cons (pv 0) (pa_cons (pe_bltn (v := .ty "bool") (by rfl) T.z_bool b_bool rfl) pa_nil)))))))) pa_nil))))
            (pss_one (ps_ret pe_bl))
            pss_nil)
          (pss_cons (ps_if (pt_cmpR op_eqI (pe_op op_modB (pv 11) pe_int) pe_int (nomark _))
            (pss_one (ps_expr (pe_bm PySem.F.plainAttrs_list PySem.F.slot_list_append PySem.F.type_list_append mt_append (pv 12) (pa_cons pe_int pa_nil))))
            pss_nil)
          (pss_one (ps_expr (pe_bm PySem.F.plainAttrs_list PySem.F.slot_list_append PySem.F.type_list_append mt_append (pv 10) (pa_cons (pe_tup (pa_cons (pv 12) (pa_cons (pe_callTy call_list_of (by rfl) T.z_list b_list (pa_cons (pv 12) pa_nil)) pa_nil))) pa_nil))))))
          pss_nil)))))
      (pss_one (ps_ret (pe_callB (call_all rfl) (by rfl) T.z_all b_all (pa_cons (pe_comp (own := ["one", "other"]) (fr := []) (ix := []) rfl ⟨rfl, rfl, rfl, rfl, rfl, rfl⟩ (pi_list (pv 10)) (fun _ _ _ _ _ => (pg_tupK K (n := 2) rfl (pgs_cons (pg_name (i := 0) (show (["one", "other"] : List Str).Nodup by decide +kernel) rfl (Or.inl rfl)) (pgs_cons (pg_name (i := 1) (show (["one", "other"] : List Str).Nodup by decide +kernel) rfl (Or.inl rfl)) pgs_nil)))) (fun _ _ _ _ _ => pts_nil) (fun _ _ _ _ _ => (pe_cmpR (op_eqLK K hu) (pv 0) (pv 1) (nomark _)))) pa_nil)))))))))))))))), ?_⟩
    refine ⟨_, rfl, a, ns, 0, rfl, hS, by decide, ?_⟩
    generalize cellOf ns 0 = cell
    refine ⟨_, rfl, cell, 0, rfl, by decide, fun e1 e10 e11 => ⟨_, _, rfl, rfl, (by decide), _, _, rfl, rfl, ?_⟩⟩
    have a0 := Int.emod_nonneg e1 (show (3 : Int) ≠ 0 by decide)
    have a1 := Int.emod_lt_of_pos e1 (show (0 : Int) < 3 by decide)
    obtain ⟨B1, B3⟩ : 1 ≤ 1 + e1 % 3 ∧ 1 + e1 % 3 ≤ 3 := by omega
    generalize 1 + e1 % 3 = bells at B1 B3 ⊢
    refine ⟨_, rfl, cell, 1, rfl, by decide, fun e2 e20 e21 => ⟨_, _, rfl, rfl, (by decide), ?_⟩⟩
    have l0 := Int.emod_nonneg e2 (show (5 : Int) ≠ 0 by decide)
    have l5 := Int.emod_lt_of_pos e2 (show (0 : Int) < 5 by decide)
    generalize e2 % 5 = late at l0 l5 ⊢
    refine ⟨_, rfl, cell, 2, rfl, by decide, fun e3 e30 e31 => ⟨_, _, rfl, rfl, (by decide), ?_⟩⟩
    have g0 := Int.emod_nonneg e3 (show (4 : Int) ≠ 0 by decide)
    have g4 := Int.emod_lt_of_pos e3 (show (0 : Int) < 4 by decide)
    generalize e3 % 4 = st at g0 g4 ⊢
    refine ⟨_, rfl, _, rfl, _, rfl, _, _, rfl, rfl, _, _, rfl, rfl, ⟨64, 64, bits_of g0 (by omega), bits_of (by omega) (by omega), by decide⟩, _, _, rfl, rfl, _, rfl, cell, 3, rfl, by decide, fun e4 e40 e41 => ⟨_, rfl, _, _, rfl, rfl, _, _, rfl, rfl, by omega, _, _, rfl, rfl, ?_⟩⟩
    have p0 : 0 ≤ st * (late + 1) := Int.mul_nonneg g0 (by omega)
    have p1 : st * (late + 1) ≤ 3 * 5 := Int.mul_le_mul (by omega) (by omega) (by omega) (by decide)
    have r0 := Int.emod_nonneg e4 (show late + 1 ≠ 0 by omega)
    have r1 := Int.emod_lt_of_pos e4 (show 0 < late + 1 by omega)
    have est : st = (bells + st * (late + 1) + e4 % (late + 1) - bells) / (late + 1) := by
      rw [show bells + st * (late + 1) + e4 % (late + 1) - bells = e4 % (late + 1) + (late + 1) * st by rw [Int.mul_comm (late + 1) st]; omega, Int.add_mul_ediv_left _ _ (by omega), Int.ediv_eq_zero_of_lt r0 r1]
      omega
    obtain ⟨bt, t22⟩ : bells ≤ bells + st * (late + 1) + e4 % (late + 1) ∧ bells + st * (late + 1) + e4 % (late + 1) ≤ 22 := by omega
    have lastx : ∀ x : Int, 0 ≤ x → x ≤ st → 0 ≤ x * (late + 1) ∧ x * (late + 1) + bells ≤ bells + st * (late + 1) + e4 % (late + 1) := fun x x0 x1 => by
      have h1 := Int.mul_le_mul_of_nonneg_right x1 (show 0 ≤ late + 1 by omega)
      have h2 := Int.mul_nonneg x0 (show 0 ≤ late + 1 by omega)
      omega
    generalize bells + st * (late + 1) + e4 % (late + 1) = turns at bt t22 est lastx ⊢
    clear p0 p1 r0 r1 a0 a1
    have FR : Fr66 turns bells late st := ⟨B1, B3, bt, l0, by omega, g0, by omega, by omega, est⟩
    refine ⟨_, rfl, _, rfl, _, rfl, bells, st, late, rfl, B1, B3, g0, by omega, l0, by omega, fun pw Lb H3 s3 _ hRw hLb => ?_⟩
    have B60 : bells ≤ 60 := by omega
    have rowb : ∀ row ∈ Lb.map (bellL late), row.length ≤ 3 ∧ ∀ x ∈ row, 0 ≤ x ∧ x + late < turns + late := fun row hrow => by
      obtain ⟨bx, hbx, rfl⟩ := List.mem_map.mp hrow
      obtain ⟨k, hk⟩ := List.getElem?_of_mem hbx
      obtain ⟨c1, c2, c3, _⟩ := hLb.at' k bx hk
      refine ⟨by rw [bellL_length, c1]; omega, fun x hx => ?_⟩
      obtain ⟨i, hi⟩ := List.getElem?_of_mem hx
      obtain ⟨y, hy, rfl⟩ := bellL_get' hi
      have il := (List.getElem?_eq_some_iff.mp hy).1
      have := lastx y (c2.nn y (List.mem_of_getElem? hy)) (c3 y (List.mem_of_getElem? hy))
      omega
    have lb0 : 0 < Lb.length := by
      have := hLb.len
      have h1 : 0 < cnt turns bells late := cnt_pos (by omega) bt l0
      unfold cnt at h1
      rw [if_neg (by omega), ← est] at h1
      rw [show ((bells.toNat : Nat) : Int) = bells by omega] at this
      omega
    refine ⟨_, rfl, _, rfl, _, rfl, _, rfl, _, rfl, _, _, rfl, rfl, _, rfl, a, pw, ns, Lb.map (bellL late), turns + late, late, rfl, s3.seq hS, hRw, by rw [List.length_map]; exact lb0, by rw [List.length_map]; exact hLb.sm, by omega, by omega, l0, by omega, rowb, fun pc cs H4 s4 _ hC cl cb => ⟨a, pc, ns, cs, rfl, (s3.trans s4).seq hS, hC, cl, cb, fun pf fs H5 s5 _ hF fl fb => ?_⟩⟩
    refine ⟨_, rfl, _, rfl, _, rfl, _, rfl, _, _, rfl, rfl, _, rfl, pf, pw, fs, turns, bells, late, st, Lb, rfl, hF, hRw.same (s4.trans s5), hLb, FR, by omega, fb, fun pd as tl H6 s6 _ hD al hA hT => ?_⟩
    obtain ⟨L, hL⟩ : ∃ L, L = turns + late := ⟨_, rfl⟩
    have L0 : 0 < L := by omega
    have lb : intBits late ≤ 100 := bits_of l0 (by omega)
    have tb : intBits turns ≤ 1000 := bits_mono (bits_of (m := 64) (by omega) (by omega)) (by decide)
    rw [← hL] at hA hT
    have hF6 := s6 _ _ hF
    refine ⟨_, rfl, _, rfl, _, rfl, fun x dx nx ndx _ => ⟨x, dx, turns, bells, late, rfl, upd_same, by omega, fun _ r H7 sX7 nr hx7 hr7 => ⟨rfl, ?_⟩, fun z => absurd ⟨B1, bt⟩ z⟩⟩
    have s67 : Same H6 H7 := made_same nx ndx sX7
    refine ⟨_, rfl, _, _, _, _, true, rfl, fun _ z => z, .of (TyOf.ins hx7 hK.cl r_clK r_gt r_tk r_moK), i_Keen, true, rfl, iteF ?_⟩
    refine ⟨(by decide), fun ph hph => ?_⟩
    have ph6 : H6 ph = none := s67.free hph
    have nxp : x ≠ ph := ne_of_none hx7 hph
    have nrp : r ≠ ph := ne_of_none hr7 hph
    have s68 : Same H6 (upd H7 ph (.lst [])) := s67.put hph
    have hx8 := (Same.new (o := .lst []) hph) _ _ hx7
    have hr8 := (Same.new (o := .lst []) hph) _ _ hr7
    have hp8 : (upd H7 ph (.lst [])) ph = some (.lst []) := upd_same
    generalize upd H7 ph (.lst []) = H8 at s68 hx8 hr8 hp8 ⊢
    clear sX7 hx7 hr7 s67 nr hph
    have tl1 : tl.length ≤ 1 := by rcases hT with ⟨e, _⟩ | ⟨e, _⟩ <;> rw [e] <;> decide
    refine ⟨_, rfl, _, _, rfl, .inl (SqL.of (s68 _ _ hD)), ?_⟩
    rw [List.length_append, List.length_map]
    refine ⟨_, rfl, by omega, by omega, for_range (n := as.length + tl.length) (fun i σ H9 => ∃ (ts : List Addr) (v10 v11 : Option V), σ = [some (.ref a), some (.int cell), some (.int bells), some (.int late), some (.int st), some (.int turns), some (.ref pw), some (.ref pf), some (.ref pd), some (.ref x), some (.ref ph), v10, v11] ∧ Same H6 H9 ∧ H9 ph = some (.lst (ts.map V.ref)) ∧ ts.length ≤ i ∧ (∀ tp ∈ ts, ∃ (f g : Addr) (ms : List Int), H9 tp = some (.tup [.ref f, .ref g]) ∧ H9 f = some (.lst (ms.map V.int)) ∧ H9 g = some (.lst (ms.map V.int)) ∧ f ≠ ph ∧ g ≠ ph) ∧ (i ≤ as.length → ∃ r, H9 x = some (.ins C_KeenHearer dx (flds turns bells late ((i : Int) % L) r (knAt fs L turns bells late i))) ∧ H9 r = some (.lst ((rdAt fs L i).map V.int)) ∧ r ≠ ph ∧ ((rdAt fs L i).length : Int) ≤ bells)) ⟨[], none, none, rfl, s68, hp8, Nat.le_refl _, (fun _ z => nomatch z), fun _ => ⟨r, ?_, hr8, nrp, by show (0 : Int) ≤ bells; omega⟩⟩ ?_ ?_⟩
    · rw [show ((0 : Nat) : Int) % L = 0 from Int.zero_emod _]
      exact hx8
    · rintro i σ H9 hi ⟨ts, v10, v11, rfl, s9, hp9, tl9, hts, hh⟩
      rw [show (0 : Int) + (i : Int) = (i : Int) by omega]
      have ia : i ≤ as.length := by omega
      have ifs : i < fs.length := by
        rcases hT with ⟨e, h⟩ | ⟨e, h, _⟩
        · rw [e] at hi; simp at hi; omega
        · omega
      obtain ⟨r, hx9, hr9, nrp9, rl⟩ := hh ia
      have ec : fs[i]? = some (fs.getD i 0) := by rw [List.getD_eq_getElem?_getD, List.getElem?_eq_getElem ifs]; rfl
      have gc := at_map ec
      have cbi := fb _ (List.mem_of_getElem? ec)
      have hF9 := s9 _ _ hF6
      have hD9 := s9 _ _ hD
      have hq : nowAt fs L i = rdAt fs L i ++ List.replicate (fs.getD i 0).toNat ((i : Int) % L) := rfl
      have bi := badK_iff (t := turns) (n := (i : Int) % L) (k := knAt fs L turns bells late i) B1 bt l0 hq
      have hBd : DueBadK fs L turns bells late i ↔ TurnBad KNk turns bells late ((i : Int) % L) (fs.getD i 0) (knAt fs L turns bells late i) (rdAt fs L i) := Iff.trans Iff.rfl bi.symm
      have hTd : dueToldK fs L turns bells late i = if KNk turns bells late ((i : Int) % L) (nowAt fs L i) = some true ∧ knAt fs L turns bells late i = false then [numB (boxL late (ear bells ((i : Int) % L) (nowAt fs L i)))] else [] := rfl
      have nbd := now_le (cs := fs) (L := L) L0 i
      have n0 := Int.emod_nonneg (i : Int) (show L ≠ 0 by omega)
      have n1 := Int.emod_lt_of_pos (i : Int) L0
      have nm := next_mod (g := (i : Int)) L0
      have rz : ((i + 1 : Nat) : Int) % L = 0 → rdAt fs L (i + 1) = [] := rd_zero
      have rn : ¬ ((i + 1 : Nat) : Int) % L = 0 → rdAt fs L (i + 1) = nowAt fs L i := rd_next
      have kz : ((i + 1 : Nat) : Int) % L = 0 → knAt fs L turns bells late (i + 1) = false := kn_zero
      have kn : ¬ ((i + 1 : Nat) : Int) % L = 0 → knAt fs L turns bells late (i + 1) = (KNk turns bells late ((i : Int) % L) (nowAt fs L i)).getD false := kn_next
      rw [show ((i + 1 : Nat) : Int) = (i : Int) + 1 by omega] at rz rn kz kn
      generalize fs.getD i 0 = ci at ec gc cbi hq hBd hTd
      generalize hn : (i : Int) % L = n at hq hBd hTd n0 n1 nm hx9 kn nbd
      rw [hq] at hTd nbd rn kn
      generalize rdAt fs L i = rd at hq hBd hTd nbd rl hx9 hr9 rn kn
      generalize knAt fs L turns bells late i = kv at hBd hTd hx9
      clear bi
      have n2 : n ≤ (i : Int) := by rw [← hn]; exact mod_le (by omega) L0
      have sz : 0 ≤ ci → (rd.length : Int) + ci ≤ bells → Szs 70000 (boxL late (ear bells n (rd ++ List.replicate ci.toNat n))) := fun z1 z2 => szs_small (ear_bd2 (fun x hx => by have := nbd x hx; omega) n0 (by omega) B60) (by rw [ear_len (by rw [List.length_append, List.length_replicate]; omega)]; omega)
      refine ⟨_, rfl, _, rfl, _, rfl, _, _, _, _, rfl, rfl, SqL.of hF9, gc, ?_⟩
      by_cases c0 : ci = 0
      case' pos =>
        refine ⟨_, rfl, _, rfl, _, _, _, _, rfl, rfl, SqL.of hF9, gc, _, _, rfl, rfl, _, rfl, ifT c0 ⟨_, rfl, _, _, rfl, rfl, (by decide), _, _, rfl, rfl, x, dx, r, turns, bells, late, n, ci, _, _, rd, rfl, fun _ => c0, hx9, hr9, rl, B60, B1, l0, lb, tb, sz, fun bd H4 s4 => ?b1, fun kb m0 mb hk gg p r' n' k' rd' H4 sX hp hr' npr hp4 hx4 hr4 cs => ?g1⟩⟩
      case' neg =>
        refine ⟨_, rfl, _, rfl, _, _, _, _, rfl, rfl, SqL.of hF9, gc, _, _, rfl, rfl, _, rfl, ifF c0 ⟨x, dx, r, turns, bells, late, n, ci, _, _, rd, rfl, (by first | exact fun z => nomatch z | exact fun z => of_decide_eq_true z), hx9, hr9, rl, B60, B1, l0, lb, tb, sz, fun bd H4 s4 => ?b2, fun kb m0 mb hk gg p r' n' k' rd' H4 sX hp hr' npr hp4 hx4 hr4 cs => ?g2⟩⟩
      case b1 | b2 =>
        have db := hBd.mpr bd
        have ei : i = as.length := by
          rcases Nat.lt_or_ge i as.length with z | z
          · exact absurd db (hA i _ (List.getElem?_eq_getElem z)).2
          · omega
        have etl : tl = [.non] := by
          rcases hT with ⟨e, _⟩ | ⟨e, _⟩
          · rw [e] at hi; simp at hi; omega
          · exact e
        subst etl
        have hD4 := s4 _ _ hD9
        have ad : atI (as.map V.ref ++ [.non]) (i : Int) = some V.non := by rw [ei]; exact at_dueN
        refine ⟨_, rfl, _, rfl, _, rfl, _, _, _, _, rfl, rfl, SqL.of hD4, ad, .inl ⟨rfl, _, rfl, ifND (fun z => absurd rfl z) (fun _ => ?_)⟩⟩
        refine ⟨_, rfl, _, rfl, _, _, _, _, rfl, rfl, SqL.of hD4, ad, rfl, _, rfl, ifND (fun z => absurd rfl z) (fun _ => ?_)⟩
        refine ⟨_, rfl, _, rfl, _, _, _, _, rfl, rfl, SqL.of hD4, ad, rfl, _, rfl, ifND (fun z => absurd rfl z) (fun _ => ?_)⟩
        exact ⟨ts, _, _, rfl, s9.trans s4, s4 _ _ hp9, by omega, fun tp h => by
          obtain ⟨f', g', ms', q1, q2, q3, q4⟩ := hts tp h
          exact ⟨f', g', ms', s4 _ _ q1, s4 _ _ q2, s4 _ _ q3, q4⟩, fun z => absurd z (by omega)⟩
      case g1 | g2 =>
        have nd : ¬ DueBadK fs L turns bells late i := fun z => by
          rcases hBd.mp z with z | z | z | ⟨z1, z2, z3⟩
          · omega
          · omega
          · rw [hk] at z; cases z
          · rw [hk] at z1; exact z3 (gg (Option.some.inj z1) z2)
        have il : i < as.length := by
          rcases hT with ⟨e, h⟩ | ⟨e, h, z⟩
          · rw [e] at hi; simp at hi; omega
          · rcases Nat.lt_or_ge i as.length with y | y
            · exact y
            · exact absurd (by rwa [show as.length = i by omega] at z) nd
        have hAi := List.getElem?_eq_getElem il
        obtain ⟨hy, _⟩ := hA i _ hAi
        generalize as[i] = y at hAi hy
        have ql : ((rd ++ List.replicate ci.toNat n).length : Int) = (rd.length : Int) + ci := by rw [List.length_append, List.length_replicate]; omega
        rw [hk] at hTd kn
        have etold : (if kb = true ∧ kv = false then [numB (boxL late (ear bells n (rd ++ List.replicate ci.toNat n)))] else []) = dueToldK fs L turns bells late i := by
          rw [hTd]
          by_cases z : kb = true ∧ kv = false
          · rw [if_pos z, if_pos ⟨by rw [z.1], z.2⟩]
          · rw [if_neg z, if_neg (fun y => z ⟨Option.some.inj y.1, y.2⟩)]
        have ml : (dueToldK fs L turns bells late i).length ≤ 1 := by rw [hTd]; split <;> simp
        rw [etold] at hp4
        generalize dueToldK fs L turns bells late i = ms at hy hp4 ml
        have hy4 : H4 y = some (.lst (ms.map V.int)) := sX _ _ (s9 _ _ hy) (ne_of_none hy nx)
        have hD4 : H4 pd = some (.lst (as.map V.ref ++ tl)) := sX _ _ hD9 (ne_of_none hD nx)
        have nph : p ≠ ph := (ne_of_none hp9 hp).symm
        have npx : p ≠ x := (ne_of_none hx9 hp).symm
        refine ⟨_, rfl, _, rfl, _, rfl, _, _, _, _, rfl, rfl, SqL.of hD4, at_due hAi, .inr ⟨p, y, ms, ms, rfl, rfl, SqL.of hp4, SqL.of hy4, _, rfl, ifND (fun z => absurd rfl z) (fun _ => ?_)⟩⟩
        refine ⟨_, rfl, _, rfl, _, _, _, _, rfl, rfl, SqL.of hD4, at_due hAi, rfl, _, rfl, ifND (fun _ => ⟨_, rfl, _, _, _, true, rfl, TyOf.lst hp4, kit_list_list K, _, rfl, iteF ?_⟩) (fun z => nomatch z)⟩
        refine ⟨_, rfl, _, rfl, _, _, _, _, rfl, rfl, SqL.of hD4, at_due hAi, rfl, _, rfl, ifND (fun _ => ?_) (fun z => nomatch z)⟩
        refine ⟨_, rfl, p, rfl, ⟨_, SqL.of hp4⟩, fun pa hpa => comp_listP (K := K) (a := p) (xs := ms.map V.int) (fun _ => .bl true) (SqL.of hp4) hpa (by rw [List.length_map]; exact Nat.le_of_lt (small1000 (by omega))) ?_ ?_⟩
        · intro j xv H5 R hx s5 hR
          rw [List.getElem?_map] at hx
          obtain ⟨m, hm, rfl⟩ := Option.map_eq_some_iff.mp hx
          exact ⟨rfl, _, rfl, _, _, _, true, rfl, TyOf.int m, kit_int_int K, true, rfl, iteT ⟨_, rfl, _, _, _, false, rfl, TyOf.int m, kit_int_bool K, false, rfl, hR⟩⟩
        refine ⟨pa, List.replicate ms.length true, rfl, SqL.of (by rw [upd_same, List.length_map, List.map_replicate, map_range_const]), ?_⟩
        rw [all_replicate]
        refine ⟨_, rfl, iteF ?_⟩
        have s5 : Same H4 (upd H4 pa (.lst ((List.range (ms.map V.int).length).map (fun _ => V.bl true)))) := Same.new hpa
        generalize upd H4 pa (.lst ((List.range (ms.map V.int).length).map (fun _ => V.bl true))) = H5 at s5 ⊢
        try dsimp only [gName]
        try dsimp only [tNext]
        change tSeq (tIfS _ _ _) _ _ _ _
        refine cut1 (fun σ HA => ∃ ks : List Int, σ = [some (.ref a), some (.int cell), some (.int bells), some (.int late), some (.int st), some (.int turns), some (.ref pw), some (.ref pf), some (.ref pd), some (.ref x), some (.ref ph), some (.int (i : Int)), some (.ref p)] ∧ (∀ z o, H5 z = some o → z ≠ p → HA z = some o) ∧ HA p = some (.lst (ks.map V.int)) ∧ ks.length ≤ 2) ?_ (fun N hN => ⟨_, rfl, _, _, rfl, rfl, (by decide), _, _, rfl, rfl, _, rfl, ifD (fun z => ⟨_, rfl, .inl ⟨rfl, _, SqL.of (s5 _ _ hp4)⟩, p, _, _, rfl, rfl, s5 _ _ hp4, by rw [List.length_map]; exact small1000 (by omega), hN _ _ ⟨ms ++ [0], rfl, fun z o h e => by rw [upd_ne e]; exact h, by rw [upd_same, List.map_append]; rfl, by rw [List.length_append]; show ms.length + 1 ≤ 2; omega⟩⟩) (fun z => hN _ _ ⟨ms, rfl, fun z o h _ => h, s5 _ _ hp4, by omega⟩)⟩)
        rintro σ HA ⟨ks, rfl, sA, hpA, kl⟩
        have hpA9 : HA ph = some (.lst (ts.map V.ref)) := sA _ _ (s5 _ _ (sX _ _ hp9 nxp.symm)) nph.symm
        refine ⟨_, rfl, .inl ⟨rfl, _, SqL.of hpA9⟩, _, rfl, _, rfl, _, _, rfl, .inl (SqL.of hpA), fun g hg => ⟨(by show 2 ≤ sizeLine; decide), fun tp htp => ?_⟩⟩
        have sB : Same HA (upd (upd HA g (.lst (ks.map V.int))) tp (.tup [.ref p, .ref g])) := (Same.new hg).put htp
        have hBt : (upd (upd HA g (.lst (ks.map V.int))) tp (.tup [.ref p, .ref g])) tp = some (.tup [.ref p, .ref g]) := upd_same
        have hBg : (upd (upd HA g (.lst (ks.map V.int))) tp (.tup [.ref p, .ref g])) g = some (.lst (ks.map V.int)) := (Same.new htp) _ _ upd_same
        have ngh : g ≠ ph := (ne_of_none hpA9 hg).symm
        have nth : tp ≠ ph := (ne_of_none ((Same.new hg) _ _ hpA9) htp).symm
        generalize upd (upd HA g (.lst (ks.map V.int))) tp (.tup [.ref p, .ref g]) = HB at sB hBt hBg ⊢
        refine ⟨ph, _, _, rfl, rfl, sB _ _ hpA9, by rw [List.length_map]; exact small1000 (by omega), ?_⟩
        have mv4 : ∀ {z : Addr} {o : HO}, H4 z = some o → z ≠ p → z ≠ ph → (upd HB ph (.lst (ts.map V.ref ++ [.ref tp]))) z = some o := fun {z o} h e1 e2 => by
          rw [upd_ne e2]
          exact sB _ _ (sA _ _ (s5 _ _ h) e1)
        have mv : ∀ {z : Addr} {o : HO}, H9 z = some o → z ≠ x → z ≠ ph → (upd HB ph (.lst (ts.map V.ref ++ [.ref tp]))) z = some o := fun {z o} h e1 e2 => mv4 (sX _ _ h e1) (ne_of_none h hp) e2
        have nxt : rdAt fs L (i + 1) = rd' ∧ ((i : Int) + 1) % L = n' ∧ k' = knAt fs L turns bells late (i + 1) ∧ (rd'.length : Int) ≤ bells := by
          rcases cs with ⟨w1, w2, w3, w4⟩ | ⟨w1, w2, w3, w4⟩
          · rw [if_pos (by omega)] at nm
            exact ⟨by rw [rz nm, w4], by rw [nm, w2], by rw [w3, kz nm], by rw [w4]; show (0 : Int) ≤ bells; omega⟩
          · rw [if_neg (by omega)] at nm
            exact ⟨by rw [rn (by rw [nm]; omega), w4], by rw [nm, w2], by rw [w3, kn (by rw [nm]; omega)]; rfl, by rw [w4]; omega⟩
        obtain ⟨t1, t2, t3, t4⟩ := nxt
        refine ⟨ts ++ [tp], _, _, rfl, fun z o h => mv (s9 _ _ h) (ne_of_none h nx) (ne_of_none h ph6), by rw [upd_same, List.map_append]; rfl, by rw [List.length_append, List.length_singleton]; omega, fun t ht => ?_, fun _ => ⟨r', ?_, ?_, (ne_of_none hp9 hr').symm, by rw [t1]; exact t4⟩⟩
        · rcases List.mem_append.mp ht with z | z
          · obtain ⟨f', g', ms', q1, q2, q3, q4, q5⟩ := hts t z
            exact ⟨f', g', ms', mv q1 (fun e => by rw [e, hx9] at q1; cases q1) (fun e => by rw [e, hp9] at q1; cases q1), mv q2 (fun e => by rw [e, hx9] at q2; cases q2) q4, mv q3 (fun e => by rw [e, hx9] at q3; cases q3) q5, q4, q5⟩
          · rw [List.mem_singleton.mp z]
            exact ⟨p, g, ks, by rw [upd_ne nth]; exact hBt, by rw [upd_ne nph]; exact sB _ _ hpA, by rw [upd_ne ngh]; exact hBg, nph, ngh⟩
        · rw [show ((i + 1 : Nat) : Int) = (i : Int) + 1 by omega, t2, ← t3]
          exact mv4 hx4 npx.symm nxp
        · rw [t1]
          exact mv4 hr4 npr.symm (ne_of_none hp9 hr').symm
    · rintro σ H9 ⟨ts, v10, v11, rfl, s9, hp9, tl9, hts, hh⟩
      refine ⟨_, rfl, ph, rfl, ⟨_, SqL.of hp9⟩, fun pa hpa => comp_listP (K := K) (a := ph) (xs := ts.map V.ref) (fun _ => .bl true) (SqL.of hp9) hpa ?_ ?_ ?_⟩
      · rw [List.length_map]; exact Nat.le_of_lt (small1000 (by omega))
      · intro i x H7' R' hx s7' hR
        rw [List.getElem?_map] at hx
        obtain ⟨t, ht, rfl⟩ := Option.map_eq_some_iff.mp hx
        obtain ⟨a1, a2, a3, q1, q2, q3, _⟩ := hts t (List.mem_of_getElem? ht)
        refine ⟨t, _, rfl, SqT.of (s7' _ _ q1), rfl, _, _, rfl, _, _, rfl, rfl, rfl, _, rfl, _, rfl, a1, a2, a3, a3, rfl, rfl, SqL.of (s7' _ _ q2), SqL.of (s7' _ _ q3), ?_⟩
        rw [decide_eq_true rfl]
        exact hR
      refine ⟨pa, List.replicate ts.length true, rfl, SqL.of (by rw [upd_same, List.length_map, List.map_replicate, map_range_const]), ?_⟩
      rw [all_replicate]
      exact q _
end
theorem of_len0 {α : Type} {F : List α → Prop} {us : List α} (h : us.length = 0) (k : F []) : F us := by
  cases us with
  | nil => exact k
  | cons a r => cases h
theorem of_len1 {α : Type} {F : List α → Prop} {us : List α} (h : us.length = 1) (k : ∀ a, F [a]) : F us := by
  cases us with
  | nil => cases h
  | cons a r => exact of_len0 (F := fun r => F (a :: r)) (Nat.succ.inj h) (k a)
theorem of_len2 {α : Type} {F : List α → Prop} {us : List α} (h : us.length = 2) (k : ∀ a b, F [a, b]) : F us := by
  cases us with
  | nil => cases h
  | cons a r => exact of_len1 (F := fun r => F (a :: r)) (Nat.succ.inj h) (k a)
theorem of_len3 {α : Type} {F : List α → Prop} {us : List α} (h : us.length = 3) (k : ∀ a b c, F [a, b, c]) : F us := by
  cases us with
  | nil => cases h
  | cons a r => exact of_len2 (F := fun r => F (a :: r)) (Nat.succ.inj h) (k a)
theorem of_len4 {α : Type} {F : List α → Prop} {us : List α} (h : us.length = 4) (k : ∀ a b c d, F [a, b, c, d]) : F us := by
  cases us with
  | nil => cases h
  | cons a r => exact of_len3 (F := fun r => F (a :: r)) (Nat.succ.inj h) (k a)
theorem binds_len1 {fd : FuncData} {ps : List Str} {us : List Value} (h : us.length = 1) (k : ∀ a, bindArgs fd ⟨[a], []⟩ = pure (ps.zip [a])) : bindArgs fd ⟨us, []⟩ = pure (ps.zip us) := of_len1 (F := fun us => bindArgs fd ⟨us, []⟩ = pure (ps.zip us)) h k
theorem binds_len2 {fd : FuncData} {ps : List Str} {us : List Value} (h : us.length = 2) (k : ∀ a b, bindArgs fd ⟨[a, b], []⟩ = pure (ps.zip [a, b])) : bindArgs fd ⟨us, []⟩ = pure (ps.zip us) := of_len2 (F := fun us => bindArgs fd ⟨us, []⟩ = pure (ps.zip us)) h k
theorem binds_len3 {fd : FuncData} {ps : List Str} {us : List Value} (h : us.length = 3) (k : ∀ a b c, bindArgs fd ⟨[a, b, c], []⟩ = pure (ps.zip [a, b, c])) : bindArgs fd ⟨us, []⟩ = pure (ps.zip us) := of_len3 (F := fun us => bindArgs fd ⟨us, []⟩ = pure (ps.zip us)) h k
theorem binds_len4 {fd : FuncData} {ps : List Str} {us : List Value} (h : us.length = 4) (k : ∀ a b c d, bindArgs fd ⟨[a, b, c, d], []⟩ = pure (ps.zip [a, b, c, d])) : bindArgs fd ⟨us, []⟩ = pure (ps.zip us) := of_len4 (F := fun us => bindArgs fd ⟨us, []⟩ = pure (ps.zip us)) h k
theorem all_mk {l : PySem.W.OpenLaw} {w : World} {K : PySem.W.Frag} {h : Heap} {mg : Str → Option Value} {fa : Addr} (X : K.In h) (G : h.Ns mainGlobals mg) (hfa : mg "law" = some (.ref fa))
    {f0 : Addr} {od0 an0 : Option Addr} {sl0 : Array (Option Value)} {oc0 kV0 dc0 pm0 cd0 ct0 : Value}
    (a0 : PySem.W.nsIn K mainGlobals "choose" = some (some (.ref f0))) (l0 : K.lookup f0 = some ⟨oc0, od0, .func (PySem.W.fnOf "choose" "choose" (defArgs st_choose) (defBody st_choose) (defScope st_choose) .none kV0 dc0 pm0 an0 cd0 ct0), sl0⟩) (c0 : PySem.W.codeIn K cd0 "choose" = true) (k0 : PySem.W.keepIn K (.ref f0) = true)
    {f1 : Addr} {od1 an1 : Option Addr} {sl1 : Array (Option Value)} {oc1 kV1 dc1 pm1 cd1 ct1 : Value}
    (a1 : PySem.W.nsIn K mainGlobals "box_of" = some (some (.ref f1))) (l1 : K.lookup f1 = some ⟨oc1, od1, .func (PySem.W.fnOf "box_of" "box_of" (defArgs st_box_of) (defBody st_box_of) (defScope st_box_of) .none kV1 dc1 pm1 an1 cd1 ct1), sl1⟩) (c1 : PySem.W.codeIn K cd1 "box_of" = true) (k1 : PySem.W.keepIn K (.ref f1) = true)
    {f2 : Addr} {od2 an2 : Option Addr} {sl2 : Array (Option Value)} {oc2 kV2 dc2 pm2 cd2 ct2 : Value}
    (a2 : PySem.W.nsIn K mainGlobals "heard_box" = some (some (.ref f2))) (l2 : K.lookup f2 = some ⟨oc2, od2, .func (PySem.W.fnOf "heard_box" "heard_box" (defArgs st_heard_box) (defBody st_heard_box) (defScope st_heard_box) .none kV2 dc2 pm2 an2 cd2 ct2), sl2⟩) (c2 : PySem.W.codeIn K cd2 "heard_box" = true) (k2 : PySem.W.keepIn K (.ref f2) = true)
    {f3 : Addr} {od3 an3 : Option Addr} {sl3 : Array (Option Value)} {oc3 kV3 dc3 pm3 cd3 ct3 : Value}
    (a3 : PySem.W.nsIn K mainGlobals "box_count" = some (some (.ref f3))) (l3 : K.lookup f3 = some ⟨oc3, od3, .func (PySem.W.fnOf "box_count" "box_count" (defArgs st_box_count) (defBody st_box_count) (defScope st_box_count) .none kV3 dc3 pm3 an3 cd3 ct3), sl3⟩) (c3 : PySem.W.codeIn K cd3 "box_count" = true) (k3 : PySem.W.keepIn K (.ref f3) = true)
    {f4 : Addr} {od4 an4 : Option Addr} {sl4 : Array (Option Value)} {oc4 kV4 dc4 pm4 cd4 ct4 : Value}
    (a4 : PySem.W.nsIn K mainGlobals "greatest_part" = some (some (.ref f4))) (l4 : K.lookup f4 = some ⟨oc4, od4, .func (PySem.W.fnOf "greatest_part" "greatest_part" (defArgs st_greatest_part) (defBody st_greatest_part) (defScope st_greatest_part) .none kV4 dc4 pm4 an4 cd4 ct4), sl4⟩) (c4 : PySem.W.codeIn K cd4 "greatest_part" = true) (k4 : PySem.W.keepIn K (.ref f4) = true)
    {f5 : Addr} {od5 an5 : Option Addr} {sl5 : Array (Option Value)} {oc5 kV5 dc5 pm5 cd5 ct5 : Value}
    (a5 : PySem.W.nsIn K mainGlobals "box_number" = some (some (.ref f5))) (l5 : K.lookup f5 = some ⟨oc5, od5, .func (PySem.W.fnOf "box_number" "box_number" (defArgs st_box_number) (defBody st_box_number) (defScope st_box_number) .none kV5 dc5 pm5 an5 cd5 ct5), sl5⟩) (c5 : PySem.W.codeIn K cd5 "box_number" = true) (k5 : PySem.W.keepIn K (.ref f5) = true)
    {f6 : Addr} {od6 an6 : Option Addr} {sl6 : Array (Option Value)} {oc6 kV6 dc6 pm6 cd6 ct6 : Value}
    (a6 : PySem.W.nsIn K mainGlobals "read" = some (some (.ref f6))) (l6 : K.lookup f6 = some ⟨oc6, od6, .func (PySem.W.fnOf "read" "read" (defArgs st_read) (defBody st_read) (defScope st_read) .none kV6 dc6 pm6 an6 cd6 ct6), sl6⟩) (c6 : PySem.W.codeIn K cd6 "read" = true) (k6 : PySem.W.keepIn K (.ref f6) = true)
    {f7 : Addr} {od7 an7 : Option Addr} {sl7 : Array (Option Value)} {oc7 kV7 dc7 pm7 cd7 ct7 : Value}
    (a7 : PySem.W.nsIn K mainGlobals "refuse_silent" = some (some (.ref f7))) (l7 : K.lookup f7 = some ⟨oc7, od7, .func (PySem.W.fnOf "refuse_silent" "refuse_silent" (defArgs st_refuse_silent) (defBody st_refuse_silent) (defScope st_refuse_silent) .none kV7 dc7 pm7 an7 cd7 ct7), sl7⟩) (c7 : PySem.W.codeIn K cd7 "refuse_silent" = true) (k7 : PySem.W.keepIn K (.ref f7) = true)
    {f8 : Addr} {od8 an8 : Option Addr} {sl8 : Array (Option Value)} {oc8 kV8 dc8 pm8 cd8 ct8 : Value}
    (a8 : PySem.W.nsIn K mainGlobals "_law_cell_at" = some (some (.ref f8))) (l8 : K.lookup f8 = some ⟨oc8, od8, .func (PySem.W.fnOf "_law_cell_at" "_law_cell_at" (defArgs st__law_cell_at) (defBody st__law_cell_at) (defScope st__law_cell_at) .none kV8 dc8 pm8 an8 cd8 ct8), sl8⟩) (c8 : PySem.W.codeIn K cd8 "_law_cell_at" = true) (k8 : PySem.W.keepIn K (.ref f8) = true)
    {f9 : Addr} {od9 an9 : Option Addr} {sl9 : Array (Option Value)} {oc9 kV9 dc9 pm9 cd9 ct9 : Value}
    (a9 : PySem.W.nsIn K mainGlobals "_law_drawn" = some (some (.ref f9))) (l9 : K.lookup f9 = some ⟨oc9, od9, .func (PySem.W.fnOf "_law_drawn" "_law_drawn" (defArgs st__law_drawn) (defBody st__law_drawn) (defScope st__law_drawn) .none kV9 dc9 pm9 an9 cd9 ct9), sl9⟩) (c9 : PySem.W.codeIn K cd9 "_law_drawn" = true) (k9 : PySem.W.keepIn K (.ref f9) = true)
    {f10 : Addr} {od10 an10 : Option Addr} {sl10 : Array (Option Value)} {oc10 kV10 dc10 pm10 cd10 ct10 : Value}
    (a10 : PySem.W.nsIn K mainGlobals "_law_rows" = some (some (.ref f10))) (l10 : K.lookup f10 = some ⟨oc10, od10, .func (PySem.W.fnOf "_law_rows" "_law_rows" (defArgs st__law_rows) (defBody st__law_rows) (defScope st__law_rows) .none kV10 dc10 pm10 an10 cd10 ct10), sl10⟩) (c10 : PySem.W.codeIn K cd10 "_law_rows" = true) (k10 : PySem.W.keepIn K (.ref f10) = true)
    {f11 : Addr} {od11 an11 : Option Addr} {sl11 : Array (Option Value)} {oc11 kV11 dc11 pm11 cd11 ct11 : Value}
    (a11 : PySem.W.nsIn K mainGlobals "_law_counts" = some (some (.ref f11))) (l11 : K.lookup f11 = some ⟨oc11, od11, .func (PySem.W.fnOf "_law_counts" "_law_counts" (defArgs st__law_counts) (defBody st__law_counts) (defScope st__law_counts) .none kV11 dc11 pm11 an11 cd11 ct11), sl11⟩) (c11 : PySem.W.codeIn K cd11 "_law_counts" = true) (k11 : PySem.W.keepIn K (.ref f11) = true)
    {f12 : Addr} {od12 an12 : Option Addr} {sl12 : Array (Option Value)} {oc12 kV12 dc12 pm12 cd12 ct12 : Value}
    (a12 : PySem.W.nsIn K mainGlobals "_law_changed" = some (some (.ref f12))) (l12 : K.lookup f12 = some ⟨oc12, od12, .func (PySem.W.fnOf "_law_changed" "_law_changed" (defArgs st__law_changed) (defBody st__law_changed) (defScope st__law_changed) .none kV12 dc12 pm12 an12 cd12 ct12), sl12⟩) (c12 : PySem.W.codeIn K cd12 "_law_changed" = true) (k12 : PySem.W.keepIn K (.ref f12) = true)
    {f13 : Addr} {od13 an13 : Option Addr} {sl13 : Array (Option Value)} {oc13 kV13 dc13 pm13 cd13 ct13 : Value}
    (a13 : PySem.W.nsIn K mainGlobals "_law_can" = some (some (.ref f13))) (l13 : K.lookup f13 = some ⟨oc13, od13, .func (PySem.W.fnOf "_law_can" "_law_can" (defArgs st__law_can) (defBody st__law_can) (defScope st__law_can) .none kV13 dc13 pm13 an13 cd13 ct13), sl13⟩) (c13 : PySem.W.codeIn K cd13 "_law_can" = true) (k13 : PySem.W.keepIn K (.ref f13) = true)
    {f14 : Addr} {od14 an14 : Option Addr} {sl14 : Array (Option Value)} {oc14 kV14 dc14 pm14 cd14 ct14 : Value}
    (a14 : PySem.W.nsIn K mainGlobals "_law_due" = some (some (.ref f14))) (l14 : K.lookup f14 = some ⟨oc14, od14, .func (PySem.W.fnOf "_law_due" "_law_due" (defArgs st__law_due) (defBody st__law_due) (defScope st__law_due) .none kV14 dc14 pm14 an14 cd14 ct14), sl14⟩) (c14 : PySem.W.codeIn K cd14 "_law_due" = true) (k14 : PySem.W.keepIn K (.ref f14) = true)
    {f15 : Addr} {od15 an15 : Option Addr} {sl15 : Array (Option Value)} {oc15 kV15 dc15 pm15 cd15 ct15 : Value}
    (a15 : PySem.W.nsIn K mainGlobals "_law_heard" = some (some (.ref f15))) (l15 : K.lookup f15 = some ⟨oc15, od15, .func (PySem.W.fnOf "_law_heard" "_law_heard" (defArgs st__law_heard) (defBody st__law_heard) (defScope st__law_heard) .none kV15 dc15 pm15 an15 cd15 ct15), sl15⟩) (c15 : PySem.W.codeIn K cd15 "_law_heard" = true) (k15 : PySem.W.keepIn K (.ref f15) = true)
    {f16 : Addr} {od16 an16 : Option Addr} {sl16 : Array (Option Value)} {oc16 kV16 dc16 pm16 cd16 ct16 : Value}
    (a16 : PySem.W.nsIn K mainGlobals "law" = some (some (.ref f16))) (l16 : K.lookup f16 = some ⟨oc16, od16, .func (PySem.W.fnOf "law" "law" (defArgs st_law) (defBody st_law) (defScope st_law) .none kV16 dc16 pm16 an16 cd16 ct16), sl16⟩) (c16 : PySem.W.codeIn K cd16 "law" = true) (k16 : PySem.W.keepIn K (.ref f16) = true)
    (z_range : PySem.W.nsIn K mainGlobals "range" = some none)
    (z_isinstance : PySem.W.nsIn K mainGlobals "isinstance" = some none)
    (z_int : PySem.W.nsIn K mainGlobals "int" = some none)
    (z_bool : PySem.W.nsIn K mainGlobals "bool" = some none)
    (z_len : PySem.W.nsIn K mainGlobals "len" = some none)
    (z_list : PySem.W.nsIn K mainGlobals "list" = some none)
    (z_min : PySem.W.nsIn K mainGlobals "min" = some none)
    (z_max : PySem.W.nsIn K mainGlobals "max" = some none)
    (z_enumerate : PySem.W.nsIn K mainGlobals "enumerate" = some none)
    (z_sum : PySem.W.nsIn K mainGlobals "sum" = some none)
    (z_all : PySem.W.nsIn K mainGlobals "all" = some none)
    (z_ValueError : PySem.W.nsIn K mainGlobals "ValueError" = some none)
    (z_sorted : PySem.W.nsIn K mainGlobals "sorted" = some none)
    {C_BellError : Addr} (m_BellError : PySem.W.nsIn K mainGlobals "BellError" = some (some (.ref C_BellError)))
    {C_NoRow : Addr} (m_NoRow : PySem.W.nsIn K mainGlobals "NoRow" = some (some (.ref C_NoRow)))
    {C_NoReading : Addr} (m_NoReading : PySem.W.nsIn K mainGlobals "NoReading" = some (some (.ref C_NoReading)))
    {C_TooGreat : Addr} (m_TooGreat : PySem.W.nsIn K mainGlobals "TooGreat" = some (some (.ref C_TooGreat)))
    {C_TooMany : Addr} (m_TooMany : PySem.W.nsIn K mainGlobals "TooMany" = some (some (.ref C_TooMany)))
    {C_NoNote : Addr} (m_NoNote : PySem.W.nsIn K mainGlobals "NoNote" = some (some (.ref C_NoNote)))
    {C_Hearer : Addr} (m_Hearer : PySem.W.nsIn K mainGlobals "Hearer" = some (some (.ref C_Hearer)))
    {C_KeenHearer : Addr} (m_KeenHearer : PySem.W.nsIn K mainGlobals "KeenHearer" = some (some (.ref C_KeenHearer)))
    (x_BellError : PySem.W.excIn K C_BellError bmV "ValueError.__new__" = true)
    (x_NoRow : PySem.W.excIn K C_NoRow bmV "ValueError.__new__" = true)
    (x_NoReading : PySem.W.excIn K C_NoReading bmV "ValueError.__new__" = true)
    (r_mro : PySem.W.mroIn K C_NoReading (.ref C_BellError) = some true)
    (r_ga : PySem.W.findIn K (.ref C_NoReading) "__getattribute__" = some (some (.builtin "BaseException.__getattribute__")))
    (r_hk : PySem.W.findIn K (.ref C_NoReading) "__getattr__" = some none)
    (r_cl : PySem.W.findIn K (.ref C_NoReading) "__class__" = some (some (.builtin "object.__class__")))
    (r_mo : PySem.W.mroIn K C_NoReading (.type "object") = some true)
    (r_mb : PySem.W.mroIn K C_NoReading (.type "BaseException") = some true)
    (r_gt : PySem.W.specialIn K (.builtin "object.__class__") "__get__" = some (some (.builtin "getset_descriptor.__get__")))
    (r_tk : PySem.W.takesIn K (.builtin "object.__class__") = some true)
    (i_NoNote : PySem.W.kitOne K (.ref C_NoReading) (.ref C_NoNote) = some false)
    (i_NoReading : PySem.W.kitOne K (.ref C_NoReading) (.ref C_NoReading) = some true)
    (i_TooGreat : PySem.W.kitOne K (.ref C_NoReading) (.ref C_TooGreat) = some false)
    (i_NoRow : PySem.W.kitOne K (.ref C_NoReading) (.ref C_NoRow) = some false)
    (i_TooMany : PySem.W.kitOne K (.ref C_NoReading) (.ref C_TooMany) = some false)
    (i_Value : PySem.W.kitOne K (.ref C_NoReading) (.type "ValueError") = some true)
    (r_clK : PySem.W.findIn K (.ref C_KeenHearer) "__class__" = some (some (.builtin "object.__class__")))
    (r_moK : PySem.W.mroIn K C_KeenHearer (.type "object") = some true)
    (i_Keen : PySem.W.kitOne K (.ref C_KeenHearer) (.ref C_Hearer) = some true)
    (o_pg_Hearer : PySem.W.plainGet K C_Hearer Str.empty = true)
    (o_hd_Hearer : PySem.W.hasDictIn K C_Hearer = true)
    (o_po_Hearer : PySem.W.plainOver K C_Hearer = true)
    (o_sa_Hearer : PySem.W.findIn K (.ref C_Hearer) "__setattr__" = some (some (.builtin "object.__setattr__")))
    (o_mk_Hearer : PySem.W.makesIn K C_Hearer = true)
    (o_kc_Hearer : PySem.W.keepIn K (.ref C_Hearer) = true)
    (o_n_Hearer_turns : PySem.W.findIn K (.ref C_Hearer) "turns" = some none)
    (o_n_Hearer_bells : PySem.W.findIn K (.ref C_Hearer) "bells" = some none)
    (o_n_Hearer_late : PySem.W.findIn K (.ref C_Hearer) "late" = some none)
    (o_n_Hearer_now : PySem.W.findIn K (.ref C_Hearer) "now" = some none)
    (o_n_Hearer_reading : PySem.W.findIn K (.ref C_Hearer) "reading" = some none)
    (o_n_Hearer_known : PySem.W.findIn K (.ref C_Hearer) "known" = some none)
    (o_pg_KeenHearer : PySem.W.plainGet K C_KeenHearer Str.empty = true)
    (o_hd_KeenHearer : PySem.W.hasDictIn K C_KeenHearer = true)
    (o_po_KeenHearer : PySem.W.plainOver K C_KeenHearer = true)
    (o_sa_KeenHearer : PySem.W.findIn K (.ref C_KeenHearer) "__setattr__" = some (some (.builtin "object.__setattr__")))
    (o_mk_KeenHearer : PySem.W.makesIn K C_KeenHearer = true)
    (o_kc_KeenHearer : PySem.W.keepIn K (.ref C_KeenHearer) = true)
    (o_n_KeenHearer_turns : PySem.W.findIn K (.ref C_KeenHearer) "turns" = some none)
    (o_n_KeenHearer_bells : PySem.W.findIn K (.ref C_KeenHearer) "bells" = some none)
    (o_n_KeenHearer_late : PySem.W.findIn K (.ref C_KeenHearer) "late" = some none)
    (o_n_KeenHearer_now : PySem.W.findIn K (.ref C_KeenHearer) "now" = some none)
    (o_n_KeenHearer_reading : PySem.W.findIn K (.ref C_KeenHearer) "reading" = some none)
    (o_n_KeenHearer_known : PySem.W.findIn K (.ref C_KeenHearer) "known" = some none)
    {fm_Hearer_init : Addr} {odm_Hearer_init anm_Hearer_init : Option Addr} {slm_Hearer_init : Array (Option Value)} {ocm_Hearer_init kVm_Hearer_init dcm_Hearer_init pmm_Hearer_init cdm_Hearer_init ctm_Hearer_init : Value}
    (o_a_Hearer_Hearer_init : PySem.W.findIn K (.ref C_Hearer) "__init__" = some (some (.ref fm_Hearer_init)))
    (o_a_KeenHearer_Hearer_init : PySem.W.findIn K (.ref C_KeenHearer) "__init__" = some (some (.ref fm_Hearer_init)))
    (o_l_Hearer_init : K.lookup fm_Hearer_init = some ⟨ocm_Hearer_init, odm_Hearer_init, .func (PySem.W.fnOf "__init__" "Hearer.__init__" (defArgs st_Hearer_init) (defBody st_Hearer_init) (defScope st_Hearer_init) .none kVm_Hearer_init dcm_Hearer_init pmm_Hearer_init anm_Hearer_init cdm_Hearer_init ctm_Hearer_init), slm_Hearer_init⟩) (o_c_Hearer_init : PySem.W.codeIn K cdm_Hearer_init "Hearer.__init__" = true) (o_k_Hearer_init : PySem.W.keepIn K (.ref fm_Hearer_init) = true) (o_f_Hearer_init : PySem.W.isFn K (.ref fm_Hearer_init) = true)
    {fm_Hearer_turn : Addr} {odm_Hearer_turn anm_Hearer_turn : Option Addr} {slm_Hearer_turn : Array (Option Value)} {ocm_Hearer_turn kVm_Hearer_turn dcm_Hearer_turn pmm_Hearer_turn cdm_Hearer_turn ctm_Hearer_turn : Value} {Tm_Hearer_turn : Addr} {tcm_Hearer_turn : Value} {tdm_Hearer_turn : Option Addr} {tsm_Hearer_turn : Array (Option Value)} {tt0_Hearer_turn : Tok}
    (o_a_Hearer_Hearer_turn : PySem.W.findIn K (.ref C_Hearer) "turn" = some (some (.ref fm_Hearer_turn)))
    (o_a_KeenHearer_Hearer_turn : PySem.W.findIn K (.ref C_KeenHearer) "turn" = some (some (.ref fm_Hearer_turn)))
    (o_l_Hearer_turn : K.lookup fm_Hearer_turn = some ⟨ocm_Hearer_turn, odm_Hearer_turn, .func (PySem.W.fnOf "turn" "Hearer.turn" (defArgs st_Hearer_turn) (defBody st_Hearer_turn) (defScope st_Hearer_turn) (.ref Tm_Hearer_turn) kVm_Hearer_turn dcm_Hearer_turn pmm_Hearer_turn anm_Hearer_turn cdm_Hearer_turn ctm_Hearer_turn), slm_Hearer_turn⟩) (o_c_Hearer_turn : PySem.W.codeIn K cdm_Hearer_turn "Hearer.turn" = true) (o_k_Hearer_turn : PySem.W.keepIn K (.ref fm_Hearer_turn) = true) (o_f_Hearer_turn : PySem.W.isFn K (.ref fm_Hearer_turn) = true)
    (o_t_Hearer_turn : K.lookup Tm_Hearer_turn = some ⟨tcm_Hearer_turn, tdm_Hearer_turn, .seq #[.int 0 tt0_Hearer_turn], tsm_Hearer_turn⟩)
    {fm_Hearer_knows : Addr} {odm_Hearer_knows anm_Hearer_knows : Option Addr} {slm_Hearer_knows : Array (Option Value)} {ocm_Hearer_knows kVm_Hearer_knows dcm_Hearer_knows pmm_Hearer_knows cdm_Hearer_knows ctm_Hearer_knows : Value}
    (o_a_Hearer_Hearer_knows : PySem.W.findIn K (.ref C_Hearer) "knows" = some (some (.ref fm_Hearer_knows)))
    (o_l_Hearer_knows : K.lookup fm_Hearer_knows = some ⟨ocm_Hearer_knows, odm_Hearer_knows, .func (PySem.W.fnOf "knows" "Hearer.knows" (defArgs st_Hearer_knows) (defBody st_Hearer_knows) (defScope st_Hearer_knows) .none kVm_Hearer_knows dcm_Hearer_knows pmm_Hearer_knows anm_Hearer_knows cdm_Hearer_knows ctm_Hearer_knows), slm_Hearer_knows⟩) (o_c_Hearer_knows : PySem.W.codeIn K cdm_Hearer_knows "Hearer.knows" = true) (o_k_Hearer_knows : PySem.W.keepIn K (.ref fm_Hearer_knows) = true) (o_f_Hearer_knows : PySem.W.isFn K (.ref fm_Hearer_knows) = true)
    {fm_Hearer_earliest : Addr} {odm_Hearer_earliest anm_Hearer_earliest : Option Addr} {slm_Hearer_earliest : Array (Option Value)} {ocm_Hearer_earliest kVm_Hearer_earliest dcm_Hearer_earliest pmm_Hearer_earliest cdm_Hearer_earliest ctm_Hearer_earliest : Value}
    (o_a_Hearer_Hearer_earliest : PySem.W.findIn K (.ref C_Hearer) "earliest" = some (some (.ref fm_Hearer_earliest)))
    (o_a_KeenHearer_Hearer_earliest : PySem.W.findIn K (.ref C_KeenHearer) "earliest" = some (some (.ref fm_Hearer_earliest)))
    (o_l_Hearer_earliest : K.lookup fm_Hearer_earliest = some ⟨ocm_Hearer_earliest, odm_Hearer_earliest, .func (PySem.W.fnOf "earliest" "Hearer.earliest" (defArgs st_Hearer_earliest) (defBody st_Hearer_earliest) (defScope st_Hearer_earliest) .none kVm_Hearer_earliest dcm_Hearer_earliest pmm_Hearer_earliest anm_Hearer_earliest cdm_Hearer_earliest ctm_Hearer_earliest), slm_Hearer_earliest⟩) (o_c_Hearer_earliest : PySem.W.codeIn K cdm_Hearer_earliest "Hearer.earliest" = true) (o_k_Hearer_earliest : PySem.W.keepIn K (.ref fm_Hearer_earliest) = true) (o_f_Hearer_earliest : PySem.W.isFn K (.ref fm_Hearer_earliest) = true)
    {fm_Hearer_is_last_turn : Addr} {odm_Hearer_is_last_turn anm_Hearer_is_last_turn : Option Addr} {slm_Hearer_is_last_turn : Array (Option Value)} {ocm_Hearer_is_last_turn kVm_Hearer_is_last_turn dcm_Hearer_is_last_turn pmm_Hearer_is_last_turn cdm_Hearer_is_last_turn ctm_Hearer_is_last_turn : Value}
    (o_a_Hearer_Hearer_is_last_turn : PySem.W.findIn K (.ref C_Hearer) "is_last_turn" = some (some (.ref fm_Hearer_is_last_turn)))
    (o_a_KeenHearer_Hearer_is_last_turn : PySem.W.findIn K (.ref C_KeenHearer) "is_last_turn" = some (some (.ref fm_Hearer_is_last_turn)))
    (o_l_Hearer_is_last_turn : K.lookup fm_Hearer_is_last_turn = some ⟨ocm_Hearer_is_last_turn, odm_Hearer_is_last_turn, .func (PySem.W.fnOf "is_last_turn" "Hearer.is_last_turn" (defArgs st_Hearer_is_last_turn) (defBody st_Hearer_is_last_turn) (defScope st_Hearer_is_last_turn) .none kVm_Hearer_is_last_turn dcm_Hearer_is_last_turn pmm_Hearer_is_last_turn anm_Hearer_is_last_turn cdm_Hearer_is_last_turn ctm_Hearer_is_last_turn), slm_Hearer_is_last_turn⟩) (o_c_Hearer_is_last_turn : PySem.W.codeIn K cdm_Hearer_is_last_turn "Hearer.is_last_turn" = true) (o_k_Hearer_is_last_turn : PySem.W.keepIn K (.ref fm_Hearer_is_last_turn) = true) (o_f_Hearer_is_last_turn : PySem.W.isFn K (.ref fm_Hearer_is_last_turn) = true)
    {fm_Hearer_go_on : Addr} {odm_Hearer_go_on anm_Hearer_go_on : Option Addr} {slm_Hearer_go_on : Array (Option Value)} {ocm_Hearer_go_on kVm_Hearer_go_on dcm_Hearer_go_on pmm_Hearer_go_on cdm_Hearer_go_on ctm_Hearer_go_on : Value}
    (o_a_Hearer_Hearer_go_on : PySem.W.findIn K (.ref C_Hearer) "go_on" = some (some (.ref fm_Hearer_go_on)))
    (o_a_KeenHearer_Hearer_go_on : PySem.W.findIn K (.ref C_KeenHearer) "go_on" = some (some (.ref fm_Hearer_go_on)))
    (o_l_Hearer_go_on : K.lookup fm_Hearer_go_on = some ⟨ocm_Hearer_go_on, odm_Hearer_go_on, .func (PySem.W.fnOf "go_on" "Hearer.go_on" (defArgs st_Hearer_go_on) (defBody st_Hearer_go_on) (defScope st_Hearer_go_on) .none kVm_Hearer_go_on dcm_Hearer_go_on pmm_Hearer_go_on anm_Hearer_go_on cdm_Hearer_go_on ctm_Hearer_go_on), slm_Hearer_go_on⟩) (o_c_Hearer_go_on : PySem.W.codeIn K cdm_Hearer_go_on "Hearer.go_on" = true) (o_k_Hearer_go_on : PySem.W.keepIn K (.ref fm_Hearer_go_on) = true) (o_f_Hearer_go_on : PySem.W.isFn K (.ref fm_Hearer_go_on) = true)
    {fm_KeenHearer_knows : Addr} {odm_KeenHearer_knows anm_KeenHearer_knows : Option Addr} {slm_KeenHearer_knows : Array (Option Value)} {ocm_KeenHearer_knows kVm_KeenHearer_knows dcm_KeenHearer_knows pmm_KeenHearer_knows cdm_KeenHearer_knows ctm_KeenHearer_knows : Value}
    (o_a_KeenHearer_KeenHearer_knows : PySem.W.findIn K (.ref C_KeenHearer) "knows" = some (some (.ref fm_KeenHearer_knows)))
    (o_l_KeenHearer_knows : K.lookup fm_KeenHearer_knows = some ⟨ocm_KeenHearer_knows, odm_KeenHearer_knows, .func (PySem.W.fnOf "knows" "KeenHearer.knows" (defArgs st_KeenHearer_knows) (defBody st_KeenHearer_knows) (defScope st_KeenHearer_knows) .none kVm_KeenHearer_knows dcm_KeenHearer_knows pmm_KeenHearer_knows anm_KeenHearer_knows cdm_KeenHearer_knows ctm_KeenHearer_knows), slm_KeenHearer_knows⟩) (o_c_KeenHearer_knows : PySem.W.codeIn K cdm_KeenHearer_knows "KeenHearer.knows" = true) (o_k_KeenHearer_knows : PySem.W.keepIn K (.ref fm_KeenHearer_knows) = true) (o_f_KeenHearer_knows : PySem.W.isFn K (.ref fm_KeenHearer_knows) = true)
    : ∃ fd : FuncData, (∀ (s : Shared) (v : Value), BindsTo s fd ⟨[v], []⟩ [("script", v)]) ∧ ∀ base : Heap, K.In base → base.Ns mainGlobals mg → FnOk l.prog w K mg base CX0 6 fa fd ["script"] (spLaw K) := by
  have e := hfa.symm.trans (PySem.W.mg_of X G a16)
  cases e
  have D_choose : Def K mg "choose" st_choose ["n", "k"] := ⟨f0, _, fun_mk l0 c0 k0, (fun_mk (st := st_choose) l0 c0 k0).binds (ps := ["n", "k"]) (fun _ _ _ _ _ _ us hl => binds_len2 hl fun _ _ => rfl), PySem.W.mg_of X G a0⟩
  have D_box_of : Def K mg "box_of" st_box_of ["row", "late"] := ⟨f1, _, fun_mk l1 c1 k1, (fun_mk (st := st_box_of) l1 c1 k1).binds (ps := ["row", "late"]) (fun _ _ _ _ _ _ us hl => binds_len2 hl fun _ _ => rfl), PySem.W.mg_of X G a1⟩
  have D_heard_box : Def K mg "heard_box" st_heard_box ["reading", "late"] := ⟨f2, _, fun_mk l2 c2 k2, (fun_mk (st := st_heard_box) l2 c2 k2).binds (ps := ["reading", "late"]) (fun _ _ _ _ _ _ us hl => binds_len2 hl fun _ _ => rfl), PySem.W.mg_of X G a2⟩
  have D_box_count : Def K mg "box_count" st_box_count ["turns", "bells", "late"] := ⟨f3, _, fun_mk l3 c3 k3, (fun_mk (st := st_box_count) l3 c3 k3).binds (ps := ["turns", "bells", "late"]) (fun _ _ _ _ _ _ us hl => binds_len3 hl fun _ _ _ => rfl), PySem.W.mg_of X G a3⟩
  have D_greatest_part : Def K mg "greatest_part" st_greatest_part ["turns", "bells", "late"] := ⟨f4, _, fun_mk l4 c4 k4, (fun_mk (st := st_greatest_part) l4 c4 k4).binds (ps := ["turns", "bells", "late"]) (fun _ _ _ _ _ _ us hl => binds_len3 hl fun _ _ _ => rfl), PySem.W.mg_of X G a4⟩
  have D_box_number : Def K mg "box_number" st_box_number ["box"] := ⟨f5, _, fun_mk l5 c5 k5, (fun_mk (st := st_box_number) l5 c5 k5).binds (ps := ["box"]) (fun _ _ _ _ _ _ us hl => binds_len1 hl fun _ => rfl), PySem.W.mg_of X G a5⟩
  have D_read : Def K mg "read" st_read ["reading", "turns", "bells", "late"] := ⟨f6, _, fun_mk l6 c6 k6, (fun_mk (st := st_read) l6 c6 k6).binds (ps := ["reading", "turns", "bells", "late"]) (fun _ _ _ _ _ _ us hl => binds_len4 hl fun _ _ _ _ => rfl), PySem.W.mg_of X G a6⟩
  have D_refuse_silent : Def K mg "refuse_silent" st_refuse_silent ["turns", "bells"] := ⟨f7, _, fun_mk l7 c7 k7, (fun_mk (st := st_refuse_silent) l7 c7 k7).binds (ps := ["turns", "bells"]) (fun _ _ _ _ _ _ us hl => binds_len2 hl fun _ _ => rfl), PySem.W.mg_of X G a7⟩
  have D__law_cell_at : Def K mg "_law_cell_at" st__law_cell_at ["script", "k"] := ⟨f8, _, fun_mk l8 c8 k8, (fun_mk (st := st__law_cell_at) l8 c8 k8).binds (ps := ["script", "k"]) (fun _ _ _ _ _ _ us hl => binds_len2 hl fun _ _ => rfl), PySem.W.mg_of X G a8⟩
  have D__law_drawn : Def K mg "_law_drawn" st__law_drawn ["cell", "k"] := ⟨f9, _, fun_mk l9 c9 k9, (fun_mk (st := st__law_drawn) l9 c9 k9).binds (ps := ["cell", "k"]) (fun _ _ _ _ _ _ us hl => binds_len2 hl fun _ _ => rfl), PySem.W.mg_of X G a9⟩
  have D__law_rows : Def K mg "_law_rows" st__law_rows ["bells", "steps", "late"] := ⟨f10, _, fun_mk l10 c10 k10, (fun_mk (st := st__law_rows) l10 c10 k10).binds (ps := ["bells", "steps", "late"]) (fun _ _ _ _ _ _ us hl => binds_len3 hl fun _ _ _ => rfl), PySem.W.mg_of X G a10⟩
  have D__law_counts : Def K mg "_law_counts" st__law_counts ["script", "rows", "whole", "late"] := ⟨f11, _, fun_mk l11 c11 k11, (fun_mk (st := st__law_counts) l11 c11 k11).binds (ps := ["script", "rows", "whole", "late"]) (fun _ _ _ _ _ _ us hl => binds_len4 hl fun _ _ _ _ => rfl), PySem.W.mg_of X G a11⟩
  have D__law_changed : Def K mg "_law_changed" st__law_changed ["script", "counts"] := ⟨f12, _, fun_mk l12 c12 k12, (fun_mk (st := st__law_changed) l12 c12 k12).binds (ps := ["script", "counts"]) (fun _ _ _ _ _ _ us hl => binds_len2 hl fun _ _ => rfl), PySem.W.mg_of X G a12⟩
  have D__law_can : Def K mg "_law_can" st__law_can ["row", "reading", "gone", "late"] := ⟨f13, _, fun_mk l13 c13 k13, (fun_mk (st := st__law_can) l13 c13 k13).binds (ps := ["row", "reading", "gone", "late"]) (fun _ _ _ _ _ _ us hl => binds_len4 hl fun _ _ _ _ => rfl), PySem.W.mg_of X G a13⟩
  have D__law_due : Def K mg "_law_due" st__law_due ["counts", "rows", "whole", "late"] := ⟨f14, _, fun_mk l14 c14 k14, (fun_mk (st := st__law_due) l14 c14 k14).binds (ps := ["counts", "rows", "whole", "late"]) (fun _ _ _ _ _ _ us hl => binds_len4 hl fun _ _ _ _ => rfl), PySem.W.mg_of X G a14⟩
  have D__law_heard : Def K mg "_law_heard" st__law_heard ["hearer", "count", "plain"] := ⟨f15, _, fun_mk l15 c15 k15, (fun_mk (st := st__law_heard) l15 c15 k15).binds (ps := ["hearer", "count", "plain"]) (fun _ _ _ _ _ _ us hl => binds_len3 hl fun _ _ _ => rfl), PySem.W.mg_of X G a15⟩
  have O : Own K C_Hearer C_KeenHearer := ⟨⟨o_pg_Hearer, o_hd_Hearer, o_po_Hearer, o_sa_Hearer⟩, o_n_Hearer_turns, o_n_Hearer_bells, o_n_Hearer_late, o_n_Hearer_now, o_n_Hearer_reading, o_n_Hearer_known, ⟨o_pg_KeenHearer, o_hd_KeenHearer, o_po_KeenHearer, o_sa_KeenHearer⟩, o_n_KeenHearer_turns, o_n_KeenHearer_bells, o_n_KeenHearer_late, o_n_KeenHearer_now, o_n_KeenHearer_reading, o_n_KeenHearer_known, ⟨fm_Hearer_init, ⟨_, fund_mk o_l_Hearer_init o_c_Hearer_init, (fun_mk (st := st_Hearer_init) o_l_Hearer_init o_c_Hearer_init o_k_Hearer_init).binds (ps := ["self", "turns", "bells", "late"]) (fun _ _ _ _ _ _ us hl => binds_len4 hl fun _ _ _ _ => rfl)⟩, ⟨o_mk_Hearer, o_a_Hearer_Hearer_init, o_f_Hearer_init, o_kc_Hearer⟩, ⟨o_mk_KeenHearer, o_a_KeenHearer_Hearer_init, o_f_Hearer_init, o_kc_KeenHearer⟩⟩, ⟨fm_Hearer_turn, ⟨_, fund_mk o_l_Hearer_turn o_c_Hearer_turn, fun _ us X hl => match us, hl with | [_, _], _ => .of_defaults rfl (X _ _ o_t_Hearer_turn) rfl rfl rfl, tt0_Hearer_turn, fun _ us X hl => match us, hl with | [], h => absurd h (by simp) | [_], _ => .of_defaults rfl (X _ _ o_t_Hearer_turn) rfl rfl rfl | _ :: _ :: _, h => absurd h (by simp)⟩, ⟨o_a_Hearer_Hearer_turn, o_f_Hearer_turn, o_k_Hearer_turn⟩, ⟨o_a_KeenHearer_Hearer_turn, o_f_Hearer_turn, o_k_Hearer_turn⟩⟩, ⟨fm_Hearer_knows, ⟨_, fund_mk o_l_Hearer_knows o_c_Hearer_knows, (fun_mk (st := st_Hearer_knows) o_l_Hearer_knows o_c_Hearer_knows o_k_Hearer_knows).binds (ps := ["self", "reading"]) (fun _ _ _ _ _ _ us hl => binds_len2 hl fun _ _ => rfl)⟩, ⟨o_a_Hearer_Hearer_knows, o_f_Hearer_knows, o_k_Hearer_knows⟩⟩, ⟨fm_Hearer_earliest, ⟨_, fund_mk o_l_Hearer_earliest o_c_Hearer_earliest, (fun_mk (st := st_Hearer_earliest) o_l_Hearer_earliest o_c_Hearer_earliest o_k_Hearer_earliest).binds (ps := ["self", "reading"]) (fun _ _ _ _ _ _ us hl => binds_len2 hl fun _ _ => rfl)⟩, ⟨o_a_Hearer_Hearer_earliest, o_f_Hearer_earliest, o_k_Hearer_earliest⟩, ⟨o_a_KeenHearer_Hearer_earliest, o_f_Hearer_earliest, o_k_Hearer_earliest⟩⟩, ⟨fm_Hearer_is_last_turn, ⟨_, fund_mk o_l_Hearer_is_last_turn o_c_Hearer_is_last_turn, (fun_mk (st := st_Hearer_is_last_turn) o_l_Hearer_is_last_turn o_c_Hearer_is_last_turn o_k_Hearer_is_last_turn).binds (ps := ["self"]) (fun _ _ _ _ _ _ us hl => binds_len1 hl fun _ => rfl)⟩, ⟨o_a_Hearer_Hearer_is_last_turn, o_f_Hearer_is_last_turn, o_k_Hearer_is_last_turn⟩, ⟨o_a_KeenHearer_Hearer_is_last_turn, o_f_Hearer_is_last_turn, o_k_Hearer_is_last_turn⟩⟩, ⟨fm_Hearer_go_on, ⟨_, fund_mk o_l_Hearer_go_on o_c_Hearer_go_on, (fun_mk (st := st_Hearer_go_on) o_l_Hearer_go_on o_c_Hearer_go_on o_k_Hearer_go_on).binds (ps := ["self", "reading", "known"]) (fun _ _ _ _ _ _ us hl => binds_len3 hl fun _ _ _ => rfl)⟩, ⟨o_a_Hearer_Hearer_go_on, o_f_Hearer_go_on, o_k_Hearer_go_on⟩, ⟨o_a_KeenHearer_Hearer_go_on, o_f_Hearer_go_on, o_k_Hearer_go_on⟩⟩, ⟨fm_KeenHearer_knows, ⟨_, fund_mk o_l_KeenHearer_knows o_c_KeenHearer_knows, (fun_mk (st := st_KeenHearer_knows) o_l_KeenHearer_knows o_c_KeenHearer_knows o_k_KeenHearer_knows).binds (ps := ["self", "reading"]) (fun _ _ _ _ _ _ us hl => binds_len2 hl fun _ _ => rfl)⟩, ⟨o_a_KeenHearer_KeenHearer_knows, o_f_KeenHearer_knows, o_k_KeenHearer_knows⟩⟩⟩
  have T : Txt K mg := ⟨PySem.W.mg_none_of X G z_range, PySem.W.mg_none_of X G z_isinstance, PySem.W.mg_none_of X G z_int, PySem.W.mg_none_of X G z_bool, PySem.W.mg_none_of X G z_len, PySem.W.mg_none_of X G z_list, PySem.W.mg_none_of X G z_min, PySem.W.mg_none_of X G z_max, PySem.W.mg_none_of X G z_enumerate, PySem.W.mg_none_of X G z_sum, PySem.W.mg_none_of X G z_all, PySem.W.mg_none_of X G z_ValueError, PySem.W.mg_none_of X G z_sorted⟩
  exact ⟨PySem.W.fnOf "law" "law" (defArgs st_law) (defBody st_law) (defScope st_law) .none kV16 dc16 pm16 an16 cd16 ct16, fun s v => .of_eq rfl, fun base _ _ => ok_law (fun_mk l16 c16 k16) T D_choose D_box_of D_heard_box D_box_count D_greatest_part D_box_number D_read D_refuse_silent D__law_cell_at D__law_drawn D__law_rows D__law_counts D__law_changed D__law_can D__law_due D__law_heard (PySem.W.mg_of X G m_BellError) (PySem.W.mg_of X G m_NoRow) (PySem.W.mg_of X G m_NoReading) (PySem.W.mg_of X G m_TooGreat) (PySem.W.mg_of X G m_TooMany) (PySem.W.mg_of X G m_NoNote) (PySem.W.mg_of X G m_Hearer) (PySem.W.mg_of X G m_KeenHearer) x_BellError x_NoRow x_NoReading r_mro r_ga r_hk r_cl r_mo r_mb r_gt r_tk i_NoNote i_NoReading i_TooGreat i_NoRow i_TooMany i_Value r_clK r_moK i_Keen O⟩
theorem walk {l : PySem.W.OpenLaw} {q : Program} {loose : List Str} {XP : (Str → Option Value) → Heap → Prop} {YP : World → Heap → Prop} {d : DefRec} {K : Params → PySem.W.Frag} (hn : l.most = some 63) (hdf : d.params.defaults = []) (hq : PyProof.Rows.importsNone q = true)
    (hY : ∀ (w : World) (h : Heap), YP w h → (K w.params).In h)
    (F : ∀ (w : World) (mg : Str → Option Value) (fa : Addr) (h : Heap), (K w.params).In h → h.Ns mainGlobals mg → mg d.name = some (.ref fa) →
      ∃ fd : FuncData, (∀ (s : Shared) (u : Value), BindsTo s fd ⟨[u], []⟩ [("script", u)]) ∧ ∀ base : Heap, (K w.params).In base → base.Ns mainGlobals mg → FnOk l.prog w (K w.params) mg base CX0 6 fa fd ["script"] (spLaw (K w.params))) :
    PySem.W.WalkO q loose XP YP l.row.toRowW d [] (fun f vs => PySem.call f vs) :=
  L2.walk_of (n := 63) (k := 6) (x := "script") (CX := fun _ => CX0) (sp := fun w => spLaw (K w.params)) hn (by decide) hdf hq ⟨rfl, by decide, by decide⟩ hY F (fun _ _ a ns hl hbt _ hS => ⟨a, ns, rfl, hS, hl, fun _ => rfl⟩) fun _ _ _ _ _ z => z
end Bw
open PySem PySem.W PyProof.Rows
set_option maxRecDepth 100000 in
set_option maxHeartbeats 0 in
theorem PySem.Challenge.cw_bellwrite_k66_a_keen_hearer_holds : PySem.Challenge.rw_bellwrite_k66_a_keen_hearer.Holds := by
  w_on; o_law; k_head; (case hw => w_witness2)
  k_fill
  refine Bw.walk (l := PySem.Challenge.rw_bellwrite_k66_a_keen_hearer) rfl rfl (by decide +kernel) (fun w h Y => PySem.W.kIn_of Y) ?F
  case F =>
    intro w mg fa h KX G hmg
    refine' Bw.all_mk (l := PySem.Challenge.rw_bellwrite_k66_a_keen_hearer) KX G hmg ?a0 ?l0 ?c0 ?k0 ?a1 ?l1 ?c1 ?k1 ?a2 ?l2 ?c2 ?k2 ?a3 ?l3 ?c3 ?k3 ?a4 ?l4 ?c4 ?k4 ?a5 ?l5 ?c5 ?k5 ?a6 ?l6 ?c6 ?k6 ?a7 ?l7 ?c7 ?k7 ?a8 ?l8 ?c8 ?k8 ?a9 ?l9 ?c9 ?k9 ?a10 ?l10 ?c10 ?k10 ?a11 ?l11 ?c11 ?k11 ?a12 ?l12 ?c12 ?k12 ?a13 ?l13 ?c13 ?k13 ?a14 ?l14 ?c14 ?k14 ?a15 ?l15 ?c15 ?k15 ?a16 ?l16 ?c16 ?k16 ?z_range ?z_isinstance ?z_int ?z_bool ?z_len ?z_list ?z_min ?z_max ?z_enumerate ?z_sum ?z_all ?z_ValueError ?z_sorted ?m_BellError ?m_NoRow ?m_NoReading ?m_TooGreat ?m_TooMany ?m_NoNote ?m_Hearer ?m_KeenHearer ?x_BellError ?x_NoRow ?x_NoReading ?r_mro ?r_ga ?r_hk ?r_cl ?r_mo ?r_mb ?r_gt ?r_tk ?i_NoNote ?i_NoReading ?i_TooGreat ?i_NoRow ?i_TooMany ?i_Value ?r_clK ?r_moK ?i_Keen ?o_pg_Hearer ?o_hd_Hearer ?o_po_Hearer ?o_sa_Hearer ?o_mk_Hearer ?o_kc_Hearer ?o_n_Hearer_turns ?o_n_Hearer_bells ?o_n_Hearer_late ?o_n_Hearer_now ?o_n_Hearer_reading ?o_n_Hearer_known ?o_pg_KeenHearer ?o_hd_KeenHearer ?o_po_KeenHearer ?o_sa_KeenHearer ?o_mk_KeenHearer ?o_kc_KeenHearer ?o_n_KeenHearer_turns ?o_n_KeenHearer_bells ?o_n_KeenHearer_late ?o_n_KeenHearer_now ?o_n_KeenHearer_reading ?o_n_KeenHearer_known ?o_a_Hearer_Hearer_init ?o_a_KeenHearer_Hearer_init ?o_l_Hearer_init ?o_c_Hearer_init ?o_k_Hearer_init ?o_f_Hearer_init ?o_a_Hearer_Hearer_turn ?o_a_KeenHearer_Hearer_turn ?o_l_Hearer_turn ?o_c_Hearer_turn ?o_k_Hearer_turn ?o_f_Hearer_turn ?o_t_Hearer_turn ?o_a_Hearer_Hearer_knows ?o_l_Hearer_knows ?o_c_Hearer_knows ?o_k_Hearer_knows ?o_f_Hearer_knows ?o_a_Hearer_Hearer_earliest ?o_a_KeenHearer_Hearer_earliest ?o_l_Hearer_earliest ?o_c_Hearer_earliest ?o_k_Hearer_earliest ?o_f_Hearer_earliest ?o_a_Hearer_Hearer_is_last_turn ?o_a_KeenHearer_Hearer_is_last_turn ?o_l_Hearer_is_last_turn ?o_c_Hearer_is_last_turn ?o_k_Hearer_is_last_turn ?o_f_Hearer_is_last_turn ?o_a_Hearer_Hearer_go_on ?o_a_KeenHearer_Hearer_go_on ?o_l_Hearer_go_on ?o_c_Hearer_go_on ?o_k_Hearer_go_on ?o_f_Hearer_go_on ?o_a_KeenHearer_KeenHearer_knows ?o_l_KeenHearer_knows ?o_c_KeenHearer_knows ?o_k_KeenHearer_knows ?o_f_KeenHearer_knows
    (case a0 => k_is)
    (case l0 => k_is)
    (case c0 => k_is)
    (case k0 => k_is)
    (case a1 => k_is)
    (case l1 => k_is)
    (case c1 => k_is)
    (case k1 => k_is)
    (case a2 => k_is)
    (case l2 => k_is)
    (case c2 => k_is)
    (case k2 => k_is)
    (case a3 => k_is)
    (case l3 => k_is)
    (case c3 => k_is)
    (case k3 => k_is)
    (case a4 => k_is)
    (case l4 => k_is)
    (case c4 => k_is)
    (case k4 => k_is)
    (case a5 => k_is)
    (case l5 => k_is)
    (case c5 => k_is)
    (case k5 => k_is)
    (case a6 => k_is)
    (case l6 => k_is)
    (case c6 => k_is)
    (case k6 => k_is)
    (case a7 => k_is)
    (case l7 => k_is)
    (case c7 => k_is)
    (case k7 => k_is)
    (case a8 => k_is)
    (case l8 => k_is)
    (case c8 => k_is)
    (case k8 => k_is)
    (case a9 => k_is)
    (case l9 => k_is)
    (case c9 => k_is)
    (case k9 => k_is)
    (case a10 => k_is)
    (case l10 => k_is)
    (case c10 => k_is)
    (case k10 => k_is)
    (case a11 => k_is)
    (case l11 => k_is)
    (case c11 => k_is)
    (case k11 => k_is)
    (case a12 => k_is)
    (case l12 => k_is)
    (case c12 => k_is)
    (case k12 => k_is)
    (case a13 => k_is)
    (case l13 => k_is)
    (case c13 => k_is)
    (case k13 => k_is)
    (case a14 => k_is)
    (case l14 => k_is)
    (case c14 => k_is)
    (case k14 => k_is)
    (case a15 => k_is)
    (case l15 => k_is)
    (case c15 => k_is)
    (case k15 => k_is)
    (case a16 => k_is)
    (case l16 => k_is)
    (case c16 => k_is)
    (case k16 => k_is)
    (case z_range => k_is)
    (case z_isinstance => k_is)
    (case z_int => k_is)
    (case z_bool => k_is)
    (case z_len => k_is)
    (case z_list => k_is)
    (case z_min => k_is)
    (case z_max => k_is)
    (case z_enumerate => k_is)
    (case z_sum => k_is)
    (case z_all => k_is)
    (case z_ValueError => k_is)
    (case z_sorted => k_is)
    (case m_BellError => k_is)
    (case m_NoRow => k_is)
    (case m_NoReading => k_is)
    (case m_TooGreat => k_is)
    (case m_TooMany => k_is)
    (case m_NoNote => k_is)
    (case m_Hearer => k_is)
    (case m_KeenHearer => k_is)
    (case x_BellError => k_exc)
    (case x_NoRow => k_exc)
    (case x_NoReading => k_exc)
    (case r_mro => k_is)
    (case r_ga => k_is)
    (case r_hk => k_is)
    (case r_cl => k_is)
    (case r_mo => k_is)
    (case r_mb => k_is)
    (case r_gt => k_is)
    (case r_tk => k_is)
    (case i_NoNote => kit_is)
    (case i_NoReading => kit_is)
    (case i_TooGreat => kit_is)
    (case i_NoRow => kit_is)
    (case i_TooMany => kit_is)
    (case i_Value => kit_is)
    (case r_clK => k_is)
    (case r_moK => k_is)
    (case i_Keen => kit_is)
    (case o_pg_Hearer => k_is)
    (case o_hd_Hearer => k_is)
    (case o_po_Hearer => k_is)
    (case o_sa_Hearer => k_is)
    (case o_mk_Hearer => k_is)
    (case o_kc_Hearer => k_is)
    (case o_n_Hearer_turns => k_is)
    (case o_n_Hearer_bells => k_is)
    (case o_n_Hearer_late => k_is)
    (case o_n_Hearer_now => k_is)
    (case o_n_Hearer_reading => k_is)
    (case o_n_Hearer_known => k_is)
    (case o_pg_KeenHearer => k_is)
    (case o_hd_KeenHearer => k_is)
    (case o_po_KeenHearer => k_is)
    (case o_sa_KeenHearer => k_is)
    (case o_mk_KeenHearer => k_is)
    (case o_kc_KeenHearer => k_is)
    (case o_n_KeenHearer_turns => k_is)
    (case o_n_KeenHearer_bells => k_is)
    (case o_n_KeenHearer_late => k_is)
    (case o_n_KeenHearer_now => k_is)
    (case o_n_KeenHearer_reading => k_is)
    (case o_n_KeenHearer_known => k_is)
    (case o_a_Hearer_Hearer_init => k_is)
    (case o_a_KeenHearer_Hearer_init => k_is)
    (case o_l_Hearer_init => k_is)
    (case o_c_Hearer_init => k_is)
    (case o_k_Hearer_init => k_is)
    (case o_f_Hearer_init => k_is)
    (case o_a_Hearer_Hearer_turn => k_is)
    (case o_a_KeenHearer_Hearer_turn => k_is)
    (case o_l_Hearer_turn => k_is)
    (case o_c_Hearer_turn => k_is)
    (case o_k_Hearer_turn => k_is)
    (case o_f_Hearer_turn => k_is)
    (case o_t_Hearer_turn => k_is)
    (case o_a_Hearer_Hearer_knows => k_is)
    (case o_l_Hearer_knows => k_is)
    (case o_c_Hearer_knows => k_is)
    (case o_k_Hearer_knows => k_is)
    (case o_f_Hearer_knows => k_is)
    (case o_a_Hearer_Hearer_earliest => k_is)
    (case o_a_KeenHearer_Hearer_earliest => k_is)
    (case o_l_Hearer_earliest => k_is)
    (case o_c_Hearer_earliest => k_is)
    (case o_k_Hearer_earliest => k_is)
    (case o_f_Hearer_earliest => k_is)
    (case o_a_Hearer_Hearer_is_last_turn => k_is)
    (case o_a_KeenHearer_Hearer_is_last_turn => k_is)
    (case o_l_Hearer_is_last_turn => k_is)
    (case o_c_Hearer_is_last_turn => k_is)
    (case o_k_Hearer_is_last_turn => k_is)
    (case o_f_Hearer_is_last_turn => k_is)
    (case o_a_Hearer_Hearer_go_on => k_is)
    (case o_a_KeenHearer_Hearer_go_on => k_is)
    (case o_l_Hearer_go_on => k_is)
    (case o_c_Hearer_go_on => k_is)
    (case o_k_Hearer_go_on => k_is)
    (case o_f_Hearer_go_on => k_is)
    (case o_a_KeenHearer_KeenHearer_knows => k_is)
    (case o_l_KeenHearer_knows => k_is)
    (case o_c_KeenHearer_knows => k_is)
    (case o_k_KeenHearer_knows => k_is)
    (case o_f_KeenHearer_knows => k_is)