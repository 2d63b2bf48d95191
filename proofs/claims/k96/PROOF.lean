import PyProof.Rows.All
import Wide.All
import OpenK.AllK
import Wide.FinOn
import Lean
import PyProof.EqAt
import PyProof.EqKinds
import PyProof.TupleCall
import KE.IntBitsLaws
import PySem.Challenge.RW_bellwrite_k96_frames_at_the_desk
set_option Elab.async false
set_option linter.all false
set_option maxRecDepth 100000
set_option maxHeartbeats 4000000
set_option genSizeOf false
namespace L2
open PySem PySem.Spec PyProof.Rows
abbrev Key := Sum Int Str
noncomputable def keyIs : Key → Value → Bool
  | .inl k, v => Value.isInt k v
  | .inr x, v => Value.isStrOf x v
noncomputable def keyH (w : World) : Key → Int
  | .inl k => hashInt k
  | .inr x => hashStr w x
theorem keyIs_shape : ∀ {k : Key} {v : Value}, keyIs k v = true → (∃ i t, k = Sum.inl i ∧ v = Value.int i t) ∨ (∃ x t, k = Sum.inr x ∧ v = Value.str x t)
  | .inl i, v, h => by
    obtain ⟨t, e⟩ := Value.isInt_shape (k := i) (v := v) h
    exact .inl ⟨i, t, rfl, e⟩
  | .inr x, v, h => by
    obtain ⟨t, e⟩ := Value.isStrOf_shape (x := x) (v := v) h
    exact .inr ⟨x, t, rfl, e⟩
theorem key_ll (a b : Int) : decide ((Sum.inl a : Key) = Sum.inl b) = (a == b) := by
  by_cases e : a = b
  · subst e; simp
  · have h : ¬ (Sum.inl a : Key) = Sum.inl b := fun q => e (Sum.inl.inj q)
    rw [decide_eq_false h]
    exact (beq_eq_false_iff_ne.mpr e).symm
theorem key_rr (a b : Str) : decide ((Sum.inr a : Key) = Sum.inr b) = decide (a = b) := by
  by_cases e : a = b
  · subst e; simp
  · have h : ¬ (Sum.inr a : Key) = Sum.inr b := fun q => e (Sum.inr.inj q)
    rw [decide_eq_false h, decide_eq_false e]
theorem key_lr (a : Int) (b : Str) : decide ((Sum.inl a : Key) = Sum.inr b) = false := decide_eq_false (fun q => nomatch q)
theorem key_rl (a : Str) (b : Int) : decide ((Sum.inr a : Key) = Sum.inl b) = false := decide_eq_false (fun q => nomatch q)
noncomputable def mixKind (prog : Program) (w : World) : PySem.KeyKind prog w Key where
  is := keyIs
  hash := keyH w
  inj := fun v a b ha hb => by
    rcases keyIs_shape ha with ⟨i, t, rfl, rfl⟩ | ⟨x, t, rfl, rfl⟩
    · rcases keyIs_shape hb with ⟨j, u, rfl, e⟩ | ⟨y, u, rfl, e⟩
      · injection e with e1 _; rw [e1]
      · exact nomatch e
    · rcases keyIs_shape hb with ⟨j, u, rfl, e⟩ | ⟨y, u, rfl, e⟩
      · exact nomatch e
      · injection e with e1 _; rw [e1]
  byValue := fun k v h => by
    rcases keyIs_shape h with ⟨i, t, rfl, rfl⟩ | ⟨x, t, rfl, rfl⟩ <;> rfl
  pyHash := fun hv h => by
    rcases keyIs_shape hv with ⟨i, t, rfl, rfl⟩ | ⟨x, t, rfl, rfl⟩
    · exact wpAny_pyHash_int h
    · exact wpAny_pyHash_str h
  eqBool := fun hu hv h => by
    rcases keyIs_shape hu with ⟨i, t, rfl, rfl⟩ | ⟨x, t, rfl, rfl⟩
    · rcases keyIs_shape hv with ⟨j, u, rfl, rfl⟩ | ⟨y, u, rfl, rfl⟩
      · rw [key_ll] at h; exact wpAny_eqBool_int h
      · rw [key_lr] at h; exact SeqAt.EqAt.int_str i t y u _ _ _ _ h
    · rcases keyIs_shape hv with ⟨j, u, rfl, rfl⟩ | ⟨y, u, rfl, rfl⟩
      · rw [key_rl] at h; exact SeqAt.EqAt.str_int x t j u _ _ _ _ h
      · rw [key_rr] at h; exact wpAny_eqBool_str h
  «strs» := fun k x t v h => by
    rcases keyIs_shape h with ⟨i, u, rfl, e⟩ | ⟨y, u, rfl, e⟩
    · exact nomatch e
    · injection e with e1 _
      subst e1
      cases v <;> rfl
end L2
namespace L2
open PySem PySem.Spec PyProof.Rows
inductive V where
  | non | bl (b : Bool) | int (i : Int) | str (x : Str) | byt (b : Array UInt8) | flt (b : UInt64) | ref (a : Addr) | ty (n : String)
  deriving DecidableEq
noncomputable def RelV : V → Value → Prop
  | .non, u => u = Value.none
  | .bl b, u => u = Value.bool b
  | .int i, u => ∃ t, u = Value.int i t
  | .str x, u => ∃ t, u = Value.str x t
  | .byt b, u => ∃ t, u = Value.bytes b t
  | .flt b, u => ∃ t, u = Value.float b t
  | .ref a, u => u = Value.ref a
  | .ty n, u => u = Value.type n
abbrev Vals : List V → List Value → Prop := Paired RelV
theorem Vals.length {xs : List V} {us : List Value} (r : Vals xs us) : xs.length = us.length := Paired.length r
theorem Vals.get : ∀ {xs : List V} {us : List Value} {i : Nat} {x : V}, Vals xs us → xs[i]? = some x → ∃ u, us[i]? = some u ∧ RelV x u
  | _, _, _, _, .nil, e => by simp at e
  | _, _, 0, _, .cons r _, e => by simp at e; subst e; exact ⟨_, rfl, r⟩
  | _, _, i + 1, x, .cons _ t, e => by
    obtain ⟨u, h1, h2⟩ := Vals.get (i := i) (x := x) t (by simpa using e)
    exact ⟨u, by simpa using h1, h2⟩
theorem Vals.set {x : V} {u : Value} (r : RelV x u) : ∀ {xs : List V} {us : List Value} (i : Nat), Vals xs us → Vals (xs.set i x) (us.set i u)
  | _, _, _, .nil => .nil
  | _, _, 0, .cons _ t => .cons r t
  | _, _, i + 1, .cons q t => .cons q (Vals.set r i t)
theorem Vals.append : ∀ {xs ys : List V} {us ws : List Value}, Vals xs us → Vals ys ws → Vals (xs ++ ys) (us ++ ws)
  | _, _, _, _, .nil, s => s
  | _, _, _, _, .cons r t, s => .cons r (Vals.append t s)
theorem Vals.take : ∀ {xs : List V} {us : List Value} (n : Nat), Vals xs us → Vals (xs.take n) (us.take n)
  | _, _, 0, _ => .nil
  | _, _, _ + 1, .nil => .nil
  | _, _, n + 1, .cons r t => .cons r (Vals.take n t)
theorem Vals.drop : ∀ {xs : List V} {us : List Value} (n : Nat), Vals xs us → Vals (xs.drop n) (us.drop n)
  | _, _, 0, r => r
  | _, _, _ + 1, .nil => .nil
  | _, _, n + 1, .cons _ t => Vals.drop n t
theorem Vals.none_of : ∀ {xs : List V} {us : List Value} {i : Nat}, Vals xs us → xs[i]? = none → us[i]? = none := fun {xs us i} r e => by
  have h1 := r.length
  have h2 : xs.length ≤ i := List.getElem?_eq_none_iff.mp e
  exact List.getElem?_eq_none_iff.mpr (by omega)
noncomputable def RelO : Option V → Option Value → Prop
  | some v, some u => RelV v u
  | none, none => True
  | _, _ => False
noncomputable def KV {κ : Type} : List (κ × V) → List (κ × Value) → Prop := Paired fun (p : κ × V) (q : κ × Value) => p.1 = q.1 ∧ RelV p.2 q.2
noncomputable def kV : Key → V
  | .inl i => .int i
  | .inr x => .str x
inductive HO where
  | lst (xs : List V)
  | tup (xs : List V)
  | dK (kvs : List (Key × V)) | dT (kvs : List (List Key × V))
  | set (S : Int → Bool) (n : Nat)
  | ins (C dx : Addr) (fs : List (Str × V))
  | own (x : Addr)
  | xd (fs : List (Str × V))
  | met (f x : Addr)
  | rng (lo hi : Int)
  | frz (o : Obj) (u : HO)
  | tbl (ps : Array Value)
  | ext (φ : Heap → Prop)
abbrev Hp := Addr → Option HO
noncomputable def upd (H : Hp) (a : Addr) (o : HO) : Hp := fun b => if b = a then some o else H b
theorem upd_same {H : Hp} {a : Addr} {o : HO} : upd H a o a = some o := by unfold upd; rw [if_pos rfl]
theorem upd_ne {H : Hp} {a b : Addr} {o : HO} (h : b ≠ a) : upd H a o b = H b := by unfold upd; rw [if_neg h]
theorem upd_upd {H : Hp} {a : Addr} {o u : HO} : upd (upd H a o) a u = upd H a u := by
  funext b; unfold upd; split <;> rfl
theorem ne_of_none {H : Hp} {a b : Addr} {o : HO} (h : H a = some o) (h' : H b = none) : a ≠ b := by
  intro e; subst e; rw [h] at h'; cases h'
section
variable (P : Program) (w : World)
noncomputable def ObjOk (H : Hp) (h : Heap) (a : Addr) : HO → Prop
  | .lst xs => xs.length ≤ sizeLine ∧ ∃ (its : List Value) (n : Nat), Vals xs its ∧ h.get? a = some { cls := .type "list", data := .seq its.toArray n }
  | .tup xs => xs.length ≤ sizeLine ∧ ∃ its : List Value, Vals xs its ∧ IsTup h a its.toArray
  | .dK kvs => kvs.length ≤ sizeLine ∧ (a == sysModules) = false ∧ ∃ vs, KV kvs vs ∧ h.DictOf (mixKind P w) a vs
  | .dT kvs => kvs.length ≤ sizeLine ∧ (a == sysModules) = false ∧ ∃ xs : List (List Key × Addr × Value),
      Paired (fun (p : List Key × V) (q : List Key × Addr × Value) => p.1 = q.1 ∧ H q.2.1 = some (.tup (p.1.map kV)) ∧ RelV p.2 q.2.2) kvs xs ∧
      ∃ o es ep, h.get? a = some o ∧ o.ExactDict ∧ o.data = .dict es ep ∧ es.toList = xs.map (entryOfKey (tupleKind (mixKind P w))) ∧ (xs.map (·.1)).Nodup
  | .set S n => h.SetOf (intKind P w) a S n
  | .ins C dx fs => H dx = some (.own a) ∧ fs.length ≤ 1000 ∧ dx ≠ a ∧ h.get? a = some (PySem.W.instObj C dx) ∧
      ∃ mA, h.Ns1 dx mA ∧ (∀ f, RelO (fs.lookup f) (mA f)) ∧ PySem.Within mA (fs.map (·.1))
  | .own _ => ∃ o, h.get? a = some o
  | .xd fs => ∃ mA, h.Ns1 a mA ∧ ∀ f, RelO (fs.lookup f) (mA f)
  | .rng lo hi => ∃ t u v, h.get? a = some { cls := .type "range", data := .fields #[.int lo t, .int hi u, .int 1 v] }
  | .frz o u => h.get? a = some o ∧ ObjOk H h a u
  | .tbl ps => h.get? a = some { cls := .none, data := .fields ps }
  | .met f x => h.get? a = some (PySem.W.methodObj (.ref f) (.ref x))
  | .ext φ => φ h ∧ (∃ o, h.get? a = some o) ∧ ∀ h1 h2 : Heap, φ h1 → (∀ o, h1.get? a = some o → h2.get? a = some o) → φ h2
noncomputable def HOk (H : Hp) (h : Heap) : Prop := ∀ a o, H a = some o → ObjOk P w H h a o
end
section
variable {P : Program} {w : World} {H H' : Hp} {h h' : Heap} {a : Addr} {o : HO}
theorem ObjOk.lt (x : ObjOk P w H h a o) : a < h.objs.size := by
  cases o with
  | lst xs => obtain ⟨_, _, _, _, e⟩ := x; exact Heap.lt_size e
  | tup xs => obtain ⟨_, _, _, p⟩ := x; exact p.lt
  | dK kvs => obtain ⟨_, _, _, _, o, _, _, e, _⟩ := x; exact Heap.lt_size e
  | dT kvs => obtain ⟨_, _, _, _, o, _, _, e, _⟩ := x; exact Heap.lt_size e
  | set S n => obtain ⟨o, _, _, _, e, _⟩ := x; exact Heap.lt_size e
  | ins C dx fs => obtain ⟨_, _, _, e, _⟩ := x; exact Heap.lt_size e
  | own y => obtain ⟨_, e⟩ := x; exact Heap.lt_size e
  | xd fs => obtain ⟨_, ⟨_, _, _, e, _⟩, _⟩ := x; exact Heap.lt_size e
  | rng lo hi => obtain ⟨_, _, _, e⟩ := x; exact Heap.lt_size e
  | frz ob u => obtain ⟨e, _⟩ := x; exact Heap.lt_size e
  | tbl ps => exact Heap.lt_size (show h.get? a = some _ from x)
  | met f y => exact Heap.lt_size (show h.get? a = some _ from x)
  | ext φ => obtain ⟨_, ⟨_, e⟩, _⟩ := x; exact Heap.lt_size e
theorem Paired.mapP {α β : Type} {F G : α → β → Prop} : ∀ {l₁ : List α} {l₂ : List β}, Paired F l₁ l₂ → (∀ a b, F a b → G a b) → Paired G l₁ l₂
  | _, _, .nil, _ => .nil
  | _, _, .cons r t, f => .cons (f _ _ r) (Paired.mapP t f)
theorem Paired.imp' {α β : Type} {F G : α → β → Prop} (f : ∀ a b, F a b → G a b) {l₁ : List α} {l₂ : List β} (r : Paired F l₁ l₂) : Paired G l₁ l₂ := Paired.mapP r f
theorem ObjOk.stay (x : ObjOk P w H h a o) (k : ∀ b u, (b = a ∨ H b = some (.own a)) → h.get? b = some u → h'.get? b = some u)
    (ho : ∀ b, H b = some (.own a) → H' b = some (.own a)) (ht : ∀ b xs, H b = some (.tup xs) → H' b = some (.tup xs)) : ObjOk P w H' h' a o := by
  induction o with
  | lst xs => obtain ⟨z, its, n, r, e⟩ := x; exact ⟨z, its, n, r, k _ _ (.inl rfl) e⟩
  | tup xs => obtain ⟨z, its, r, ob, e, c⟩ := x; exact ⟨z, its, r, ob, k _ _ (.inl rfl) e, c⟩
  | dK kvs => obtain ⟨z, y, vs, r, ob, es, ep, e, c⟩ := x; exact ⟨z, y, vs, r, ob, es, ep, k _ _ (.inl rfl) e, c⟩
  | dT kvs =>
    obtain ⟨z, y, xs, r, ob, es, ep, e, c⟩ := x
    exact ⟨z, y, xs, Paired.mapP r fun p q z => ⟨z.1, ht _ _ z.2.1, z.2.2⟩, ob, es, ep, k _ _ (.inl rfl) e, c⟩
  | set S n => obtain ⟨ob, es, ep, t, e, c⟩ := x; exact ⟨ob, es, ep, t, k _ _ (.inl rfl) e, c⟩
  | ins C dx fs =>
    obtain ⟨d, z, ne, e, mA, ⟨od, es, ep, e2, c⟩, r⟩ := x
    exact ⟨ho _ d, z, ne, k _ _ (.inl rfl) e, mA, ⟨od, es, ep, k _ _ (.inr d) e2, c⟩, r⟩
  | own y => obtain ⟨ob, e⟩ := x; exact ⟨ob, k _ _ (.inl rfl) e⟩
  | xd fs => obtain ⟨mA, ⟨od, es, ep, e, c⟩, r⟩ := x; exact ⟨mA, ⟨od, es, ep, k _ _ (.inl rfl) e, c⟩, r⟩
  | rng lo hi => obtain ⟨t, u, v, e⟩ := x; exact ⟨t, u, v, k _ _ (.inl rfl) e⟩
  | frz ob u ih => obtain ⟨e, q⟩ := x; exact ⟨k _ _ (.inl rfl) e, ih q⟩
  | tbl ps =>
    have e : h.get? a = some { cls := .none, data := .fields ps } := x
    show h'.get? a = some { cls := .none, data := .fields ps }
    exact k a _ (.inl rfl) e
  | met f y =>
    have e : h.get? a = some (PySem.W.methodObj (.ref f) (.ref y)) := x
    show h'.get? a = some (PySem.W.methodObj (.ref f) (.ref y))
    exact k a _ (.inl rfl) e
  | ext φ => obtain ⟨p, ⟨o, e⟩, st⟩ := x; exact ⟨st _ _ p fun o q => k _ _ (.inl rfl) q, ⟨o, k _ _ (.inl rfl) e⟩, st⟩
theorem HOk.lt (x : HOk P w H h) (e : H a = some o) : a < h.objs.size := (x a o e).lt
theorem HOk.fresh (x : HOk P w H h) (e : h.objs.size ≤ a) : H a = none := by
  cases q : H a with
  | none => rfl
  | some u => exact absurd (Nat.lt_of_lt_of_le (x.lt q) e) (Nat.lt_irrefl _)
theorem HOk.kept (x : HOk P w H h) (k : ∀ b u, h.get? b = some u → h'.get? b = some u) : HOk P w H h' := fun a o e =>
  (x a o e).stay (fun b u _ q => k b u q) (fun _ q => q) fun _ _ q => q
theorem HOk.laid (x : HOk P w H h) (k : ∀ b u, h.get? b = some u → h'.get? b = some u) (hp : h.objs.size ≤ a) (new : ObjOk P w (upd H a o) h' a o) : HOk P w (upd H a o) h' := fun b u e => by
  have hn := x.fresh hp
  by_cases hb : b = a
  · subst hb; rw [upd_same] at e; cases e; exact new
  · rw [upd_ne hb] at e
    exact (x b u e).stay (fun c v _ q => k c v q) (fun c q => by rw [upd_ne (ne_of_none q hn)]; exact q) fun c xs q => by rw [upd_ne (ne_of_none q hn)]; exact q
end
noncomputable def Rd (H : Hp) (a : Addr) (u : HO) : Prop := H a = some u ∨ ∃ o, H a = some (.frz o u)
theorem Rd.of {H : Hp} {a : Addr} {u : HO} (h : H a = some u) : Rd H a u := .inl h
theorem Rd.ok {P : Program} {w : World} {H : Hp} {h : Heap} {a : Addr} {u : HO} (r : Rd H a u) (x : HOk P w H h) : ObjOk P w H h a u := by
  rcases r with r | ⟨o, r⟩
  · exact x a u r
  · obtain ⟨_, q⟩ := x a _ r
    exact q
noncomputable def Mut : Option HO → Prop
  | some (.lst _) => True
  | some (.dK _) => True
  | some (.dT _) => True
  | some (.set _ _) => True
  | some (.ins _ _ _) => True
  | some (.ext _) => True
  | _ => False
section
variable {P : Program} {w : World} {H : Hp} {h h' : Heap} {x e : Addr} {o' : HO}
theorem HOk.write (ok : HOk P w H h) (mu : Mut (H x)) (he : e = x ∨ H e = some (.own x)) (k : ∀ b u, b ≠ e → h.get? b = some u → h'.get? b = some u) (heo : ∃ u, h'.get? e = some u)
    (new : ObjOk P w (upd H x o') h' x o') : HOk P w (upd H x o') h' := fun b u q => by
  have nown : ∀ c y, H c = some (.own y) → c ≠ x := fun c y r z => by subst z; rw [r] at mu; exact mu
  have ntup : ∀ c xs, H c = some (.tup xs) → c ≠ x := fun c xs r z => by subst z; rw [r] at mu; exact mu
  by_cases hb : b = x
  · subst hb; rw [upd_same] at q; cases q; exact new
  · rw [upd_ne hb] at q
    by_cases hbe : b = e
    · have q' : H b = some (.own x) := by
        rcases he with z | z
        · exact absurd (hbe.trans z) hb
        · rw [hbe]; exact z
      rw [q] at q'; cases q'
      obtain ⟨v, hv⟩ := heo
      exact ⟨v, by rw [hbe]; exact hv⟩
    · refine (ok b u q).stay (fun c v hc r => k c v ?_ r) (fun c r => by rw [upd_ne (nown c b r)]; exact r) fun c xs r => by rw [upd_ne (ntup c xs r)]; exact r
      rcases hc with rfl | hc
      · exact hbe
      · rintro rfl
        rcases he with z | z
        · exact nown c b hc z
        · rw [hc] at z; cases z; exact hb rfl
end
structure Un (fs ex : List Addr) (H H' : Hp) (h h' : Heap) : Prop where
  keep : ∀ b o, h.get? b = some o → H b = none → b ∉ fs → b ∉ ex → h'.get? b = some o
  slot : ∀ b o, h.get? b = some o → H b = none → b ∈ fs → b ∉ ex → ∃ sl, h'.get? b = some { o with slots := sl }
  free : ∀ b o, h.get? b = some o → H b = none → b ∉ ex → H' b = none
  there : ∀ b o, h.get? b = some o → b ∉ ex → ∃ o', h'.get? b = some o'
  tups : ∀ b xs, H b = some (.tup xs) → H' b = some (.tup xs)
  frzs : ∀ b o u, H b = some (.frz o u) → H' b = some (.frz o u)
  tbls : ∀ b ps, H b = some (.tbl ps) → ∃ more, H' b = some (.tbl (ps ++ more))
section
variable {fs fs' ex ex' : List Addr} {H H1 H2 : Hp} {h h1 h2 h' : Heap} {a x e : Addr} {o : HO}
theorem Un.any (u : Un fs ex H H1 h h1) {b : Addr} {ob : Obj} (q : h.get? b = some ob) (n : H b = none) (hx : b ∉ ex) : ∃ sl, h1.get? b = some { ob with slots := sl } := by
  by_cases hb : b ∈ fs
  · exact u.slot b ob q n hb hx
  · exact ⟨ob.slots, u.keep b ob q n hb hx⟩
theorem Un.trans (a : Un fs ex H H1 h h1) (b : Un fs ex H1 H2 h1 h2) : Un fs ex H H2 h h2 where
  keep := fun c ob q n hc hx => b.keep c ob (a.keep c ob q n hc hx) (a.free c ob q n hx) hc hx
  slot := fun c ob q n hc hx => by
    obtain ⟨sl, e1⟩ := a.slot c ob q n hc hx
    obtain ⟨sl', e2⟩ := b.slot c _ e1 (a.free c ob q n hx) hc hx
    exact ⟨sl', e2⟩
  free := fun c ob q n hx => by
    obtain ⟨o', e1⟩ := a.there c ob q hx
    exact b.free c o' e1 (a.free c ob q n hx) hx
  there := fun c ob q hx => by
    obtain ⟨o', e1⟩ := a.there c ob q hx
    exact b.there c o' e1 hx
  tups := fun c xs q => b.tups c xs (a.tups c xs q)
  frzs := fun c ob xs q => b.frzs c ob xs (a.frzs c ob xs q)
  tbls := fun c ps q => by
    obtain ⟨m1, e1⟩ := a.tbls c ps q
    obtain ⟨m2, e2⟩ := b.tbls c _ e1
    exact ⟨m1 ++ m2, by rw [e2, Array.append_assoc]⟩
theorem Un.kept (k : ∀ b u, h.get? b = some u → h'.get? b = some u) : Un fs ex H H h h' :=
  ⟨fun b ob q _ _ _ => k b ob q, fun b ob q _ _ _ => ⟨ob.slots, k b ob q⟩, fun _ _ _ n _ => n, fun b ob q _ => ⟨ob, k b ob q⟩, fun _ _ q => q, fun _ _ _ q => q, fun _ ps q => ⟨#[], by rw [q]; simp⟩⟩
theorem Un.refl : Un fs ex H H h h := Un.kept fun _ _ q => q
theorem Un.laid (k : ∀ b u, h.get? b = some u → h'.get? b = some u) (hp : h.objs.size ≤ a) (hn : H a = none) : Un fs ex H (upd H a o) h h' where
  keep := fun b u q _ _ _ => k b u q
  slot := fun b u q _ _ _ => ⟨u.slots, k b u q⟩
  free := fun b u q n _ => by rw [upd_ne (Nat.ne_of_lt (Nat.lt_of_lt_of_le (Heap.lt_size q) hp))]; exact n
  there := fun b u q _ => ⟨u, k b u q⟩
  tups := fun b xs q => by rw [upd_ne (ne_of_none q hn)]; exact q
  frzs := fun b u xs q => by rw [upd_ne (ne_of_none q hn)]; exact q
  tbls := fun b ps q => ⟨#[], by rw [upd_ne (ne_of_none q hn), q]; simp⟩
theorem Un.write (mu : Mut (H x)) (he : e = x ∨ H e = some (.own x)) (k : ∀ b u, b ≠ e → h.get? b = some u → h'.get? b = some u) (heo : ∃ u, h'.get? e = some u) : Un fs ex H (upd H x o) h h' := by
  have hx : ∀ b, H b = none → b ≠ x := fun b n z => by subst z; rw [n] at mu; exact mu
  have hb : ∀ b, H b = none → b ≠ e := fun b n z => by
    subst z
    rcases he with r | r
    · exact hx b n r
    · rw [n] at r; cases r
  have hm : ∀ b u, H b = some u → ¬ Mut (some u) → b ≠ x := fun b u q nm z => by subst z; rw [q] at mu; exact nm mu
  refine ⟨fun b u q n _ _ => k b u (hb b n) q, fun b u q n _ _ => ⟨u.slots, k b u (hb b n) q⟩, fun b u q n _ => by rw [upd_ne (hx b n)]; exact n, fun b u q _ => ?_,
    fun b xs q => by rw [upd_ne (hm b _ q fun z => z)]; exact q, fun b u xs q => by rw [upd_ne (hm b _ q fun z => z)]; exact q, fun b ps q => ⟨#[], by rw [upd_ne (hm b _ q fun z => z), q]; simp⟩⟩
  by_cases hbe : b = e
  · subst hbe; exact heo
  · exact ⟨u, k b u hbe q⟩
theorem Un.mono (u : Un fs ex H H1 h h1) (hs : ∀ b ∈ fs, b ∈ fs') (hx : ∀ b ∈ ex, b ∈ ex') : Un fs' ex' H H1 h h1 :=
  ⟨fun b ob q n hb he => u.keep b ob q n (fun z => hb (hs b z)) fun z => he (hx b z), fun _ _ q n _ he => u.any q n fun z => he (hx _ z), fun b ob q n he => u.free b ob q n fun z => he (hx b z), fun b ob q he => u.there b ob q fun z => he (hx b z), u.tups, u.frzs, u.tbls⟩
end
noncomputable def trk (h : Heap) (H : Hp) : List Addr := (List.range h.objs.size).filter fun a => (H a).isSome
noncomputable def hidT (h : Heap) (H : Hp) : Heap := PySem.W.hideAll h (trk h H)
theorem hidT_size (h : Heap) (H : Hp) : (hidT h H).objs.size = h.objs.size := PySem.W.hideAll_size _ _
theorem hidT_get {h : Heap} {H : Hp} {b : Addr} {o : Obj} (e : h.get? b = some o) (n : H b = none) : (hidT h H).get? b = some o :=
  PySem.W.hideAll_get _ e fun hm => by
    have q : (H b).isSome = true := (List.mem_filter.mp hm).2
    rw [n] at q; simp at q
theorem of_hidT {h : Heap} {H : Hp} {b : Addr} {o : Obj} (e : (hidT h H).get? b = some o) : h.get? b = some o ∧ H b = none := by
  have e' : h.get? b = some o := PySem.W.of_hideAll (trk h H) e
  refine ⟨e', ?_⟩
  cases q : H b with
  | none => rfl
  | some x =>
    have hm : b ∈ trk h H := List.mem_filter.mpr ⟨List.mem_range.mpr (Heap.lt_size e'), by simp [q]⟩
    have z : (hidT h H).get? b = none := PySem.W.hideAll_none (trk h H) hm
    rw [z] at e; cases e
noncomputable def allNews (g h : Heap) (L : Addr) : List (Addr × Obj) := (List.range h.objs.size).filterMap fun a => if a = L ∨ (g.get? a).isSome = true then none else (h.get? a).map fun o => (a, o)
noncomputable def rest (g h : Heap) (L d : Addr) : List (Addr × Obj) := (allNews g h L).filter fun p => decide (p.1 ≠ d)
end L2
namespace L2
open PySem PySem.Spec PyProof.Rows
structure Mod (K : PySem.W.Frag) (mg : Str → Option Value) (base : Heap) : Prop where
  kin : K.In base
  glob : base.Ns mainGlobals mg
  blt : ∃ mb, base.Ns builtinsNs mb ∧ ∀ x : Str, x ≠ "__name__" → mb x = bootBuiltins x
  nolimit : base.NoLimit
  seer : base.NoSeer
structure Cx where
  prog : Program
  w : World
  K : PySem.W.Frag
  mg : Str → Option Value
  base : Heap
  A : Around
  N : List Str
  s₀ : Shared
  H₀ : Hp
  env : Env
  outer : List Env
  stack : List Env
  ex : List Addr
  fn : Str → Bool
  calm : Bool
  pn : List (Addr × Obj)
  xe : Value → Shared → Prop
def frs (l : List Env) : List Addr := l.filterMap (·.frame)
abbrev Cx.fs (X : Cx) : List Addr := frs X.outer
noncomputable def Vis (sc : Scope) (x : Str) : Prop := sc.names.lookup x = some .local ∨ sc.names.lookup x = some .cell ∨ sc.names.lookup x = some .free
noncomputable def Loc (sc : Scope) (x : Str) : Prop := sc.names.lookup x = some .local ∨ sc.names.lookup x = some .cell
noncomputable def Look (env : Env) (h : Heap) (m : Str → Option Value) (x : Str) (u : Value) : Prop :=
  (env.kindOf x = some .local ∧ m x = some u) ∨ ((env.kindOf x = some .cell ∨ env.kindOf x = some .free) ∧ ∃ c, env.cells.lookup x = some c ∧ h.IsCell c (some u))
structure Cx.Ok (X : Cx) : Prop where
  mod : Mod X.K X.mg X.base
  kind : X.env.scope.kind = .function
  glob : X.env.globals = mainGlobals
  blt : X.env.builtins = builtinsNs
  above : X.s₀.heap.objs.size ≤ X.env.locals
  inj : ∀ x y c, X.env.cells.lookup x = some c → X.env.cells.lookup y = some c → x = y
  has : ∀ x, (X.env.kindOf x = some .cell ∨ X.env.kindOf x = some .free) → ∃ c, X.env.cells.lookup x = some c
  cab : ∀ x c, X.fn x = true → X.env.cells.lookup x = some c → X.s₀.heap.objs.size ≤ c
  hd : X.calm = true → X.A.handled = none
  frames : X.A.frames = some X.stack
  stk : X.stack = X.outer ∨ (X.stack = X.env :: X.outer ∧ X.env.frame = some X.env.locals)
  exf : ∀ b ∈ X.ex, b ≠ X.env.locals ∧ ∀ x c, X.env.cells.lookup x = some c → c ≠ b
  bs : ∀ b o, X.base.get? b = some o → X.s₀.heap.get? b = some o ∧ X.H₀ b = none
  bsz : X.base.objs.size ≤ X.s₀.heap.objs.size
  noex : ∀ b o, X.base.get? b = some o → b ∉ X.ex
  exfs : ∀ b ∈ X.ex, b ∉ X.fs
  funs : X.s₀.heap.FunFrames X.base X.outer
  frf : ∀ b ∈ X.fs, X.H₀ b = none
structure Inv (X : Cx) (pins : List (Addr × Obj)) (σ : List (Option V)) (H : Hp) (s : Shared) : Prop where
  ok : X.Ok
  os : s.os = X.s₀.os
  bare : AllBare s.gens
  base : Un X.fs X.ex X.H₀ H X.s₀.heap s.heap
  loc : ∃ m, s.heap.Ns X.env.locals m ∧ ∀ (i : Nat) (x : Str) (v : V), X.N[i]? = some x → σ[i]? = some (some v) → Vis X.env.scope x → ∃ u, RelV v u ∧ Look X.env s.heap m x u
  cell : ∀ x c, X.env.cells.lookup x = some c → ∃ v, s.heap.IsCell c v
  free : H X.env.locals = none
  freeC : ∀ x c, X.env.cells.lookup x = some c → H c = none
  pin : ∀ p ∈ X.pn ++ pins, s.heap.get? p.1 = some p.2 ∧ H p.1 = none ∧ p.1 ≠ X.env.locals ∧ p.1 ∉ X.fs ∧ ∀ v, p.2.data ≠ .cell v
  hok : HOk X.prog X.w H s.heap
  len : σ.length = X.N.length
section
variable {X : Cx} {pins : List (Addr × Obj)} {σ : List (Option V)} {H H' : Hp} {s : Shared} {h' : Heap}
theorem Cx.Ok.nofr (ok : X.Ok) {b : Addr} {o : Obj} (e : X.base.get? b = some o) : b ∉ X.fs := fun hb => by
  have := (ok.funs.mem hb).1
  rw [e] at this; cases this
theorem Inv.bs (I : Inv X pins σ H s) : ∀ b o, X.base.get? b = some o → s.heap.get? b = some o ∧ H b = none := fun b o e =>
  ⟨I.base.keep b o (I.ok.bs b o e).1 (I.ok.bs b o e).2 (I.ok.nofr e) (I.ok.noex b o e), I.base.free b o (I.ok.bs b o e).1 (I.ok.bs b o e).2 (I.ok.noex b o e)⟩
theorem Inv.bk (I : Inv X pins σ H s) : ∀ b o, X.base.get? b = some o → s.heap.get? b = some o := fun b o e => (I.bs b o e).1
theorem Inv.mod (I : Inv X pins σ H s) : Mod X.K X.mg X.base := I.ok.mod
theorem Inv.kIn (I : Inv X pins σ H s) : X.K.In s.heap := I.ok.mod.kin.keeps I.bk
theorem Inv.nolimit (I : Inv X pins σ H s) : s.heap.NoLimit := I.ok.mod.nolimit.keeps I.bk
theorem Inv.fr (I : Inv X pins σ H s) : ∃ m, Fr X.base X.env.locals s.heap m :=
  let ⟨m, hn, _⟩ := I.loc
  ⟨m, hn, I.bk, Nat.le_trans I.ok.bsz I.ok.above⟩
theorem Inv.lt (I : Inv X pins σ H s) : X.env.locals < s.heap.objs.size := let ⟨_, hn, _⟩ := I.loc; hn.lt
theorem Inv.sz (I : Inv X pins σ H s) : X.s₀.heap.objs.size ≤ s.heap.objs.size := Nat.le_trans I.ok.above (Nat.le_of_lt I.lt)
theorem Inv.nofs (I : Inv X pins σ H s) {a : Addr} (h : s.heap.objs.size ≤ a) : a ∉ X.fs := fun hb => by
  obtain ⟨_, o, ho, _⟩ := I.ok.funs.mem hb
  exact absurd (Nat.lt_of_lt_of_le (Heap.lt_size ho) (Nat.le_trans I.sz h)) (Nat.lt_irrefl _)
theorem Inv.cne (I : Inv X pins σ H s) : ∀ x c, X.env.cells.lookup x = some c → c ≠ X.env.locals := fun x c e z => by
  obtain ⟨v, o, ho, hd⟩ := I.cell x c e
  obtain ⟨m, ⟨o', es, ep, ho', hd', _⟩, _⟩ := I.loc
  rw [z, ho'] at ho; cases ho; rw [hd'] at hd; cases hd
theorem Inv.funs (I : Inv X pins σ H s) : s.heap.FunFrames X.base X.outer := by
  have all : ∀ (l : List Env), (∀ b ∈ frs l, b ∈ X.fs) → X.s₀.heap.FunFrames X.base l → s.heap.FunFrames X.base l := by
    intro l
    induction l with
    | nil => intro _ _; trivial
    | cons env r ih =>
      intro hs hl
      obtain ⟨hk, ⟨L, o, hf, hn, ho, hd⟩, hr⟩ := hl
      have hL : L ∈ X.fs := hs L (by unfold frs; rw [List.filterMap_cons, hf]; exact List.mem_cons_self)
      obtain ⟨sl, e⟩ := I.base.slot L o ho (I.ok.frf L hL) hL fun z => I.ok.exfs L z hL
      exact ⟨hk, ⟨L, _, hf, hn, e, hd⟩, ih (fun b hb => hs b (by unfold frs; rw [List.filterMap_cons, hf]; exact List.mem_cons_of_mem _ hb)) hr⟩
  exact all X.outer (fun _ hb => hb) I.ok.funs
theorem Inv.stack (I : Inv X pins σ H s) : s.heap.FunFrames X.base X.stack := by
  rcases I.ok.stk with e | ⟨e, hf⟩
  · rw [e]; exact I.funs
  · rw [e]
    obtain ⟨m, hn, _⟩ := I.loc
    refine .cons (by rw [I.ok.kind]; decide) hf hn ?_ I.funs
    exact Heap.get?_none_of_le (Nat.le_trans I.ok.bsz I.ok.above)
theorem Inv.stkSub (I : Inv X pins σ H s) : ∀ b ∈ frs X.stack, b ∈ X.env.locals :: X.fs := fun b hb => by
  rcases I.ok.stk with e | ⟨e, hf⟩
  · rw [e] at hb; exact List.mem_cons_of_mem _ hb
  · rw [e] at hb
    unfold frs at hb
    rw [List.filterMap_cons, hf] at hb
    exact hb
theorem Inv.stkFree (I : Inv X pins σ H s) : ∀ b ∈ frs X.stack, H b = none := fun b hb => by
  rcases List.mem_cons.mp (I.stkSub b hb) with e | hb
  · rw [e]; exact I.free
  · obtain ⟨_, o, ho, _⟩ := I.ok.funs.mem hb
    exact I.base.free b o ho (I.ok.frf b hb) fun z => I.ok.exfs b z hb
theorem Inv.step {g' : Array GenState} {t' : Nat} {d' : Drawn} {ch : List Addr} (I : Inv X pins σ H s)
    (hch : ∀ b ∈ ch, (b ∈ X.ex ∨ X.s₀.heap.objs.size ≤ b) ∧ b ≠ X.env.locals ∧ (∀ x c, X.env.cells.lookup x = some c → c ≠ b) ∧ ∀ p ∈ X.pn ++ pins, p.1 ≠ b)
    (keep : ∀ b o, b ≠ X.env.locals → b ∉ X.fs → b ∉ ch → s.heap.get? b = some o → H b = none → h'.get? b = some o)
    (slot : ∀ b o, b ≠ X.env.locals → b ∈ X.fs → b ∉ ch → s.heap.get? b = some o → H b = none → ∃ sl, h'.get? b = some { o with slots := sl }) (free : ∀ b o, b ∉ ch → s.heap.get? b = some o → H b = none → H' b = none)
    (there : ∀ b o, b ∉ ch → s.heap.get? b = some o → ∃ o', h'.get? b = some o')
    (tups : ∀ b xs, H b = some (.tup xs) → H' b = some (.tup xs)) (frzs : ∀ b o u, H b = some (.frz o u) → H' b = some (.frz o u)) (tbls : ∀ b ps, H b = some (.tbl ps) → ∃ more, H' b = some (.tbl (ps ++ more)))
    (ns : ∀ m, s.heap.Ns X.env.locals m → h'.Ns X.env.locals m) (hok : HOk X.prog X.w H' h') (hg : AllBare g') :
    Inv X pins σ H' { s with heap := h', gens := g', drawn := d', toks := t' } := by
  have neL : ∀ b o, X.s₀.heap.get? b = some o → b ≠ X.env.locals := fun b o e => Nat.ne_of_lt (Nat.lt_of_lt_of_le (Heap.lt_size e) I.ok.above)
  have neC : ∀ b o, X.s₀.heap.get? b = some o → b ∉ X.ex → b ∉ ch := fun b o e hx hb => by
    rcases (hch b hb).1 with z | z
    · exact hx z
    · exact absurd (Nat.lt_of_lt_of_le (Heap.lt_size e) z) (Nat.lt_irrefl _)
  have cellK : ∀ x c, X.env.cells.lookup x = some c → ∀ v, s.heap.IsCell c v → h'.IsCell c v := fun x c e v ⟨o, ho, hd⟩ => by
    have nch : c ∉ ch := fun z => (hch c z).2.2.1 x c e rfl
    by_cases hc : c ∈ X.fs
    · obtain ⟨sl, q⟩ := slot c o (I.cne x c e) hc nch ho (I.freeC x c e)
      exact ⟨_, q, hd⟩
    · exact ⟨o, keep c o (I.cne x c e) hc nch ho (I.freeC x c e), hd⟩
  refine ⟨I.ok, I.os, hg, ⟨fun b o e n hb hx => ?_, fun b o e n hb hx => ?_, fun b o e n hx => ?_, fun b o e hx => ?_, fun b xs e => tups b xs (I.base.tups b xs e), fun b o xs e => frzs b o xs (I.base.frzs b o xs e), fun b ps e => ?_⟩, ?_, fun x c e => ?_, ?_, fun x c e => ?_, fun p hp => ?_, hok, I.len⟩
  · exact keep b o (neL b o e) hb (neC b o e hx) (I.base.keep b o e n hb hx) (I.base.free b o e n hx)
  · obtain ⟨sl, e1⟩ := I.base.slot b o e n hb hx
    obtain ⟨sl', e2⟩ := slot b _ (neL b o e) hb (neC b o e hx) e1 (I.base.free b o e n hx)
    exact ⟨sl', e2⟩
  · obtain ⟨o', e1⟩ := I.base.there b o e hx
    exact free b o' (neC b o e hx) e1 (I.base.free b o e n hx)
  · obtain ⟨o', e1⟩ := I.base.there b o e hx
    exact there b o' (neC b o e hx) e1
  · obtain ⟨m1, e1⟩ := I.base.tbls b ps e
    obtain ⟨m2, e2⟩ := tbls b _ e1
    exact ⟨m1 ++ m2, by rw [e2, Array.append_assoc]⟩
  · obtain ⟨m, hn, hl⟩ := I.loc
    refine ⟨m, ns m hn, fun i x v e1 e2 e3 => ?_⟩
    obtain ⟨u, r, l⟩ := hl i x v e1 e2 e3
    refine ⟨u, r, ?_⟩
    rcases l with l | ⟨k, c, e, z⟩
    · exact .inl l
    · exact .inr ⟨k, c, e, cellK x c e _ z⟩
  · obtain ⟨v, z⟩ := I.cell x c e
    exact ⟨v, cellK x c e v z⟩
  · obtain ⟨m, ⟨o, _, _, ho, _⟩, _⟩ := I.loc
    exact free _ o (fun z => (hch _ z).2.1 rfl) ho I.free
  · obtain ⟨v, o, ho, hd⟩ := I.cell x c e
    exact free c o (fun z => (hch c z).2.2.1 x c e rfl) ho (I.freeC x c e)
  · obtain ⟨e, n, ne, nf, d⟩ := I.pin p hp
    have nch : p.1 ∉ ch := fun z => (hch p.1 z).2.2.2 p hp rfl
    exact ⟨keep p.1 p.2 ne nf nch e n, free p.1 p.2 nch e n, ne, nf, d⟩
theorem Inv.un {t' : Nat} (I : Inv X pins σ H s) (u : Un X.fs [] H H' s.heap h') (hok : HOk X.prog X.w H' h') : Inv X pins σ H' { s with heap := h', toks := t' } := by
  obtain ⟨m, ⟨o, es, ep, ho, r⟩, _⟩ := id I.loc
  obtain ⟨sl, hL⟩ := u.any ho I.free (by simp)
  exact I.step (g' := s.gens) (d' := s.drawn) (ch := []) (fun _ z => nomatch z) (fun b o _ hb _ e n => u.keep b o e n hb (by simp)) (fun b o _ hb _ e n => u.slot b o e n hb (by simp)) (fun b o _ e n => u.free b o e n (by simp)) (fun b o _ e => u.there b o e (by simp)) u.tups u.frzs u.tbls (fun m' hm => by
    obtain ⟨o', es', ep', ho', r'⟩ := hm
    rw [ho] at ho'; cases ho'
    exact ⟨_, es', ep', hL, r'⟩) hok I.bare
theorem Inv.call {g' : Array GenState} {t' : Nat} {d' : Drawn} {ch : List Addr} (I : Inv X pins σ H s) (u : Un (frs X.stack) ch H H' s.heap h') (hok : HOk X.prog X.w H' h') (hg : AllBare g')
    (hch : ∀ b ∈ ch, (b ∈ X.ex ∨ X.s₀.heap.objs.size ≤ b) ∧ b ≠ X.env.locals ∧ (∀ x c, X.env.cells.lookup x = some c → c ≠ b) ∧ ∀ p ∈ X.pn ++ pins, p.1 ≠ b) :
    Inv X pins σ H' { s with heap := h', gens := g', drawn := d', toks := t' } := by
  obtain ⟨m, ⟨o, es, ep, ho, r⟩, _⟩ := id I.loc
  obtain ⟨sl, hL⟩ := u.any ho I.free fun z => (hch _ z).2.1 rfl
  exact I.step (ch := ch) hch (fun b o hL hb hc e n => u.keep b o e n (fun z => (List.mem_cons.mp (I.stkSub b z)).elim hL hb) hc) (fun b o _ _ hc e n => u.any e n hc) (fun b o hc e n => u.free b o e n hc) (fun b o hc e => u.there b o e hc) u.tups u.frzs u.tbls (fun m' hm => by
    obtain ⟨o', es', ep', ho', r'⟩ := hm
    rw [ho] at ho'; cases ho'
    exact ⟨_, es', ep', hL, r'⟩) hok hg
theorem Inv.turned {t' : Nat} {it : Addr} (I : Inv X pins σ H s) (k : ∀ b o, b ≠ it → s.heap.get? b = some o → h'.get? b = some o) (hn : H it = none) (hL : it ≠ X.env.locals)
    (h1 : it ∈ X.ex ∨ X.s₀.heap.objs.size ≤ it) (h2 : ∀ x c, X.env.cells.lookup x = some c → c ≠ it) (h3 : ∀ p ∈ X.pn ++ pins, p.1 ≠ it) : Inv X pins σ H { s with heap := h', toks := t' } := by
  have nit : ∀ b u, H b = some u → b ≠ it := fun b u e z => by rw [z, hn] at e; cases e
  refine I.step (g' := s.gens) (d' := s.drawn) (ch := [it]) (fun b hb => ?_) (fun b o _ _ hc e _ => k b o (fun z => hc (by simp [z])) e) (fun b o _ _ hc e _ => ⟨o.slots, k b o (fun z => hc (by simp [z])) e⟩) (fun _ _ _ _ n => n)
    (fun b o hc e => ⟨o, k b o (fun z => hc (by simp [z])) e⟩) (fun _ _ e => e) (fun _ _ _ e => e) (fun b ps e => ⟨#[], by rw [e]; simp⟩) (fun m hm => ?_) (fun b u e => ?_) I.bare
  · have e : b = it := by simpa using hb
    subst e
    exact ⟨h1, hL, h2, h3⟩
  · obtain ⟨o, es, ep, ho, r⟩ := hm
    exact ⟨o, es, ep, k _ o (Ne.symm hL) ho, r⟩
  · refine (I.hok b u e).stay (fun c v hc q => k c v ?_ q) (fun _ q => q) fun _ _ q => q
    rcases hc with z | z
    · rw [z]; exact nit b u e
    · exact nit c _ z
theorem Inv.tok (I : Inv X pins σ H s) (t : Nat) : Inv X pins σ H { s with toks := t } := I.un (h' := s.heap) (t' := t) Un.refl I.hok
theorem Inv.kept {t' : Nat} (I : Inv X pins σ H s) (k : ∀ b u, s.heap.get? b = some u → h'.get? b = some u) : Inv X pins σ H { s with heap := h', toks := t' } := I.un (Un.kept k) (I.hok.kept k)
theorem Inv.laid {a : Addr} {o : HO} {t' : Nat} (I : Inv X pins σ H s) (k : ∀ b u, s.heap.get? b = some u → h'.get? b = some u) (hp : s.heap.objs.size ≤ a) (new : ObjOk X.prog X.w (upd H a o) h' a o) :
    Inv X pins σ (upd H a o) { s with heap := h', toks := t' } := I.un (Un.laid k hp (I.hok.fresh hp)) (I.hok.laid k hp new)
theorem Inv.write {x e : Addr} {o : HO} {t' : Nat} (I : Inv X pins σ H s) (mu : Mut (H x)) (he : e = x ∨ H e = some (.own x)) (k : ∀ b u, b ≠ e → s.heap.get? b = some u → h'.get? b = some u) (heo : ∃ u, h'.get? e = some u)
    (new : ObjOk X.prog X.w (upd H x o) h' x o) : Inv X pins σ (upd H x o) { s with heap := h', toks := t' } := I.un (Un.write mu he k heo) (I.hok.write mu he k heo new)
theorem Inv.weak {σ' : List (Option V)} (I : Inv X pins σ H s) (hl : σ'.length = σ.length) (w : ∀ (i : Nat) v, σ'[i]? = some (some v) → σ[i]? = some (some v)) : Inv X pins σ' H s :=
  ⟨I.ok, I.os, I.bare, I.base, let ⟨m, hn, hl'⟩ := I.loc; ⟨m, hn, fun i x v e1 e2 e3 => hl' i x v e1 (w i v e2) e3⟩, I.cell, I.free, I.freeC, I.pin, I.hok, hl.trans I.len⟩
theorem Inv.pins_of {pins' : List (Addr × Obj)} (I : Inv X pins σ H s) (h : ∀ p ∈ pins', s.heap.get? p.1 = some p.2 ∧ H p.1 = none ∧ p.1 ≠ X.env.locals ∧ p.1 ∉ X.fs ∧ ∀ v, p.2.data ≠ .cell v) : Inv X pins' σ H s :=
  ⟨I.ok, I.os, I.bare, I.base, I.loc, I.cell, I.free, I.freeC, fun p hp => (List.mem_append.mp hp).elim (fun z => I.pin p (List.mem_append_left _ z)) (h p), I.hok, I.len⟩
theorem nodup_ix {N : List Str} (hN : N.Nodup) {i j : Nat} {x : Str} (a : N[i]? = some x) (b : N[j]? = some x) : i = j := by
  obtain ⟨h1, e1⟩ := List.getElem?_eq_some_iff.mp a
  obtain ⟨h2, e2⟩ := List.getElem?_eq_some_iff.mp b
  exact (List.getElem_inj hN).mp (e1.trans e2.symm)
theorem store_ok2 {M : Model} {A : Around} {E : Value → Shared → Prop} {i : Nat} {x : Str} {v : V} {u : Value} {Q : Unit → Shared → Prop} (I : Inv X pins σ H s) (hN : X.N.Nodup) (hi : X.N[i]? = some x) (hx : Loc X.env.scope x) (r : RelV v u)
    (h : ∀ s', Inv X pins (σ.set i (some v)) H s' → (∃ a, Heap.SameBut a s.heap s'.heap ∧ (a = X.env.locals ∨ X.env.cells.lookup x = some a)) → Q () s') (hf : X.fn x = true ∨ X.env.scope.names.lookup x = some .local := by first | exact .inl rfl | exact .inr rfl | assumption) : wpAny M A (storeName X.env x u) Q E s := by
  obtain ⟨m, hn, hl⟩ := id I.loc
  have hcls : (X.env.scope.kind == .class || (X.env.scope.kind == .module && X.env.locals != X.env.globals)) = false := by rw [I.ok.kind]; rfl
  have hiσ : i < σ.length := by rw [I.len]; exact (List.getElem?_eq_some_iff.mp hi).1
  have cne := I.cne
  have tracked : ∀ {a : Addr} {h' : Heap}, (∃ o, s.heap.get? a = some o ∧ H a = none) → Heap.SameBut a s.heap h' → HOk X.prog X.w H h' := fun {a h'} ha hs b ob e => by
    obtain ⟨_, _, hfree⟩ := ha
    refine (I.hok b ob e).stay (fun c w' hc q => (hs.2 c ?_).trans q) (fun _ q => q) fun _ _ q => q
    rintro rfl
    rcases hc with rfl | hc
    · rw [hfree] at e; cases e
    · rw [hfree] at hc; cases hc
  rcases hx with hk | hk
  · refine wpAny_storeName_local hk hn (fun h' hn' hs => ?_) hcls
    obtain ⟨oL, _, _, hoL, _⟩ := id hn
    refine h _ ⟨I.ok, I.os, I.bare, ⟨fun b o e n hb hx => ?_, fun b o e n hb hx => ?_, I.base.free, fun b o e hx => ?_, I.base.tups, I.base.frzs, I.base.tbls⟩, ⟨_, hn', fun j y v' e1 e2 e3 => ?_⟩, fun y c e => ?_, I.free, I.freeC, fun p hp => ?_, tracked ⟨oL, hoL, I.free⟩ hs, by simpa using I.len⟩ ⟨_, hs, .inl rfl⟩
    · exact (hs.2 b (Nat.ne_of_lt (Nat.lt_of_lt_of_le (Heap.lt_size e) I.ok.above))).trans (I.base.keep b o e n hb hx)
    · obtain ⟨sl, e1⟩ := I.base.slot b o e n hb hx
      exact ⟨sl, (hs.2 b (Nat.ne_of_lt (Nat.lt_of_lt_of_le (Heap.lt_size e) I.ok.above))).trans e1⟩
    · obtain ⟨o', e1⟩ := I.base.there b o e hx
      exact ⟨o', (hs.2 b (Nat.ne_of_lt (Nat.lt_of_lt_of_le (Heap.lt_size e) I.ok.above))).trans e1⟩
    · by_cases hj : j = i
      · subst hj
        rw [hi] at e1; cases e1
        rw [List.getElem?_set_self hiσ] at e2
        cases e2
        exact ⟨u, r, .inl ⟨hk, by simp⟩⟩
      · rw [List.getElem?_set_ne (Ne.symm hj)] at e2
        obtain ⟨u', r', q⟩ := hl j y v' e1 e2 e3
        refine ⟨u', r', ?_⟩
        rcases q with ⟨k, e⟩ | ⟨k, c, e, z⟩
        · refine .inl ⟨k, ?_⟩
          have : y ≠ x := fun e => hj (nodup_ix hN e1 (e ▸ hi))
          simp [this, e]
        · exact .inr ⟨k, c, e, z.sameBut hs (cne y c e)⟩
    · obtain ⟨w', z⟩ := I.cell y c e
      exact ⟨w', z.sameBut hs (cne y c e)⟩
    · obtain ⟨e, n, ne, nf, d⟩ := I.pin p hp
      exact ⟨(hs.2 p.1 ne).trans e, n, ne, nf, d⟩
  · have hfn : X.fn x = true := by
      rcases hf with z | z
      · exact z
      · rw [z] at hk; cases hk
    obtain ⟨c, hc⟩ := I.ok.has x (.inl hk)
    obtain ⟨w', z⟩ := I.cell x c hc
    refine wpAny_storeName_cell I.ok.kind hk hc z (fun h' hc' hs => ?_)
    obtain ⟨oc, hoc, hocd⟩ := id z
    refine h { s with heap := h' } ⟨I.ok, I.os, I.bare, ⟨fun b o e n hb hx => ?_, fun b o e n hb hx => ?_, I.base.free, fun b o e hx => ?_, I.base.tups, I.base.frzs, I.base.tbls⟩, ⟨m, hn.sameBut hs (Ne.symm (cne x c hc)), fun j y v' e1 e2 e3 => ?_⟩, fun y c' e => ?_, I.free, I.freeC, fun p hp => ?_, tracked ⟨oc, hoc, I.freeC x c hc⟩ hs, by simpa using I.len⟩ ⟨c, hs, .inr hc⟩
    · exact (hs.2 b (Nat.ne_of_lt (Nat.lt_of_lt_of_le (Heap.lt_size e) (I.ok.cab x c hfn hc)))).trans (I.base.keep b o e n hb hx)
    · obtain ⟨sl, e1⟩ := I.base.slot b o e n hb hx
      exact ⟨sl, (hs.2 b (Nat.ne_of_lt (Nat.lt_of_lt_of_le (Heap.lt_size e) (I.ok.cab x c hfn hc)))).trans e1⟩
    · obtain ⟨o', e1⟩ := I.base.there b o e hx
      exact ⟨o', (hs.2 b (Nat.ne_of_lt (Nat.lt_of_lt_of_le (Heap.lt_size e) (I.ok.cab x c hfn hc)))).trans e1⟩
    · by_cases hj : j = i
      · subst hj
        rw [hi] at e1; cases e1
        rw [List.getElem?_set_self hiσ] at e2
        cases e2
        exact ⟨u, r, .inr ⟨.inl hk, c, hc, hc'⟩⟩
      · rw [List.getElem?_set_ne (Ne.symm hj)] at e2
        obtain ⟨u', r', q⟩ := hl j y v' e1 e2 e3
        refine ⟨u', r', ?_⟩
        rcases q with q | ⟨k, c', e, z'⟩
        · exact .inl q
        · refine .inr ⟨k, c', e, z'.sameBut hs ?_⟩
          rintro rfl
          exact hj (nodup_ix hN e1 (I.ok.inj _ _ _ e hc ▸ hi))
    · by_cases hcc : c' = c
      · subst hcc; exact ⟨_, hc'⟩
      · obtain ⟨w2, z2⟩ := I.cell y c' e
        exact ⟨w2, z2.sameBut hs hcc⟩
    · obtain ⟨e, n, ne, nf, d⟩ := I.pin p hp
      refine ⟨(hs.2 p.1 ?_).trans e, n, ne, nf, d⟩
      intro q
      rw [q, hoc] at e
      have q' : oc = p.2 := Option.some.inj e
      exact d w' (by rw [← q']; exact hocd)
theorem store_ok {M : Model} {A : Around} {E : Value → Shared → Prop} {i : Nat} {x : Str} {v : V} {u : Value} {Q : Unit → Shared → Prop} (I : Inv X pins σ H s) (hN : X.N.Nodup) (hi : X.N[i]? = some x) (hx : Loc X.env.scope x) (r : RelV v u)
    (h : ∀ s', Inv X pins (σ.set i (some v)) H s' → Q () s') (hf : X.fn x = true ∨ X.env.scope.names.lookup x = some .local := by first | exact .inl rfl | exact .inr rfl | assumption) : wpAny M A (storeName X.env x u) Q E s :=
  store_ok2 I hN hi hx r (fun s' I' _ => h s' I') hf
theorem Inv.call' {s' : Shared} {ch : List Addr} (I : Inv X pins σ H s) (ho : s'.os = s.os) (u : Un (frs X.stack) ch H H' s.heap s'.heap) (hok : HOk X.prog X.w H' s'.heap) (hg : AllBare s'.gens)
    (hch : ∀ b ∈ ch, (b ∈ X.ex ∨ X.s₀.heap.objs.size ≤ b) ∧ b ≠ X.env.locals ∧ (∀ x c, X.env.cells.lookup x = some c → c ≠ b) ∧ ∀ p ∈ X.pn ++ pins, p.1 ≠ b) : Inv X pins σ H' s' := by
  obtain ⟨h', g', d', t', o'⟩ := s'
  have e : o' = s.os := ho
  subst e
  exact I.call (g' := g') (t' := t') (d' := d') u hok hg hch
end
abbrev XK := Value → Option Addr → Hp → Prop
abbrev St := List (Option V)
abbrev VK := V → Hp → Prop
abbrev TE := St → Hp → VK → Prop
abbrev TT := St → Hp → (Bool → Hp → Prop) → Prop
abbrev TA := St → Hp → (List V → Hp → Prop) → Prop
structure Ends where
  nx : St → Hp → Prop
  rt : VK
  bk : St → Hp → Prop := fun _ _ => False
  ct : St → Hp → Prop := fun _ _ => False
abbrev TS := Ends → St → Hp → Prop
noncomputable def EP (X : Cx) (pins : List (Addr × Obj)) (σ : St) (Q : VK) (u : Value) (s' : Shared) : Prop := ∃ v H', Inv X pins σ H' s' ∧ RelV v u ∧ Q v H'
noncomputable def TP (X : Cx) (pins : List (Addr × Obj)) (σ : St) (Q : Bool → Hp → Prop) (b : Bool) (s' : Shared) : Prop := ∃ H', Inv X pins σ H' s' ∧ Q b H'
noncomputable def AP (X : Cx) (pins : List (Addr × Obj)) (σ : St) (Q : List V → Hp → Prop) (us : List Value) (s' : Shared) : Prop := ∃ vs H', Inv X pins σ H' s' ∧ Vals vs us ∧ Q vs H'
noncomputable def SP (X : Cx) (pins : List (Addr × Obj)) (D : Ends) (f : Flow) (s' : Shared) : Prop :=
  match f with
  | .next => ∃ σ' H', Inv X pins σ' H' s' ∧ D.nx σ' H'
  | .brk => ∃ σ' H', Inv X pins σ' H' s' ∧ D.bk σ' H'
  | .cont => ∃ σ' H', Inv X pins σ' H' s' ∧ D.ct σ' H'
  | .ret u => ∃ v σ' H', Inv X pins σ' H' s' ∧ RelV v u ∧ D.rt v H'
noncomputable def PE (X : Cx) (e : Expr) (t : TE) : Prop :=
  ∀ (pins : List (Addr × Obj)) (s : Shared) (σ : St) (H : Hp) (Q : VK), Inv X pins σ H s → t σ H Q → wpAny (model X.prog X.w) X.A (eval e X.env) (EP X pins σ Q) X.xe s
noncomputable def PT (X : Cx) (e : Expr) (t : TT) : Prop :=
  ∀ (pins : List (Addr × Obj)) (s : Shared) (σ : St) (H : Hp) (Q : Bool → Hp → Prop), Inv X pins σ H s → t σ H Q → wpAny (model X.prog X.w) X.A (isTrue e X.env (eval e X.env)) (TP X pins σ Q) X.xe s
noncomputable def PW (X : Cx) (e : Expr) (t : TT) : Prop :=
  ∀ (whole : Sem Value) (pins : List (Addr × Obj)) (s : Shared) (σ : St) (H : Hp) (Q : Bool → Hp → Prop), Inv X pins σ H s → t σ H Q → wpAny (model X.prog X.w) X.A (isTrue e X.env whole) (TP X pins σ Q) X.xe s
theorem PW.pt {X : Cx} {e : Expr} {t : TT} (h : PW X e t) : PT X e t := h _
noncomputable def PA (X : Cx) (es : List Expr) (t : TA) : Prop :=
  ∀ (pos : Pos) (pins : List (Addr × Obj)) (s : Shared) (σ : St) (H : Hp) (Q : List V → Hp → Prop), Inv X pins σ H s → t σ H Q → wpAny (model X.prog X.w) X.A (spliced (backTo pos (starEach es X.env))) (AP X pins σ Q) X.xe s
noncomputable def PS (X : Cx) (st : Stmt) (t : TS) : Prop :=
  ∀ (pins : List (Addr × Obj)) (s : Shared) (σ : St) (H : Hp) (D : Ends), Inv X pins σ H s → t D σ H → wpAny (model X.prog X.w) X.A (exec st X.env) (SP X pins D) X.xe s
noncomputable def PSs (X : Cx) (st : List Stmt) (t : TS) : Prop :=
  ∀ (pins : List (Addr × Obj)) (s : Shared) (σ : St) (H : Hp) (D : Ends), Inv X pins σ H s → t D σ H → wpAny (model X.prog X.w) X.A (execs st X.env) (SP X pins D) X.xe s
theorem thn {α : Type} {t : Sem α} {Q Q' : α → Shared → Prop} {M : Model} {A : Around} {E : Value → Shared → Prop} {s : Shared} (h : wpAny M A t Q E s) (hQ : ∀ a s, Q a s → Q' a s) : wpAny M A t Q' E s := wpAny_mono h hQ fun _ _ x => x
end L2
namespace L2
open PySem PySem.Spec PyProof.Rows
section
variable {X : Cx}
noncomputable def tVar (i : Nat) : TE := fun σ H Q => ∃ v, σ[i]? = some (some v) ∧ Q v H
noncomputable def tC (v : V) : TE := fun _ H Q => Q v H
theorem pe_var {i : Nat} {x : Str} {pos : Pos} (hN : X.N[i]? = some x) (hv : Vis X.env.scope x) (hd : (x == ("__debug__" : Str)) = false := by decide) (hcd : (x == ("__classdict__" : Str)) = false := by decide) : PE X (.Name x pos) (tVar i) := by
  intro pins s σ H Q I h
  obtain ⟨v, e, h⟩ := h
  obtain ⟨m, hn, hl⟩ := I.loc
  obtain ⟨u, r, l⟩ := hl i x v hN e hv
  have fin : EP X pins σ Q u s := ⟨v, H, I, r, h⟩
  rcases l with ⟨hk, hm⟩ | ⟨hk, c, hc, hcell⟩
  · exact wpAny_Name (wpAny_loadName_local I.ok.kind hk hn hm fin) hd
  · rcases hk with hk | hk
    · exact wpAny_Name (wpAny_loadName_cell I.ok.kind hk hc hcell fin) hd
    · exact wpAny_Name (wpAny_loadName_free I.ok.kind hk hc hcell fin hcd) hd
theorem pe_int {i j pos} : PE X (.Constant (.int i) j pos) (tC (.int i)) := fun _ _ _ H _ I h => wpAny_Constant_int ⟨.int i, H, I.tok _, ⟨_, rfl⟩, h⟩
theorem pe_bl {b j pos} : PE X (.Constant (.bool b) j pos) (tC (.bl b)) := fun _ _ _ H _ I h => Constant_bool ⟨.bl b, H, I, rfl, h⟩
theorem pe_non {j pos} : PE X (.Constant .none j pos) (tC .non) := fun _ _ _ H _ I h => Constant_none ⟨.non, H, I, rfl, h⟩
theorem pe_str {x j pos} : PE X (.Constant (.str x) j pos) (tC (.str x)) := fun _ _ _ H _ I h => Calls.Constant_str ⟨.str x, H, I.tok _, ⟨_, rfl⟩, h⟩
noncomputable def Gl (X : Cx) (x : Str) : Prop := X.env.kindOf x = some .globalImplicit
theorem ld_glob {E : Value → Shared → Prop} {pins : List (Addr × Obj)} {s : Shared} {σ : St} {H : Hp} {x : Str} {u : Value} {pos : Pos} {Q : Value → Shared → Prop} (I : Inv X pins σ H s) (hg : Gl X x) (hm : X.mg x = some u) (h : Q u s)
    (hd : (x == ("__debug__" : Str)) = false := by decide) : wpAny (model X.prog X.w) X.A (eval (.Name x pos) X.env) Q E s :=
  Calls.Name_function_global I.ok.kind hg (Calls.loadGlobal_global (by rw [I.ok.glob]; exact I.mod.glob.keeps I.bk) hm h) hd
theorem ld_blt {E : Value → Shared → Prop} {pins : List (Addr × Obj)} {s : Shared} {σ : St} {H : Hp} {x : Str} {u : Value} {pos : Pos} {Q : Value → Shared → Prop} (I : Inv X pins σ H s) (hg : Gl X x) (hm : X.mg x = none) (hv : bootBuiltins x = some u) (h : Q u s)
    (hn : x ≠ "__name__" := by decide) (hd : (x == ("__debug__" : Str)) = false := by decide) : wpAny (model X.prog X.w) X.A (eval (.Name x pos) X.env) Q E s := by
  obtain ⟨mb, h1, h2⟩ := I.mod.blt
  exact Calls.Name_function_global I.ok.kind hg (Calls.loadGlobal_builtin (by rw [I.ok.glob]; exact I.mod.glob.keeps I.bk) hm (by rw [I.ok.blt]; exact h1.keeps I.bk) ((h2 x hn).trans hv) h) hd
theorem pe_glob {x : Str} {v : V} {u : Value} {pos : Pos} (hg : Gl X x) (hm : X.mg x = some u) (r : RelV v u) (hd : (x == ("__debug__" : Str)) = false := by decide) : PE X (.Name x pos) (tC v) :=
  fun _ _ _ H _ I h => ld_glob I hg hm ⟨v, H, I, r, h⟩ hd
theorem pe_bltn {x : Str} {v : V} {u : Value} {pos : Pos} (hg : Gl X x) (hm : X.mg x = none) (hv : bootBuiltins x = some u) (r : RelV v u) (hn : x ≠ "__name__" := by decide) (hd : (x == ("__debug__" : Str)) = false := by decide) : PE X (.Name x pos) (tC v) :=
  fun _ _ _ H _ I h => ld_blt I hg hm hv ⟨v, H, I, r, h⟩ hn hd
variable {a b : Expr} {ta tb : TE} {pos : Pos}
noncomputable def tB (t : TE) : TT := fun σ H Q => t σ H fun x H1 => ∃ c, x = .bl c ∧ Q c H1
theorem pt_val {e : Expr} {t : TE} (h : PE X e t) (he : ∀ whole, isTrue e X.env whole = (do let v ← whole; standAt e.pos; holding [v] (truthy v)) := by intro _; rfl) : PT X e (tB t) := by
  intro pins s σ H Q I hw
  refine isTrue_plain (thn (h pins s σ H _ I hw) fun v s1 ⟨x, H1, I1, r1, q1⟩ => ?_) (he _)
  obtain ⟨d, rfl, q⟩ := q1
  cases r1
  exact wpAny_truthy_bool ⟨H1, I1, q⟩
variable {tA tB' : TT} {rest : List Expr}
noncomputable def tAnd (t u : TT) : TT := fun σ H Q => t σ H fun c H1 => if c = true then u σ H1 Q else Q false H1
noncomputable def tOr (t u : TT) : TT := fun σ H Q => t σ H fun c H1 => if c = true then Q true H1 else u σ H1 Q
noncomputable def tNot (t : TT) : TT := fun σ H Q => t σ H fun c H1 => Q (!c) H1
theorem pw_and1 (ha : PT X a tA) : PW X (.BoolOp .And [a] pos) tA := by
  intro wh pins s σ H Q I h
  refine isTrue_and (thn (ha pins s σ H Q I h) fun c s1 e => ?_)
  cases c with
  | true => exact isTrue_and_nil e
  | false => exact e
theorem pw_or1 (ha : PT X a tA) : PW X (.BoolOp .Or [a] pos) tA := by
  intro wh pins s σ H Q I h
  refine isTrue_or (thn (ha pins s σ H Q I h) fun c s1 e => ?_)
  cases c with
  | false => exact isTrue_or_nil e
  | true => exact e
theorem pw_and (ha : PT X a tA) (hb : PW X (.BoolOp .And (b :: rest) pos) tB') : PW X (.BoolOp .And (a :: b :: rest) pos) (tAnd tA tB') := by
  intro wh pins s σ H Q I h
  refine isTrue_and (thn (ha pins s σ H _ I h) fun c s1 ⟨H1, I1, q1⟩ => ?_)
  cases c with
  | true => exact hb wh pins s1 σ H1 Q I1 q1
  | false => exact ⟨H1, I1, q1⟩
theorem pw_or (ha : PT X a tA) (hb : PW X (.BoolOp .Or (b :: rest) pos) tB') : PW X (.BoolOp .Or (a :: b :: rest) pos) (tOr tA tB') := by
  intro wh pins s σ H Q I h
  refine isTrue_or (thn (ha pins s σ H _ I h) fun c s1 ⟨H1, I1, q1⟩ => ?_)
  cases c with
  | true => exact ⟨H1, I1, q1⟩
  | false => exact hb wh pins s1 σ H1 Q I1 q1
theorem pt_not (ha : PT X a tA) : PT X (.UnaryOp .Not a pos) (tNot tA) := by
  intro pins s σ H Q I h
  exact isTrue_not (ha pins s σ H (fun c H1 => Q (!c) H1) I h)
noncomputable def tAndV (ta tb : TE) : TE := fun σ H Q => ta σ H fun x H1 => ∃ c, x = .bl c ∧ if c = true then tb σ H1 Q else Q (.bl false) H1
theorem pe_one {op} {t : TE} (h : PE X a t) : PE X (.BoolOp op [a] pos) t := fun pins s σ H Q I hw => BoolOp_one (h pins s σ H Q I hw)
theorem pe_and (ha : PE X a ta) (hb : PE X (.BoolOp .And (b :: rest) pos) tb) : PE X (.BoolOp .And (a :: b :: rest) pos) (tAndV ta tb) := by
  intro pins s σ H Q I h
  refine BoolOp_and (thn (ha pins s σ H _ I h) fun v s1 ⟨x, H1, I1, r1, q1⟩ => ?_)
  obtain ⟨c, rfl, q1⟩ := q1
  cases r1
  refine wpAny_truthy_bool ?_
  cases c with
  | true => exact hb pins s1 σ H1 Q I1 q1
  | false => exact ⟨.bl false, H1, I1, rfl, q1⟩
noncomputable def tIf (t : TT) (ta tb : TE) : TE := fun σ H Q => t σ H fun c H1 => if c = true then ta σ H1 Q else tb σ H1 Q
theorem pe_ifExp {c : Expr} (hc : PT X c tA) (ha : PE X a ta) (hb : PE X b tb) : PE X (.IfExp c a b pos) (tIf tA ta tb) := by
  intro pins s σ H Q I h
  refine wpAny_IfExp (thn (hc pins s σ H _ I h) fun d s1 ⟨H1, I1, q1⟩ => ?_)
  cases d with
  | true => exact ha pins s1 σ H1 Q I1 q1
  | false => exact hb pins s1 σ H1 Q I1 q1
end
end L2
namespace L2
open PySem PySem.Spec PyProof.Rows
noncomputable def SqL (K : PySem.W.Frag) (H : Hp) (a : Addr) (xs : List V) : Prop :=
  Rd H a (.lst xs) ∨
    ∃ (o : Obj) (its : Array Value) (n : Nat), K.lookup a = some o ∧ o.cls = .type "list" ∧ o.dict = none ∧ o.data = .seq its n ∧ its.size ≤ sizeLine ∧ Vals xs its.toList
noncomputable def SqT (K : PySem.W.Frag) (H : Hp) (a : Addr) (xs : List V) : Prop :=
  Rd H a (.tup xs) ∨
    ∃ (o : Obj) (its : Array Value) (n : Nat), K.lookup a = some o ∧ o.cls = .type "tuple" ∧ o.data = .seq its n ∧ its.size ≤ sizeLine ∧ Vals xs its.toList
noncomputable def absV : Value → Option V
  | .none => some .non
  | .bool b => some (.bl b)
  | .int i _ => some (.int i)
  | .str x _ => some (.str x)
  | .bytes b _ => some (.byt b)
  | .float b _ => some (.flt b)
  | .ref a => some (.ref a)
  | .type n => some (.ty n)
  | _ => none
theorem RelV.abs {x : V} {u : Value} (r : RelV x u) : absV u = some x := by
  cases x with
  | non => cases r; rfl
  | bl _ => cases r; rfl
  | int _ => obtain ⟨t, rfl⟩ := r; rfl
  | str _ => obtain ⟨t, rfl⟩ := r; rfl
  | byt _ => obtain ⟨t, rfl⟩ := r; rfl
  | flt _ => obtain ⟨t, rfl⟩ := r; rfl
  | ref _ => cases r; rfl
  | ty _ => cases r; rfl
theorem RelV.inj {x y : V} {u : Value} (r : RelV x u) (q : RelV y u) : x = y := Option.some.inj (r.abs.symm.trans q.abs)
theorem Vals.inj : ∀ {xs ys : List V} {us : List Value}, Vals xs us → Vals ys us → xs = ys
  | _, _, _, .nil, .nil => rfl
  | _, _, _, .cons r t, .cons r' t' => by rw [r.inj r', Vals.inj t t']
section
variable {X : Cx} {pins : List (Addr × Obj)} {σ : St} {H : Hp} {s : Shared} {a : Addr} {xs ys : List V}
theorem SqL.of {K : PySem.W.Frag} (h : H a = some (.lst xs)) : SqL K H a xs := .inl (.inl h)
theorem SqT.of {K : PySem.W.Frag} (h : H a = some (.tup xs)) : SqT K H a xs := .inl (.inl h)
theorem Inv.list (I : Inv X pins σ H s) (h : SqL X.K H a xs) : ∃ its : List Value, Vals xs its ∧ PlainL s.heap a its.toArray ∧ xs.length ≤ sizeLine := by
  rcases h with h | ⟨o, its, n, hk, hc, hd, hs, hz, r⟩
  · obtain ⟨z, its, n, r, e⟩ := h.ok I.hok
    exact ⟨its, r, ⟨_, n, e, rfl, rfl, rfl⟩, z⟩
  · refine ⟨its.toList, r, ⟨o, n, I.kIn a o hk, hc, hd, by simpa using hs⟩, ?_⟩
    have e := r.length
    simp only [Array.length_toList] at e
    omega
theorem Inv.tuple (I : Inv X pins σ H s) (h : SqT X.K H a xs) : ∃ its : List Value, Vals xs its ∧ IsTup s.heap a its.toArray ∧ xs.length ≤ sizeLine := by
  rcases h with h | ⟨o, its, n, hk, hc, hs, hz, r⟩
  · obtain ⟨z, its, r, p⟩ := h.ok I.hok
    exact ⟨its, r, p, z⟩
  · refine ⟨its.toList, r, ⟨o, I.kIn a o hk, hc, n, by simpa using hs⟩, ?_⟩
    have e := r.length
    simp only [Array.length_toList] at e
    omega
theorem Inv.list_inj (I : Inv X pins σ H s) (h : SqL X.K H a xs) (h' : SqL X.K H a ys) : xs = ys := by
  obtain ⟨its, r, ⟨o, n, e, _, _, d⟩, _⟩ := I.list h
  obtain ⟨its', r', ⟨o', n', e', _, _, d'⟩, _⟩ := I.list h'
  rw [e] at e'; cases e'
  rw [d] at d'
  injection d' with d1 _
  have : its = its' := by simpa using congrArg Array.toList d1
  subst this
  exact r.inj r'
end
abbrev Cx.wish (X : Cx) (E : Value → Shared → Prop) : Cx := { X with xe := E }
abbrev Cx.nox (X : Cx) : Cx := X.wish fun _ _ => False
theorem Cx.Ok.wish {X : Cx} (ok : X.Ok) (E : Value → Shared → Prop) : (X.wish E).Ok :=
  ⟨ok.mod, ok.kind, ok.glob, ok.blt, ok.above, ok.inj, ok.has, ok.cab, ok.hd, ok.frames, ok.stk, ok.exf, ok.bs, ok.bsz, ok.noex, ok.exfs, ok.funs, ok.frf⟩
theorem Cx.Ok.unwish {X : Cx} {E : Value → Shared → Prop} (ok : (X.wish E).Ok) : X.Ok :=
  ⟨ok.mod, ok.kind, ok.glob, ok.blt, ok.above, ok.inj, ok.has, ok.cab, ok.hd, ok.frames, ok.stk, ok.exf, ok.bs, ok.bsz, ok.noex, ok.exfs, ok.funs, ok.frf⟩
section
variable {X : Cx} {pins : List (Addr × Obj)} {σ : St} {H : Hp} {s : Shared} {E : Value → Shared → Prop}
theorem Inv.wish (I : Inv X pins σ H s) (E : Value → Shared → Prop) : Inv (X.wish E) pins σ H s := ⟨I.ok.wish E, I.os, I.bare, I.base, I.loc, I.cell, I.free, I.freeC, I.pin, I.hok, I.len⟩
theorem Inv.unwish (I : Inv (X.wish E) pins σ H s) : Inv X pins σ H s := ⟨I.ok.unwish, I.os, I.bare, I.base, I.loc, I.cell, I.free, I.freeC, I.pin, I.hok, I.len⟩
theorem SP.unwish {D : Ends} {f : Flow} {s' : Shared} (h : SP (X.wish E) pins D f s') : SP X pins D f s' := by
  cases f with
  | next => obtain ⟨σ', H', I, q⟩ := h; exact ⟨σ', H', I.unwish, q⟩
  | brk => obtain ⟨σ', H', I, q⟩ := h; exact ⟨σ', H', I.unwish, q⟩
  | cont => obtain ⟨σ', H', I, q⟩ := h; exact ⟨σ', H', I.unwish, q⟩
  | ret u => obtain ⟨v, σ', H', I, r, q⟩ := h; exact ⟨v, σ', H', I.unwish, r, q⟩
theorem PE.nox {e : Expr} {t : TE} (h : PE X.nox e t) : PE X e t := fun pins s σ H Q I hw =>
  wpAny_mono (h pins s σ H Q (I.wish _) hw) (fun _ _ ⟨v, H', I', r, q⟩ => ⟨v, H', I'.unwish, r, q⟩) fun _ _ z => False.elim z
theorem PT.nox {e : Expr} {t : TT} (h : PT X.nox e t) : PT X e t := fun pins s σ H Q I hw =>
  wpAny_mono (h pins s σ H Q (I.wish _) hw) (fun _ _ ⟨H', I', q⟩ => ⟨H', I'.unwish, q⟩) fun _ _ z => False.elim z
theorem PSs.nox {st : List Stmt} {t : TS} (h : PSs X.nox st t) : PSs X st t := fun pins s σ H D I hw =>
  wpAny_mono (h pins s σ H D (I.wish _) hw) (fun _ _ q => q.unwish) fun _ _ z => False.elim z
end
section
variable {X : Cx} {st : Stmt} {rest : List Stmt} {t u : TS} {e : Expr} {te : TE} {pos : Pos}
noncomputable def tNext : TS := fun D σ H => D.nx σ H
noncomputable def tSeq (t u : TS) : TS := fun D σ H => t { D with nx := u D } σ H
theorem pss_nil : PSs X [] tNext := fun _ _ σ H _ I h => wpAny_execs_nil ⟨σ, H, I, h⟩
theorem pss_cons (h1 : PS X st t) (h2 : PSs X rest u) : PSs X (st :: rest) (tSeq t u) := by
  intro pins s σ H D I h
  refine wpAny_execs_cons (thn (h1 pins s σ H { D with nx := u D } I h) fun f s1 q => ?_)
  cases f with
  | next =>
    obtain ⟨σ', H', I', q⟩ := q
    exact h2 pins s1 σ' H' D I' q
  | ret v => exact q
  | brk => exact q
  | cont => exact q
theorem pss_one (h1 : PS X st t) : PSs X [st] t := by
  intro pins s σ H D I h
  refine wpAny_execs_cons (thn (h1 pins s σ H D I h) fun f s1 q => ?_)
  cases f with
  | next => exact wpAny_execs_nil q
  | ret v => exact q
  | brk => exact q
  | cont => exact q
theorem Inv.quiet {pins : List (Addr × Obj)} {σ : St} {H : Hp} {s : Shared} (I : Inv X pins σ H s) : interactive X.env = false := by simp [interactive, I.ok.kind]
noncomputable def tDrop (te : TE) : TS := fun D σ H => te σ H fun _ H1 => D.nx σ H1
theorem ps_expr (he : PE X e te) (hs : swapsWith e none pos.line X.env = pure false := by rfl) : PS X (.Expr e pos) (tDrop te) := by
  intro pins s σ H D I h
  exact wpAny_Expr_any (thn (he pins s σ H _ I h) fun v s1 ⟨x, H1, I1, r1, q1⟩ => ⟨σ, H1, I1, q1⟩) I.quiet hs
noncomputable def tRet (te : TE) : TS := fun D σ H => te σ H D.rt
theorem ps_ret (he : PE X e te) : PS X (.Return (some e) pos) (tRet te) := by
  intro pins s σ H D I h
  exact wpAny_Return_some (thn (he pins s σ H _ I h) fun v s1 ⟨x, H1, I1, r1, q1⟩ => ⟨x, σ, H1, I1, r1, q1⟩)
noncomputable def tIfS (c : TT) (t u : TS) : TS := fun D σ H => c σ H fun b H1 => if b = true then t D σ H1 else u D σ H1
theorem ps_if {c : Expr} {a b : List Stmt} {tc : TT} (hc : PT X c tc) (ha : PSs X a t) (hb : PSs X b u) : PS X (.If c a b pos) (tIfS tc t u) := by
  intro pins s σ H D I h
  refine wpAny_If (thn (hc pins s σ H _ I h) fun d s1 ⟨H1, I1, q1⟩ => ?_)
  cases d with
  | true => exact ha pins s1 σ H1 D I1 q1
  | false => exact hb pins s1 σ H1 D I1 q1
end
abbrev TG := V → St → Hp → (St → Hp → Prop) → Prop
noncomputable def PG (X : Cx) (target : Expr) (t : TG) : Prop :=
  ∀ (pins : List (Addr × Obj)) (s : Shared) (σ : St) (H : Hp) (v : V) (u : Value) (Q : St → Hp → Prop), Inv X pins σ H s → RelV v u → t v σ H Q →
    wpAny (model X.prog X.w) X.A (assign target X.env u) (fun _ s' => ∃ σ' H', Inv X pins σ' H' s' ∧ Q σ' H') X.xe s
section
variable {X : Cx} {pos : Pos}
noncomputable def gName (i : Nat) : TG := fun v σ H Q => Q (σ.set i (some v)) H
theorem pg_name {i : Nat} {x : Str} (hN : X.N.Nodup) (hi : X.N[i]? = some x) (hx : Loc X.env.scope x) (hf : X.fn x = true ∨ X.env.scope.names.lookup x = some .local := by first | exact .inl rfl | exact .inr rfl | assumption) : PG X (.Name x pos) (gName i) := by
  intro pins s σ H v u Q I r h
  exact wpAny_assign_Name (store_ok I hN hi hx r (fun s' I' => ⟨_, H, I', h⟩) hf)
noncomputable def tAsg (te : TE) (g : TG) : TS := fun D σ H => te σ H fun x H1 => g x σ H1 D.nx
theorem ps_set {i : Nat} {x : Str} {e : Expr} {te : TE} {pos' : Pos} (hN : X.N.Nodup) (hi : X.N[i]? = some x) (hx : Loc X.env.scope x) (he : PE X e te) (hs : swapsWith e (some (.Name x pos')) pos.line X.env = pure false := by rfl) (hf : X.fn x = true ∨ X.env.scope.names.lookup x = some .local := by first | exact .inl rfl | exact .inr rfl | assumption) :
    PS X (.Assign [.Name x pos'] e pos) (tAsg te (gName i)) := by
  intro pins s σ H D I h
  refine wpAny_Assign_Name (thn (he pins s σ H _ I h) fun v s1 ⟨y, H1, I1, r1, q1⟩ => ?_) hs
  exact store_ok I1 hN hi hx r1 (fun s2 I2 => ⟨_, H1, I2, q1⟩) hf
end
section
variable {X : Cx} {pos : Pos}
noncomputable def tWhile (c : TT) (tb : TS) : TS := fun D σ H => ∃ W : Nat → St → Hp → Prop, (∃ m, W m σ H) ∧ ∀ m σ H, W m σ H →
  c σ H fun b H1 => if b = true then ∃ N : St → Hp → Prop, (∀ σ' H', N σ' H' → ∃ m', m' < m ∧ W m' σ' H') ∧ tb { D with nx := N, ct := N, bk := D.nx } σ H1 else D.nx σ H1
theorem ps_while {c : Expr} {body : List Stmt} {tc : TT} {tb : TS} (hp : PassesOwn (model X.prog X.w) X.A X.env X.xe) (hc : PT X c tc) (hb : PSs X body tb) : PS X (.While c body [] pos) (tWhile tc tb) := by
  intro pins s σ H D I h
  obtain ⟨W, ⟨m0, w0⟩, turn⟩ := h
  refine wpAny_While (codeAny_whileLoop (fun n s' => ∃ σ' H', Inv X pins σ' H' s' ∧ W n σ' H') ?_ m0 ⟨σ, H, I, w0⟩)
  rintro n s1 ⟨σ1, H1, I1, w1⟩
  refine wpAny_passesOwn hp (thn (hc pins s1 σ1 H1 _ I1 (turn n σ1 H1 w1)) fun b s2 ⟨H2, I2, q2⟩ => ?_)
  cases b with
  | true =>
    obtain ⟨N, hN, q2⟩ := q2
    rw [if_pos rfl]
    refine wpAny_passesOwn hp (thn (hb pins s2 σ1 H2 _ I2 q2) fun f s3 q3 => ?_)
    cases f with
    | next =>
      obtain ⟨σ3, H3, I3, n3⟩ := q3
      obtain ⟨m', hm, w3⟩ := hN σ3 H3 n3
      exact ⟨m', hm, σ3, H3, I3, w3⟩
    | cont =>
      obtain ⟨σ3, H3, I3, n3⟩ := q3
      obtain ⟨m', hm, w3⟩ := hN σ3 H3 n3
      exact ⟨m', hm, σ3, H3, I3, w3⟩
    | brk => exact q3
    | ret v => exact q3
  | false =>
    rw [if_neg Bool.false_ne_true]
    exact wpAny_execs_nil ⟨σ1, H2, I2, q2⟩
end
structure It where
  go : Nat → Hp → Prop
  yld : Nat → Hp → V → Hp → Prop
  stop : Nat → Hp → Prop
noncomputable def FpOk (X : Cx) (pins : List (Addr × Obj)) (H : Hp) (b : Addr) : Prop :=
  H b = none ∧ b ≠ X.env.locals ∧ b ∉ X.fs ∧ (b ∈ X.ex ∨ X.s₀.heap.objs.size ≤ b) ∧ (∀ x c, X.env.cells.lookup x = some c → c ≠ b) ∧ ∀ p ∈ X.pn ++ pins, p.1 ≠ b
theorem Inv.fpOk {X : Cx} {pins : List (Addr × Obj)} {σ : St} {H H' : Hp} {s : Shared} {b : Addr} (I : Inv X pins σ H s) (hb : s.heap.objs.size ≤ b) (hn : H' b = none) : FpOk X pins H' b := by
  refine ⟨hn, Nat.ne_of_gt (Nat.lt_of_lt_of_le I.lt hb), I.nofs hb, .inr (Nat.le_trans I.sz hb), fun x c e z => ?_, fun p hp z => ?_⟩
  · obtain ⟨v, q⟩ := I.cell x c e
    exact absurd (Nat.lt_of_lt_of_le q.lt (by rw [z]; exact hb)) (Nat.lt_irrefl _)
  · exact absurd (Nat.lt_of_lt_of_le (Heap.lt_size (I.pin p hp).1) (by rw [z]; exact hb)) (Nat.lt_irrefl _)
structure Turn (P : Program) (w : World) (K : PySem.W.Frag) (tg : Expr) (J : It) (fp : List Addr) (it : Addr) (tn : Nat → Heap → Prop) : Prop where
  mem : it ∈ fp
  obj : ∀ i h, tn i h → ∀ b ∈ fp, ∃ o, h.get? b = some o ∧ ∀ v, o.data ≠ .cell v
  keep : ∀ i h h', tn i h → (∀ b ∈ fp, ∀ o, h.get? b = some o → h'.get? b = some o) → tn i h'
  item : ∀ (X : Cx), X.prog = P → X.w = w → X.K = K → X.calm = true → ∀ (i : Nat) (pins : List (Addr × Obj)) (s : Shared) (σ : St) (H : Hp) (E : Value → Shared → Prop), Inv X pins σ H s → (∀ b ∈ fp, FpOk X pins H b) → tn i s.heap → J.go i H →
    wpAny (model P w) X.A (pyNext (.ref it)) (fun r s1 => ∃ u, r = some u ∧
      wpAny (model P w) X.A (letOwnedTupleGo tg (.ref it) u) (fun _ s2 => ∃ x H', Inv X pins σ H' s2 ∧ RelV x u ∧ J.yld i H x H' ∧ tn (i + 1) s2.heap ∧ ∀ b ∈ fp, H' b = none) E s1) E s
  done : ∀ (X : Cx), X.prog = P → X.w = w → X.K = K → X.calm = true → ∀ (i : Nat) (pins : List (Addr × Obj)) (s : Shared) (σ : St) (H : Hp) (E : Value → Shared → Prop), Inv X pins σ H s → (∀ b ∈ fp, FpOk X pins H b) → tn i s.heap → J.stop i H →
    wpAny (model P w) X.A (pyNext (.ref it)) (fun r s1 => r = none ∧ Inv X pins σ H s1) E s
  self : ∀ (A : Around) (i : Nat) (s : Shared) (Q : Value → Shared → Prop) (E : Value → Shared → Prop), tn i s.heap → Q (.ref it) s → wpAny (model P w) A (pyIter (.ref it)) Q E s
abbrev TI := St → Hp → (It → Hp → Prop) → Prop
noncomputable def PIE (X : Cx) (pins : List (Addr × Obj)) (σ : St) (tg : Expr) (R : It → Hp → Prop) (itv : Value) (s2 : Shared) : Prop :=
  ∃ (it : Addr) (fp : List Addr) (tn : Nat → Heap → Prop) (J : It) (H' : Hp), itv = .ref it ∧ Inv X pins σ H' s2 ∧ Turn X.prog X.w X.K tg J fp it tn ∧ tn 0 s2.heap ∧ (∀ b ∈ fp, FpOk X pins H' b) ∧ R J H'
noncomputable def PI (X : Cx) (tg iter : Expr) (wi : TI) : Prop :=
  ∀ (pins : List (Addr × Obj)) (s : Shared) (σ : St) (H : Hp) (R : It → Hp → Prop), Inv X pins σ H s → wi σ H R →
    wpAny (model X.prog X.w) X.A (eval iter X.env) (fun v s1 => wpAny (model X.prog X.w) X.A (pyIter v) (PIE X pins σ tg R) X.xe s1) X.xe s
theorem go_of {M : Model} {A : Around} {E : Value → Shared → Prop} {s : Shared} {tg : Expr} {it : Addr} {u : Value} {o : Obj} {n : String} {vs : Array Value} {Q : Unit → Shared → Prop} (ho : s.heap.get? it = some o) (hc : o.cls = .type n) (hd : o.data = .fields vs)
    (hn : ["enumerate", "zip", "dict_itemiterator", "dict_reverseitemiterator", "odict_iterator", "itertools.zip_longest", "itertools.pairwise"].contains n = false) (hQ : Q () s) : wpAny M A (letOwnedTupleGo tg (.ref it) u) Q E s := by
  unfold letOwnedTupleGo
  cases tg <;> first
    | exact wpAny_pure hQ
    | (cases u <;> first
        | exact wpAny_pure hQ
        | (refine wpAny_bind (wpAny_load ho ?_)
           rw [hc, hd]
           show wpAny M A (if (["enumerate", "zip", "dict_itemiterator", "dict_reverseitemiterator", "odict_iterator", "itertools.zip_longest", "itertools.pairwise"].contains n && vs[0]? == some (rawInt _)) = true then _ else _) Q E s
           rw [if_neg (by intro h; rw [hn, Bool.false_and] at h; cases h)]
           exact wpAny_pure hQ))
noncomputable def Itl (K : PySem.W.Frag) (a : Addr) : It :=
  ⟨fun i H => ∃ xs x, SqL K H a xs ∧ xs[i]? = some x, fun i H x H' => H' = H ∧ ∀ xs, SqL K H a xs → xs[i]? = some x, fun i H => ∃ xs, SqL K H a xs ∧ xs.length ≤ i⟩
noncomputable def Itr (lo : Int) (n : Nat) : It := ⟨fun i _ => i < n, fun i H x H' => H' = H ∧ x = .int (lo + i), fun i _ => n ≤ i⟩
theorem turn_list {P : Program} {w : World} {K : PySem.W.Frag} {tg : Expr} (a it : Addr) : Turn P w K tg (Itl K a) [it] it (fun i h => h.IsListIter it a i) where
  mem := by simp
  obj := fun i h st b hb => by
    have e : b = it := by simpa using hb
    subst e
    obtain ⟨o, e, c, d⟩ := st
    exact ⟨o, e, fun v z => by rw [d] at z; cases z⟩
  keep := fun i h h' st k => st.at fun o e => k it (by simp) o e
  item := by
    intro X hP hw hK hc i pins s σ H E I hf st hg
    subst hP hw hK
    obtain ⟨xs, x, hq, hx⟩ := hg
    obtain ⟨its, rv, p, hz⟩ := I.list hq
    obtain ⟨u, hu, ru⟩ := rv.get hx
    obtain ⟨f0, f1, f2, f3, f4, f5⟩ := hf it (by simp)
    refine wpAny_pyNext_list_item st p.isList (x := u) (by simpa using hu) fun h' st' sb => ?_
    have I1 : Inv X pins σ H { s with heap := h' } := I.turned (t' := s.toks) (fun b o hb e => (sb.2 b hb).trans e) f0 f1 f3 f4 f5
    obtain ⟨o, e, c, d⟩ := id st'
    exact ⟨u, rfl, go_of (s := { s with heap := h' }) e c d (by decide) ⟨x, H, I1, ru, ⟨rfl, fun ys hy => by rw [I.list_inj hy hq]; exact hx⟩, st', fun b hb => (hf b hb).1⟩⟩
  done := by
    intro X hP hw hK hc i pins s σ H E I hf st hg
    subst hP hw hK
    obtain ⟨xs, hq, hx⟩ := hg
    obtain ⟨its, rv, p, hz⟩ := I.list hq
    obtain ⟨f0, f1, f2, f3, f4, f5⟩ := hf it (by simp)
    have hl := rv.length
    exact wpAny_pyNext_list_end (I.ok.hd hc) st p.isList (by simp; omega) fun h' eb => ⟨rfl, I.turned (t' := s.toks) (fun b o hb e => eb b o hb e) f0 f1 f3 f4 f5⟩
  self := fun _ _ _ _ _ st h => wpAny_pyIter_listiter st h
theorem turn_range {P : Program} {w : World} {K : PySem.W.Frag} {tg : Expr} (it : Addr) (lo : Int) (n : Nat) : Turn P w K tg (Itr lo n) [it] it (fun i h => IsRangeIter h it (lo + (i : Nat) * 1) ((n : Int) - (i : Nat)) 1) where
  mem := by simp
  obj := fun i h st b hb => by
    have e : b = it := by simpa using hb
    subst e
    exact ⟨_, st, fun v z => by
      have z' : Data.fields _ = Data.cell v := z
      cases z'⟩
  keep := fun i h h' st k => k it (by simp) _ st
  item := by
    intro X hP hw hK hc i pins s σ H E I hf st hg
    subst hP hw hK
    obtain ⟨f0, f1, f2, f3, f4, f5⟩ := hf it (by simp)
    have W := Walks.range (prog := X.prog) (w := X.w) (I.ok.hd hc) it lo 1 n
    refine W.item i s _ _ hg st fun v h' tk hv st' kk => ?_
    obtain ⟨t, rfl⟩ := hv
    have I1 : Inv X pins σ H { s with heap := h', toks := tk } := I.turned (fun b o hb e => kk b o (by simpa using hb) e) f0 f1 f3 f4 f5
    refine ⟨_, rfl, go_of (s := { s with heap := h', toks := tk }) (n := "range_iterator") st' rfl rfl (by decide) ⟨.int (lo + i), H, I1, ⟨t, ?_⟩, ⟨rfl, rfl⟩, st', fun b hb => (hf b hb).1⟩⟩
    rw [Int.mul_one]
  done := by
    intro X hP hw hK hc i pins s σ H E I hf st hg
    subst hP hw hK
    obtain ⟨f0, f1, f2, f3, f4, f5⟩ := hf it (by simp)
    exact wpAny_pyNext_range_end (I.ok.hd hc) st (by have : n ≤ i := hg; omega) fun h' eb => ⟨rfl, I.turned (t' := s.toks) (fun b o hb e => eb b o hb e) f0 f1 f3 f4 f5⟩
  self := fun _ _ _ _ _ st h => wpAny_pyIter_rangeiter st h
end L2
namespace L2
open PySem PySem.Spec PyProof.Rows
section
variable {X : Cx} {tg : Expr}
noncomputable def iList (K : PySem.W.Frag) (tl : TE) : TI := fun σ H R => tl σ H fun x H1 => ∃ a, x = .ref a ∧ (∃ xs, SqL K H1 a xs) ∧ R (Itl K a) H1
theorem pi_list {l : Expr} {tl : TE} (hl : PE X l tl) : PI X tg l (iList X.K tl) := by
  intro pins s σ H R I h
  refine thn (hl pins s σ H _ I h) fun v s1 ⟨x, H1, I1, r1, q1⟩ => ?_
  obtain ⟨a, e, ⟨xs, hq⟩, q⟩ := q1
  subst e
  cases r1
  obtain ⟨its, rv, p, hz⟩ := I1.list hq
  refine wpAny_pyIter_list p.isList ?_
  refine ⟨s1.heap.objs.size, [s1.heap.objs.size], _, _, H1, rfl, I1.kept (t' := s1.toks) fun b o e => Heap.get?_push_of_some _ e, turn_list a _, ⟨_, Heap.get?_push_size _ rfl, rfl, rfl⟩, fun b hb => ?_, q⟩
  have e : b = s1.heap.objs.size := by simpa using hb
  subst e
  exact I1.fpOk (Nat.le_refl _) (I1.hok.fresh (Nat.le_refl _))
theorem range_it {pins : List (Addr × Obj)} {σ : St} {H : Hp} {s : Shared} {R : It → Hp → Prop} {E : Value → Shared → Prop} {lo hi : Int} {t u v : Tok} {tk : Nat} (I : Inv X pins σ H s) (h1 : -(2 ^ 62) ≤ lo) (h2 : lo < 2 ^ 62) (h3 : -(2 ^ 62) ≤ hi) (h4 : hi < 2 ^ 62)
    (q : R (Itr lo (hi - lo).toNat) H) : wpAny (model X.prog X.w) X.A (pyIter (.ref s.heap.objs.size)) (PIE X pins σ tg R) E { s with heap := s.heap.push { cls := .type "range", data := .fields #[.int lo t, .int hi u, .int 1 v] }, toks := tk } := by
  refine wpAny_pyIter_range (IsRange.new ..) (small_one h1 h2 h3 h4) ?_
  have I1 : Inv X pins σ H { s with heap := s.heap.push { cls := .type "range", data := .fields #[.int lo t, .int hi u, .int 1 v] }, toks := tk } := I.kept fun b o e => Heap.get?_push_of_some _ e
  refine ⟨(s.heap.push { cls := .type "range", data := .fields #[.int lo t, .int hi u, .int 1 v] }).objs.size, [(s.heap.push { cls := .type "range", data := .fields #[.int lo t, .int hi u, .int 1 v] }).objs.size], _, _, H, rfl,
    I1.kept (t' := tk) fun b o e => Heap.get?_push_of_some _ e, turn_range _ lo (hi - lo).toNat, ?_, fun b hb => ?_, q⟩
  · have e1 : lo + ((0 : Nat) : Int) * 1 = lo := by simp
    have e2 : (((hi - lo).toNat : Nat) : Int) - ((0 : Nat) : Int) = Builtin.Range.rangeSize lo hi 1 := by rw [rangeSize_one]; split <;> omega
    show IsRangeIter _ _ (lo + ((0 : Nat) : Int) * 1) ((((hi - lo).toNat : Nat) : Int) - ((0 : Nat) : Int)) 1
    rw [e1, e2]
    exact Heap.get?_push_size _ rfl
  · have e : b = (s.heap.push { cls := .type "range", data := .fields #[.int lo t, .int hi u, .int 1 v] }).objs.size := by simpa using hb
    subst e
    exact I1.fpOk (Nat.le_refl _) (I1.hok.fresh (Nat.le_refl _))
noncomputable def iRng1 (ta : TA) : TI := fun σ H R => ta σ H fun vs H1 => ∃ j : Int, vs = [.int j] ∧ -(2 ^ 62) ≤ j ∧ j < 2 ^ 62 ∧ R (Itr 0 j.toNat) H1
noncomputable def iRng2 (ta : TA) : TI := fun σ H R => ta σ H fun vs H1 => ∃ i j : Int, vs = [.int i, .int j] ∧ (-(2 ^ 62) ≤ i ∧ i < 2 ^ 62 ∧ -(2 ^ 62) ≤ j ∧ j < 2 ^ 62) ∧ R (Itr i (j - i).toNat) H1
theorem pi_range1 {a : Expr} {ta : TA} {p pos : Pos} (hg : Gl X "range") (hm : X.mg "range" = none) (ha : PA X [a] ta) (hs : starEach [a] X.env = [(false, eval a X.env)] := by rfl) : PI X tg (.Call (.Name "range" p) [a] [] pos) (iRng1 ta) := by
  intro pins s σ H R I h
  refine Call_ (ld_blt I hg hm boot_range (PyProof.Rows.callWith_type1 (thn (ha pos pins s σ H _ I h) fun us s1 ⟨vs, H1, I1, r1, q1⟩ => ?_) hs rfl))
  obtain ⟨j, e, q1, q2, q⟩ := q1
  subst e
  cases r1 with
  | cons r rr =>
    cases rr
    obtain ⟨t, rfl⟩ := r
    exact call_range_1 (range_it I1 (by omega) (by omega) q1 q2 (by simpa using q))
theorem pi_range2 {a b : Expr} {ta : TA} {p pos : Pos} (hg : Gl X "range") (hm : X.mg "range" = none) (ha : PA X [a, b] ta) (hs : starEach [a, b] X.env = [(false, eval a X.env), (false, eval b X.env)] := by rfl) (hs2 : starEach [b] X.env = [(false, eval b X.env)] := by rfl) :
    PI X tg (.Call (.Name "range" p) [a, b] [] pos) (iRng2 ta) := by
  intro pins s σ H R I h
  refine Call_ (ld_blt I hg hm boot_range (PyProof.Rows.callWith_type1 (thn (ha pos pins s σ H _ I h) fun us s1 ⟨vs, H1, I1, r1, q1⟩ => ?_) (by rw [hs, hs2]) (by rw [hs2]; rfl)))
  obtain ⟨i, j, e, ⟨q1, q2, q3, q4⟩, q⟩ := q1
  subst e
  cases r1 with
  | cons r rr =>
    cases rr with
    | cons r' rr =>
      cases rr
      obtain ⟨t, rfl⟩ := r
      obtain ⟨t', rfl⟩ := r'
      exact call_range_2 (range_it I1 q1 q2 q3 q4 q)
noncomputable def tFor (wi : TI) (g : TG) (tb : TS) : TS := fun D σ H => wi σ H fun J H1 => ∃ W : Nat → Nat → St → Hp → Prop, (∃ m, W 0 m σ H1) ∧ ∀ i m σ H, W i m σ H →
  (J.stop i H ∧ D.nx σ H) ∨ (J.go i H ∧ ∃ N : St → Hp → Prop, (∀ σ' H', N σ' H' → ∃ m', m' < m ∧ W (i + 1) m' σ' H') ∧ ∀ x H', J.yld i H x H' → g x σ H' fun σ2 H2 => tb { D with nx := N, ct := N, bk := D.nx } σ2 H2)
noncomputable def pinsAt (fp : List Addr) (h : Heap) : List (Addr × Obj) := fp.filterMap fun b => (h.get? b).map fun o => (b, o)
theorem mem_pinsAt {fp : List Addr} {h : Heap} {b : Addr} {o : Obj} (hb : b ∈ fp) (e : h.get? b = some o) : (b, o) ∈ pinsAt fp h := List.mem_filterMap.mpr ⟨b, hb, by rw [e]; rfl⟩
theorem of_pinsAt {fp : List Addr} {h : Heap} {p : Addr × Obj} (hp : p ∈ pinsAt fp h) : p.1 ∈ fp ∧ h.get? p.1 = some p.2 := by
  obtain ⟨b, hb, e⟩ := List.mem_filterMap.mp hp
  cases q : h.get? b with
  | none => rw [q] at e; cases e
  | some o =>
    rw [q] at e
    have e' : (b, o) = p := Option.some.inj e
    subst e'
    exact ⟨hb, q⟩
theorem Inv.pinned {pins : List (Addr × Obj)} {σ : St} {H : Hp} {s : Shared} {fp : List Addr} (I : Inv X pins σ H s) (hf : ∀ b ∈ fp, FpOk X pins H b) (ho : ∀ b ∈ fp, ∃ o, s.heap.get? b = some o ∧ ∀ v, o.data ≠ .cell v) : Inv X (pins ++ pinsAt fp s.heap) σ H s :=
  I.pins_of fun p hp => (List.mem_append.mp hp).elim (fun z => I.pin p (List.mem_append_right _ z)) fun z => by
    obtain ⟨hb, e⟩ := of_pinsAt z
    obtain ⟨f0, f1, f2, _⟩ := hf p.1 hb
    obtain ⟨o, e', d⟩ := ho p.1 hb
    rw [e] at e'; cases e'
    exact ⟨e, f0, f1, f2, d⟩
theorem Inv.unpinned {pins pl : List (Addr × Obj)} {σ : St} {H : Hp} {s : Shared} (I : Inv X (pins ++ pl) σ H s) : Inv X pins σ H s := I.pins_of fun p hp => I.pin p (List.mem_append_right _ (List.mem_append_left _ hp))
theorem ps_for {iter : Expr} {body : List Stmt} {wi : TI} {g : TG} {tb : TS} {pos : Pos} (hp : PassesOwn (model X.prog X.w) X.A X.env X.xe) (hc : X.calm = true) (hi : PI X tg iter wi) (hg : PG X tg g) (hb : PSs X body tb)
    (hs : ∀ x, foldedSetIterable iter X.env x = pure x := by intro _; rfl) : PS X (.For tg iter body [] pos) (tFor wi g tb) := by
  intro pins s σ H D I h
  refine wpAny_For (thn (hi pins s σ H _ I h) fun v s1 h1 => thn h1 fun itv s2 h2 => ?_) hs
  obtain ⟨it, fp, tn, J, H2, e, I2, T, st2, f2, W, ⟨m0, w0⟩, turn⟩ := h2
  subst e
  have stat : ∀ {H' : Hp}, (∀ b ∈ fp, H' b = none) → ∀ b ∈ fp, FpOk X pins H' b := fun hn b hb => ⟨hn b hb, (f2 b hb).2⟩
  refine codeAny_forLoop_any (fun n s' => ∃ i σ' H', Inv X pins σ' H' s' ∧ tn i s'.heap ∧ (∀ b ∈ fp, H' b = none) ∧ W i n σ' H') ?_ m0 ⟨0, σ, H2, I2, st2, fun b hb => (f2 b hb).1, w0⟩
  rintro n s3 ⟨i, σ3, H3, I3, st3, fr3, w3⟩
  rcases turn i n σ3 H3 w3 with ⟨stop, qn⟩ | ⟨go, N, hN, step⟩
  · refine wpAny_passesOwn hp (thn (T.done X rfl rfl rfl hc i pins s3 σ3 H3 X.xe I3 (stat fr3) st3 stop) fun r s4 ⟨hr, I4⟩ => ?_)
    subst hr
    exact wpAny_execs_nil ⟨σ3, H3, I4, qn⟩
  · refine wpAny_passesOwn hp (thn (T.item X rfl rfl rfl hc i pins s3 σ3 H3 X.xe I3 (stat fr3) st3 go) fun r s4 ⟨u, hr, h4⟩ => ?_)
    subst hr
    refine wpAny_passesOwn hp (thn h4 fun _ s5 ⟨x, H5, I5, r5, y5, st5, fr5⟩ => ?_)
    have I5' := I5.pinned (stat fr5) (T.obj _ _ st5)
    refine wpAny_passesOwn hp (thn (hg _ s5 σ3 H5 x u _ I5' r5 (step x H5 y5)) fun _ s6 ⟨σ6, H6, I6, q6⟩ => ?_)
    refine wpAny_passesOwn hp (thn (hb _ s6 σ6 H6 _ I6 q6) fun f s7 q7 => ?_)
    have again : ∀ {σ7 : St} {H7 : Hp}, Inv X (pins ++ pinsAt fp s5.heap) σ7 H7 s7 → N σ7 H7 → ∃ m, m < n ∧ ∃ i σ' H', Inv X pins σ' H' s7 ∧ tn i s7.heap ∧ (∀ b ∈ fp, H' b = none) ∧ W i m σ' H' := fun {σ7 H7} I7 n7 => by
      obtain ⟨m', hm, w7⟩ := hN σ7 H7 n7
      refine ⟨m', hm, i + 1, σ7, H7, I7.unpinned, T.keep _ _ _ st5 fun b hb o e => (I7.pin (b, o) (List.mem_append_right _ (List.mem_append_right _ (mem_pinsAt hb e)))).1, fun b hb => ?_, w7⟩
      obtain ⟨o, e, d⟩ := T.obj _ _ st5 b hb
      exact (I7.pin (b, o) (List.mem_append_right _ (List.mem_append_right _ (mem_pinsAt hb e)))).2.1
    cases f with
    | next => obtain ⟨σ7, H7, I7, n7⟩ := q7; exact again I7 n7
    | cont => obtain ⟨σ7, H7, I7, n7⟩ := q7; exact again I7 n7
    | brk => obtain ⟨σ7, H7, I7, q7⟩ := q7; exact ⟨σ7, H7, I7.unpinned, q7⟩
    | ret v => obtain ⟨x7, σ7, H7, I7, r7, q7⟩ := q7; exact ⟨x7, σ7, H7, I7.unpinned, r7, q7⟩
end
theorem for_list {K : PySem.W.Frag} {a : Addr} {xs : List V} {g : TG} {tb : TS} {D : Ends} {σ : St} {H : Hp} (Pv : Nat → St → Hp → Prop) (h0 : Pv 0 σ H) (hl : ∀ i σ H, i ≤ xs.length → Pv i σ H → SqL K H a xs)
    (hs : ∀ i x σ H, xs[i]? = some x → Pv i σ H → g x σ H fun σ2 H2 => tb { D with nx := Pv (i + 1), ct := Pv (i + 1), bk := D.nx } σ2 H2) (hd : ∀ σ H, Pv xs.length σ H → D.nx σ H) :
    ∃ W : Nat → Nat → St → Hp → Prop, (∃ m, W 0 m σ H) ∧ ∀ i m σ H, W i m σ H →
      ((Itl K a).stop i H ∧ D.nx σ H) ∨ ((Itl K a).go i H ∧ ∃ N : St → Hp → Prop, (∀ σ' H', N σ' H' → ∃ m', m' < m ∧ W (i + 1) m' σ' H') ∧ ∀ x H', (Itl K a).yld i H x H' → g x σ H' fun σ2 H2 => tb { D with nx := N, ct := N, bk := D.nx } σ2 H2) := by
  refine ⟨fun i m σ H => m = xs.length - i ∧ i ≤ xs.length ∧ Pv i σ H, ⟨xs.length, by simp, Nat.zero_le _, h0⟩, ?_⟩
  rintro i m σ H ⟨rfl, hi, p⟩
  have q := hl i σ H hi p
  by_cases hlt : i < xs.length
  · refine .inr ⟨⟨xs, xs[i], q, by simp [hlt]⟩, Pv (i + 1), fun σ' H' p' => ⟨xs.length - (i + 1), by omega, rfl, hlt, p'⟩, fun x H' y => ?_⟩
    obtain ⟨e, y⟩ := y
    subst e
    exact hs i x σ _ (y xs q) p
  · have e : i = xs.length := by omega
    subst e
    exact .inl ⟨⟨xs, q, Nat.le_refl _⟩, hd σ H p⟩
theorem for_range {lo : Int} {n : Nat} {g : TG} {tb : TS} {D : Ends} {σ : St} {H : Hp} (Pv : Nat → St → Hp → Prop) (h0 : Pv 0 σ H)
    (hs : ∀ i σ H, i < n → Pv i σ H → g (.int (lo + i)) σ H fun σ2 H2 => tb { D with nx := Pv (i + 1), ct := Pv (i + 1), bk := D.nx } σ2 H2) (hd : ∀ σ H, Pv n σ H → D.nx σ H) :
    ∃ W : Nat → Nat → St → Hp → Prop, (∃ m, W 0 m σ H) ∧ ∀ i m σ H, W i m σ H →
      ((Itr lo n).stop i H ∧ D.nx σ H) ∨ ((Itr lo n).go i H ∧ ∃ N : St → Hp → Prop, (∀ σ' H', N σ' H' → ∃ m', m' < m ∧ W (i + 1) m' σ' H') ∧ ∀ x H', (Itr lo n).yld i H x H' → g x σ H' fun σ2 H2 => tb { D with nx := N, ct := N, bk := D.nx } σ2 H2) := by
  refine ⟨fun i m σ H => m = n - i ∧ i ≤ n ∧ Pv i σ H, ⟨n, by simp, Nat.zero_le _, h0⟩, ?_⟩
  rintro i m σ H ⟨rfl, hi, p⟩
  by_cases hlt : i < n
  · refine .inr ⟨hlt, Pv (i + 1), fun σ' H' p' => ⟨n - (i + 1), by omega, rfl, hlt, p'⟩, fun x H' y => ?_⟩
    obtain ⟨e, y⟩ := y
    subst e y
    exact hs i σ _ hlt p
  · have e : i = n := by omega
    subst e
    exact .inl ⟨Nat.le_refl _, hd σ H p⟩
theorem while_by {c : TT} {tb : TS} {D : Ends} {σ : St} {H : Hp} (Pv : St → Hp → Prop) (μ : St → Hp → Nat) (h0 : Pv σ H)
    (hs : ∀ σ H, Pv σ H → c σ H fun b H1 => if b = true then tb { D with nx := fun σ' H' => Pv σ' H' ∧ μ σ' H' < μ σ H, ct := fun σ' H' => Pv σ' H' ∧ μ σ' H' < μ σ H, bk := D.nx } σ H1 else D.nx σ H1)
    (mono : ∀ σ H Q Q', (∀ b H1, Q b H1 → Q' b H1) → c σ H Q → c σ H Q') : tWhile c tb D σ H := by
  refine ⟨fun m σ H => m = μ σ H ∧ Pv σ H, ⟨_, rfl, h0⟩, ?_⟩
  rintro m σ H ⟨rfl, p⟩
  refine mono σ H _ _ (fun b H1 q => ?_) (hs σ H p)
  cases b with
  | true => exact ⟨_, fun σ' H' ⟨p', l⟩ => ⟨_, l, rfl, p'⟩, q⟩
  | false => exact q
end L2
namespace L2
open PySem PySem.Spec PyProof.Rows
abbrev R2 := V → V → Hp → VK → Prop
noncomputable def OpR (X : Cx) (f : Value → Value → Sem Value) (r : R2) : Prop :=
  ∀ (pins : List (Addr × Obj)) (s : Shared) (σ : St) (H : Hp) (x y : V) (v u : Value) (Q : VK), Inv X pins σ H s → RelV x v → RelV y u → r x y H Q →
    wpAny (model X.prog X.w) X.A (f v u) (EP X pins σ Q) X.xe s
noncomputable def CallR (X : Cx) (f : Value) (r : List V → Hp → VK → Prop) : Prop :=
  ∀ (pins : List (Addr × Obj)) (s : Shared) (σ : St) (H : Hp) (xs : List V) (us : List Value) (Q : VK), Inv X pins σ H s → Vals xs us → r xs H Q →
    wpAny (model X.prog X.w) X.A (call f us) (EP X pins σ Q) X.xe s
noncomputable def TruR (X : Cx) (r : V → Hp → (Bool → Hp → Prop) → Prop) : Prop :=
  ∀ (pins : List (Addr × Obj)) (s : Shared) (σ : St) (H : Hp) (x : V) (v : Value) (Q : Bool → Hp → Prop), Inv X pins σ H s → RelV x v → r x H Q →
    wpAny (model X.prog X.w) X.A (truthy v) (TP X pins σ Q) X.xe s
noncomputable def tOp (r : R2) (ta tb : TE) : TE := fun σ H Q => ta σ H fun x H1 => tb σ H1 fun y H2 => r x y H2 Q
noncomputable def rI (C : Int → Int → Prop) (g : Int → Int → V) : R2 := fun x y H Q => ∃ i j, x = .int i ∧ y = .int j ∧ C i j ∧ Q (g i j) H
noncomputable def rI0 (g : Int → Int → V) : R2 := fun x y H Q => ∃ i j, x = .int i ∧ y = .int j ∧ Q (g i j) H
section
variable {X : Cx} {a b c : Expr} {ta tb tc : TE} {pos : Pos}
theorem binT (ha : PE X a ta) (hb : PE X b tb) {pins : List (Addr × Obj)} {s : Shared} {σ : St} {H : Hp} {R : V → V → Hp → Prop} (I : Inv X pins σ H s)
    (h : ta σ H fun x H1 => tb σ H1 fun y H2 => R x y H2) {Q : Value → Shared → Prop} {f : Value → Value → Sem Value}
    (hf : ∀ v u s2 x y H2, Inv X pins σ H2 s2 → RelV x v → RelV y u → R x y H2 → wpAny (model X.prog X.w) X.A (f v u) Q X.xe s2) :
    wpAny (model X.prog X.w) X.A (eval a X.env) (fun v s₁ => wpAny (model X.prog X.w) X.A (eval b X.env) (fun u s₂ => wpAny (model X.prog X.w) X.A (f v u) Q X.xe s₂) X.xe s₁) X.xe s := by
  refine thn (ha pins s σ H _ I h) fun v s1 ⟨x, H1, I1, r1, q1⟩ => ?_
  refine thn (hb pins s1 σ H1 _ I1 q1) fun u s2 ⟨y, H2, I2, r2, q2⟩ => ?_
  exact hf v u s2 x y H2 I2 r1 r2 q2
theorem pe_op {op : Operator} {r : R2} (ho : OpR X (binaryOp op) r) (ha : PE X a ta) (hb : PE X b tb) : PE X (.BinOp a op b pos) (tOp r ta tb) := by
  intro pins s σ H Q I h
  exact wpAny_BinOp (binT ha hb I h fun v u s2 x y H2 I2 rx ry q => ho pins s2 σ H2 x y v u Q I2 rx ry q)
theorem opI {f : Value → Value → Sem Value} {C : Int → Int → Prop} {g : Int → Int → Int}
    (rule : ∀ (i j : Int) (t u : Tok) (s : Shared) (Q : Value → Shared → Prop) (E : Value → Shared → Prop), C i j → Q (.int (g i j) s.toks) { s with toks := s.toks + 1 } → wpAny (model X.prog X.w) X.A (f (.int i t) (.int j u)) Q E s) :
    OpR X f (rI C fun i j => .int (g i j)) := by
  intro pins s σ H x y v u Q I rx ry h
  obtain ⟨i, j, rfl, rfl, hc, q⟩ := h
  obtain ⟨t, rfl⟩ := rx
  obtain ⟨t', rfl⟩ := ry
  exact rule i j t t' s _ _ hc ⟨.int (g i j), H, I.tok _, ⟨_, rfl⟩, q⟩
theorem opI0 {f : Value → Value → Sem Value} {g : Int → Int → Int}
    (rule : ∀ (i j : Int) (t u : Tok) (s : Shared) (Q : Value → Shared → Prop) (E : Value → Shared → Prop), Q (.int (g i j) s.toks) { s with toks := s.toks + 1 } → wpAny (model X.prog X.w) X.A (f (.int i t) (.int j u)) Q E s) :
    OpR X f (rI0 fun i j => .int (g i j)) := by
  intro pins s σ H x y v u Q I rx ry h
  obtain ⟨i, j, rfl, rfl, q⟩ := h
  obtain ⟨t, rfl⟩ := rx
  obtain ⟨t', rfl⟩ := ry
  exact rule i j t t' s _ _ ⟨.int (g i j), H, I.tok _, ⟨_, rfl⟩, q⟩
theorem opB0 {f : Value → Value → Sem Value} {g : Int → Int → Bool}
    (rule : ∀ (i j : Int) (t u : Tok) (s : Shared) (Q : Value → Shared → Prop) (E : Value → Shared → Prop), Q (.bool (g i j)) s → wpAny (model X.prog X.w) X.A (f (.int i t) (.int j u)) Q E s) :
    OpR X f (rI0 fun i j => .bl (g i j)) := by
  intro pins s σ H x y v u Q I rx ry h
  obtain ⟨i, j, rfl, rfl, q⟩ := h
  obtain ⟨t, rfl⟩ := rx
  obtain ⟨t', rfl⟩ := ry
  exact rule i j t t' s _ _ ⟨.bl (g i j), H, I, rfl, q⟩
noncomputable def CPow (i j : Int) : Prop := 0 ≤ j ∧ j ≤ 1000000 ∧ i.natAbs < 2 ^ 64
noncomputable def CMul (i j : Int) : Prop := (-(2 ^ 64) < i ∧ i < 2 ^ 64) ∨ (-(2 ^ 64) < j ∧ j < 2 ^ 64)
theorem CMul.ok {i j : Int} (h : CMul i j) : IntMulOk i j := by
  rcases h with ⟨h1, h2⟩ | ⟨h1, h2⟩
  · exact .of_left (intBits_le_64 h1 h2)
  · exact .of_right (intBits_le_64 h1 h2)
theorem op_add : OpR X (binaryOp .Add) (rI0 fun i j => .int (i + j)) := opI0 fun _ _ _ _ _ _ _ q => add_int q
theorem op_sub : OpR X (binaryOp .Sub) (rI0 fun i j => .int (i - j)) := opI0 fun _ _ _ _ _ _ _ q => sub_int q
theorem op_mod : OpR X (binaryOp .Mod) (rI (fun _ j => 0 < j) fun i j => .int (i % j)) := opI fun i j _ _ _ _ _ hc q => by
  have h1 : (0 : Int) < j := hc
  exact mod_int' (by omega) (by rw [Int.fmod_eq_emod_of_nonneg i (by omega)]; exact q)
theorem op_pow : OpR X (binaryOp .Pow) (rI CPow fun i j => .int (i ^ j.toNat)) := opI fun _ _ _ _ _ _ _ hc q => pow_int_small hc.1 hc.2.1 hc.2.2 q
theorem op_shl : OpR X (binaryOp .LShift) (rI CPow fun i j => .int (i * 2 ^ j.toNat)) := opI fun _ _ _ _ _ _ _ hc q => lshift_int_small hc.1 hc.2.1 hc.2.2 q
end
noncomputable def scal : V → V → Bool
  | .non, .non => true | .non, .int _ => true | .int _, .non => true | .non, .bl _ => true | .bl _, .non => true | .non, .str _ => true | .str _, .non => true
  | .int _, .int _ => true | .bl _, .bl _ => true | .str _, .str _ => true | .byt _, .byt _ => true
  | .int _, .str _ => true | .str _, .int _ => true | .bl _, .str _ => true | .str _, .bl _ => true
  | _, _ => false
noncomputable def rEq : R2 := fun x y H Q => scal x y = true ∧ Q (.bl (decide (x = y))) H
noncomputable def rNe : R2 := fun x y H Q => scal x y = true ∧ Q (.bl (!decide (x = y))) H
theorem dec_int {i j : Int} : decide (V.int i = V.int j) = (i == j) := by
  rw [Bool.eq_iff_iff]
  simp
theorem dec_bl {i j : Bool} : decide (V.bl i = V.bl j) = (i == j) := by
  rw [Bool.eq_iff_iff]
  simp
theorem dec_str {i j : Str} : decide (V.str i = V.str j) = (i == j) := by
  rw [Bool.eq_iff_iff]
  simp
theorem dec_byt {i j : Array UInt8} : decide (V.byt i = V.byt j) = (i.toList == j.toList) := by
  rw [Bool.eq_iff_iff]
  cases i
  cases j
  simp
section
variable {X : Cx} {a b c : Expr} {ta tb tc : TE} {pos : Pos}
theorem fin_bl {pins : List (Addr × Obj)} {σ : St} {H : Hp} {s : Shared} {Q : VK} {k k' : Bool} (I : Inv X pins σ H s) (q : Q (.bl k) H) (e : k = k') : EP X pins σ Q (.bool k') s := by
  subst e
  exact ⟨.bl k, H, I, rfl, q⟩
theorem op_eq : OpR X (compareOp .Eq) rEq := by
  intro pins s σ H x y v u Q I rx ry h
  obtain ⟨hs, q⟩ := h
  cases x with
  | non =>
    cases rx
    cases y with
    | non => cases ry; exact PySem.EqNone.eq_none_none (fin_bl I q (by simp))
    | bl j => cases ry; exact PySem.EqNone.eq_none_bool (fin_bl I q (by simp))
    | int j => obtain ⟨t', rfl⟩ := ry; exact PySem.EqNone.eq_none_int (fin_bl I q (by simp))
    | str j => obtain ⟨t', rfl⟩ := ry; exact PySem.EqNone.eq_none_str (fin_bl I q (by simp))
    | _ => exact absurd (show false = true from hs) Bool.false_ne_true
  | bl i =>
    cases rx
    cases y with
    | non => cases ry; exact PySem.EqNone.eq_bool_none (fin_bl I q (by simp))
    | bl j => cases ry; exact eq_bool (fin_bl I q dec_bl)
    | str j => obtain ⟨t', rfl⟩ := ry; exact PySem.EqMixed.eq_bool_str (fin_bl I q (by simp))
    | _ => exact absurd (show false = true from hs) Bool.false_ne_true
  | int i =>
    obtain ⟨t, rfl⟩ := rx
    cases y with
    | non => cases ry; exact PySem.EqNone.eq_int_none (fin_bl I q (by simp))
    | int j => obtain ⟨t', rfl⟩ := ry; exact eq_int (fin_bl I q dec_int)
    | str j => obtain ⟨t', rfl⟩ := ry; exact PySem.EqMixed.eq_int_str (fin_bl I q (by simp))
    | _ => exact absurd (show false = true from hs) Bool.false_ne_true
  | str i =>
    obtain ⟨t, rfl⟩ := rx
    cases y with
    | non => cases ry; exact PySem.EqNone.eq_str_none (fin_bl I q (by simp))
    | bl j => cases ry; exact PySem.EqMixed.eq_str_bool (fin_bl I q (by simp))
    | int j => obtain ⟨t', rfl⟩ := ry; exact PySem.EqMixed.eq_str_int (fin_bl I q (by simp))
    | str j => obtain ⟨t', rfl⟩ := ry; exact eq_str (fin_bl I q dec_str)
    | _ => exact absurd (show false = true from hs) Bool.false_ne_true
  | byt i =>
    obtain ⟨t, rfl⟩ := rx
    cases y with
    | byt j => obtain ⟨t', rfl⟩ := ry; exact PySem.W.eq_bytes (fin_bl I q dec_byt)
    | _ => exact absurd (show false = true from hs) Bool.false_ne_true
  | _ => cases y <;> exact absurd (show false = true from hs) Bool.false_ne_true
theorem op_ne : OpR X (compareOp .NotEq) rNe := by
  intro pins s σ H x y v u Q I rx ry h
  obtain ⟨hs, q⟩ := h
  cases x with
  | non =>
    cases rx
    cases y with
    | non => cases ry; exact PySem.EqNone.ne_none_none (fin_bl I q (by simp))
    | bl j => cases ry; exact PySem.EqNone.ne_none_bool (fin_bl I q (by simp))
    | int j => obtain ⟨t', rfl⟩ := ry; exact PySem.EqNone.ne_none_int (fin_bl I q (by simp))
    | str j => obtain ⟨t', rfl⟩ := ry; exact PySem.EqNone.ne_none_str (fin_bl I q (by simp))
    | _ => exact absurd (show false = true from hs) Bool.false_ne_true
  | bl i =>
    cases rx
    cases y with
    | non => cases ry; exact PySem.EqNone.ne_bool_none (fin_bl I q (by simp))
    | bl j => cases ry; exact ne_bool (fin_bl I q (congrArg not dec_bl))
    | str j => obtain ⟨t', rfl⟩ := ry; exact PySem.EqMixed.ne_bool_str (fin_bl I q (by simp))
    | _ => exact absurd (show false = true from hs) Bool.false_ne_true
  | int i =>
    obtain ⟨t, rfl⟩ := rx
    cases y with
    | non => cases ry; exact PySem.EqNone.ne_int_none (fin_bl I q (by simp))
    | int j => obtain ⟨t', rfl⟩ := ry; exact ne_int (fin_bl I q (congrArg not dec_int))
    | str j => obtain ⟨t', rfl⟩ := ry; exact PySem.EqMixed.ne_int_str (fin_bl I q (by simp))
    | _ => exact absurd (show false = true from hs) Bool.false_ne_true
  | str i =>
    obtain ⟨t, rfl⟩ := rx
    cases y with
    | non => cases ry; exact PySem.EqNone.ne_str_none (fin_bl I q (by simp))
    | bl j => cases ry; exact PySem.EqMixed.ne_str_bool (fin_bl I q (by simp))
    | int j => obtain ⟨t', rfl⟩ := ry; exact PySem.EqMixed.ne_str_int (fin_bl I q (by simp))
    | str j => obtain ⟨t', rfl⟩ := ry; exact ne_str (fin_bl I q (congrArg not dec_str))
    | _ => exact absurd (show false = true from hs) Bool.false_ne_true
  | byt i =>
    obtain ⟨t, rfl⟩ := rx
    cases y with
    | byt j => obtain ⟨t', rfl⟩ := ry; exact PySem.W.ne_bytes (fin_bl I q (congrArg not dec_byt))
    | _ => exact absurd (show false = true from hs) Bool.false_ne_true
  | _ => cases y <;> exact absurd (show false = true from hs) Bool.false_ne_true
theorem op_lt : OpR X (compareOp .Lt) (rI0 fun i j => .bl (decide (i < j))) := opB0 fun _ _ _ _ _ _ _ q => lt_int q
theorem op_le : OpR X (compareOp .LtE) (rI0 fun i j => .bl (decide (i ≤ j))) := opB0 fun _ _ _ _ _ _ _ q => le_int q
theorem op_gt : OpR X (compareOp .Gt) (rI0 fun i j => .bl (decide (j < i))) := opB0 fun _ _ _ _ _ _ _ q => gt_int q
theorem op_ge : OpR X (compareOp .GtE) (rI0 fun i j => .bl (decide (j ≤ i))) := opB0 fun _ _ _ _ _ _ _ q => ge_int q
theorem op_in_str : OpR X (compareOp .In) (fun x y H Q => ∃ i j, x = .str i ∧ y = .str j ∧ Q (.bl (!(Builtin.Str.occurrences j i 0 j.length 1).isEmpty)) H) := by
  intro pins s σ H x y v u Q I rx ry h
  obtain ⟨i, j, rfl, rfl, q⟩ := h
  obtain ⟨t, rfl⟩ := rx
  obtain ⟨t', rfl⟩ := ry
  exact in_str (fin_bl I q rfl)
theorem op_isN : OpR X (compareOp .Is) (fun x y H Q => y = .non ∧ Q (.bl (decide (x = .non))) H) := by
  intro pins s σ H x y v u Q I rx ry h
  obtain ⟨rfl, q⟩ := h
  cases ry
  refine is_none_gen (fin_bl I q ?_)
  cases x <;> first
    | (cases rx; rfl)
    | (obtain ⟨t, rfl⟩ := rx; rfl)
theorem op_notN : OpR X (compareOp .IsNot) (fun x y H Q => y = .non ∧ Q (.bl (!decide (x = .non))) H) := by
  intro pins s σ H x y v u Q I rx ry h
  obtain ⟨rfl, q⟩ := h
  cases ry
  refine isnot_none_gen (fin_bl I q ?_)
  cases x <;> first
    | (cases rx; rfl)
    | (obtain ⟨t, rfl⟩ := rx; rfl)
theorem OpR.or {f : Value → Value → Sem Value} {r r' : R2} (h : OpR X f r) (h' : OpR X f r') : OpR X f (fun x y H Q => r x y H Q ∨ r' x y H Q) := by
  intro pins s σ H x y v u Q I rx ry q
  rcases q with q | q
  · exact h pins s σ H x y v u Q I rx ry q
  · exact h' pins s σ H x y v u Q I rx ry q
theorem nomark (b : Expr) {op : CmpOp} (h : op ≠ .In := by decide) (h2 : op ≠ .NotIn := by decide) : behindInMarks op b = false := by
  have e1 : (op == CmpOp.In) = false := by cases op <;> first | rfl | exact absurd rfl h
  have e2 : (op == CmpOp.NotIn) = false := by cases op <;> first | rfl | exact absurd rfl h2
  cases b <;> simp [behindInMarks, e1, e2]
theorem pe_cmpR {op : CmpOp} {r : R2} (ho : OpR X (compareOp op) r) (ha : PE X a ta) (hb : PE X b tb) (hm : behindInMarks op b = false) : PE X (.Compare a [op] [b] pos) (tOp r ta tb) := by
  intro pins s σ H Q I h
  exact wpAny_Compare1 (binT ha hb I h fun v u s2 x y H2 I2 rx ry q => ho pins s2 σ H2 x y v u Q I2 rx ry q) hm
noncomputable def tTest (t : TE) : TT := fun σ H Q => t σ H fun x H' => ∃ k, x = .bl k ∧ Q k H'
theorem pt_cmpR {op : CmpOp} {r : R2} (ho : OpR X (compareOp op) r) (ha : PE X a ta) (hb : PE X b tb) (hm : behindInMarks op b = false) : PT X (.Compare a [op] [b] pos) (tTest (tOp r ta tb)) := by
  intro pins s σ H Q I h
  refine wpAny_isTrue_Compare1 (thn (ha pins s σ H _ I h) fun v s1 ⟨x, H1, I1, r1, q1⟩ => thn (hb pins s1 σ H1 _ I1 q1) fun u s2 ⟨y, H2, I2, r2, q2⟩ =>
    thn (ho pins s2 σ H2 x y v u _ I2 r1 r2 q2) fun c s3 ⟨z, H3, I3, r3, k, e, q3⟩ => ?_) hm
  subst e
  cases r3
  exact wpAny_truthy_bool ⟨H3, I3, q3⟩
noncomputable def tChain (r r' : R2) (ta tb tc : TE) : TE := fun σ H Q => ta σ H fun x H1 => tb σ H1 fun y H2 => r x y H2 fun z H3 => ∃ k, z = .bl k ∧
  (if k = true then tc σ H3 fun w' H4 => r' y w' H4 Q else Q (.bl false) H3)
theorem pe_chain {op op' : CmpOp} {r r' : R2} (ho : OpR X (compareOp op) r) (ho' : OpR X (compareOp op') r') (ha : PE X a ta) (hb : PE X b tb) (hc : PE X c tc)
    (hm : lastMarks [op, op'] [b, c] = false := by with_unfolding_all rfl) : PE X (.Compare a [op, op'] [b, c] pos) (tChain r r' ta tb tc) := by
  intro pins s σ H Q I h
  refine Compare_chain (thn (ha pins s σ H _ I h) fun v s1 ⟨x, H1, I1, r1, q1⟩ => chain_link (thn (hb pins s1 σ H1 _ I1 q1) fun u s2 ⟨y, H2, I2, r2, q2⟩ =>
    thn (ho pins s2 σ H2 x y v u _ I2 r1 r2 q2) fun d s3 ⟨z, H3, I3, r3, k, e, q3⟩ => ?_)) hm
  subst e
  cases r3
  refine wpAny_truthy_bool ?_
  cases k with
  | false => exact ite_ff ⟨.bl false, H3, I3, rfl, q3⟩
  | true => exact ite_tt (chain_last (thn (hc pins s3 σ H3 _ I3 q3) fun w' s4 ⟨z', H4, I4, r4, q4⟩ => ho' pins s4 σ H4 y z' u w' Q I4 r2 r4 q4))
noncomputable def TruV (K : PySem.W.Frag) (x : V) (H : Hp) (k : Bool) : Prop :=
  match x with
  | .non => k = false
  | .bl b => k = b
  | .int i => k = (i != 0)
  | .str y => y.length ≤ sizeLine ∧ k = ((y.length : Int) != 0)
  | .byt y => y.size ≤ sizeLine ∧ k = ((y.size : Int) != 0)
  | .ref p => (∃ xs, SqL K H p xs ∧ k = !xs.isEmpty) ∨ (∃ xs, SqT K H p xs ∧ k = !xs.isEmpty) ∨ ∃ kvs, H p = some (.dK kvs) ∧ k = !kvs.isEmpty
  | _ => False
theorem isEmpty_kv {κ : Type} {kvs : List (κ × V)} {vs : List (κ × Value)} (r : KV kvs vs) : (!vs.isEmpty) = !kvs.isEmpty := by
  cases r <;> rfl
theorem isEmpty_of {xs : List V} {its : List Value} (r : Vals xs its) : (!its.toArray.isEmpty) = !xs.isEmpty := by
  cases r <;> simp
theorem line63 : (sizeLine : Nat) < 2 ^ 63 := by rw [sizeLine_eq]; decide
theorem tru_ok : TruR X (fun x H Q => ∃ k, TruV X.K x H k ∧ Q k H) := by
  intro pins s σ H x v Q I rx h
  obtain ⟨k, e, q⟩ := h
  have hl := line63
  have hs : sizeLine = 16777216 := sizeLine_eq
  cases x with
  | non =>
    cases rx
    have e' : k = false := e
    subst e'
    exact truthy_none ⟨H, I, q⟩
  | bl b =>
    cases rx
    have e' : k = b := e
    subst e'
    exact wpAny_truthy_bool ⟨H, I, q⟩
  | int i =>
    obtain ⟨t, rfl⟩ := rx
    have e' : k = (i != 0) := e
    subst e'
    exact PySem.P.truthy_int ⟨H, I, q⟩
  | str y =>
    obtain ⟨t, rfl⟩ := rx
    obtain ⟨hy, e'⟩ : y.length ≤ sizeLine ∧ k = ((y.length : Int) != 0) := e
    subst e'
    exact PySem.P.truthy_str (by omega) ⟨H, I.tok _, q⟩
  | byt y =>
    obtain ⟨t, rfl⟩ := rx
    obtain ⟨hy, e'⟩ : y.size ≤ sizeLine ∧ k = ((y.size : Int) != 0) := e
    subst e'
    exact PySem.W.truthy_bytes (by omega) ⟨H, I.tok _, q⟩
  | ref p =>
    cases rx
    have e' : (∃ xs, SqL X.K H p xs ∧ k = !xs.isEmpty) ∨ (∃ xs, SqT X.K H p xs ∧ k = !xs.isEmpty) ∨ ∃ kvs, H p = some (.dK kvs) ∧ k = !kvs.isEmpty := e
    rcases e' with ⟨xs, hx, e'⟩ | ⟨xs, hx, e'⟩ | ⟨kvs, hx, e'⟩
    · subst e'
      obtain ⟨its, r, pl, hz⟩ := I.list hx
      have hlen := r.length
      exact wpAny_truthy_list pl.isList (by simp only [List.size_toArray]; omega) ⟨H, I.tok _, by rw [isEmpty_of r]; exact q⟩
    · subst e'
      obtain ⟨its, r, pl, hz⟩ := I.tuple hx
      have hlen := r.length
      exact truthy_tuple pl (by simp only [List.size_toArray]; omega) ⟨H, I.tok _, by rw [isEmpty_of r]; exact q⟩
    · subst e'
      obtain ⟨hz, hS, vs, r, m⟩ : kvs.length ≤ sizeLine ∧ (p == sysModules) = false ∧ ∃ vs, KV kvs vs ∧ s.heap.DictOf (mixKind X.prog X.w) p vs := I.hok p _ hx
      have hlen : kvs.length = vs.length := Paired.length r
      exact wpAny_truthy_dict hS m (by omega) ⟨H, I.tok _, by rw [isEmpty_kv r]; exact q⟩
  | _ => exact (show False from e).elim
theorem pt_truth (ha : PE X a ta) (he : ∀ whole, isTrue a X.env whole = (do let v ← whole; standAt a.pos; holding [v] (truthy v))) :
    PT X a (fun σ H Q => ta σ H fun x H' => ∃ k, TruV X.K x H' k ∧ Q k H') := by
  intro pins s σ H Q I h
  exact isTrue_plain (thn (ha pins s σ H _ I h) fun v s1 ⟨x, H1, I1, r1, q1⟩ => tru_ok pins s1 σ H1 x v Q I1 r1 q1) (he _)
theorem op_add_str : OpR X (binaryOp .Add) (fun x y H Q => ∃ i j, x = .str i ∧ y = .str j ∧ i.length + j.length ≤ sizeLine ∧ Q (.str (i ++ j)) H) := by
  intro pins s σ H x y v u Q I rx ry h
  obtain ⟨i, j, rfl, rfl, hz, q⟩ := h
  obtain ⟨t, rfl⟩ := rx
  obtain ⟨t', rfl⟩ := ry
  exact add_str (fun t' tk => ⟨.str (i ++ j), H, I.tok _, ⟨_, rfl⟩, q⟩) hz
theorem vals1 {x : V} {us : List Value} (r : Vals [x] us) : ∃ u, us = [u] ∧ RelV x u := by
  cases r with
  | cons r1 r2 => cases r2; exact ⟨_, rfl, r1⟩
theorem vals2 {x y : V} {us : List Value} (r : Vals [x, y] us) : ∃ u w', us = [u, w'] ∧ RelV x u ∧ RelV y w' := by
  cases r with
  | cons r1 r2 =>
    cases r2 with
    | cons r3 r4 => cases r4; exact ⟨_, _, rfl, r1, r3⟩
end
end L2
namespace L2
open PySem PySem.Spec PyProof.Rows
structure ObjM (h : Heap) (x dx C : Addr) (mA : Str → Option Value) : Prop where
  obj : h.get? x = some (PySem.W.instObj C dx)
  ns : h.Ns1 dx mA
  ne : dx ≠ x
theorem lookIn_ns {h : Heap} {dx : Addr} {mA : Str → Option Value} (n : h.Ns1 dx mA) : ∃ od, h.get? dx = some od ∧ ∀ name, PySem.W.lookIn name od = some (mA name) := by
  obtain ⟨o, es, ep, ho, hd, hk, _, hm⟩ := n
  refine ⟨o, ho, fun name => ?_⟩
  have e := hm name
  unfold nsFind findBy at e
  rw [← Array.find?_toList] at e
  unfold PySem.W.lookIn
  rw [hd]
  dsimp only
  split
  · rename_i y q
    rw [q] at e
    exact congrArg some e
  · rename_i q
    rw [q] at e
    have a : es.toList.any (·.refKey) = false := by
      rw [List.any_eq_false]
      intro y hy
      obtain ⟨z, t, hkey⟩ := hk y (Array.mem_toList_iff.mp hy)
      simp [DictEntry.refKey, hkey]
    have a' : ¬ es.toList.any (·.refKey) = true := by rw [a]; exact Bool.false_ne_true
    rw [if_neg a']
    exact congrArg some e
theorem ObjM.look {h : Heap} {x dx C : Addr} {mA : Str → Option Value} (I : ObjM h x dx C mA) : ∃ od, PySem.W.InstAt h x (PySem.W.instObj C dx) C (some od) ∧ ∀ name, PySem.W.lookIn name od = some (mA name) :=
  let ⟨od, ho, hl⟩ := lookIn_ns I.ns
  ⟨od, ⟨I.obj, rfl, rfl, ho⟩, hl⟩
section
variable {prog : Program} {w : World} {A : Around} {E : Value → Shared → Prop} {s : Shared} {K : PySem.W.Frag} {x dx C f : Addr} {mA : Str → Option Value} {name : Str} {v : Value}
theorem get_meth {pl : Sem Bool} {Q : Value × List Value → Shared → Prop} (X : K.In s.heap) (I : ObjM s.heap x dx C mA) (hg : PySem.W.plainGet K C name = true)
    (hf : PySem.W.findIn K (.ref C) name = some (some (.ref f))) (ht : PySem.W.isFn K (.ref f) = true) (hv : mA name = none) (h : Q (.ref f, [.ref x]) s) :
    wpAny (model prog w) A (getMethod (.ref x) name pl) Q E s := by
  obtain ⟨od, J, hl⟩ := I.look
  exact PySem.W.method_fn X J (PySem.W.plainGet_of hg).1 (PySem.W.plainGet_of hg).2 hf (beq_iff_eq.mp ht) (by show (PySem.W.lookIn name od).map (·.isSome) = some false; rw [hl, hv]; rfl) h
theorem set_map {ns : List Str} {Q : Unit → Shared → Prop} (X : K.In s.heap) (I : ObjM s.heap x dx C mA)
    (hs : PySem.W.findIn K (.ref C) "__setattr__" = some (some (.builtin "object.__setattr__"))) (hp : PySem.W.plainOver K C = true) (ht : PySem.W.takerIn K C name = some none) (hh : PySem.W.hasDictIn K C = true)
    (hw : PySem.Within mA ns) (hsz : ns.length ≤ sizeLine)
    (h : ∀ h', ObjM h' x dx C (fun y => if y = name then some v else mA y) → Heap.SameBut dx s.heap h' → Q () { s with heap := h', toks := s.toks + 2 }) :
    wpAny (model prog w) A (setAttr (.ref x) name v) Q E s := by
  obtain ⟨od, J, hl⟩ := I.look
  refine PySem.W.set_plain X J hs (PySem.W.osa_open (s := { s with toks := s.toks + 1 }) (r := none) X J hp ht fun b => ?_)
  obtain ⟨cd, hc, hd'⟩ := PySem.W.any_some hh
  have hx : s.heap.get? x = some ⟨.ref C, some dx, .plain, #[]⟩ := I.obj
  refine wpAny_bind (wpAny_pure (wpAny_bind (wpAny_bind (wpAny_loadPart hx (wpAny_bind (PySem.W.Looks.here (s := { s with toks := s.toks + 1 }) (PySem.W.looks_clsIn X hc) ?_))))))
  rw [hd']
  refine wpAny_pure (a := some dx) (wpAny_bind (wpAny_pure (wpAny_bind ?_)))
  refine wpAny_nsSet1 (s := { s with toks := s.toks + 1 }) I.ns fun h' hn2 hs2 => ?_
  obtain ⟨oD, esD, epD, hoD, hdD, hcD⟩ := hn2.count (PySem.Within.cons name v hw)
  refine wpAny_bind (wpAny_lookBehind hoD (by rw [hdD]; exact pastItsLine_dict (Nat.le_trans hcD (by rw [List.length_cons]; omega))) ?_)
  exact wpAny_pure (h _ ⟨(hs2.2 _ (Ne.symm I.ne)).trans I.obj, hn2, I.ne⟩ hs2)
theorem make_map {R : Result → Shared → Prop} {vs : List Value} {kw : List (Str × Value)} (X : K.In s.heap) (hm : PySem.W.makesIn K C = true)
    (hi : PySem.W.findIn K (.ref C) "__init__" = some (some (.ref f))) (hf : PySem.W.typeIn K (.ref f) = some (.type "function"))
    (h : codeAny (model prog w) (A.under (.builtin "type.__call__" ⟨.ref C :: vs, kw⟩)) (.call (.ref f) ⟨.ref (s.heap.objs.size + 1) :: vs, kw⟩) (PySem.W.InitBack (s.heap.objs.size + 1) R)
      { s with heap := (s.heap.push PySem.W.emptyDict).push (PySem.W.instObj C s.heap.objs.size) }) :
    codeAny (model prog w) A (.call (.ref C) ⟨vs, kw⟩) R s := by
  obtain ⟨hh, g, d, t, os⟩ := s
  exact PySem.W.make_core (PySem.W.makes_of X hm) (PySem.W.looks_findIn X hi) (fun self => PySem.W.bind_fn X self hf) (.inl rfl) h
end
noncomputable def putF (f : Str) (v : V) : List (Str × V) → List (Str × V)
  | [] => [(f, v)]
  | (g, x) :: r => if g = f then (g, v) :: r else (g, x) :: putF f v r
theorem lookup_putF (f g : Str) (v : V) : ∀ fs : List (Str × V), (putF f v fs).lookup g = if g = f then some v else fs.lookup g
  | [] => by
    show List.lookup g [(f, v)] = _
    by_cases h : g = f
    · have hb : (g == f) = true := beq_iff_eq.mpr h
      simp only [List.lookup, hb, if_pos h]
    · have hb : (g == f) = false := beq_eq_false_iff_ne.mpr h
      simp only [List.lookup, hb, if_neg h]
  | (k, x) :: r => by
    have ih := lookup_putF f g v r
    rw [show putF f v ((k, x) :: r) = (if k = f then (k, v) :: r else (k, x) :: putF f v r) from rfl]
    by_cases hk : k = f
    · rw [if_pos hk]
      by_cases h : g = k
      · have hb : (g == k) = true := beq_iff_eq.mpr h
        simp only [List.lookup, hb, if_pos (h.trans hk)]
      · have hb : (g == k) = false := beq_eq_false_iff_ne.mpr h
        simp only [List.lookup, hb, if_neg (fun e : g = f => h (e.trans hk.symm))]
    · rw [if_neg hk]
      by_cases h : g = k
      · have hb : (g == k) = true := beq_iff_eq.mpr h
        simp only [List.lookup, hb, if_neg (fun e : g = f => hk (h.symm.trans e))]
      · have hb : (g == k) = false := beq_eq_false_iff_ne.mpr h
        simp only [List.lookup, hb]
        exact ih
theorem keys_putF (f : Str) (v : V) : ∀ fs : List (Str × V), f ∈ (putF f v fs).map (·.1) ∧ ∀ g, g ∈ fs.map (·.1) → g ∈ (putF f v fs).map (·.1)
  | [] => ⟨by simp [putF], fun g h => by simp at h⟩
  | (k, x) :: r => by
    obtain ⟨i1, i2⟩ := keys_putF f v r
    rw [show putF f v ((k, x) :: r) = (if k = f then (k, v) :: r else (k, x) :: putF f v r) from rfl]
    by_cases hk : k = f
    · rw [if_pos hk]
      subst hk
      exact ⟨by simp, fun g h => by simpa using h⟩
    · rw [if_neg hk]
      refine ⟨?_, fun g h => ?_⟩
      · rw [List.map_cons]
        exact List.mem_cons_of_mem _ i1
      · rw [List.map_cons] at h ⊢
        rcases List.mem_cons.mp h with e | e
        · exact List.mem_cons.mpr (.inl e)
        · exact List.mem_cons_of_mem _ (i2 g e)
theorem length_putF (f : Str) (v : V) : ∀ fs : List (Str × V), (putF f v fs).length ≤ fs.length + 1
  | [] => by simp [putF]
  | (k, x) :: r => by
    have ih := length_putF f v r
    rw [show putF f v ((k, x) :: r) = (if k = f then (k, v) :: r else (k, x) :: putF f v r) from rfl]
    by_cases hk : k = f
    · rw [if_pos hk, List.length_cons, List.length_cons]; omega
    · rw [if_neg hk, List.length_cons, List.length_cons]; omega
theorem RelO.none_of {o : Option Value} (r : RelO none o) : o = none := by
  cases o with
  | none => rfl
  | some u => exact (show False from r).elim
section
variable {P : Program} {w : World} {H H' : Hp} {h h' : Heap} {a C dx : Addr} {fs fs' : List (Str × V)}
theorem ins_get (hok : HOk P w H h) (e : H a = some (.ins C dx fs)) : ∃ mA, ObjM h a dx C mA ∧ (∀ f, RelO (fs.lookup f) (mA f)) ∧ PySem.Within mA (fs.map (·.1)) ∧ fs.length ≤ 1000 ∧ H dx = some (.own a) := by
  obtain ⟨d, z, ne, ob, mA, n, r, q⟩ := (show ObjOk P w H h a (.ins C dx fs) from hok a _ e)
  exact ⟨mA, ⟨ob, n, ne⟩, r, q, z, d⟩
end
structure Cls (K : PySem.W.Frag) (C : Addr) : Prop where
  pg : PySem.W.plainGet K C Str.empty = true
  hd : PySem.W.hasDictIn K C = true
  po : PySem.W.plainOver K C = true
  sa : PySem.W.findIn K (.ref C) "__setattr__" = some (some (.builtin "object.__setattr__"))
theorem Cls.get {K : PySem.W.Frag} {C : Addr} (c : Cls K C) (f : Str) : PySem.W.plainGet K C f = true := c.pg
noncomputable def NoAttr (K : PySem.W.Frag) (C : Addr) (f : Str) : Prop := PySem.W.findIn K (.ref C) f = some none
theorem NoAttr.taker {K : PySem.W.Frag} {C : Addr} {f : Str} (n : NoAttr K C f) : PySem.W.takerIn K C f = some none := by
  unfold PySem.W.takerIn
  rw [show PySem.W.findIn K (.ref C) f = some none from n]
  rfl
structure Con (K : PySem.W.Frag) (C : Addr) (f : Str) (v : V) (u : Value) : Prop where
  at_ : PySem.W.findIn K (.ref C) f = some (some u)
  rel : RelV v u
  get : PySem.W.specialIn K u "__get__" = some none
  cp : PySem.W.copiedNames.contains f = false
structure Meth (K : PySem.W.Frag) (C : Addr) (m : Str) (f : Addr) : Prop where
  at_ : PySem.W.findIn K (.ref C) m = some (some (.ref f))
  fn : PySem.W.isFn K (.ref f) = true
  kp : PySem.W.keepIn K (.ref f) = true
section
variable {X : Cx} {pins : List (Addr × Obj)} {σ : St} {H : Hp} {s : Shared} {a C dx : Addr} {fs : List (Str × V)} {f : Str} {v : V} {A : Around} {E : Value → Shared → Prop}
theorem getmeth_ok {m : Str} {g : Addr} {pl : Sem Bool} {Q : Value × List Value → Shared → Prop} (I : Inv X pins σ H s) (e : H a = some (.ins C dx fs)) (c : Cls X.K C) (k : Meth X.K C m g) (l : fs.lookup m = none)
    (h : Q (.ref g, [.ref a]) s) : wpAny (model X.prog X.w) A (getMethod (.ref a) m pl) Q E s := by
  obtain ⟨mA, O, r, _, _, _⟩ := ins_get I.hok e
  have hn : mA m = none := RelO.none_of (by rw [← l]; exact r m)
  exact get_meth I.kIn O (c.get m) k.at_ k.fn hn h
theorem setattr_ok {y : V} {u : Value} {Q : Unit → Shared → Prop} (I : Inv X pins σ H s) (e : H a = some (.ins C dx fs)) (c : Cls X.K C) (n : NoAttr X.K C f) (hl : fs.length < 1000) (ry : RelV y u)
    (h : ∀ s', Inv X pins σ (upd H a (.ins C dx (putF f y fs))) s' → Q () s') : wpAny (model X.prog X.w) A (setAttr (.ref a) f u) Q E s := by
  obtain ⟨mA, O, r, wi, _, ho⟩ := ins_get I.hok e
  have hz : (fs.map (·.1)).length ≤ sizeLine := by rw [List.length_map, sizeLine_eq]; omega
  refine set_map I.kIn O c.sa c.po n.taker c.hd wi hz fun h' O' sb => h _ ?_
  have hd : ∃ o, h'.get? dx = some o := let ⟨o, _, _, e', _⟩ := O'.ns; ⟨o, e'⟩
  refine I.write (x := a) (e := dx) (by rw [e]; exact True.intro) (.inr ho) (fun b q hb z => (sb.2 b hb).trans z) hd ?_
  refine ⟨by rw [upd_ne O.ne]; exact ho, ?_, O.ne, O'.obj, _, O'.ns, fun g => ?_, fun g hg => ?_⟩
  · have := length_putF f y fs; omega
  · show RelO ((putF f y fs).lookup g) (if g = f then some u else mA g)
    rw [lookup_putF]
    by_cases q : g = f
    · rw [if_pos q, if_pos q]; exact ry
    · rw [if_neg q, if_neg q]; exact r g
  · by_cases q : g = f
    · rw [q]; exact (keys_putF f y fs).1
    · refine (keys_putF f y fs).2 g (wi g fun z => hg ?_)
      show (if g = f then some u else mA g) = none
      rw [if_neg q]; exact z
theorem Inv.made (I : Inv X pins σ H s) : Inv X pins σ (upd (upd H s.heap.objs.size (.own (s.heap.objs.size + 1))) (s.heap.objs.size + 1) (.ins C s.heap.objs.size []))
    { s with heap := (s.heap.push PySem.W.emptyDict).push (PySem.W.instObj C s.heap.objs.size) } := by
  have e1 : (s.heap.push PySem.W.emptyDict).get? s.heap.objs.size = some PySem.W.emptyDict := Heap.get?_push_size s.heap rfl
  have e2 : ((s.heap.push PySem.W.emptyDict).push (PySem.W.instObj C s.heap.objs.size)).get? (s.heap.objs.size + 1) = some (PySem.W.instObj C s.heap.objs.size) := by
    have := Heap.get?_push_size (s.heap.push PySem.W.emptyDict) (o := PySem.W.instObj C s.heap.objs.size) rfl
    rwa [Heap.size_push] at this
  have e3 : (s.heap.push PySem.W.emptyDict).Ns s.heap.objs.size (fun _ => none) := ⟨PySem.W.emptyDict, #[], _, e1, rfl, (fun e he => absurd he (by simp)), fun _ => rfl⟩
  have I1 := I.laid (a := s.heap.objs.size) (o := .own (s.heap.objs.size + 1)) (h' := s.heap.push PySem.W.emptyDict) (t' := s.toks) (fun b u q => Heap.get?_push_of_some _ q) (Nat.le_refl _) ⟨_, e1⟩
  refine I1.laid (a := s.heap.objs.size + 1) (o := .ins C s.heap.objs.size []) (t' := s.toks) (fun b u q => Heap.get?_push_of_some _ q) (Nat.le_of_eq (Heap.size_push _ _)) ?_
  have ne : s.heap.objs.size ≠ s.heap.objs.size + 1 := Nat.ne_of_lt (Nat.lt_succ_self _)
  refine ⟨by rw [upd_ne ne, upd_same], Nat.zero_le _, ne, e2, fun _ => none, (Heap.Ns1.of_empty e3).at fun o q => Heap.get?_push_of_some _ q, fun _ => True.intro, fun y hy => absurd rfl hy⟩
end
noncomputable def sFld (K : PySem.W.Frag) (ta tv : TE) (f : Str) : TS := fun D σ H => tv σ H fun y H1 => ta σ H1 fun x H2 => ∃ a C dx fs, x = .ref a ∧ H2 a = some (.ins C dx fs) ∧ Cls K C ∧ NoAttr K C f ∧ fs.length < 1000 ∧
  D.nx σ (upd H2 a (.ins C dx (putF f y fs)))
section
variable {X : Cx} {o e value : Expr} {f : Str} {pos pos' tpos : Pos} {ta tv : TE}
theorem ps_fld (ha : PE X o ta) (hv : PE X value tv) (hs : swapsWith value (some (.Attribute o f pos')) pos.line X.env = pure false) : PS X (.Assign [.Attribute o f pos'] value pos) (sFld X.K ta tv f) := by
  intro pins s σ H D I h
  refine plainObj_wpAny_Assign_Attribute (thn (hv pins s σ H _ I h) fun u s1 ⟨y, H1, I1, ry, q⟩ => thn (ha pins s1 σ H1 _ I1 q) fun ov s2 ⟨x, H2, I2, rx, a, C, dx, fs, ex, ea, c, n, l, q2⟩ => ?_) hs
  subst ex
  obtain rfl : ov = Value.ref a := rx
  exact setattr_ok I2 ea c n l ry fun s3 I3 => ⟨σ, _, I3, q2⟩
end
section
variable {X : Cx} {pins : List (Addr × Obj)} {σ : St} {H : Hp} {s : Shared} {A : Around} {E : Value → Shared → Prop} {Q : Value → Shared → Prop} {c : Value} {b : Bool}
inductive TyOf (K : PySem.W.Frag) (H : Hp) : V → Value → Prop where
  | non : TyOf K H .non (.type "NoneType")
  | bl (x : Bool) : TyOf K H (.bl x) (.type "bool")
  | int (i : Int) : TyOf K H (.int i) (.type "int")
  | str (x : Str) : TyOf K H (.str x) (.type "str")
  | flt (x : UInt64) : TyOf K H (.flt x) (.type "float")
  | lst {a : Addr} {xs : List V} (e : H a = some (.lst xs)) : TyOf K H (.ref a) (.type "list")
  | frz {a : Addr} {o : Obj} {xs : List V} (e : H a = some (.frz o (.lst xs))) : TyOf K H (.ref a) (.type "list")
  | tup {a : Addr} {xs : List V} (e : H a = some (.tup xs)) : TyOf K H (.ref a) (.type "tuple")
  | dK {a : Addr} {kvs : List (Key × V)} (e : H a = some (.dK kvs)) : TyOf K H (.ref a) (.type "dict")
  | dT {a : Addr} {kvs : List (List Key × V)} (e : H a = some (.dT kvs)) : TyOf K H (.ref a) (.type "dict")
  | ins {a C dx : Addr} {fs : List (Str × V)} (e : H a = some (.ins C dx fs)) (cl : Cls K C) (ha : PySem.W.findIn K (.ref C) "__class__" = some (some (.builtin "object.__class__")))
      (hn : PySem.W.specialIn K (.builtin "object.__class__") "__get__" = some (some (.builtin "getset_descriptor.__get__"))) (htk : PySem.W.takesIn K (.builtin "object.__class__") = some true)
      (hm : PySem.W.mroIn K C (.type "object") = some true) : TyOf K H (.ref a) (.ref C)
theorem isinst_ok {x : V} {u t : Value} (I : Inv X pins σ H s) (rx : RelV x u) (ty : TyOf X.K H x t) (e : PySem.W.kitOne X.K t c = some b) (h : ∀ tk, Q (.bool b) { s with toks := tk }) :
    wpAny (model X.prog X.w) A (call (.builtin "isinstance") [u, c]) Q E s := by
  cases ty with
  | non => cases (show u = Value.none from rx); exact PySem.W.kia_one PySem.W.kitx_none I.kIn True.intro e (fun z => nomatch z) h
  | bl y => cases (show u = Value.bool y from rx); exact PySem.W.kia_one PySem.W.kitx_bool I.kIn True.intro e (fun z => nomatch z) h
  | int i => obtain ⟨t, q⟩ := (show ∃ t, u = Value.int i t from rx); cases q; exact PySem.W.kia_one PySem.W.kitx_int I.kIn True.intro e (fun z => nomatch z) h
  | str y => obtain ⟨t, q⟩ := (show ∃ t, u = Value.str y t from rx); cases q; exact PySem.W.kia_one PySem.W.kitx_str I.kIn True.intro e (fun z => nomatch z) h
  | flt y => obtain ⟨t, q⟩ := (show ∃ t, u = Value.float y t from rx); cases q; exact PySem.W.kia_one PySem.W.kitx_float I.kIn True.intro e (fun z => nomatch z) h
  | @lst a xs ea =>
    cases (show u = Value.ref a from rx)
    obtain ⟨_, _, n, _, h1⟩ := (show ObjOk X.prog X.w H s.heap a (.lst xs) from I.hok a _ ea)
    exact PySem.W.kia_one PySem.W.kitx_list I.kIn ⟨_, h1, rfl⟩ e (fun z => nomatch z) h
  | @frz a ob xs ea =>
    cases (show u = Value.ref a from rx)
    obtain ⟨_, _, _, n, _, h1⟩ := (show ObjOk X.prog X.w H s.heap a (.frz ob (.lst xs)) from I.hok a _ ea)
    exact PySem.W.kia_one PySem.W.kitx_list I.kIn ⟨_, h1, rfl⟩ e (fun z => nomatch z) h
  | @tup a xs ea =>
    cases (show u = Value.ref a from rx)
    obtain ⟨_, _, _, p⟩ := (show ObjOk X.prog X.w H s.heap a (.tup xs) from I.hok a _ ea)
    obtain ⟨o, h1, h2, _⟩ := p
    exact PySem.W.kia_one PySem.W.kitx_tuple I.kIn ⟨o, h1, h2⟩ e (fun z => nomatch z) h
  | @dK a kvs ea =>
    cases (show u = Value.ref a from rx)
    obtain ⟨_, _, vs, _, p⟩ := (show ObjOk X.prog X.w H s.heap a (.dK kvs) from I.hok a _ ea)
    obtain ⟨o, es, ep, h1, h2, _⟩ := p
    exact PySem.W.kia_one PySem.W.kitx_dict I.kIn ⟨o, h1, h2.1⟩ e (fun z => nomatch z) h
  | @dT a kvs ea =>
    cases (show u = Value.ref a from rx)
    obtain ⟨_, _, xs, _, o, es, ep, h1, h2, _⟩ := (show ObjOk X.prog X.w H s.heap a (.dT kvs) from I.hok a _ ea)
    exact PySem.W.kia_one PySem.W.kitx_dict I.kIn ⟨o, h1, h2.1⟩ e (fun z => nomatch z) h
  | @ins a C dx fs ea cl ha hn htk hm =>
    cases (show u = Value.ref a from rx)
    obtain ⟨mA, O, _⟩ := ins_get I.hok ea
    obtain ⟨od, J, _⟩ := O.look
    exact PySem.W.kia_one (PySem.W.kitx_own (cl.get _) cl.hd ha hn htk hm) I.kIn J e (fun z => nomatch z) h
end
end L2
namespace L2
open PySem PySem.Spec PyProof.Rows
structure Room (k : Nat) (A : Around) : Prop where
  hd : A.handled = none
  dp : A.depth + 3 * k + 5 < recursionLimit
  un : A.units + 16 * k + 200 < cLine
theorem Room.mono {j k : Nat} {A : Around} (r : Room k A) (h : j ≤ k) : Room j A := ⟨r.hd, by have := r.dp; omega, by have := r.un; omega⟩
theorem Room.deeper {k : Nat} {A : Around} (r : Room (k + 1) A) (env : Env) : Room k (A.deeper env) :=
  ⟨r.hd, by have := r.dp; show A.depth + 1 + 3 * k + 5 < _; omega, by have := r.un; show A.units + 3 + 16 * k + 200 < _; omega⟩
theorem Room.in1 {k : Nat} {A : Around} (r : Room (k + 1) A) : Room k A.in1 :=
  ⟨r.hd, by have := r.dp; show A.depth + 3 * k + 5 < _; omega, by have := r.un; show A.units + 1 + 16 * k + 200 < _; omega⟩
theorem make_depth {A : Around} {C : Addr} {us : List Value} {kw : List (Str × Value)} : (A.under (.builtin "type.__call__" ⟨.ref C :: us, kw⟩)).depth = A.depth + 1 := by
  first | rfl | simp [Around.under, Code.weight, Code.isCreation, Code.isGuard, Code.isCaller, Code.frames, Code.isFrame, guardIds]
theorem make_units {A : Around} {C : Addr} {us : List Value} {kw : List (Str × Value)} : (A.under (.builtin "type.__call__" ⟨.ref C :: us, kw⟩)).units = A.units + 1 := by
  first | rfl | simp [Around.under, Code.cUnits, Code.frames, Code.isFrame]
theorem Room.make {k : Nat} {A : Around} (r : Room (k + 1) A) (C : Addr) (us : List Value) (kw : List (Str × Value)) : Room k (A.under (.builtin "type.__call__" ⟨.ref C :: us, kw⟩)) :=
  ⟨r.hd, by have := r.dp; rw [make_depth]; omega, by have := r.un; rw [make_units]; omega⟩
theorem Room.depth {k : Nat} {A : Around} (r : Room k A) : A.depth < recursionLimit := by have := r.dp; omega
theorem Room.units {k : Nat} {A : Around} (r : Room k A) : A.units + 64 < cLine := by have := r.un; omega
noncomputable def tNil : TA := fun _ H Q => Q [] H
noncomputable def tCons (ta : TE) (tr : TA) : TA := fun σ H Q => ta σ H fun x H1 => tr σ H1 fun xs H2 => Q (x :: xs) H2
section
variable {X : Cx} {e : Expr} {es : List Expr} {te : TE} {t : TA} {pos : Pos}
theorem pa_nil : PA X [] tNil := fun _ _ _ _ H Q I h => Calls.spliced_nil ⟨[], H, I, .nil, h⟩
theorem pa_cons (ha : PE X e te) (hr : PA X es t) (hs : starEach (e :: es) X.env = (false, eval e X.env) :: starEach es X.env := by rfl) : PA X (e :: es) (tCons te t) := by
  intro pos pins s σ H Q I h
  rw [hs]
  show wpAny _ _ (spliced ((false, eval e X.env) :: backTo pos (starEach es X.env))) _ _ s
  refine Calls.spliced_cons (thn (ha pins s σ H _ I h) fun u s1 ⟨x, H1, I1, r1, q1⟩ => ?_)
  exact thn (hr pos pins s1 σ H1 _ I1 q1) fun us s2 ⟨xs, H2, I2, r2, q2⟩ => ⟨x :: xs, H2, I2, .cons r1 r2, q2⟩
noncomputable def tTup (t : TA) : TE := fun σ H Q => t σ H fun xs H1 => xs.length ≤ sizeLine ∧ ∀ p, H1 p = none → Q (.ref p) (upd H1 p (.tup xs))
noncomputable def tLst (t : TA) : TE := fun σ H Q => t σ H fun xs H1 => xs.length ≤ sizeLine ∧ ∀ p, H1 p = none → Q (.ref p) (upd H1 p (.lst xs))
theorem pe_tup {x1} (h : PA X es t) : PE X (.Tuple es x1 pos) (tTup t) := by
  intro pins s σ H Q I hq
  refine wpAny_Tuple_spliced (thn (h pos pins s σ H _ I hq) fun us s1 ⟨xs, H1, I1, r, z, q⟩ => ⟨by rw [← r.length]; exact z, ?_⟩)
  have hf : H1 s1.heap.objs.size = none := I1.hok.fresh (Nat.le_refl _)
  refine ⟨.ref s1.heap.objs.size, upd H1 s1.heap.objs.size (.tup xs), I1.laid (t' := s1.toks) (fun b u e => Heap.get?_push_of_some _ e) (Nat.le_refl _) ?_, rfl, q _ hf⟩
  exact ⟨z, us, r, ⟨_, Heap.get?_push_size _ rfl, rfl, _, rfl⟩⟩
theorem pe_lst (h : PA X es t) : PE X (.List es pos) (tLst t) := by
  intro pins s σ H Q I hq
  refine wpAny_List_spliced (thn (h pos pins s σ H _ I hq) fun us s1 ⟨xs, H1, I1, r, z, q⟩ => ⟨by rw [← r.length]; exact z, ?_⟩)
  have hf : H1 s1.heap.objs.size = none := I1.hok.fresh (Nat.le_refl _)
  refine ⟨.ref s1.heap.objs.size, upd H1 s1.heap.objs.size (.lst xs), I1.laid (t' := s1.toks) (fun b u e => Heap.get?_push_of_some _ e) (Nat.le_refl _) ?_, rfl, q _ hf⟩
  exact ⟨z, us, 0, r, Heap.get?_push_size _ rfl⟩
end
abbrev Sp := List V → Hp → VK → XK → Prop
abbrev CXT := List Env → Hp → Shared → XK → Value → Shared → Prop
structure Env0 (P : Program) (w : World) (K : PySem.W.Frag) (mg : Str → Option Value) (base : Heap) (A : Around) (outer : List Env) (s : Shared) (H : Hp) : Prop where
  frames : A.frames = some outer
  mod : Mod K mg base
  bs : ∀ b o, base.get? b = some o → s.heap.get? b = some o ∧ H b = none
  bsz : base.objs.size ≤ s.heap.objs.size
  funs : s.heap.FunFrames base outer
  frf : ∀ b ∈ frs outer, H b = none
  hok : HOk P w H s.heap
  bare : AllBare s.gens
noncomputable def CE (outer : List Env) (P : Program) (w : World) (H : Hp) (s : Shared) (Q : VK) (u : Value) (s' : Shared) : Prop :=
  ∃ v H', s'.os = s.os ∧ AllBare s'.gens ∧ Un (frs outer) [] H H' s.heap s'.heap ∧ HOk P w H' s'.heap ∧ RelV v u ∧ Q v H'
noncomputable def CR (CX : CXT) (outer : List Env) (P : Program) (w : World) (H : Hp) (s : Shared) (Q : VK) (E : XK) (r : Result) (s' : Shared) : Prop :=
  match r with
  | .ok (.ret u) => CE outer P w H s Q u s'
  | .ok _ => False
  | .error e => CX outer H s E e s'
structure FnOk (P : Program) (w : World) (K : PySem.W.Frag) (mg : Str → Option Value) (base : Heap) (CX : CXT) (k : Nat) (f : Addr) (fd : FuncData) (ps : List Str) (sp : Sp) : Prop where
  len : ∀ vs H Q E, sp vs H Q E → vs.length = ps.length
  run : ∀ (A : Around) (outer : List Env) (s : Shared) (H : Hp) (args : Args) (us : List Value) (vs : List V) (Q : VK) (E : XK), Room k A → Env0 P w K mg base A outer s H → BindsTo s fd args (ps.zip us) → Vals vs us → sp vs H Q E →
    codeAny (model P w) A (.call (.ref f) args) (CR CX outer P w H s Q E) s
theorem FnOk.mono {P : Program} {w : World} {K : PySem.W.Frag} {mg : Str → Option Value} {base : Heap} {CX : CXT} {j k : Nat} {f : Addr} {fd : FuncData} {ps : List Str} {sp : Sp} (F : FnOk P w K mg base CX j f fd ps sp) (h : j ≤ k) :
    FnOk P w K mg base CX k f fd ps sp := ⟨F.len, fun A outer s H args us vs Q E hr => F.run A outer s H args us vs Q E (hr.mono h)⟩
theorem FnOk.imp {P : Program} {w : World} {K : PySem.W.Frag} {mg : Str → Option Value} {base : Heap} {CX : CXT} {k : Nat} {f : Addr} {fd : FuncData} {ps : List Str} {sp sp' : Sp} (F : FnOk P w K mg base CX k f fd ps sp)
    (h : ∀ vs H Q E, sp' vs H Q E → sp vs H Q E) : FnOk P w K mg base CX k f fd ps sp' :=
  ⟨fun vs H Q E q => F.len vs H Q E (h _ _ _ _ q), fun A outer s H args us vs Q E hr he hb hv hs => F.run A outer s H args us vs Q E hr he hb hv (h _ _ _ _ hs)⟩
theorem Env0.make {P : Program} {w : World} {K : PySem.W.Frag} {mg : Str → Option Value} {base : Heap} {A : Around} {outer : List Env} {s : Shared} {H : Hp} (e : Env0 P w K mg base A outer s H) (C : Addr) (us : List Value) (kw : List (Str × Value)) :
    Env0 P w K mg base (A.under (.builtin "type.__call__" ⟨.ref C :: us, kw⟩)) outer s H := ⟨by first | exact e.frames | (simpa [Around.under, Code.envs, Code.isFrame, pushEnvs] using e.frames), e.mod, e.bs, e.bsz, e.funs, e.frf, e.hok, e.bare⟩
theorem Env0.in1 {P : Program} {w : World} {K : PySem.W.Frag} {mg : Str → Option Value} {base : Heap} {A : Around} {outer : List Env} {s : Shared} {H : Hp} (e : Env0 P w K mg base A outer s H) :
    Env0 P w K mg base A.in1 outer s H := ⟨e.frames, e.mod, e.bs, e.bsz, e.funs, e.frf, e.hok, e.bare⟩
section
variable {X : Cx} {pins : List (Addr × Obj)} {σ : St} {H : Hp} {s s' : Shared}
theorem Inv.env0 (I : Inv X pins σ H s) : Env0 X.prog X.w X.K X.mg X.base X.A X.stack s H :=
  ⟨I.ok.frames, I.ok.mod, I.bs, Nat.le_trans I.ok.bsz I.sz, I.stack, I.stkFree, I.hok, I.bare⟩
theorem Inv.after {Q : VK} {u : Value} (I : Inv X pins σ H s) (h : CE X.stack X.prog X.w H s Q u s') : EP X pins σ Q u s' := by
  obtain ⟨v, H', os, bare, un, hok, r, q⟩ := h
  obtain ⟨hh, g, d, t, os'⟩ := s'
  obtain rfl : os' = s.os := os
  exact ⟨v, H', I.call (h' := hh) (g' := g) (d' := d) (t' := t) (ch := []) un hok bare (fun b z => absurd z (by simp)), r, q⟩
end
noncomputable def tCall (sp : Sp) (dvs : List V) (E : XK) (t : TA) : TE := fun σ H Q => t σ H fun vs H1 => sp (vs ++ dvs) H1 Q E
noncomputable def Binds (K : PySem.W.Frag) (fd : FuncData) (ps : List Str) (ds : List Value) : Prop :=
  ∀ (s : Shared) (us : List Value), K.In s.heap → (us ++ ds).length = ps.length → BindsTo s fd ⟨us, []⟩ (ps.zip (us ++ ds))
theorem Binds.all {K : PySem.W.Frag} {fd : FuncData} {ps : List Str} (h : ∀ us : List Value, us.length = ps.length → bindArgs fd ⟨us, []⟩ = pure (ps.zip us)) : Binds K fd ps [] := fun s us _ hl => by
  rw [List.append_nil] at hl ⊢
  exact .of_eq (h us hl)
noncomputable def Passes (CX : CXT) (X : Cx) (E : XK) : Prop := ∀ (pins : List (Addr × Obj)) (σ : St) (H : Hp) (s : Shared) (e : Value) (s' : Shared), Inv X pins σ H s → CX X.stack H s E e s' → X.xe e s'
section
variable {X : Cx} {CX : CXT} {k : Nat} {f C : Addr} {fd : FuncData} {ps : List Str} {sp : Sp} {dvs : List V} {ds : List Value} {E : XK} {x m : Str} {p pos apos : Pos} {e o : Expr} {es : List Expr} {ta : TE} {t : TA}
theorem run_fn {pins : List (Addr × Obj)} {σ : St} {H : Hp} {s : Shared} {Q : VK} {us : List Value} {vs : List V} (F : FnOk X.prog X.w X.K X.mg X.base CX k f fd ps sp) (hr : Room k X.A) (hb : Binds X.K fd ps ds) (hd : Vals dvs ds) (hx : Passes CX X E)
    (I : Inv X pins σ H s) (r : Vals vs us) (h : sp (vs ++ dvs) H Q E) : wpAny (model X.prog X.w) X.A (call (.ref f) us) (EP X pins σ Q) X.xe s := by
  have r2 : Vals (vs ++ dvs) (us ++ ds) := r.append hd
  have hl : (us ++ ds).length = ps.length := by rw [← r2.length]; exact F.len _ _ _ _ h
  refine wpAny_call (codeAny_mono (F.run X.A X.stack s H ⟨us, []⟩ (us ++ ds) (vs ++ dvs) Q E hr I.env0 (hb s us I.kIn hl) r2 h) fun r s' hq => ?_)
  cases r with
  | error e => exact hx pins σ H s e s' I hq
  | ok fl =>
    cases fl with
    | ret u => exact I.after hq
    | next => exact False.elim hq
    | brk => exact False.elim hq
    | cont => exact False.elim hq
theorem pe_call (F : FnOk X.prog X.w X.K X.mg X.base CX k f fd ps sp) (hr : Room k X.A) (hg : Gl X x) (hm : X.mg x = some (.ref f)) (hk : PySem.W.keepIn X.K (.ref f) = true) (hb : Binds X.K fd ps ds) (hd : Vals dvs ds) (hx : Passes CX X E)
    (ha : PA X (e :: es) t) (hdb : (x == ("__debug__" : Str)) = false := by decide) (he : starEach (e :: es) X.env = (false, eval e X.env) :: starEach es X.env := by rfl) (hpl : (backTo pos (starEach es X.env)).any (·.1) = false := by rfl) :
    PE X (.Call (.Name x p) (e :: es) [] pos) (tCall sp dvs E t) := by
  intro pins s σ H Q I h
  refine wpAny_Call_Name_kw (ld_glob I hg hm ?_ hdb)
  refine PySem.W.callWith_K (h₀ := X.base) I.ok.mod.kin hk (thn (ha pos pins s σ H _ I h) fun us s1 ⟨vs, H1, I1, r, q⟩ => ⟨I1.kIn, ?_⟩) he hpl
  exact run_fn F hr hb hd hx I1 r q
structure Mk (K : PySem.W.Frag) (C f : Addr) : Prop where
  makes : PySem.W.makesIn K C = true
  init : PySem.W.findIn K (.ref C) "__init__" = some (some (.ref f))
  fn : PySem.W.isFn K (.ref f) = true
  kp : PySem.W.keepIn K (.ref C) = true
end
section
variable {X : Cx} {CX : CXT} {k : Nat} {f C : Addr} {fd : FuncData} {ps ks : List Str} {sp : Sp} {E : XK} {x m : Str} {p pos apos kpos : Pos} {e o : Expr} {es : List Expr} {kws : List Keyword} {te ta : TE} {t tk : TA} {nm : Option Str}
structure KBinds (K : PySem.W.Frag) (fd : FuncData) (ps ks : List Str) (g : List Value → List Value → List Value) (gV : List V → List V → List V) : Prop where
  to : ∀ (s : Shared) (us ws : List Value), K.In s.heap → (g us ws).length = ps.length → BindsTo s fd ⟨us, ks.zip ws⟩ (ps.zip (g us ws))
  rel : ∀ {vs : List V} {us : List Value} {zs : List V} {ws : List Value}, Vals vs us → Vals zs ws → Vals (gV vs zs) (g us ws)
variable {g : List Value → List Value → List Value} {gV : List V → List V → List V}
end
structure FnScope (N P : List Str) (sc : Scope) : Prop where
  kind : sc.kind = .function
  co : sc.isCoroutine = false
  gen : sc.isGenerator = false
  nd : N.Nodup
  pre : N.take P.length = P
  par : ∀ x ∈ P, sc.names.lookup x = some .local ∨ sc.names.lookup x = some .cell
  nofree : ∀ y ∈ sc.names, y.2 ≠ .free
theorem bindL_out {kindOf : Str → Option NameKind} {x : Str} : ∀ {binds : List (Str × Value)} {m : Str → Option Value}, (∀ v, (x, v) ∉ binds) → bindL kindOf binds m x = m x
  | [], _, _ => rfl
  | (n, v) :: r, m, h => by
    unfold bindL
    rw [bindL_out fun w hw => h w (List.mem_cons_of_mem _ hw)]
    split
    · have : x ≠ n := by rintro rfl; exact h v List.mem_cons_self
      simp [this]
    · rfl
theorem bindC_out {kindOf : Str → Option NameKind} {x : Str} : ∀ {binds : List (Str × Value)} {m : Str → Option Value}, (∀ v, (x, v) ∉ binds) → bindC kindOf binds m x = m x
  | [], _, _ => rfl
  | (n, v) :: r, m, h => by
    unfold bindC
    rw [bindC_out fun w hw => h w (List.mem_cons_of_mem _ hw)]
    split
    · rfl
    · have : x ≠ n := by rintro rfl; exact h v List.mem_cons_self
      simp [this]
theorem bindL_get {kindOf : Str → Option NameKind} {x : Str} {v : Value} : ∀ {P : List Str} {vs : List Value} {i : Nat} {m : Str → Option Value}, P.Nodup → P[i]? = some x → vs[i]? = some v → kindOf x = some .local →
    bindL kindOf (P.zip vs) m x = some v
  | [], _, _, _, _, h, _, _ => by simp at h
  | _ :: _, [], _, _, _, _, h, _ => by simp at h
  | p :: P, w :: vs, 0, m, nd, h1, h2, hk => by
    simp at h1 h2; subst h1; subst h2
    show bindL kindOf ((p, w) :: P.zip vs) m p = _
    unfold bindL
    rw [bindL_out fun v hv => (List.nodup_cons.mp nd).1 (List.of_mem_zip hv).1, if_pos hk]
    simp
  | p :: P, w :: vs, i + 1, m, nd, h1, h2, hk => by
    show bindL kindOf ((p, w) :: P.zip vs) m x = _
    unfold bindL
    exact bindL_get (i := i) (List.nodup_cons.mp nd).2 (by simpa using h1) (by simpa using h2) hk
theorem bindC_get {kindOf : Str → Option NameKind} {x : Str} {v : Value} : ∀ {P : List Str} {vs : List Value} {i : Nat} {m : Str → Option Value}, P.Nodup → P[i]? = some x → vs[i]? = some v → kindOf x ≠ some .local →
    bindC kindOf (P.zip vs) m x = some v
  | [], _, _, _, _, h, _, _ => by simp at h
  | _ :: _, [], _, _, _, _, h, _ => by simp at h
  | p :: P, w :: vs, 0, m, nd, h1, h2, hk => by
    simp at h1 h2; subst h1; subst h2
    show bindC kindOf ((p, w) :: P.zip vs) m p = _
    unfold bindC
    rw [bindC_out fun v hv => (List.nodup_cons.mp nd).1 (List.of_mem_zip hv).1, if_neg hk]
    simp
  | p :: P, w :: vs, i + 1, m, nd, h1, h2, hk => by
    show bindC kindOf ((p, w) :: P.zip vs) m x = _
    unfold bindC
    exact bindC_get (i := i) (List.nodup_cons.mp nd).2 (by simpa using h1) (by simpa using h2) hk
noncomputable def start (N : List Str) (vs : List V) : St := vs.map some ++ List.replicate (N.length - vs.length) none
noncomputable def cxOf (CX : CXT) (P : Program) (w : World) (K : PySem.W.Frag) (mg : Str → Option Value) (base : Heap) (N : List Str) (qual : Str) (scope : Scope) (f : Addr) (cd : Value) (A : Around) (outer : List Env) (s : Shared) (H : Hp) (E : XK) : Cx where
  prog := P
  w := w
  K := K
  mg := mg
  base := base
  A := A.deeper (envOfC qual scope s.heap.objs.size f cd)
  N := N
  s₀ := s
  H₀ := H
  env := envOfC qual scope s.heap.objs.size f cd
  outer := outer
  stack := envOfC qual scope s.heap.objs.size f cd :: outer
  ex := []
  calm := true
  fn := fun _ => true
  pn := []
  xe := fun e s' => wpAny (model P w) (A.deeper (envOfC qual scope s.heap.objs.size f cd)) (leaving (envOfC qual scope s.heap.objs.size f cd) e) (fun _ s'' => CX outer H s E e s'') (fun e' s'' => CX outer H s E e' s'') s'
theorem cell_has {sc : Scope} {n : Nat} {x : Str} (h : sc.names.lookup x = some .cell) : ∃ c, (cellsFrom n sc.names []).lookup x = some c := by
  have q := PySem.W.cellsFrom_some sc.names n [] (.inl h)
  exact Option.isSome_iff_exists.mp q
theorem inv_start {CX : CXT} {P : Program} {w : World} {K : PySem.W.Frag} {mg : Str → Option Value} {base : Heap} {N ps : List Str} {qual : Str} {scope : Scope} {f : Addr} {cd : Value} {A : Around} {outer : List Env} {s s1 : Shared} {H : Hp} {E : XK} {us : List Value} {vs : List V}
    (S : FnScope N ps scope) (hd : A.handled = none) (e0 : Env0 P w K mg base A outer s H) (hl : vs.length = ps.length) (r : Vals vs us)
    (x : InCallC s s.heap.objs.size (bindL (envOfC qual scope s.heap.objs.size f cd).kindOf (ps.zip us) fun _ => none) (cellsFrom (s.heap.objs.size + 1) scope.names []) (bindC (envOfC qual scope s.heap.objs.size f cd).kindOf (ps.zip us) fun _ => none) s1) :
    Inv (cxOf CX P w K mg base N qual scope f cd A outer s H E) [] (start N vs) H s1 := by
  have hpl : ps.length ≤ N.length := by have := congrArg List.length S.pre; rw [List.length_take] at this; omega
  obtain ⟨h1, tk, rfl, hk⟩ := x.done
  have noA : ∀ b : Addr, b ∉ (cxOf CX P w K mg base N qual scope f cd A outer s H E).ex := fun b z => absurd (show b ∈ ([] : List Addr) from z) (by simp)
  refine ⟨⟨e0.mod, S.kind, rfl, rfl, Nat.le_refl _, fun y z c h1 h2 => ?_, fun y hy => ?_, fun y c _ h => ?_, fun _ => hd, Around.frames_deeper e0.frames, .inr ⟨rfl, rfl⟩, fun b z => absurd z (noA b), e0.bs, e0.bsz, fun b _ _ => noA b, fun b z => absurd z (noA b), e0.funs, e0.frf⟩,
    rfl, e0.bare, Un.kept hk, ⟨_, x.toInCall.ns, fun i y v h1 h2 h3 => ?_⟩, fun y c h => ⟨_, x.cell y c h⟩, e0.hok.fresh (Nat.le_refl _), fun y c h => ?_, fun p hp => absurd (show p ∈ ([] : List (Addr × Obj)) from hp) (by simp), e0.hok.kept hk, ?_⟩
  · exact name_of_addr x.apart (PySem.mem_of_lookup h1) (PySem.mem_of_lookup h2)
  · have hy : scope.names.lookup y = some .cell ∨ scope.names.lookup y = some .free := hy
    rcases hy with hy | hy
    · exact cell_has hy
    · exact absurd rfl (S.nofree _ (PySem.mem_of_lookup hy))
  · exact Nat.le_of_lt (x.above y c (PySem.mem_of_lookup h))
  · have hi : i < vs.length := by
      unfold start at h2
      by_cases hi : i < vs.length
      · exact hi
      · rw [List.getElem?_append_right (by simpa using hi)] at h2
        rw [List.getElem?_replicate] at h2
        split at h2 <;> cases h2
    have ha : vs[i]? = some v := by
      unfold start at h2
      rw [List.getElem?_append_left (by simpa using hi), List.getElem?_map] at h2
      cases e : vs[i]? with
      | none => rw [e] at h2; cases h2
      | some a => rw [e] at h2; cases h2; rfl
    obtain ⟨u, hu, rv⟩ := r.get ha
    have hp : ps[i]? = some y := by
      rw [← S.pre, List.getElem?_take_of_lt (by omega)]; exact h1
    have ndP : ps.Nodup := by rw [← S.pre]; exact S.nd.sublist (List.take_sublist _ _)
    refine ⟨u, rv, ?_⟩
    rcases S.par y (List.mem_of_getElem? hp) with k | k
    · exact .inl ⟨k, bindL_get ndP hp hu k⟩
    · obtain ⟨c, e⟩ := cell_has (n := s.heap.objs.size + 1) k
      refine .inr ⟨.inl k, c, e, ?_⟩
      have q := x.cell y c e
      rw [bindC_get ndP hp hu (by show scope.names.lookup y ≠ _; rw [k]; decide)] at q
      exact q
  · exact e0.hok.fresh (Nat.le_of_lt (x.above y c (PySem.mem_of_lookup h)))
  · unfold start
    show _ = N.length
    rw [List.length_append, List.length_map, List.length_replicate]
    omega
theorem fn_of {CX : CXT} {P : Program} {w : World} {K : PySem.W.Frag} {mg : Str → Option Value} {base : Heap} {k : Nat} {f : Addr} {name qual : Str} {params : Arguments} {body : List Stmt} {scope : Scope} {dV kV doc pm cdv ct oc : Value} {an od : Option Addr}
    {osl : Array (Option Value)} {N ps : List Str} {sp : Sp} (lk : K.lookup f = some ⟨oc, od, .func (PySem.W.fnOf name qual params body scope dV kV doc pm an cdv ct), osl⟩) (hcd : PySem.W.codeIn K cdv qual = true) (S : FnScope N ps scope)
    (len : ∀ vs H Q E, sp vs H Q E → vs.length = ps.length)
    (hbody : ∀ (A : Around) (outer : List Env) (s : Shared) (H : Hp) (vs : List V) (Q : VK) (E : XK), Room k (A.deeper (envOfC qual scope s.heap.objs.size f cdv)) → sp vs H Q E →
      ∃ t, PSs (cxOf CX P w K mg base N qual scope f cdv A outer s H E) body t ∧ t { nx := fun _ H' => Q .non H', rt := Q } (start N vs) H) :
    FnOk P w K mg base CX (k + 1) f (PySem.W.fnOf name qual params body scope dV kV doc pm an cdv ct) ps sp := by
  refine ⟨len, fun A outer s H args us vs Q E hr e0 hb r hsp => ?_⟩
  have hl := len _ _ _ _ hsp
  have KX : K.In s.heap := e0.mod.kin.keeps fun b o e => (e0.bs b o e).1
  have lim : s.heap.NoLimit := e0.mod.nolimit.keeps fun b o e => (e0.bs b o e).1
  have hkind : ∀ y ∈ ps.zip us, scope.names.lookup y.1 = some .local ∨ (scope.names.lookup y.1 = some .cell ∧ ((cellsFrom (s.heap.objs.size + 1) scope.names []).lookup y.1).isSome = true) := fun ⟨n, v⟩ hy => by
    rcases S.par n (List.of_mem_zip hy).1 with q | q
    · exact .inl q
    · exact .inr ⟨q, PySem.W.cellsFrom_some _ _ _ (.inl q)⟩
  refine codeAny_call_function hr.depth (KX _ _ lk) rfl S.co S.gen rfl (PySem.W.codeRec_of KX hcd) (hb _ _ _ _ ?_)
  refine wpAny_newFunctionEnv_cells S.kind hkind fun env he s1 x => ?_
  subst he
  refine ⟨lim.keeps x.toInCall.keep, codeAny_func ?_⟩
  obtain ⟨t, ht, hq⟩ := hbody A outer s H vs Q E (hr.deeper _) hsp
  have I : Inv (cxOf CX P w K mg base N qual scope f cdv A outer s H E) [] (start N vs) H s1 := inv_start S hr.hd e0 hl r x
  refine wpAny_mono (ht [] s1 (start N vs) H _ I hq) (fun fl s' hs => ?_) fun e s' hs => hs
  have fin : ∀ {σ' : St} {H' : Hp} {v : V} {u : Value}, Inv (cxOf CX P w K mg base N qual scope f cdv A outer s H E) [] σ' H' s' → RelV v u → Q v H' → CE outer P w H s Q u s' :=
    fun {σ' H' v u} J rv q => ⟨v, H', J.os, J.bare, J.base, J.hok, rv, q⟩
  cases fl with
  | ret u =>
    obtain ⟨v, σ', H', J, rv, q⟩ := hs
    exact fin J rv q
  | next =>
    obtain ⟨σ', H', J, q⟩ := hs
    exact fin (v := V.non) (u := Value.none) J rfl q
  | brk =>
    obtain ⟨_, _, _, q⟩ := hs
    exact False.elim q
  | cont =>
    obtain ⟨_, _, _, q⟩ := hs
    exact False.elim q
end L2
namespace L2
open PySem PySem.Spec PyProof.Rows
section
variable {X : Cx} {x : Str} {p pos : Pos} {e : Expr} {es : List Expr} {t : TA} {id T : String} {r : List V → Hp → VK → Prop}
noncomputable def tCB (r : List V → Hp → VK → Prop) (t : TA) : TE := fun σ H Q => t σ H fun vs H1 => r vs H1 Q
theorem pe_callB (hc : CallR X (.builtin id) r) (hg : Gl X x) (hm : X.mg x = none) (hv : bootBuiltins x = some (.builtin id)) (ha : PA X (e :: es) t) (hn : x ≠ "__name__" := by decide) (hdb : (x == ("__debug__" : Str)) = false := by decide)
    (he : starEach (e :: es) X.env = (false, eval e X.env) :: starEach es X.env := by rfl) (hpl : (backTo pos (starEach es X.env)).any (·.1) = false := by rfl) : PE X (.Call (.Name x p) (e :: es) [] pos) (tCB r t) := by
  intro pins s σ H Q I h
  refine wpAny_Call_Name_kw (ld_blt I hg hm hv ?_ hn hdb)
  exact PyProof.Rows.callWith_builtin1 (thn (ha pos pins s σ H _ I h) fun us s1 ⟨vs, H1, I1, r1, q1⟩ => hc pins s1 σ H1 vs us Q I1 r1 q1) he hpl
theorem pe_callTy (hc : CallR X (.type T) r) (hg : Gl X x) (hm : X.mg x = none) (hv : bootBuiltins x = some (.type T)) (ha : PA X (e :: es) t) (hn : x ≠ "__name__" := by decide) (hdb : (x == ("__debug__" : Str)) = false := by decide)
    (he : starEach (e :: es) X.env = (false, eval e X.env) :: starEach es X.env := by rfl) (hpl : (backTo pos (starEach es X.env)).any (·.1) = false := by rfl) : PE X (.Call (.Name x p) (e :: es) [] pos) (tCB r t) := by
  intro pins s σ H Q I h
  refine wpAny_Call_Name_kw (ld_blt I hg hm hv ?_ hn hdb)
  exact PyProof.Rows.callWith_type1 (thn (ha pos pins s σ H _ I h) fun us s1 ⟨vs, H1, I1, r1, q1⟩ => hc pins s1 σ H1 vs us Q I1 r1 q1) he hpl
end
end L2
namespace HT
open PySem PyProof.Rows
section
open PySem.SeqAt
open PySem.AutoSeq1 (wpAny_loadPart')
open PySem.MeetsSeq PySem.MeetsSeq2 PySem.MeetsSeq3
end
section
variable {prog : Program} {w : World} {A : Around} {E : Value → Shared → Prop} {s : Shared}
noncomputable def sIx (n d : Nat) : Option Int → Nat
  | none => d
  | some v => if v < 0 then (v + (n : Int)).toNat else min v.toNat n
end
end HT
namespace L2
open PySem PySem.Spec PyProof.Rows
abbrev TO := St → Hp → (Option Int → Hp → Prop) → Prop
noncomputable def PO (X : Cx) (e : Option Expr) (t : TO) : Prop :=
  ∀ (pins : List (Addr × Obj)) (s : Shared) (σ : St) (H : Hp) (Q : Option Int → Hp → Prop), Inv X pins σ H s → t σ H Q →
    wpAny (model X.prog X.w) X.A (evalPart e X.env) (fun u s' => ∃ o H', Inv X pins σ H' s' ∧ IsPart u o ∧ Q o H') X.xe s
noncomputable def tNoPart : TO := fun _ H Q => Q none H
noncomputable def tPart (t : TE) : TO := fun σ H Q => t σ H fun x H1 => ∃ i, x = .int i ∧ Q (some i) H1
section
variable {X : Cx} {e : Expr} {te : TE} {lo hi : Option Expr} {tl th : TO} {pos p2 : Pos}
theorem po_none : PO X none tNoPart := by
  intro pins s σ H Q I h
  rw [evalPart_none]
  exact wpAny_pure ⟨none, H, I, .none, h⟩
theorem po_some (h : PE X e te) : PO X (some e) (tPart te) := by
  intro pins s σ H Q I hw
  rw [evalPart_some]
  refine thn (h pins s σ H _ I hw) fun u s1 ⟨x, H1, I1, r1, q1⟩ => ?_
  obtain ⟨i, rfl, q⟩ := q1
  obtain ⟨t, rfl⟩ := r1
  exact ⟨some i, H1, I1, .int i t, q⟩
noncomputable def SlR (X : Cx) (r : V → Option Int → Option Int → Hp → VK → Prop) : Prop :=
  ∀ (pins : List (Addr × Obj)) (s : Shared) (σ : St) (H : Hp) (x : V) (v vl vu : Value) (lo hi : Option Int) (sl : Addr) (Q : VK), Inv X pins σ H s → RelV x v → s.heap.IsSliceOf sl vl vu .none → IsPart vl lo → IsPart vu hi → r x lo hi H Q →
    ∃ T id, typeLookup (.type T) "__getitem__" = pure (some (.builtin id)) ∧ s.TypeIs v T ∧ wpAny (model X.prog X.w) X.A (getItem v (.ref sl)) (EP X pins σ Q) X.xe s
theorem SlR.or {r r' : V → Option Int → Option Int → Hp → VK → Prop} (h : SlR X r) (h' : SlR X r') : SlR X (fun x lo hi H Q => r x lo hi H Q ∨ r' x lo hi H Q) := by
  intro pins s σ H x v vl vu lo hi sl Q I rx hs pl pu q
  rcases q with q | q
  · exact h pins s σ H x v vl vu lo hi sl Q I rx hs pl pu q
  · exact h' pins s σ H x v vl vu lo hi sl Q I rx hs pl pu q
noncomputable def tSl (r : V → Option Int → Option Int → Hp → VK → Prop) (te : TE) (tl th : TO) : TE := fun σ H Q => te σ H fun x H1 => tl σ H1 fun l H2 => th σ H2 fun u H3 => r x l u H3 Q
theorem pe_slice {r : V → Option Int → Option Int → Hp → VK → Prop} (hr : SlR X r) (he : PE X e te) (hl : PO X lo tl) (hu : PO X hi th) : PE X (.Subscript e (.Slice lo hi none p2) pos) (tSl r te tl th) := by
  intro pins s σ H Q I h
  refine Subscript_ (thn (he pins s σ H _ I h) fun v s1 ⟨x, H1, I1, r1, q1⟩ => ?_)
  refine wpAny_Slice (thn (hl pins s1 σ H1 _ I1 q1) fun vl s2 ⟨l, H2, I2, pl, q2⟩ => thn (hu pins s2 σ H2 _ I2 q2) fun vu s3 ⟨u, H3, I3, pu, q3⟩ => ?_)
  rw [evalPart_none]
  refine wpAny_pure ?_
  have I4 : Inv X pins σ H3 { s3 with heap := s3.heap.push { cls := .type "slice", data := .fields #[vl, vu, .none] } } := I3.kept (t' := s3.toks) fun b ob q => Heap.get?_push_of_some _ q
  obtain ⟨T, id, hT, ht, hg⟩ := hr pins { s3 with heap := s3.heap.push { cls := .type "slice", data := .fields #[vl, vu, .none] } } σ H3 x v vl vu l u s3.heap.objs.size Q I4 r1 (Heap.IsSliceOf.new ..) pl pu q3
  show wpAny (model X.prog X.w) X.A (subscriptTail e (.Slice lo hi none p2) v (.ref s3.heap.objs.size)) (EP X pins σ Q) X.xe { s3 with heap := s3.heap.push { cls := .type "slice", data := .fields #[vl, vu, .none] } }
  exact tail_any (ops := [.ref s3.heap.objs.size, v]) ht hT hg (by with_unfolding_all rfl)
noncomputable def cutV (xs : List V) (lo hi : Option Int) : List V := (xs.drop (HT.sIx xs.length 0 lo)).take (HT.sIx xs.length xs.length hi - HT.sIx xs.length 0 lo)
theorem cutV_length (xs : List V) (lo hi : Option Int) : (cutV xs lo hi).length ≤ xs.length := by
  unfold cutV
  rw [List.length_take, List.length_drop]
  omega
end
end L2
namespace L2
open PySem PySem.Spec PyProof.Rows
noncomputable def ixN (n : Nat) (i : Int) : Option Nat := if 0 ≤ i then (if i < n then some i.toNat else none) else if -(n : Int) ≤ i then some (i + n).toNat else none
noncomputable def atI {α : Type} (xs : List α) (i : Int) : Option α := (ixN xs.length i).bind fun j => xs[j]?
theorem ixN_seq {n : Nat} {i : Int} {j : Nat} (h : ixN n i = some j) : seqIndex? i n = some j ∧ j < n ∧ -(n : Int) ≤ i ∧ i < n := by
  unfold ixN at h
  by_cases h0 : 0 ≤ i
  · rw [if_pos h0] at h
    by_cases h1 : i < n
    · rw [if_pos h1] at h
      have e : i.toNat = j := Option.some.inj h
      exact ⟨by rw [seqIndex_of h0 h1, e], by omega, by omega, h1⟩
    · rw [if_neg h1] at h; cases h
  · rw [if_neg h0] at h
    by_cases h1 : -(n : Int) ≤ i
    · rw [if_pos h1] at h
      have e : (i + n).toNat = j := Option.some.inj h
      exact ⟨by rw [seqIndex_neg (by omega) h1, e], by omega, h1, by omega⟩
    · rw [if_neg h1] at h; cases h
theorem atI_get {α : Type} {xs : List α} {i : Int} {v : α} (h : atI xs i = some v) : ∃ j, seqIndex? i xs.length = some j ∧ xs[j]? = some v ∧ j < xs.length ∧ -(xs.length : Int) ≤ i ∧ i < xs.length := by
  unfold atI at h
  cases e : ixN xs.length i with
  | none => rw [e] at h; cases h
  | some j =>
    rw [e] at h
    obtain ⟨h1, h2, h3, h4⟩ := ixN_seq e
    exact ⟨j, h1, h, h2, h3, h4⟩
theorem atI_nat {α : Type} {xs : List α} {j : Nat} {v : α} (h : xs[j]? = some v) : atI xs (j : Int) = some v := by
  have hj : j < xs.length := (List.getElem?_eq_some_iff.mp h).1
  have e : ixN xs.length (j : Int) = some j := by
    unfold ixN
    rw [if_pos (by omega), if_pos (by omega)]; simp
  unfold atI; rw [e]; exact h
noncomputable def PlainIx (b : Expr) : Prop := ∀ o i, subscripted b false o i = operate [o, i] (getItem o i)
noncomputable def IxR (X : Cx) (r : R2) : Prop :=
  ∀ (value slice : Expr) (pins : List (Addr × Obj)) (s : Shared) (σ : St) (H : Hp) (x y : V) (v u : Value) (Q : VK), Inv X pins σ H s → RelV x v → RelV y u → r x y H Q →
    subscripted slice false v u = operate [v, u] (getItem v u) → wpAny (model X.prog X.w) X.A (subscriptTail value slice v u) (EP X pins σ Q) X.xe s
noncomputable def MtR (X : Cx) (id : String) (r : V → List V → Hp → VK → Prop) : Prop :=
  ∀ (pins : List (Addr × Obj)) (s : Shared) (σ : St) (H : Hp) (x : V) (xs : List V) (v : Value) (us : List Value) (Q : VK), Inv X pins σ H s → RelV x v → Vals xs us → r x xs H Q →
    wpAny (model X.prog X.w) X.A (call (.builtin id) (v :: us)) (EP X pins σ Q) X.xe s
section
variable {X : Cx} {a b : Expr} {ta tb : TE} {pos : Pos}
theorem IxR.or {r r' : R2} (h : IxR X r) (h' : IxR X r') : IxR X (fun x y H Q => r x y H Q ∨ r' x y H Q) := by
  intro value slice pins s σ H x y v u Q I rx ry q hs
  rcases q with q | q
  · exact h value slice pins s σ H x y v u Q I rx ry q hs
  · exact h' value slice pins s σ H x y v u Q I rx ry q hs
theorem MtR.or {id : String} {r r' : V → List V → Hp → VK → Prop} (h : MtR X id r) (h' : MtR X id r') : MtR X id (fun x xs H Q => r x xs H Q ∨ r' x xs H Q) := by
  intro pins s σ H x xs v us Q I rx rs q
  rcases q with q | q
  · exact h pins s σ H x xs v us Q I rx rs q
  · exact h' pins s σ H x xs v us Q I rx rs q
theorem pe_ix {r : R2} (hr : IxR X r) (ha : PE X a ta) (hb : PE X b tb) (hs : PlainIx b) : PE X (.Subscript a b pos) (tOp r ta tb) := by
  intro pins s σ H Q I h
  exact Subscript_ (binT ha hb I h fun v u s2 x y H2 I2 rx ry q => hr a b pins s2 σ H2 x y v u Q I2 rx ry q (hs _ _))
noncomputable def rIxL (K : PySem.W.Frag) : R2 := fun x y H Q => ∃ p xs i v, x = .ref p ∧ y = .int i ∧ SqL K H p xs ∧ atI xs i = some v ∧ Q v H
noncomputable def rIxT (K : PySem.W.Frag) : R2 := fun x y H Q => ∃ p xs i v, x = .ref p ∧ y = .int i ∧ SqT K H p xs ∧ atI xs i = some v ∧ Q v H
noncomputable def rIxS : R2 := fun x y H Q => ∃ z i c, x = .str z ∧ y = .int i ∧ z.length ≤ sizeLine ∧ atI z.cps.toList i = some c ∧ Q (.str ⟨#[c]⟩) H
theorem ix_list : IxR X (rIxL X.K) := by
  intro value slice pins s σ H x y v u Q I rx ry h hs
  obtain ⟨p, xs, i, z, rfl, rfl, hq, he, q⟩ := h
  cases rx
  obtain ⟨t, rfl⟩ := ry
  obtain ⟨its, r, pl, hz⟩ := I.list hq
  obtain ⟨j, h1, h2, h3, h4, h5⟩ := atI_get he
  obtain ⟨w, ew, rw'⟩ := r.get h2
  have hl := r.length
  have hn := line63
  have fin : EP X pins σ Q w s := ⟨z, H, I, rw', q⟩
  by_cases h0 : 0 ≤ i
  · have hj : i.toNat = j := by
      rw [seqIndex_of h0 h5] at h1
      exact Option.some.inj h1
    exact item_listR pl.isList h0 (by omega) (by rw [hj]; simpa using ew) fin hs
  · have hj : (i + (its.toArray.size : Int)).toNat = j := by
      rw [seqIndex_neg (by omega) h4] at h1
      rw [List.size_toArray, ← hl]
      exact Option.some.inj h1
    exact subscriptTail_builtinR (x := w) pl.isList.typeIs slot_list_getitem.lookup
      (wpAny_getItem_list_neg (Q := fun r s' => r = w ∧ EP X pins σ Q r s') pl.isList (by omega) (by rw [List.size_toArray] <;> omega) (by omega) (by rw [hj]; simpa using ew) ⟨rfl, fin⟩) hs
theorem ix_tup : IxR X (rIxT X.K) := by
  intro value slice pins s σ H x y v u Q I rx ry h hs
  obtain ⟨p, xs, i, z, rfl, rfl, hq, he, q⟩ := h
  cases rx
  obtain ⟨t, rfl⟩ := ry
  obtain ⟨its, r, pl, hz⟩ := I.tuple hq
  obtain ⟨j, h1, h2, h3, h4, h5⟩ := atI_get he
  obtain ⟨w, ew, rw'⟩ := r.get h2
  have hl := r.length
  have hn := line63
  have fin : EP X pins σ Q w s := ⟨z, H, I, rw', q⟩
  exact subscriptTail_builtinR (x := w) pl.typeIs slot_tuple_getitem.lookup
    (getItem_tuple (j := j) (Q := fun r s' => r = w ∧ EP X pins σ Q r s') pl (by omega) (by omega) (by rw [List.size_toArray, ← hl]; exact h1) (by simpa using ew) ⟨rfl, fin⟩) hs
theorem ix_str : IxR X rIxS := by
  intro value slice pins s σ H x y v u Q I rx ry h hs
  obtain ⟨z, i, c, rfl, rfl, hz, he, q⟩ := h
  obtain ⟨t, rfl⟩ := rx
  obtain ⟨t', rfl⟩ := ry
  obtain ⟨j, h1, h2, h3, h4, h5⟩ := atI_get he
  have hl : z.cps.toList.length = z.length := by simp [Str.length]
  rw [hl] at h1 h4 h5
  have hn := line63
  exact tail_any (typeIs_str s z t) slot_str_getitem.lookup (getItem_str (c := c) (by
    have e1 : decide (i < -(2 ^ 63 : Int)) = false := decide_eq_false (by omega)
    have e2 : decide (i ≥ 2 ^ 63) = false := decide_eq_false (by omega)
    rw [e1, e2, Bool.or_false]) (by rw [h1]; simpa using h2) ⟨.str ⟨#[c]⟩, H, I.tok _, ⟨_, rfl⟩, q⟩) hs
theorem Inv.lst {pins : List (Addr × Obj)} {σ : St} {H : Hp} {s : Shared} {p : Addr} {xs : List V} (I : Inv X pins σ H s) (h : H p = some (.lst xs)) :
    ∃ (its : List Value) (n : Nat), Vals xs its ∧ s.heap.get? p = some { cls := .type "list", data := .seq its.toArray n } ∧ xs.length ≤ sizeLine := by
  obtain ⟨z, its, n, r, e⟩ := I.hok p _ h
  exact ⟨its, n, r, e, z⟩
theorem slice_bounds (lo hi : Option Int) (n : Nat) : (sliceBounds lo hi none n).1 = ((HT.sIx n 0 lo : Nat) : Int) ∧ (sliceBounds lo hi none n).2.1 = ((HT.sIx n n hi : Nat) : Int) ∧ (sliceBounds lo hi none n).2.2 = 1 := by
  refine ⟨?_, ?_, rfl⟩
  · cases lo with
    | none => simp [sliceBounds, HT.sIx]
    | some i =>
      simp only [sliceBounds, HT.sIx, Option.getD_none, show (1 : Int) > 0 by decide, if_true]
      by_cases h : i < 0
      · simp only [h, if_true] <;> omega
      · simp only [h, if_false] <;> omega
  · cases hi with
    | none => simp [sliceBounds, HT.sIx]
    | some i =>
      simp only [sliceBounds, HT.sIx, Option.getD_none, show (1 : Int) > 0 by decide, if_true]
      by_cases h : i < 0
      · simp only [h, if_true] <;> omega
      · simp only [h, if_false] <;> omega
theorem slicePick_cut (its : List Value) (lo hi : Option Int) : slicePick its.toArray lo hi none = ((its.drop (HT.sIx its.length 0 lo)).take (HT.sIx its.length its.length hi - HT.sIx its.length 0 lo)).toArray := by
  obtain ⟨h1, h2, h3⟩ := slice_bounds lo hi its.toArray.size
  unfold slicePick
  rw [h1, h2, h3]
  simp only [sliceRange_one, pick_run, List.size_toArray] <;> rfl
noncomputable def rSlL (K : PySem.W.Frag) : V → Option Int → Option Int → Hp → VK → Prop := fun x lo hi H Q => ∃ a xs, x = .ref a ∧ SqL K H a xs ∧ ∀ p, H p = none → Q (.ref p) (upd H p (.lst (cutV xs lo hi)))
theorem sl_list : SlR X (rSlL X.K) := by
  intro pins s σ H x v vl vu lo hi sl Q I rx hs pl pu h
  obtain ⟨a, xs, rfl, hx, q⟩ := h
  cases rx
  obtain ⟨its, r, ht, hz⟩ := I.list hx
  have hlen := r.length
  refine ⟨"list", _, slot_list_getitem.lookup, ht.isList.typeIs, ?_⟩
  refine wpAny_getItem_list_slice ht.isList hs pl pu .none (by simp) ?_ (by rw [List.size_toArray] <;> omega)
  rw [slicePick_cut, ← hlen]
  refine ⟨.ref s.heap.objs.size, _, I.laid (t' := s.toks) (o := .lst (cutV xs lo hi)) (fun b ob q => Heap.get?_push_of_some _ q) (Nat.le_refl _) ?_, rfl, q _ (I.hok.fresh (Nat.le_refl _))⟩
  exact ⟨Nat.le_trans (cutV_length xs lo hi) hz, _, 0, (r.drop (HT.sIx xs.length 0 lo)).take (HT.sIx xs.length xs.length hi - HT.sIx xs.length 0 lo), Heap.get?_push_size _ rfl⟩
noncomputable def flatV : V → Bool
  | .non => true
  | .bl _ => true
  | .int _ => true
  | .str _ => true
  | _ => false
noncomputable def eqV : V → V → Bool
  | .non, .non => true
  | .bl a, .bl b => a == b
  | .bl a, .int b => (if a then 1 else 0) == b
  | .int a, .bl b => a == (if b then 1 else 0)
  | .int a, .int b => a == b
  | .str a, .str b => a == b
  | _, _ => false
theorem eqAt_V {A : Around} {s : Shared} {y x : V} {u v : Value} (ry : RelV y u) (rx : RelV x v) (fy : flatV y = true) (fx : flatV x = true) : SeqAt.EqAt A s u v (eqV y x) := by
  cases y with
  | non =>
    cases ry
    cases x with
    | non => cases rx; exact SeqAt.EqAt.same _
    | bl b => cases rx; exact SeqAt.EqAt.none_bool b
    | int b => obtain ⟨t, rfl⟩ := rx; exact SeqAt.EqAt.none_int b t
    | str b => obtain ⟨t, rfl⟩ := rx; exact SeqAt.EqAt.none_str b t
    | _ => exact absurd (show false = true from fx) Bool.false_ne_true
  | bl a =>
    cases ry
    cases x with
    | non => cases rx; exact SeqAt.EqAt.bool_none a
    | bl b => cases rx; exact SeqAt.EqAt.bool_bool a b
    | int b => obtain ⟨t, rfl⟩ := rx; exact SeqAt.EqAt.bool_int a b t
    | str b => obtain ⟨t, rfl⟩ := rx; exact SeqAt.EqAt.bool_str a b t
    | _ => exact absurd (show false = true from fx) Bool.false_ne_true
  | int a =>
    obtain ⟨t', rfl⟩ := ry
    cases x with
    | non => cases rx; exact SeqAt.EqAt.int_none a t'
    | bl b => cases rx; exact SeqAt.EqAt.int_bool a t' b
    | int b => obtain ⟨t, rfl⟩ := rx; exact SeqAt.EqAt.int_int a t' b t
    | str b => obtain ⟨t, rfl⟩ := rx; exact SeqAt.EqAt.int_str a t' b t
    | _ => exact absurd (show false = true from fx) Bool.false_ne_true
  | str a =>
    obtain ⟨t', rfl⟩ := ry
    cases x with
    | non => cases rx; exact SeqAt.EqAt.str_none a t'
    | bl b => cases rx; exact SeqAt.EqAt.str_bool a t' b
    | int b => obtain ⟨t, rfl⟩ := rx; exact SeqAt.EqAt.str_int a t' b t
    | str b => obtain ⟨t, rfl⟩ := rx; exact SeqAt.EqAt.str_str a t' b t
    | _ => exact absurd (show false = true from fx) Bool.false_ne_true
  | _ => exact absurd (show false = true from fy) Bool.false_ne_true
noncomputable def eqU (x : V) (u : Value) : Bool := match u with
  | .none => eqV .non x
  | .bool b => eqV (.bl b) x
  | .int i _ => eqV (.int i) x
  | .str z _ => eqV (.str z) x
  | _ => false
theorem eqU_of {x y : V} {u : Value} (r : RelV y u) (f : flatV y = true) : eqU x u = eqV y x := by
  cases y with
  | non => cases r; rfl
  | bl b => cases r; rfl
  | int i => obtain ⟨t, rfl⟩ := r; rfl
  | str z => obtain ⟨t, rfl⟩ := r; rfl
  | _ => exact absurd (show false = true from f) Bool.false_ne_true
theorem any_eqU {x : V} : ∀ {xs : List V} {us : List Value}, Vals xs us → xs.all flatV = true → us.any (eqU x) = xs.any fun y => eqV y x
  | _, _, .nil, _ => rfl
  | y :: xs, u :: us, .cons r t, f => by
    rw [List.all_cons, Bool.and_eq_true] at f
    rw [List.any_cons, List.any_cons, eqU_of r f.1, any_eqU t f.2]
theorem mem_eqAt {A : Around} {s : Shared} {x : V} {v : Value} (rx : RelV x v) (fx : flatV x = true) : ∀ {xs : List V} {us : List Value}, Vals xs us → xs.all flatV = true → ∀ u ∈ us, SeqAt.EqAt A s u v (eqU x u)
  | _, _, .nil, _ => fun u hu => by cases hu
  | y :: xs, u :: us, .cons r t, f => fun u' hu => by
    rw [List.all_cons, Bool.and_eq_true] at f
    rcases List.mem_cons.mp hu with rfl | hu
    · rw [eqU_of r f.1]; exact eqAt_V r rx f.1 fx
    · exact mem_eqAt rx fx t f.2 u' hu
noncomputable def inV (x : V) (xs : List V) : Bool := xs.any fun y => eqV y x
noncomputable def rIn (K : PySem.W.Frag) (neg : Bool) : R2 := fun x y H Q => ∃ p xs, y = .ref p ∧ (SqL K H p xs ∨ SqT K H p xs) ∧ flatV x = true ∧ xs.all flatV = true ∧ Q (.bl (if neg then !inV x xs else inV x xs)) H
theorem op_in_seq : OpR X (compareOp .In) (rIn X.K false) := by
  intro pins s σ H x y v u Q I rx ry h
  obtain ⟨p, xs, rfl, hq, fx, fs, q⟩ := h
  cases ry
  rcases hq with hq | hq
  · obtain ⟨its, r, pl, hz⟩ := I.list hq
    refine SeqAt.in_listAt (eqU x) pl.isList (fun w hw => mem_eqAt rx fx r fs w (by simpa using hw)) ⟨.bl _, H, I, rfl, ?_⟩
    rw [show its.toArray.any (eqU x) = its.any (eqU x) by simp, any_eqU r fs]
    exact q
  · obtain ⟨its, r, pl, hz⟩ := I.tuple hq
    refine SeqAt.in_tupleAt (eqU x) pl (fun w hw => mem_eqAt rx fx r fs w (by simpa using hw)) ⟨.bl _, H, I, rfl, ?_⟩
    rw [show its.toArray.any (eqU x) = its.any (eqU x) by simp, any_eqU r fs]
    exact q
theorem call_len_seq : CallR X (.builtin "len") (fun xs H Q => ∃ p ys, xs = [.ref p] ∧ (SqL X.K H p ys ∨ SqT X.K H p ys) ∧ Q (.int ys.length) H) := by
  intro pins s σ H xs us Q I r h
  obtain ⟨p, ys, rfl, hq, q⟩ := h
  obtain ⟨u, rfl, rx⟩ := vals1 r
  cases rx
  have hn := line63
  rcases hq with hq | hq
  · obtain ⟨its, r', pl, hz⟩ := I.list hq
    have hlen := r'.length
    exact Calls.call_len_list pl.isList (by simp only [List.size_toArray] <;> omega) ⟨.int ys.length, H, I.tok _, ⟨s.toks + 1, by rw [List.size_toArray, hlen]⟩, q⟩
  · obtain ⟨its, r', pl, hz⟩ := I.tuple hq
    have hlen := r'.length
    exact len_tuple pl (by simp only [List.size_toArray] <;> omega) ⟨.int ys.length, H, I.tok _, ⟨s.toks + 1, by rw [List.size_toArray, hlen]⟩, q⟩
theorem call_len_str : CallR X (.builtin "len") (fun xs H Q => ∃ z, xs = [.str z] ∧ z.length ≤ sizeLine ∧ Q (.int z.length) H) := by
  intro pins s σ H xs us Q I r h
  obtain ⟨z, rfl, hz, q⟩ := h
  obtain ⟨u, rfl, t, rfl⟩ := vals1 r
  have hn := line63
  exact len_str (by omega) ⟨.int z.length, H, I.tok _, ⟨_, rfl⟩, q⟩
theorem CallR.or {f : Value} {r r' : List V → Hp → VK → Prop} (h : CallR X f r) (h' : CallR X f r') : CallR X f (fun xs H Q => r xs H Q ∨ r' xs H Q) := by
  intro pins s σ H xs us Q I rs q
  rcases q with q | q
  · exact h pins s σ H xs us Q I rs q
  · exact h' pins s σ H xs us Q I rs q
noncomputable def tyV (K : PySem.W.Frag) (T : String) (x : V) (H : Hp) : Prop := match x with
  | .str _ => T = "str"
  | .int _ => T = "int"
  | .ref p => (T = "list" ∧ ∃ xs, SqL K H p xs) ∨ (T = "tuple" ∧ ∃ o, K.lookup p = some o ∧ o.cls = .type "tuple" ∧ o.dict = none) ∨
      (T = "dict" ∧ ((∃ kvs, H p = some (.dK kvs)) ∨ ∃ kvs, H p = some (.dT kvs))) ∨ (T = "set" ∧ ∃ S n, H p = some (.set S n))
  | _ => False
theorem tyV_is {pins : List (Addr × Obj)} {σ : St} {H : Hp} {s : Shared} {T : String} {x : V} {v : Value} (I : Inv X pins σ H s) (r : RelV x v) (ty : tyV X.K T x H) :
    s.TypeIs v T ∧ ∀ a, v = .ref a → ∃ ob, s.heap.get? a = some ob ∧ ob.dict = none := by
  cases x with
  | str z =>
    obtain ⟨t, rfl⟩ := r
    cases (show T = "str" from ty)
    exact ⟨typeIs_str s z t, fun _ e => nomatch e⟩
  | int i =>
    obtain ⟨t, rfl⟩ := r
    cases (show T = "int" from ty)
    exact ⟨typeIs_int s i t, fun _ e => nomatch e⟩
  | ref p =>
    cases r
    rcases ty with ⟨rfl, xs, hq⟩ | ⟨rfl, o, hk, hc, hd⟩ | ⟨rfl, hk⟩ | ⟨rfl, S, n, hk⟩
    · obtain ⟨its, _, pl, _⟩ := I.list hq
      refine ⟨pl.isList.typeIs, fun a e => ?_⟩
      cases e
      obtain ⟨o, n, e, c, hd, _⟩ := pl
      exact ⟨o, e, hd⟩
    · refine ⟨⟨o, I.kIn p o hk, hc⟩, fun a e => ?_⟩
      cases e
      exact ⟨o, I.kIn _ o hk, hd⟩
    · have z : ∃ o, s.heap.get? p = some o ∧ o.ExactDict := by
        rcases hk with ⟨kvs, hk⟩ | ⟨kvs, hk⟩
        · obtain ⟨_, _, _, _, o, _, _, e, ex, _⟩ := I.hok p _ hk
          exact ⟨o, e, ex⟩
        · obtain ⟨_, _, _, _, o, _, _, e, ex, _⟩ := I.hok p _ hk
          exact ⟨o, e, ex⟩
      obtain ⟨o, e, ex⟩ := z
      refine ⟨⟨o, e, ex.1⟩, fun a e2 => ?_⟩
      cases e2
      exact ⟨o, e, ex.2.1⟩
    · obtain ⟨o, _, _, _, e, ex, _⟩ := I.hok p _ hk
      refine ⟨⟨o, e, ex.1⟩, fun a e2 => ?_⟩
      cases e2
      exact ⟨o, e, ex.2.1⟩
  | _ => exact False.elim ty
noncomputable def tBM0 (K : PySem.W.Frag) (T : String) (r : V → List V → Hp → VK → Prop) (to : TE) : TE := fun σ H Q => to σ H fun x H1 => tyV K T x H1 ∧ r x [] H1 Q
noncomputable def tBM (K : PySem.W.Frag) (T : String) (r : V → List V → Hp → VK → Prop) (to : TE) (t : TA) : TE := fun σ H Q => to σ H fun x H1 => tyV K T x H1 ∧ t σ H1 fun xs H2 => r x xs H2 Q
variable {o e : Expr} {es : List Expr} {to : TE} {t : TA} {name : Str} {apos cpos : Pos} {T id : String} {r : V → List V → Hp → VK → Prop}
theorem pe_bm0 (pa : PlainAttrs T) (slot : Slot T name id) (hty : typeOf (.builtin id) = pure (.type "method_descriptor")) (hm : MtR X id r) (ho : PE X o to)
    (hbase : attributeBase o name X.env (eval o X.env) = eval o X.env := by rfl) (hline : (apos.endLine == cpos.line) = true := by rfl) : PE X (.Call (.Attribute o name apos) [] [] cpos) (tBM0 X.K T r to) := by
  intro pins s σ H Q I h
  refine wpAny_Call_method0_late hbase hline (thn (ho pins s σ H _ I h) fun v s1 ⟨x, H1, I1, r1, ty, q1⟩ => ?_)
  obtain ⟨h1, h2⟩ := tyV_is I1 r1 ty
  exact ⟨T, id, pa, slot, hty, h1, h2, Calls.callWith_builtin rfl (PySem.evalArgs_none (hm pins s1 σ H1 x [] v [] Q I1 r1 .nil q1))⟩
theorem pe_bm (pa : PlainAttrs T) (slot : Slot T name id) (hty : typeOf (.builtin id) = pure (.type "method_descriptor")) (hm : MtR X id r) (ho : PE X o to) (ha : PA X (e :: es) t)
    (hbase : attributeBase o name X.env (eval o X.env) = eval o X.env := by rfl)
    (hfew : ((backTo cpos (starEach (e :: es) X.env)).all (fun x => !x.1) && (backToKw cpos (keywordEach [] X.env)).all (fun x => x.1.isSome)
      && decide ((e :: es).length + ([] : List Keyword).length + (if ([] : List Keyword).isEmpty then 0 else 1) < 30)) = true := by rfl)
    (hline : (apos.endLine == cpos.line) = true := by rfl) (hs : starEach (e :: es) X.env = (false, eval e X.env) :: starEach es X.env := by rfl) (hplain : (backTo cpos (starEach es X.env)).any (·.1) = false := by rfl) :
    PE X (.Call (.Attribute o name apos) (e :: es) [] cpos) (tBM X.K T r to t) := by
  intro pins s σ H Q I h
  refine wpAny_Call_method_late hbase hfew hline rfl (thn (ho pins s σ H _ I h) fun v s1 ⟨x, H1, I1, r1, ty, q1⟩ => ?_)
  obtain ⟨h1, h2⟩ := tyV_is I1 r1 ty
  refine ⟨T, id, pa, slot, hty, h1, h2, ?_⟩
  have hA := ha cpos pins s1 σ H1 _ I1 q1
  rw [hs] at hA ⊢
  refine Calls.callWith_builtin (by show (false || (backTo cpos (starEach es X.env)).any (·.1)) = false; rw [hplain] <;> rfl) (Calls.evalArgs_plain ?_)
  exact thn hA fun us s2 ⟨vs, H2, I2, r2, q2⟩ => hm pins s2 σ H2 x vs v us Q I2 r1 r2 q2
end
end L2
namespace L2
open PySem PySem.Spec PyProof.Rows
noncomputable def MtM (X : Cx) (id : String) (r : V → List V → Hp → VK → Prop) : Prop :=
  ∀ (pins : List (Addr × Obj)) (s : Shared) (σ : St) (H : Hp) (x : V) (xs : List V) (v : Value) (us : List Value) (Q : VK), Inv X pins σ H s → RelV x v → Vals xs us → r x xs H Q →
    wpAny (model X.prog X.w) X.A (call (.builtin id) (v :: us)) (EP X pins σ Q) X.xe s
theorem Vals.one : ∀ {x : V} {us : List Value}, Vals [x] us → ∃ u, us = [u] ∧ RelV x u
  | _, _, .cons r .nil => ⟨_, rfl, r⟩
theorem Vals.zero : ∀ {us : List Value}, Vals [] us → us = []
  | _, .nil => rfl
section
variable {X : Cx} {pins : List (Addr × Obj)} {σ : St} {H : Hp} {s : Shared} {l b : Addr} {xs ys zs : List V}
theorem Inv.lset {its its' : List Value} {n : Nat} {f : Array Value → Array Value} {t' : Nat} (I : Inv X pins σ H s) (hH : H l = some (.lst xs))
    (e : s.heap.get? l = some { cls := .type "list", data := .seq its.toArray n }) (hf : f its.toArray = its'.toArray) (hv : Vals ys its') (hz : ys.length ≤ sizeLine) :
    Inv X pins σ (upd H l (.lst ys)) { s with heap := s.heap.update l (Obj.mapSeq f), toks := t' } := by
  have q := PySem.IsL.update e f
  rw [hf] at q
  refine I.write (x := l) (e := l) (by rw [hH]; exact trivial) (.inl rfl) (fun b' u hb hu => (Heap.get?_update_other s.heap (Obj.mapSeq f) (Ne.symm hb)).trans hu) ⟨_, q⟩ ?_
  exact ⟨hz, its', _, hv, q⟩
theorem Inv.lnew {its : List Value} {t' : Nat} (I : Inv X pins σ H s) (hv : Vals ys its) (hz : ys.length ≤ sizeLine) :
    Inv X pins σ (upd H s.heap.objs.size (.lst ys)) { s with heap := s.heap.push { cls := .type "list", data := .seq its.toArray }, toks := t' } :=
  I.laid (fun _ _ q => Heap.get?_push_of_some _ q) (Nat.le_refl _) ⟨hz, its, 0, hv, Heap.get?_push_size _ rfl⟩
theorem Inv.fresh (I : Inv X pins σ H s) : H s.heap.objs.size = none := I.hok.fresh (Nat.le_refl _)
theorem Inv.lstM (I : Inv X pins σ H s) (hH : H l = some (.lst xs)) : xs.length ≤ sizeLine ∧ ∃ (its : List Value) (n : Nat), Vals xs its ∧ xs.length = its.length ∧ s.heap.get? l = some { cls := .type "list", data := .seq its.toArray n } := by
  obtain ⟨z, its, n, r, e⟩ := I.hok l _ hH
  exact ⟨z, its, n, r, r.length, e⟩
end
section
variable {X : Cx}
noncomputable def rAppend : V → List V → Hp → VK → Prop := fun x vs H Q => ∃ l xs y, x = .ref l ∧ vs = [y] ∧ H l = some (.lst xs) ∧ xs.length < sizeLine ∧ Q .non (upd H l (.lst (xs ++ [y])))
theorem mt_append : MtM X "list.append" rAppend := by
  intro pins s σ H x vs v us Q I rx rv h
  obtain ⟨l, xs, y, rfl, rfl, hH, hz, q⟩ := h
  cases rx
  obtain ⟨u, rfl, ru⟩ := rv.one
  obtain ⟨z, its, n, r, hl, e⟩ := I.lstM hH
  refine call_meets F.slot_list_append ⟨_, e, rfl⟩ F.entry_list_append (F.args_list_append_2 _ _) (PySem.list_append l its.toArray n u (by rw [List.size_toArray]; omega)) ⟨e, ?_⟩
  refine ⟨.non, _, I.lset (its' := its ++ [u]) hH e (by simp) (r.append (.cons ru .nil)) ?_, rfl, q⟩
  rw [List.length_append, List.length_singleton]
  omega
noncomputable def rCat : R2 := fun x y H Q => ∃ l b xs zs, x = .ref l ∧ y = .ref b ∧ H l = some (.lst xs) ∧ H b = some (.lst zs) ∧ xs.length + zs.length ≤ sizeLine ∧ ∀ p, H p = none → Q (.ref p) (upd H p (.lst (xs ++ zs)))
theorem op_cat : OpR X (binaryOp .Add) rCat := by
  intro pins s σ H x y v u Q I rx ry h
  obtain ⟨l, b, xs, zs, rfl, rfl, hH, hB, hz, q⟩ := h
  cases rx
  cases ry
  obtain ⟨z, its, n, r, hl, e⟩ := I.lstM hH
  obtain ⟨z2, its2, n2, r2, hl2, e2⟩ := I.lstM hB
  refine PySem.P.add_list e e2 ?_ (by rw [List.size_toArray, List.size_toArray]; omega)
  have ea : its.toArray ++ its2.toArray = (its ++ its2).toArray := by simp
  rw [ea]
  exact ⟨.ref _, _, I.lnew (t' := s.toks) (r.append r2) (by rw [List.length_append]; omega), rfl, q _ I.fresh⟩
end
section
variable {prog : Program} {w : World} {A : Around} {E : Value → Shared → Prop} {s : Shared}
end
section
variable {X : Cx}
end
end L2
namespace Att
open PySem PySem.W PySem.Calls PyProof.Rows
theorem ints_of_wellAll {P : Params} {h : Heap} : ∀ (ns : List Int) (vs : List Value), WellAll P h vs (ns.map WData.int) → IntsAre vs ns := by
  intro ns
  induction ns with
  | nil =>
    intro vs w
    rw [List.map_nil] at w
    cases w
    exact .nil
  | cons n ns ih =>
    intro vs w
    rw [List.map_cons] at w
    cases w with
    | cons a b =>
      cases a
      exact .cons _ _ (ih _ b)
theorem script_of {l : OpenLaw} {n : Nat} (hn : l.most = some n) {P : Params} {h : Heap} {args : List WData} {vals : List Value}
    (hpre : l.row.toRowW.claim.pre args = true) (hwl : WellAll P h vals args) :
    ∃ a vs ns, vals = [Value.ref a] ∧ args = [WData.list (ns.map WData.int)] ∧ h.get? a = some { cls := .type "list", data := .seq vs.toArray } ∧ IntsAre vs ns ∧ ns.length ≤ n := by
  have hsh : WShape.hasAll [] args [.list .int] = true := (pre_splitW hpre).1
  have hc : l.pre.holds [] { args := args } = true := (pre_splitW hpre).2
  obtain ⟨d, r, rfl, h1, h2⟩ := hasAllW_cons hsh
  obtain rfl := hasAllW_nil h2
  obtain ⟨xs, rfl, h3⟩ := hasW_list h1
  obtain ⟨ns, rfl⟩ := items_int h3
  have hlen : ns.length ≤ n := by
    unfold OpenLaw.pre at hc
    have h4 : (WTm.not (.lt (.lit (.int (n : Int))) (.len (.arg 0)))).holds [] { args := [.list (ns.map .int)] } = true := by
      have h4 := (holds_andW hc).1
      rw [hn] at h4
      exact h4
    have h5 := condW_of h4 (w_not (w_lt w_lit (w_len_list (w_arg rfl))))
    rw [List.length_map] at h5
    refine Nat.le_of_not_lt fun q => ?_
    have q' : (n : Int) < ((ns.length : Nat) : Int) := by omega
    first
      | (rw [decide_eq_true q'] at h5; exact absurd h5 (by decide))
      | (simp at h5; omega)
  cases hwl with
  | cons w1 w2 =>
    cases w2
    cases w1 with
    | list ho hall => exact ⟨_, _, ns, rfl, rfl, ho, ints_of_wellAll ns _ hall, hlen⟩
theorem post_true (l : OpenLaw) (args : List WData) : l.row.toRowW.claim.post args (.bool true) args = true :=
  postW_of (r := l.row.toRowW) (X := (true == true))
    (show WShape.has [] (.bool true) .bool = true by first | rfl | decide | simp [WShape.has, WShape.arms, WShape.armsAll])
    (show (WTm.eq .res (.lit (.bool true))).value [] { args := args, res := some (.bool true), after := args } = some (.bool (true == true)) from w_eq_bool (w_res rfl) w_lit) rfl
theorem lay_bits {ns : List Int} (h : WData.layableAll [WData.list (ns.map WData.int)] = true) : ∀ x ∈ ns, Builtin.Int.intBits x ≤ 1048576 := by
  have h1 : WData.layable (WData.list (ns.map WData.int)) = true := by
    have h' : (WData.layable (WData.list (ns.map WData.int)) && true) = true := h
    rwa [Bool.and_true] at h'
  unfold WData.layable at h1
  rw [Bool.and_eq_true] at h1
  have h2 := of_decide_eq_true h1.2
  have h3 : WData.weightAll (ns.map WData.int) ≤ 2 ^ 20 := by
    have e : WData.weight (WData.list (ns.map WData.int)) = WData.weightAll (ns.map WData.int) := by simp only [WData.weight]
    rwa [e] at h2
  have h4 : ∀ (l : List Int), ∀ x ∈ l, WData.weight (WData.int x) ≤ WData.weightAll (l.map WData.int) := by
    intro l
    induction l with
    | nil => intro x hx; cases hx
    | cons y r ih =>
      intro x hx
      have e : WData.weightAll ((y :: r).map WData.int) = WData.weight (WData.int y) + 1 + WData.weightAll (r.map WData.int) := by
        rw [List.map_cons]; simp only [WData.weightAll]
      rw [e]
      rcases List.mem_cons.mp hx with z | z
      · subst z; omega
      · have := ih x z; omega
  intro x hx
  have h5 := Nat.le_trans (h4 ns x hx) h3
  have e : WData.weight (WData.int x) = Builtin.Int.intBits x := by
    simp only [WData.weight]
    unfold Builtin.Int.intBits
    by_cases hz : x = 0
    · subst hz; rfl
    · have hb : (x == 0) = false := by simpa using hz
      simp [hz]
  rw [e] at h5
  exact h5
theorem attach_call {l : OpenLaw} {n : Nat} {q : Program} {loose : List Str} {XP : (Str → Option Value) → Heap → Prop} {YP : World → Heap → Prop} {d : DefRec}
    (hn : l.most = some n) (hdf : d.params.defaults = [])
    (call : ∀ (w : World) (s₀ s₁ : Shared) (mg mb : Str → Option Value) (fa : Addr) (o : Obj) (pm cd doc : Value) (a : Addr) (vs : List Value) (ns : List Int),
      Ground q loose [] XP w s₀ mg mb s₁.heap → YP w s₁.heap →
      s₁.heap.get? fa = some o → o.data = .func (docDef d.name d.params d.body d.scope pm cd doc) → s₁.heap.CodeRec cd d.name → mg d.name = some (.ref fa) →
      s₁.heap.get? a = some { cls := .type "list", data := .seq vs.toArray } → IntsAre vs ns → ns.length ≤ n → (∀ x ∈ ns, Builtin.Int.intBits x ≤ 1048576) → s₁.gens = #[] →
      codeAny (model l.prog w) callerA (.call (.ref fa) ⟨[.ref a], []⟩) (fun r s' => r = .ok (.ret (.bool true)) ∧ OldK s₁.heap s'.heap ∧ s'.os = s₁.os ∧ AllBare s'.gens) s₁) :
    WalkO q loose XP YP l.row.toRowW d [] (fun f vs => PySem.call f vs) := by
  intro w s₀ s₁ mg mb G Y fa o pm cd doc dV kV ho hd hcd hD hmg hg args vals as hpre hlay hrd hwl hlo
  obtain rfl : dV = .none := Dflts.none hD hdf
  obtain rfl : kV = .none := Dflts.noKw hD
  obtain ⟨a, vs, ns, rfl, rfl, hobj, hints, hlen⟩ := script_of hn hpre hwl
  refine enter_call (codeAny_mono (call w s₀ s₁ mg mb fa o pm cd doc a vs ns G Y ho (fd_plain hd) hcd hmg hobj hints hlen (lay_bits hlay) hg) fun r s' hq => ?_)
  obtain ⟨rfl, h2, h3, h4⟩ := hq
  exact ⟨.inl ⟨.bool true, .bool true, [], rfl, fun _ => rfl, .bool true, post_true l _, fun _ => ⟨List.Pairwise.nil, fun _ hm => (nomatch hm)⟩⟩, h2, h3, h4⟩
section
variable {prog : Program} {w : World} {A : Around} {E : Value → Shared → Prop} {s : Shared} {K : Frag}
end
end Att
namespace L2
open PySem PySem.Spec PyProof.Rows
theorem vals_ints : ∀ {vs : List Value} {ns : List Int}, IntsAre vs ns → Vals (ns.map V.int) vs
  | _, _, .nil => .nil
  | _, _, .cons n t h => .cons ⟨t, rfl⟩ (vals_ints h)
noncomputable def Only (H : Hp) : Prop := ∀ b, H b = none ∨ ∃ o xs, H b = some (.frz o (.lst xs))
theorem law_call {P : Program} {w : World} {K : PySem.W.Frag} {mg mb : Str → Option Value} {CX : CXT} {k : Nat} {fa a : Addr} {fd : FuncData} {x : Str} {sp : Sp} {s₁ : Shared} {vs : List Value} {ns : List Int}
    (KX : K.In s₁.heap) (hns : s₁.heap.Ns mainGlobals mg) (hb : s₁.heap.Ns builtinsNs mb) (hbb : ∀ x : Str, x ≠ "__name__" → mb x = bootBuiltins x) (hlim : s₁.heap.NoLimit) (hsr : s₁.heap.NoSeer) (hg : s₁.gens = #[])
    (ha : s₁.heap.get? a = some { cls := .type "list", data := .seq vs.toArray }) (hi : IntsAre vs ns) (hl : ns.length ≤ sizeLine) (hr : Room k callerA)
    (F : ∀ base : Heap, K.In base → base.Ns mainGlobals mg → FnOk P w K mg base CX k fa fd [x] sp) (hbind : ∀ (s : Shared) (u : Value), BindsTo s fd ⟨[u], []⟩ [(x, u)])
    (hsp : ∀ H : Hp, Only H → SqL K H a (ns.map V.int) → sp [.ref a] H (fun v _ => v = .bl true) fun _ _ _ => False)
    (hCX : ∀ H e s', CX [] H s₁ (fun _ _ _ => False) e s' → False) :
    codeAny (model P w) callerA (.call (.ref fa) ⟨[.ref a], []⟩) (fun r s' => r = .ok (.ret (.bool true)) ∧ OldK s₁.heap s'.heap ∧ s'.os = s₁.os ∧ AllBare s'.gens) s₁ := by
  have rv := vals_ints hi
  have lenV := hi.length
  have core : ∀ H : Hp, Only H → SqL K H a (ns.map V.int) → HOk P w H s₁.heap → (∀ b, H b ≠ none → b = a) → (H a ≠ none → K.lookup a = none) →
      codeAny (model P w) callerA (.call (.ref fa) ⟨[.ref a], []⟩) (fun r s' => r = .ok (.ret (.bool true)) ∧ OldK s₁.heap s'.heap ∧ s'.os = s₁.os ∧ AllBare s'.gens) s₁ := by
    intro H hO hS hok hA hK
    have base_of : ∀ {b : Addr} {o : Obj}, s₁.heap.get? b = some o → H b = none → (hidT s₁.heap H).get? b = some o := fun e n => hidT_get e n
    have noA : ∀ {b : Addr} {o : Obj} {es : Array DictEntry} {ep : Nat}, s₁.heap.get? b = some o → o.data = .dict es ep → H b = none := fun {b o es ep} e d => by
      cases q : H b with
      | none => rfl
      | some u =>
        have e' : b = a := hA b (by rw [q]; simp)
        subst e'
        rw [ha] at e; cases e
        have d' : Data.seq vs.toArray _ = Data.dict es ep := d
        cases d'
    have nsK : ∀ {b : Addr} {m : Str → Option Value}, s₁.heap.Ns b m → (hidT s₁.heap H).Ns b m := fun {b m} ⟨o, es, ep, e, d, r⟩ => ⟨o, es, ep, base_of e (noA e d), d, r⟩
    have hKb : K.In (hidT s₁.heap H) := fun b o e => base_of (KX b o e) (by
      cases q : H b with
      | none => rfl
      | some u =>
        have e' : b = a := hA b (by rw [q]; simp)
        subst e'
        rw [hK (by rw [q]; simp)] at e; cases e)
    have noC : ∀ {b : Addr} {o : Obj}, s₁.heap.get? b = some o → o.cls ≠ .type "list" → H b = none := fun {b o} e d => by
      cases q : H b with
      | none => rfl
      | some u =>
        have e' : b = a := hA b (by rw [q]; simp)
        subst e'
        rw [ha] at e; cases e
        exact absurd rfl d
    have hSr : (hidT s₁.heap H).NoSeer := ⟨let ⟨mc, h1, h2⟩ := hsr.statics; ⟨mc, nsK h1, h2⟩, let ⟨mc, h1, h2⟩ := hsr.mods; ⟨mc, nsK h1, h2⟩, let ⟨mc, h1, h2⟩ := hsr.imp; ⟨mc, nsK h1, h2⟩,
      let ⟨mg', bm, ob, h1, h2, h3, h4, h5⟩ := hsr.main; ⟨mg', bm, ob, nsK h1, h2, base_of h3 (noC h3 (by rw [h4]; decide)), h4, h5⟩⟩
    have hM : Mod K mg (hidT s₁.heap H) := ⟨hKb, nsK hns, ⟨mb, nsK hb, hbb⟩, let ⟨mc, h1, h2⟩ := hlim; ⟨mc, nsK h1, h2⟩, hSr⟩
    have e0 : Env0 P w K mg (hidT s₁.heap H) callerA [] s₁ H := ⟨rfl, hM, fun b o e => of_hidT e, Nat.le_of_eq (hidT_size _ _), trivial, fun b hb => absurd (show b ∈ ([] : List Addr) from hb) (by simp), hok, .of_eq hg⟩
    refine codeAny_mono ((F _ hKb (nsK hns)).run callerA [] s₁ H ⟨[.ref a], []⟩ [.ref a] [.ref a] _ _ hr e0 (hbind s₁ (.ref a)) (.cons rfl .nil) (hsp H hO hS)) fun r s' h => ?_
    cases r with
    | error e => exact (hCX H e s' h).elim
    | ok fl =>
      cases fl with
      | next => exact False.elim h
      | brk => exact False.elim h
      | cont => exact False.elim h
      | ret u =>
        obtain ⟨v, H', os, bare, un, hok', r', q⟩ := h
        have q' : v = .bl true := q
        subst q'
        obtain rfl : u = Value.bool true := r'
        refine ⟨rfl, OldK.of_keep fun b o e => ?_, os, bare⟩
        cases q : H b with
        | none => exact un.keep b o e q (by intro z; exact absurd (show b ∈ ([] : List Addr) from z) (by simp)) (by simp)
        | some u =>
          rcases hO b with z | ⟨ob, xs, z⟩
          · rw [q] at z; cases z
          · have z2 := un.frzs b ob _ z
            obtain ⟨e1, _⟩ := hok b _ z
            obtain ⟨e2, _⟩ := hok' b _ z2
            rw [e] at e1; cases e1
            exact e2
  cases hk : K.lookup a with
  | some o =>
    have e := KX a o hk
    rw [ha] at e
    cases e
    refine core (fun _ => none) (fun _ => .inl rfl) (.inr ⟨_, vs.toArray, _, hk, rfl, rfl, rfl, by rw [List.size_toArray, lenV]; exact hl, by simpa using rv⟩) (fun b u z => by have z' : (none : Option HO) = some u := z; cases z') (fun b z => absurd rfl z) fun z => absurd rfl z
  | none =>
    refine core (fun b => if b = a then some (.frz { cls := .type "list", data := .seq vs.toArray } (.lst (ns.map V.int))) else none) (fun b => ?_) (.inl (.inr ⟨{ cls := .type "list", data := .seq vs.toArray }, if_pos rfl⟩)) (fun b u z => ?_) (fun b z => ?_) fun _ => hk
    · by_cases hb : b = a
      · exact .inr ⟨_, _, if_pos hb⟩
      · exact .inl (if_neg hb)
    · by_cases hb : b = a
      · have z' := (if_pos hb).symm.trans z
        cases z'
        subst hb
        exact ⟨ha, by rw [List.length_map]; exact hl, vs, _, rv, ha⟩
      · have z' := (if_neg hb).symm.trans z
        cases z'
    · by_cases hb : b = a
      · exact hb
      · exact absurd (if_neg hb) z
end L2
namespace L2
open PySem PySem.Spec PyProof.Rows
theorem walk_of {l : PySem.W.OpenLaw} {n k : Nat} {q : Program} {loose : List Str} {XP : (Str → Option Value) → Heap → Prop} {YP : World → Heap → Prop} {d : DefRec} {K : Params → PySem.W.Frag} {CX : World → CXT} {sp : World → Sp} {x : Str}
    (hn : l.most = some n) (hn2 : n ≤ sizeLine) (hdf : d.params.defaults = []) (hq : importsNone q = true) (hr : Room k callerA)
    (hY : ∀ (w : World) (h : Heap), YP w h → (K w.params).In h)
    (F : ∀ (w : World) (mg : Str → Option Value) (fa : Addr) (h : Heap), (K w.params).In h → h.Ns mainGlobals mg → mg d.name = some (.ref fa) →
      ∃ fd : FuncData, (∀ (s : Shared) (u : Value), BindsTo s fd ⟨[u], []⟩ [(x, u)]) ∧
        ∀ base : Heap, (K w.params).In base → base.Ns mainGlobals mg → FnOk l.prog w (K w.params) mg base (CX w) k fa fd [x] (sp w))
    (hsp : ∀ (w : World) (H : Hp) (a : Addr) (ns : List Int), ns.length ≤ n → (∀ x ∈ ns, Builtin.Int.intBits x ≤ 1048576) → Only H → SqL (K w.params) H a (ns.map V.int) → sp w [.ref a] H (fun v _ => v = .bl true) fun _ _ _ => False)
    (hCX : ∀ (w : World) (H : Hp) (s : Shared) (e : Value) (s' : Shared), CX w [] H s (fun _ _ _ => False) e s' → False) :
    PySem.W.WalkO q loose XP YP l.row.toRowW d [] (fun f vs => PySem.call f vs) := by
  refine Att.attach_call hn hdf fun w s₀ s₁ mg mb fa o pm cd doc a vs ns G Y ho hd hcd hmg hobj hints hlen hbt hg => ?_
  have KX := hY w _ Y
  obtain ⟨fd, hb, hF⟩ := F w mg fa _ KX G.T.g hmg
  exact law_call KX G.T.g G.T.b G.T.builtins G.T.nolimit (G.T.seer hq) hg hobj hints (Nat.le_trans hlen hn2) hr hF hb (fun H hO hS => hsp w H a ns hlen hbt hO hS) fun H e s' => hCX w H s₁ e s'
end L2
namespace L2
open PySem PySem.Spec PyProof.Rows
def inClass (s : Stmt) (j : Nat) : Stmt := match s with
  | .ClassDef _ _ _ body _ _ _ _ _ _ _ => body.getD j (.Pass ⟨0, 0, 0, 0⟩)
  | _ => .Pass ⟨0, 0, 0, 0⟩
noncomputable def defArgs (s : Stmt) : Arguments := match s with
  | .FunctionDef _ a _ _ _ _ _ _ _ _ => a
  | _ => { posonlyargs := [], args := [], vararg := none, kwonlyargs := [], kw_defaults := [], kwarg := none, defaults := [] }
noncomputable def defBody (s : Stmt) : List Stmt := match s with
  | .FunctionDef _ _ b _ _ _ _ _ _ _ => b
  | _ => []
noncomputable def defScope (s : Stmt) : Scope := match s with
  | .FunctionDef _ _ _ _ _ _ sc _ _ _ => sc
  | _ => { kind := .function, names := [], isGenerator := false, isCoroutine := false }
abbrev CX0 : CXT := fun _ _ _ _ _ _ => False
abbrev E0 : XK := fun _ _ _ => False
theorem pass0 {X : Cx} : Passes CX0 X E0 := fun _ _ _ _ _ _ _ h => h.elim
structure Fun (K : PySem.W.Frag) (x qual : Str) (st : Stmt) (f : Addr) (fd : FuncData) : Prop where
  ex : ∃ (oc : Value) (od : Option Addr) (kV doc pm : Value) (an : Option Addr) (cdv ct : Value) (osl : Array (Option Value)),
    fd = PySem.W.fnOf x qual (defArgs st) (defBody st) (defScope st) .none kV doc pm an cdv ct ∧ K.lookup f = some ⟨oc, od, .func fd, osl⟩ ∧ PySem.W.codeIn K cdv qual = true
  kp : PySem.W.keepIn K (.ref f) = true
section
variable {P : Program} {w : World} {K : PySem.W.Frag} {mg : Str → Option Value} {base : Heap}
theorem Fun.ok {x qual : Str} {st : Stmt} {f : Addr} {fd : FuncData} {N ps : List Str} {k : Nat} {sp : Sp} (F : Fun K x qual st f fd) (S : FnScope N ps (defScope st)) (len : ∀ vs H Q E, sp vs H Q E → vs.length = ps.length)
    (hbody : ∀ (cdv : Value) (A : Around) (outer : List Env) (s : Shared) (H : Hp) (vs : List V) (Q : VK) (E : XK), Room k (A.deeper (envOfC qual (defScope st) s.heap.objs.size f cdv)) → sp vs H Q E →
      ∃ t, PSs (cxOf CX0 P w K mg base N qual (defScope st) f cdv A outer s H E).nox (defBody st) t ∧ t { nx := fun _ H' => Q .non H', rt := Q } (start N vs) H) : FnOk P w K mg base CX0 (k + 1) f fd ps sp := by
  obtain ⟨oc, od, kV, doc, pm, an, cdv, ct, osl, rfl, lk, hcd⟩ := F.ex
  refine fn_of lk hcd S len fun A outer s H vs Q E hr hsp => ?_
  obtain ⟨t, h, q⟩ := hbody cdv A outer s H vs Q E hr hsp
  exact ⟨t, h.nox, q⟩
theorem Fun.binds {x qual : Str} {st : Stmt} {f : Addr} {fd : FuncData} {ps : List Str} (F : Fun K x qual st f fd)
    (h : ∀ (kV doc pm : Value) (an : Option Addr) (cdv ct : Value) (us : List Value), us.length = ps.length → bindArgs (PySem.W.fnOf x qual (defArgs st) (defBody st) (defScope st) .none kV doc pm an cdv ct) ⟨us, []⟩ = pure (ps.zip us)) : Binds K fd ps [] := by
  obtain ⟨oc, od, kV, doc, pm, an, cdv, ct, osl, rfl, lk, hcd⟩ := F.ex
  exact .all (h kV doc pm an cdv ct)
theorem fun_mk {x qual : Str} {st : Stmt} {f : Addr} {oc : Value} {od an : Option Addr} {osl : Array (Option Value)} {kV doc pm cdv ct : Value} (l : K.lookup f = some ⟨oc, od, .func (PySem.W.fnOf x qual (defArgs st) (defBody st) (defScope st) .none kV doc pm an cdv ct), osl⟩)
    (c : PySem.W.codeIn K cdv qual = true) (k : PySem.W.keepIn K (.ref f) = true) : Fun K x qual st f (PySem.W.fnOf x qual (defArgs st) (defBody st) (defScope st) .none kV doc pm an cdv ct) := ⟨⟨oc, od, kV, doc, pm, an, cdv, ct, osl, rfl, l, c⟩, k⟩
end
theorem small1000 {n : Nat} (h : n ≤ 1000) : n < sizeLine := Nat.lt_of_le_of_lt h (by decide)
section
variable {X : Cx}
theorem pv (i : Nat) {x : Str} {pos : Pos} (hN : X.N[i]? = some x := by rfl) (hv : Vis X.env.scope x := by first | exact Or.inl rfl | exact Or.inr (Or.inl rfl) | exact Or.inr (Or.inr rfl)) (hd : (x == ("__debug__" : Str)) = false := by decide)
    (hcd : (x == ("__classdict__" : Str)) = false := by decide) : PE X (.Name x pos) (tVar i) := pe_var hN hv hd hcd
end
theorem iteF {A B : Prop} (h : B) : if false = true then A else B := by
  rw [if_neg Bool.false_ne_true]
  exact h
theorem iteT {A B : Prop} (h : A) : if true = true then A else B := by
  rw [if_pos rfl]
  exact h
theorem ite2 {c A B : Prop} [Decidable c] (h1 : c → A) (h2 : ¬ c → B) : if c then A else B := by
  by_cases h : c
  · rw [if_pos h]
    exact h1 h
  · rw [if_neg h]
    exact h2 h
noncomputable def Same (H H' : Hp) : Prop := ∀ b o, H b = some o → H' b = some o
theorem Same.refl (H : Hp) : Same H H := fun _ _ h => h
theorem Same.trans {H H1 H2 : Hp} (a : Same H H1) (b : Same H1 H2) : Same H H2 := fun c o h => b c o (a c o h)
theorem Same.free {H H' : Hp} (e : Same H H') {l : Addr} (h : H' l = Option.none) : H l = Option.none := by
  cases q : H l with
  | none => rfl
  | some o =>
    rw [e l o q] at h
    cases h
theorem Same.seq {K : PySem.W.Frag} {H H' : Hp} {a : Addr} {xs : List V} (e : Same H H') (h : SqL K H a xs) : SqL K H' a xs := by
  rcases h with (h | ⟨o, h⟩) | h
  · exact .inl (.inl (e _ _ h))
  · exact .inl (.inr ⟨o, e _ _ h⟩)
  · exact .inr h
end L2
namespace L2
open PySem PySem.Spec PyProof.Rows
section
variable {X : Cx}
noncomputable def rAddI : R2 := fun x y H Q => ∃ i j, x = .int i ∧ y = .int j ∧ Q (.int (i + j)) H
noncomputable def rSubI : R2 := fun x y H Q => ∃ i j, x = .int i ∧ y = .int j ∧ Q (.int (i - j)) H
theorem op_addI : OpR X (binaryOp .Add) rAddI := op_add
theorem op_subI : OpR X (binaryOp .Sub) rSubI := op_sub
noncomputable def CMulB (i j : Int) : Prop := ∃ m n : Nat, Builtin.Int.intBits i ≤ m ∧ Builtin.Int.intBits j ≤ n ∧ m + n ≤ 134217728
noncomputable def rMulB : R2 := fun x y H Q => ∃ i j, x = .int i ∧ y = .int j ∧ CMulB i j ∧ Q (.int (i * j)) H
theorem op_mulB : OpR X (binaryOp .Mult) rMulB := opI (C := CMulB) (g := fun i j => i * j) fun _ _ _ _ _ _ _ hc q => by
  obtain ⟨m, n, h1, h2, h3⟩ := hc
  exact mul_int q (IntMulOk.of_le h1 h2 h3)
noncomputable def CDivB (j : Int) : Prop := 0 < j ∧ Builtin.Int.intBits j ≤ 9000
noncomputable def rDivB : R2 := fun x y H Q => ∃ i j, x = .int i ∧ y = .int j ∧ CDivB j ∧ Q (.int (i / j)) H
theorem op_fdivB : OpR X (binaryOp .FloorDiv) rDivB := opI (C := fun _ j => CDivB j) (g := fun i j => i / j) fun i j _ _ _ _ _ hc q => by
  have h1 : (0 : Int) < j := hc.1
  have h3 : j.natAbs.log2 < 9000 := (Nat.log2_lt (by omega)).mpr (intBits_le_iff.mp hc.2)
  exact floordiv_int (by omega) (by rw [Int.fdiv_eq_ediv_of_nonneg i (by omega)]; exact q) (.inl (PyProof.noPylong_of_log2 h3))
noncomputable def rModB : R2 := fun x y H Q => ∃ i j, x = .int i ∧ y = .int j ∧ 0 < j ∧ Q (.int (i % j)) H
theorem op_modB : OpR X (binaryOp .Mod) rModB := op_mod
noncomputable def rPowB : R2 := fun x y H Q => ∃ i j, x = .int i ∧ y = .int j ∧ CPow i j ∧ Q (.int (i ^ j.toNat)) H
theorem op_powB : OpR X (binaryOp .Pow) rPowB := op_pow
noncomputable def rShlB : R2 := fun x y H Q => ∃ i j, x = .int i ∧ y = .int j ∧ CPow i j ∧ Q (.int (i * 2 ^ j.toNat)) H
theorem op_shlB : OpR X (binaryOp .LShift) rShlB := op_shl
noncomputable def rLtI : R2 := fun x y H Q => ∃ i j, x = .int i ∧ y = .int j ∧ Q (.bl (decide (i < j))) H
noncomputable def rLeI : R2 := fun x y H Q => ∃ i j, x = .int i ∧ y = .int j ∧ Q (.bl (decide (i ≤ j))) H
noncomputable def rGtI : R2 := fun x y H Q => ∃ i j, x = .int i ∧ y = .int j ∧ Q (.bl (decide (j < i))) H
noncomputable def rGeI : R2 := fun x y H Q => ∃ i j, x = .int i ∧ y = .int j ∧ Q (.bl (decide (j ≤ i))) H
noncomputable def rEqI : R2 := fun x y H Q => ∃ i j : Int, x = .int i ∧ y = .int j ∧ Q (.bl (decide (i = j))) H
theorem op_ltI : OpR X (compareOp .Lt) rLtI := op_lt
theorem op_leI : OpR X (compareOp .LtE) rLeI := op_le
theorem op_gtI : OpR X (compareOp .Gt) rGtI := op_gt
theorem op_geI : OpR X (compareOp .GtE) rGeI := op_ge
theorem op_eqI : OpR X (compareOp .Eq) rEqI := by
  intro pins s σ H x y v u Q I rx ry h
  obtain ⟨i, j, rfl, rfl, q⟩ := h
  refine op_eq pins s σ H _ _ v u Q I rx ry ⟨rfl, ?_⟩
  have e : decide (V.int i = V.int j) = decide (i = j) := decide_eq_decide.mpr ⟨fun z => V.int.inj z, fun z => by rw [z]⟩
  rw [e]; exact q
noncomputable def PylOk (X : Cx) : Prop := ∀ (pins : List (Addr × Obj)) (σ : St) (H : Hp) (s : Shared), Inv X pins σ H s → PylongRoom (model X.prog X.w) X.A s
noncomputable def rDivP : R2 := fun x y H Q => ∃ i j, x = .int i ∧ y = .int j ∧ 0 < j ∧ Q (.int (i / j)) H
theorem op_fdivP (hp : PylOk X) : OpR X (binaryOp .FloorDiv) rDivP := by
  intro pins s σ H x y v u Q I rx ry h
  obtain ⟨i, j, rfl, rfl, hj, q⟩ := h
  obtain ⟨t, rfl⟩ := rx
  obtain ⟨t', rfl⟩ := ry
  refine floordiv_int (by omega) ?_ (.inr (hp pins σ H s I))
  rw [Int.fdiv_eq_ediv_of_nonneg i (by omega)]
  exact ⟨.int (i / j), H, I.tok _, ⟨_, rfl⟩, q⟩
theorem pyl_ok {CX : CXT} {P : Program} {w : World} {K : PySem.W.Frag} {mg : Str → Option Value} {base : Heap} {N ps : List Str} {qual : Str} {scope : Scope} {f : Addr} {cdv : Value} {A : Around} {outer : List Env} {s : Shared} {H : Hp} {E : XK}
    (hP : P.given.tree = none) (S : FnScope N ps scope) (hr : Room 35 (A.deeper (envOfC qual scope s.heap.objs.size f cdv))) : PylOk ((cxOf CX P w K mg base N qual scope f cdv A outer s H E).nox) := by
  intro pins σ H' s' I
  have I' := I.unwish
  refine PylongRoom.of I'.nolimit ?_ (SeerAt.of (I'.mod.seer.keeps I'.bk) hP I'.ok.frames S.gen S.co rfl rfl)
  have := hr.dp
  show (A.deeper (envOfC qual scope s.heap.objs.size f cdv)).depth + 100 < _
  omega
theorem mt_bit_length : MtR X "int.bit_length" (fun x vs H Q => ∃ i, x = .int i ∧ vs = [] ∧ Q (.int (Builtin.Int.intBits i : Nat)) H) := by
  intro pins s σ H x xs v us Q I rx rv h
  obtain ⟨i, rfl, rfl, q⟩ := h
  obtain ⟨t, rfl⟩ := rx
  cases rv
  exact call_int_bit_length ⟨.int _, H, I.tok _, ⟨_, rfl⟩, q⟩
theorem call_isinst : CallR X (.builtin "isinstance") (fun xs H Q => ∃ x n t b, xs = [x, .ty n] ∧ TyOf X.K H x t ∧ PySem.W.kitOne X.K t (.type n) = some b ∧ Q (.bl b) H) := by
  intro pins s σ H xs us Q I r h
  obtain ⟨x, n, t, b, rfl, ty, e, q⟩ := h
  obtain ⟨u, c, rfl, rx, rc⟩ := vals2 r
  cases (show c = Value.type n from rc)
  exact isinst_ok I rx ty e fun tk => ⟨.bl b, H, I.tok tk, rfl, q⟩
end
noncomputable def Def (K : PySem.W.Frag) (mg : Str → Option Value) (x : Str) (st : Stmt) (ps : List Str) : Prop :=
  ∃ f fd, Fun K x x st f fd ∧ Binds K fd ps [] ∧ mg x = some (.ref f)
noncomputable def Fn (P : Program) (w : World) (K : PySem.W.Frag) (mg : Str → Option Value) (base : Heap) (k : Nat) (x : Str) (ps : List Str) (sp : Sp) : Prop :=
  ∃ f fd, FnOk P w K mg base CX0 k f fd ps sp ∧ PySem.W.keepIn K (.ref f) = true ∧ Binds K fd ps [] ∧ mg x = some (.ref f)
section
variable {P : Program} {w : World} {K : PySem.W.Frag} {mg : Str → Option Value} {base : Heap}
theorem Def.fn {x : Str} {st : Stmt} {N ps : List Str} {k : Nat} {sp : Sp} (D : Def K mg x st ps) (S : FnScope N ps (defScope st)) (len : ∀ vs H Q E, sp vs H Q E → vs.length = ps.length)
    (hbody : ∀ (f : Addr) (cdv : Value) (A : Around) (outer : List Env) (s : Shared) (H : Hp) (vs : List V) (Q : VK) (E : XK), Room k (A.deeper (envOfC x (defScope st) s.heap.objs.size f cdv)) → sp vs H Q E →
      ∃ t, PSs (cxOf CX0 P w K mg base N x (defScope st) f cdv A outer s H E).nox (defBody st) t ∧ t { nx := fun _ H' => Q .non H', rt := Q } (start N vs) H) : Fn P w K mg base (k + 1) x ps sp := by
  obtain ⟨f, fd, F, b, m⟩ := D
  exact ⟨f, fd, F.ok S len (fun cdv A outer s H vs Q E hr h => hbody f cdv A outer s H vs Q E hr h), F.kp, b, m⟩
theorem Fn.mono {j k : Nat} {x : Str} {ps : List Str} {sp : Sp} (F : Fn P w K mg base j x ps sp) (h : j ≤ k) : Fn P w K mg base k x ps sp := by
  obtain ⟨f, fd, F, r⟩ := F
  exact ⟨f, fd, F.mono h, r⟩
theorem Fn.imp {k : Nat} {x : Str} {ps : List Str} {sp sp' : Sp} (F : Fn P w K mg base k x ps sp) (h : ∀ vs H Q E, sp' vs H Q E → sp vs H Q E) : Fn P w K mg base k x ps sp' := by
  obtain ⟨f, fd, F, r⟩ := F
  exact ⟨f, fd, F.imp h, r⟩
end
section
variable {X : Cx} {k : Nat} {x : Str} {ps : List Str} {sp : Sp} {p pos : Pos} {e : Expr} {es : List Expr} {t : TA}
noncomputable def tFn (sp : Sp) (t : TA) : TE := fun σ H Q => t σ H fun vs H1 => sp vs H1 Q E0
theorem pe_fn (F : Fn X.prog X.w X.K X.mg X.base k x ps sp) (hr : Room k X.A) (hg : Gl X x) (ha : PA X (e :: es) t) (hdb : (x == ("__debug__" : Str)) = false := by decide)
    (he : starEach (e :: es) X.env = (false, eval e X.env) :: starEach es X.env := by rfl) (hpl : (backTo pos (starEach es X.env)).any (·.1) = false := by rfl) :
    PE X (.Call (.Name x p) (e :: es) [] pos) (tFn sp t) := by
  obtain ⟨f, fd, F, kp, b, m⟩ := F
  have h := pe_call (p := p) (pos := pos) (dvs := []) (ds := []) F hr hg m kp b .nil pass0 ha hdb he hpl
  intro pins s σ H Q I q
  refine h pins s σ H Q I ?_
  show t σ H fun vs H1 => sp (vs ++ []) H1 Q E0
  have q' : t σ H fun vs H1 => sp vs H1 Q E0 := q
  simpa only [List.append_nil] using q'
end
theorem ifD {c A B : Prop} [Decidable c] (h1 : c → A) (h2 : ¬ c → B) : if decide c = true then A else B := by
  by_cases h : c
  · rw [if_pos (decide_eq_true h)]; exact h1 h
  · rw [if_neg (fun z => h (of_decide_eq_true z))]; exact h2 h
theorem ifND {c A B : Prop} [Decidable c] (h1 : ¬ c → A) (h2 : c → B) : if (!decide c) = true then A else B := by
  by_cases h : c
  · rw [if_neg (by rw [decide_eq_true h]; decide)]; exact h2 h
  · rw [if_pos (by rw [decide_eq_false h]; decide)]; exact h1 h
theorem ifT {c A B : Prop} [Decidable c] (h : c) (a : A) : if decide c = true then A else B := ifD (fun _ => a) (fun z => absurd h z)
theorem ifF {c A B : Prop} [Decidable c] (h : ¬ c) (b : B) : if decide c = true then A else B := ifD (fun z => absurd z h) (fun _ => b)
theorem b_isinstance : bootBuiltins "isinstance" = some (.builtin "isinstance") := by decide +kernel
theorem b_int : bootBuiltins "int" = some (.type "int") := by decide +kernel
theorem b_str : bootBuiltins "str" = some (.type "str") := by decide +kernel
theorem b_len : bootBuiltins "len" = some (.builtin "len") := by decide +kernel
theorem b_all : bootBuiltins "all" = some (.builtin "all") := by decide +kernel
theorem Same.put {H H' : Hp} {p : Addr} {o : HO} (s : Same H H') (h : H' p = Option.none) : Same H (upd H' p o) := fun b u e => by
  have e' := s b u e
  rw [upd_ne (ne_of_none e' h)]
  exact e'
theorem Same.new {H : Hp} {p : Addr} {o : HO} (h : H p = Option.none) : Same H (upd H p o) := (Same.refl H).put h
end L2
namespace L2
open PySem PySem.Spec PyProof.Rows
section
variable {X : Cx} {tg : Expr}
end
end L2
namespace L2
open PySem PySem.Spec PyProof.Rows
def clOf (env : Env) : List (Str × NameKind) → List (Str × Addr) → List (Str × Addr)
  | [], acc => acc
  | (n, k) :: r, acc => if k == .free then clOf env r ((n, (env.cells.lookup n).getD 0) :: acc) else clOf env r acc
theorem closure_eq {scope : Scope} {env : Env} (h : ∀ p ∈ scope.names, p.2 = .free → ∃ c, env.cells.lookup p.1 = some c) : closureFor scope env = pure (clOf env scope.names []) := by
  unfold closureFor
  have key : ∀ (names : List (Str × NameKind)) (acc : List (Str × Addr)), (∀ p ∈ names, p.2 = .free → ∃ c, env.cells.lookup p.1 = some c) →
      (forIn names acc (fun (x : Str × NameKind) (cs : List (Str × Addr)) => match x with
        | (name, kind) => if (kind == NameKind.free) = true then (cellOf env name >>= fun c => pure (ForInStep.yield ((name, c) :: cs))) else pure (ForInStep.yield cs)) : Sem (List (Str × Addr))) = pure (clOf env names acc) := by
    intro names
    induction names with
    | nil => intro acc _; rfl
    | cons p r ih =>
      intro acc hp
      obtain ⟨n, k⟩ := p
      have hr : ∀ p ∈ r, p.2 = .free → ∃ c, env.cells.lookup p.1 = some c := fun p hm => hp p (List.mem_cons_of_mem _ hm)
      rw [List.forIn_cons]
      by_cases hk : k = .free
      · subst hk
        obtain ⟨c, hc⟩ := hp (n, .free) List.mem_cons_self rfl
        have hc : env.cells.lookup n = some c := hc
        have e1 : cellOf env n = pure c := by unfold cellOf; rw [hc]
        have e2 : clOf env ((n, .free) :: r) acc = clOf env r ((n, c) :: acc) := by
          show clOf env r ((n, (env.cells.lookup n).getD 0) :: acc) = _
          rw [hc]; rfl
        simp only [beq_self_eq_true, if_true, e1, pure_bind]
        rw [e2]
        exact ih _ hr
      · have hb : (k == NameKind.free) = false := by simpa using hk
        have e2 : clOf env ((n, k) :: r) acc = clOf env r acc := by
          show (if (k == NameKind.free) = true then clOf env r ((n, (env.cells.lookup n).getD 0) :: acc) else clOf env r acc) = _
          rw [hb]; rfl
        simp only [hb, Bool.false_eq_true, if_false, pure_bind]
        rw [e2]
        exact ih _ hr
  have k0 := key scope.names [] h
  show (forIn scope.names ([] : List (Str × Addr)) _ >>= fun r => pure r) = _
  refine Eq.trans (congrArg (fun m => m >>= fun r => pure r) k0) ?_
  rfl
theorem clOf_look {env : Env} : ∀ {names : List (Str × NameKind)} {acc : List (Str × Addr)}, (∀ p ∈ names, p.2 = .free → ∃ c, env.cells.lookup p.1 = some c) → (∀ x c, acc.lookup x = some c → env.cells.lookup x = some c) →
    ∀ x c, (clOf env names acc).lookup x = some c → env.cells.lookup x = some c
  | [], _, _, ha, x, c, h => ha x c h
  | (n, k) :: r, acc, hp, ha, x, c, h => by
    have hr : ∀ p ∈ r, p.2 = .free → ∃ c, env.cells.lookup p.1 = some c := fun p hm => hp p (List.mem_cons_of_mem _ hm)
    by_cases hk : k = .free
    · subst hk
      obtain ⟨d, hd⟩ := hp (n, .free) List.mem_cons_self rfl
      have hd : env.cells.lookup n = some d := hd
      have e2 : clOf env ((n, .free) :: r) acc = clOf env r ((n, d) :: acc) := by
        show clOf env r ((n, (env.cells.lookup n).getD 0) :: acc) = _
        rw [hd]; rfl
      rw [e2] at h
      refine clOf_look hr (fun y e hy => ?_) x c h
      rw [List.lookup_cons] at hy
      cases hyn : y == n with
      | true => rw [hyn] at hy; cases hy; rw [beq_iff_eq.mp hyn]; exact hd
      | false => rw [hyn] at hy; exact ha y e hy
    · have hb : (k == NameKind.free) = false := by simpa using hk
      have e2 : clOf env ((n, k) :: r) acc = clOf env r acc := by
        show (if (k == NameKind.free) = true then clOf env r ((n, (env.cells.lookup n).getD 0) :: acc) else clOf env r acc) = _
        rw [hb]; rfl
      rw [e2] at h
      exact clOf_look hr ha x c h
theorem clOf_has {env : Env} : ∀ {names : List (Str × NameKind)} {acc : List (Str × Addr)} {x : Str}, ((x, NameKind.free) ∈ names ∨ ∃ c, acc.lookup x = some c) → ∃ c, (clOf env names acc).lookup x = some c
  | [], _, _, h => h.elim (fun z => nomatch z) id
  | (n, k) :: r, acc, x, h => by
    by_cases hk : k = .free
    · subst hk
      show ∃ c, (clOf env r ((n, (env.cells.lookup n).getD 0) :: acc)).lookup x = some c
      refine clOf_has ?_
      by_cases hx : x = n
      · subst hx; exact .inr ⟨_, by rw [List.lookup_cons, beq_self_eq_true]⟩
      · rcases h with h | ⟨c, h⟩
        · rcases List.mem_cons.mp h with e | e
          · cases e; exact absurd rfl hx
          · exact .inl e
        · exact .inr ⟨c, by rw [List.lookup_cons, beq_eq_false_iff_ne.mpr hx]; exact h⟩
    · have hb : (k == NameKind.free) = false := by simpa using hk
      have e2 : clOf env ((n, k) :: r) acc = clOf env r acc := by
        show (if (k == NameKind.free) = true then clOf env r ((n, (env.cells.lookup n).getD 0) :: acc) else clOf env r acc) = _
        rw [hb]; rfl
      rw [e2]
      refine clOf_has ?_
      rcases h with h | h
      · rcases List.mem_cons.mp h with e | e
        · cases e; exact absurd rfl hk
        · exact .inl e
      · exact .inr h
section
variable {prog : Program} {w : World} {A : Around}
theorem codeAny_compLoop_gen {elt target iter : Expr} {ifs : List Expr} {scope : Scope} {pos : Pos} {it acc : Value} {env : Env} {s : Shared} {R : Result → Shared → Prop} (I : Nat → Shared → Prop)
    (turn : ∀ n s, I n s → wpAny (model prog w) A (pyNext it) (fun r s₁ => match r with
      | none => R (.ok .next) s₁
      | some v => wpAny (model prog w) A (letOwnedTupleGo target it v) (fun _ s₁' => wpAny (model prog w) A (assign target env v) (fun _ s₂ =>
          wpAny (model prog w) A (forIn ifs true fun c r => if r = true then do let ok ← isTrue c env (eval c env); pure (ForInStep.yield ok) else pure (ForInStep.yield r)) (fun ok s₃ =>
            if ok = true then wpAny (model prog w) A (eval elt env) (fun x s₄ => wpAny (model prog w) A (call (.builtin "list.append") [acc, x]) (fun _ s₅ => ∃ m, m < n ∧ I m s₅) (fun _ _ => False) s₄) (fun _ _ => False) s₃
            else ∃ m, m < n ∧ I m s₃) (fun _ _ => False) s₂) (fun _ _ => False) s₁') (fun _ _ => False) s₁) (fun _ _ => False) s)
    (n : Nat) (h : I n s) : codeAny (model prog w) A (.compLoop (.ListComp elt [⟨target, iter, ifs, 0⟩] scope pos) 0 it acc env) R s := by
  refine codeAny_loop rfl I (fun n s hI => ?_) n h
  show wpAny _ A ((compTurn (.ListComp elt [⟨target, iter, ifs, 0⟩] scope pos) 0 it acc env).onRaise (fun x => do noteFrame x env; theTreesLotGoes x)) _ _ s
  refine wpAny_noted ?_
  rw [compTurn_list]
  refine wpAny_bind (wpAny_standAt (wpAny_bind (wpAny_mono (turn n s hI) (fun r s₁ h₁ => ?_) fun _ _ h' => h'.elim)))
  cases r with
  | none => exact wpAny_pure h₁
  | some v =>
    refine wpAny_bind (wpAny_mono h₁ (fun _ s₁' h₁' => ?_) fun _ _ h' => h'.elim)
    refine wpAny_bind (wpAny_mono h₁' (fun _ s₂ h₂ => wpAny_bind (wpAny_mono h₂ (fun ok s₃ h₃ => ?_) fun _ _ h' => h'.elim)) fun _ _ h' => h'.elim)
    cases ok with
    | false => exact wpAny_pure ⟨rfl, h₃⟩
    | true => exact wpAny_bind (wpAny_bind (wpAny_mono h₃ (fun x s₄ h₄ => wpAny_bind (wpAny_mono h₄ (fun _ s₅ h₅ => wpAny_pure (wpAny_pure ⟨rfl, h₅⟩)) fun _ _ h' => h'.elim)) fun _ _ h' => h'.elim))
end
abbrev blockCx (X : Cx) (pins : List (Addr × Obj)) (N : List Str) (scope : Scope) (C : Addr) (sF : Shared) (HF : Hp) (fp : List Addr) : Cx where
  prog := X.prog
  w := X.w
  K := X.K
  mg := X.mg
  base := X.base
  A := X.A
  N := N
  s₀ := sF
  H₀ := HF
  env := compEnvC scope (clOf X.env scope.names []) C X.env
  outer := X.stack
  stack := X.stack
  ex := fp
  fn := fun _ => false
  calm := X.calm
  pn := X.pn ++ pins
  xe := fun _ _ => False
noncomputable def blockSt (own : Nat) (ix : List Nat) (σ : St) : St := List.replicate own none ++ ix.map fun i => (σ[i]?).getD none
noncomputable def CompGo (J : It) (own : Nat) (ix : List Nat) (g : TG) (tt : TT) (te : TE) (σ : St) (H1 : Hp) (acc : Addr) (Q : VK) : Prop :=
  ∃ W : Nat → Nat → List V → Hp → Prop, (∃ m, W 0 m [] (upd H1 acc (.lst []))) ∧ ∀ i m ys H2, W i m ys H2 →
    H2 acc = some (.lst ys) ∧ ((J.stop i H2 ∧ Q (.ref acc) H2) ∨ (J.go i H2 ∧ ys.length < sizeLine ∧ ∀ x H3, J.yld i H2 x H3 → g x (blockSt own ix σ) H3 fun σ4 H4 => σ4.drop own = ix.map (fun i => (σ[i]?).getD none) ∧ tt σ4 H4 fun ok H5 =>
      if ok = true then te σ4 H5 fun y H6 => H6 acc = some (.lst ys) ∧ ∃ m', m' < m ∧ W (i + 1) m' (ys ++ [y]) (upd H6 acc (.lst (ys ++ [y])))
      else ∃ m', m' < m ∧ W (i + 1) m' ys H5))
noncomputable def tComp (wi : TI) (own : Nat) (ix : List Nat) (g : TG) (tt : TT) (te : TE) : TE := fun σ H Q => wi σ H fun J H1 => ∀ acc, H1 acc = none → CompGo J own ix g tt te σ H1 acc Q
noncomputable def tNoTest : TT := fun _ H Q => Q true H
noncomputable def PTs (X : Cx) (ifs : List Expr) (t : TT) : Prop :=
  ∀ (pins : List (Addr × Obj)) (s : Shared) (σ : St) (H : Hp) (Q : Bool → Hp → Prop), Inv X pins σ H s → t σ H Q →
    wpAny (model X.prog X.w) X.A (forIn ifs true fun c r => if r = true then do let ok ← isTrue c X.env (eval c X.env); pure (ForInStep.yield ok) else pure (ForInStep.yield r)) (TP X pins σ Q) X.xe s
theorem pts_nil {X : Cx} : PTs X [] tNoTest := fun _ _ _ H _ I h => wpAny_tests_nil ⟨H, I, h⟩
structure BlockOk (X : Cx) (scope : Scope) (own : List Str) (fr : List Str) (ix : List Nat) : Prop where
  kind : scope.kind = .function
  nocell : ∀ y ∈ scope.names, y.2 ≠ .cell
  names : ∀ y ∈ scope.names, y.2 = .local → scope.names.lookup y.1 = some .local
  free : ∀ p ∈ scope.names, p.2 = .free → ∃ c, X.env.cells.lookup p.1 = some c
  frd : ∀ x ∈ fr, (x, NameKind.free) ∈ scope.names ∧ X.env.kindOf x = some .cell ∧ scope.names.lookup x = some .free
  len : fr.length = ix.length
  at_ : ∀ (j : Nat) x i, fr[j]? = some x → ix[j]? = some i → X.N[i]? = some x
structure BlockB (X : Cx) (scope : Scope) (own : List Str) (fr : List Str) (ix : List Nat) : Prop where
  kind : scope.kind = .function
  nocell : (scope.names.all fun y => y.2 != .cell) = true
  names : (scope.names.all fun y => y.2 != .local || scope.names.lookup y.1 == some .local) = true
  free : (scope.names.all fun p => p.2 != .free || X.env.kindOf p.1 == some .cell) = true
  frd : (fr.all fun x => X.env.kindOf x == some .cell && scope.names.lookup x == some .free) = true
  at_ : (ix.map fun i => X.N[i]?) = fr.map some
theorem mem_of_lookup {x : Str} {k : NameKind} : ∀ {names : List (Str × NameKind)}, names.lookup x = some k → (x, k) ∈ names
  | [], h => by simp at h
  | (n, k') :: r, h => by
    rw [List.lookup_cons] at h
    cases hx : x == n with
    | true =>
      rw [hx] at h
      cases h
      rw [beq_iff_eq.mp hx]
      exact List.mem_cons_self
    | false =>
      rw [hx] at h
      exact List.mem_cons_of_mem _ (mem_of_lookup h)
theorem BlockB.ok {X : Cx} {scope : Scope} {own fr : List Str} {ix : List Nat} (B : BlockB X scope own fr ix) (ok : X.Ok) : BlockOk X scope own fr ix where
  kind := B.kind
  nocell := fun y hy => by simpa using List.all_eq_true.mp B.nocell y hy
  names := fun y hy hl => by
    have := List.all_eq_true.mp B.names y hy
    rw [hl] at this
    simpa using this
  free := fun p hp hf => by
    have := List.all_eq_true.mp B.free p hp
    rw [hf] at this
    exact ok.has p.1 (.inl (by simpa using this))
  frd := fun x hx => by
    have := List.all_eq_true.mp B.frd x hx
    rw [Bool.and_eq_true] at this
    have h2 : scope.names.lookup x = some .free := by simpa using this.2
    exact ⟨mem_of_lookup h2, by simpa using this.1, h2⟩
  len := by
    have := congrArg List.length B.at_
    simpa using this.symm
  at_ := fun j x i hx hi => by
    have e := congrArg (fun l => l[j]?) B.at_
    simp only [List.getElem?_map, hx, hi, Option.map_some] at e
    exact Option.some.inj e
theorem relabel_free {env : Env} (hf : env.scope.kind = .function) : ∀ {names : List (Str × NameKind)} {x : Str}, names.lookup x = some .free → env.kindOf x = some .cell →
    (names.map fun (n, k) => if (k == NameKind.free && env.scope.kind == .function && env.kindOf n == some .cell) then (n, NameKind.cell) else (n, k)).lookup x = some .cell
  | [], _, h, _ => by simp at h
  | (n, k) :: r, x, h, hx => by
    have ih := @relabel_free env hf r x
    show List.lookup x ((if (k == NameKind.free && env.scope.kind == .function && env.kindOf n == some .cell) = true then (n, NameKind.cell) else (n, k)) :: _) = _
    cases hxn : x == n with
    | true =>
      have e := beq_iff_eq.mp hxn
      subst e
      simp only [List.lookup_cons, hxn] at h
      cases h
      rw [if_pos (by rw [hf, hx]; rfl)]
      simp only [List.lookup_cons, hxn]
    | false =>
      simp only [List.lookup_cons, hxn] at h
      by_cases hc : (k == NameKind.free && env.scope.kind == .function && env.kindOf n == some .cell) = true
      · rw [if_pos hc]; simp only [List.lookup_cons, hxn]; exact ih h hx
      · rw [if_neg hc]; simp only [List.lookup_cons, hxn]; exact ih h hx
theorem relabel_has {env : Env} : ∀ {names : List (Str × NameKind)} {x : Str}, (∀ y ∈ names, y.2 ≠ .cell) →
    ((names.map fun (n, k) => if (k == NameKind.free && env.scope.kind == .function && env.kindOf n == some .cell) then (n, NameKind.cell) else (n, k)).lookup x = some .cell ∨
     (names.map fun (n, k) => if (k == NameKind.free && env.scope.kind == .function && env.kindOf n == some .cell) then (n, NameKind.cell) else (n, k)).lookup x = some .free) → (x, NameKind.free) ∈ names
  | [], _, _, h => by simp at h
  | (n, k) :: r, x, hn, h => by
    have ih := @relabel_has env r x (fun y hy => hn y (List.mem_cons_of_mem _ hy))
    have hk : k ≠ .cell := hn (n, k) List.mem_cons_self
    have h' : List.lookup x ((if (k == NameKind.free && env.scope.kind == .function && env.kindOf n == some .cell) = true then (n, NameKind.cell) else (n, k)) :: r.map fun (n, k) => if (k == NameKind.free && env.scope.kind == .function && env.kindOf n == some .cell) then (n, NameKind.cell) else (n, k)) = some .cell ∨
      List.lookup x ((if (k == NameKind.free && env.scope.kind == .function && env.kindOf n == some .cell) = true then (n, NameKind.cell) else (n, k)) :: r.map fun (n, k) => if (k == NameKind.free && env.scope.kind == .function && env.kindOf n == some .cell) then (n, NameKind.cell) else (n, k)) = some .free := h
    by_cases hc : (k == NameKind.free && env.scope.kind == .function && env.kindOf n == some .cell) = true
    · have hf : k = .free := by
        rw [Bool.and_eq_true, Bool.and_eq_true] at hc
        exact beq_iff_eq.mp hc.1.1
      subst hf
      cases hxn : x == n with
      | true => rw [beq_iff_eq.mp hxn]; exact List.mem_cons_self
      | false =>
        rw [if_pos hc] at h'
        simp only [List.lookup_cons, hxn] at h'
        exact List.mem_cons_of_mem _ (ih h')
    · rw [if_neg hc] at h'
      cases hxn : x == n with
      | true =>
        simp only [List.lookup_cons, hxn] at h'
        rcases h' with e | e
        · cases e; exact absurd rfl hk
        · cases e; rw [beq_iff_eq.mp hxn]; exact List.mem_cons_self
      | false =>
        simp only [List.lookup_cons, hxn] at h'
        exact List.mem_cons_of_mem _ (ih h')
section
variable {X : Cx} {pins : List (Addr × Obj)} {σ : St} {H : Hp} {s : Shared}
theorem block_start {scope : Scope} {own fr : List Str} {ix : List Nat} {C : Addr} {h₁ : Heap} {tk : Nat} {fp : List Addr} {m : Str → Option Value} (I : Inv X pins σ H s) (B : BlockOk X scope own fr ix) (hC : C = s.heap.objs.size)
    (hf : ∀ b ∈ fp, FpOk X pins H b) (hb : ∀ b ∈ fp, ∃ o, s.heap.get? b = some o) (old : ∀ b o, s.heap.get? b = some o → h₁.get? b = some o) (hns : h₁.Ns C m) :
    Inv (blockCx X pins (own ++ fr) scope C s H fp) [] (blockSt own.length ix σ) H { s with heap := h₁, toks := tk } := by
  have look : ∀ x c, (clOf X.env scope.names []).lookup x = some c → X.env.cells.lookup x = some c := clOf_look B.free (fun _ _ z => by cases z)
  have lt : ∀ b o, s.heap.get? b = some o → b ≠ C := fun b o e => by rw [hC]; exact Nat.ne_of_lt (Heap.lt_size e)
  have ok : (blockCx X pins (own ++ fr) scope C s H fp).Ok := {
    mod := I.ok.mod
    kind := B.kind
    glob := I.ok.glob
    blt := I.ok.blt
    above := by show s.heap.objs.size ≤ C; rw [hC]; exact Nat.le_refl _
    inj := fun x y c a b => I.ok.inj x y c (look x c a) (look y c b)
    has := fun x hx => clOf_has (.inl (relabel_has B.nocell hx))
    cab := fun x c z => nomatch z
    hd := I.ok.hd
    frames := I.ok.frames
    stk := .inl rfl
    exf := fun b hbf => ⟨by obtain ⟨o, e⟩ := hb b hbf; exact lt b o e, fun x c e => (hf b hbf).2.2.2.2.1 x c (look x c e)⟩
    bs := I.bs
    bsz := Nat.le_trans I.ok.bsz I.sz
    noex := fun b o e hbf => by
      rcases (hf b hbf).2.2.2.1 with z | z
      · exact I.ok.noex b o e z
      · exact absurd (Nat.lt_of_lt_of_le (Heap.lt_size e) (Nat.le_trans I.ok.bsz z)) (Nat.lt_irrefl _)
    exfs := fun b hbf hs => by
      rcases List.mem_cons.mp (I.stkSub b hs) with z | z
      · exact (hf b hbf).2.1 z
      · exact (hf b hbf).2.2.1 z
    funs := I.stack
    frf := I.stkFree }
  refine ⟨ok, rfl, I.bare, Un.kept old, ⟨m, hns, fun i x v e1 e2 e3 => ?_⟩, fun x c e => ?_, ?_, fun x c e => I.freeC x c (look x c e), fun p hp => ?_, I.hok.kept old, ?_⟩
  · have e1 : (own ++ fr)[i]? = some x := e1
    have e2 : (List.replicate own.length none ++ ix.map fun i => (σ[i]?).getD none)[i]? = some (some v) := e2
    by_cases hi : i < own.length
    · rw [List.getElem?_append_left (by rw [List.length_replicate]; exact hi), List.getElem?_replicate, if_pos hi] at e2
      cases e2
    · rw [List.getElem?_append_right (by omega)] at e1
      rw [List.getElem?_append_right (by rw [List.length_replicate]; omega), List.length_replicate, List.getElem?_map] at e2
      obtain ⟨i', hi', e4⟩ := Option.map_eq_some_iff.mp e2
      have e5 : σ[i']? = some (some v) := by
        cases z : σ[i']? with
        | none => rw [z] at e4; cases e4
        | some y => rw [z] at e4; exact congrArg some e4
      have hm : x ∈ fr := List.mem_of_getElem? e1
      obtain ⟨f1, f2, f3⟩ := B.frd x hm
      obtain ⟨mX, _, hl⟩ := I.loc
      obtain ⟨u, r, l⟩ := hl i' x v (B.at_ _ x i' e1 hi') e5 (.inr (.inl f2))
      rcases l with ⟨l, _⟩ | ⟨_, c, ec, z⟩
      · rw [f2] at l; cases l
      · obtain ⟨c', ec'⟩ := clOf_has (env := X.env) (names := scope.names) (acc := []) (x := x) (.inl f1)
        have := look x c' ec'
        rw [ec] at this
        cases this
        obtain ⟨o, ho, hd⟩ := z
        exact ⟨u, r, .inr ⟨.inl (relabel_free I.ok.kind f3 f2), c, ec', o, old _ _ ho, hd⟩⟩
  · obtain ⟨v, o, ho, hd⟩ := I.cell x c (look x c e)
    exact ⟨v, o, old _ _ ho, hd⟩
  · show H C = none
    rw [hC]; exact I.hok.fresh (Nat.le_refl _)
  · have hp' : p ∈ X.pn ++ pins := by simpa using hp
    obtain ⟨e, n, ne, nf, d⟩ := I.pin p hp'
    refine ⟨old _ _ e, n, lt _ _ e, fun z => ?_, d⟩
    rcases List.mem_cons.mp (I.stkSub _ z) with q | q
    · exact ne q
    · exact nf q
  · show (List.replicate own.length none ++ ix.map fun i => (σ[i]?).getD none).length = (own ++ fr).length
    rw [List.length_append, List.length_append, List.length_replicate, List.length_map, B.len]
theorem block_end {N : List Str} {scope : Scope} {C : Addr} {fp : List Addr} {σ' : St} {H' : Hp} {s' : Shared} {h'' : Heap} {pl : List (Addr × Obj)} (I : Inv X pins σ H s) (hf : ∀ b ∈ fp, FpOk X pins H b) (hC : C = s.heap.objs.size)
    (J : Inv (blockCx X pins N scope C s H fp) pl σ' H' s') (hs : Heap.SameBut C s'.heap h'') : Inv X pins σ H' { s' with heap := h'' } := by
  have u := J.base
  have k : ∀ b o, b ≠ C → s'.heap.get? b = some o → h''.get? b = some o := fun b o hb e => hs.extBut b o hb e
  have hn : H' C = none := J.free
  have lt : ∀ b o, s.heap.get? b = some o → b ≠ C := fun b o e => by rw [hC]; exact Nat.ne_of_lt (Heap.lt_size e)
  refine I.call' (s' := { s' with heap := h'' }) (ch := fp) J.os ?_ ?_ J.bare fun b hb => ⟨(hf b hb).2.2.2.1, (hf b hb).2.1, (hf b hb).2.2.2.2.1, (hf b hb).2.2.2.2.2⟩
  · exact ⟨fun b o q n hb he => k b o (lt b o q) (u.keep b o q n hb he), fun b o q n hb he => by
        obtain ⟨sl, e⟩ := u.slot b o q n hb he
        exact ⟨sl, k b _ (lt b o q) e⟩, u.free, fun b o q he => by
        obtain ⟨o', e⟩ := u.there b o q he
        exact ⟨o', k b _ (lt b o q) e⟩, u.tups, u.frzs, u.tbls⟩
  · intro b o e
    have nit : ∀ b u, H' b = some u → b ≠ C := fun b u e z => by rw [z, hn] at e; cases e
    refine (J.hok b o e).stay (fun c v hc q => k c v ?_ q) (fun _ q => q) fun _ _ q => q
    rcases hc with z | z
    · rw [z]; exact nit b o e
    · exact nit c _ z
theorem comp_block {tg iter elt : Expr} {ifs : List Expr} {scope : Scope} {own fr : List Str} {ix : List Nat} {g : TG} {tt : TT} {te : TE} {pos : Pos} {Q : VK} {sF : Shared} {HF : Hp} {C acc it : Addr} {h₁ : Heap} {fp : List Addr} {tn : Nat → Heap → Prop} {J : It} {W : Nat → Nat → List V → Hp → Prop} {m : Str → Option Value} {m0 : Nat} {RR : Result → Shared → Prop}
    (hc : X.calm = true) (B : BlockOk X scope own fr ix)
    (hg : ∀ pins C sF HF fp, PG (blockCx X pins (own ++ fr) scope C sF HF fp) tg g) (ht : ∀ pins C sF HF fp, PTs (blockCx X pins (own ++ fr) scope C sF HF fp) ifs tt) (he : ∀ pins C sF HF fp, PE (blockCx X pins (own ++ fr) scope C sF HF fp) elt te)
    (I3 : Inv X pins σ HF sF) (T : Turn X.prog X.w X.K tg J fp it tn) (st3 : tn 0 sF.heap) (f3 : ∀ b ∈ fp, FpOk X pins HF b) (f3' : ∀ b ∈ fp, ∃ o, sF.heap.get? b = some o) (hC : sF.heap.objs.size = C) (old : ∀ b o, sF.heap.get? b = some o → h₁.get? b = some o) (hns₁ : h₁.Ns C m)
    (w0 : W 0 m0 [] HF) (turn : ∀ i m ys H2, W i m ys H2 → H2 acc = some (.lst ys) ∧ ((J.stop i H2 ∧ Q (.ref acc) H2) ∨ (J.go i H2 ∧ ys.length < sizeLine ∧ ∀ x H3, J.yld i H2 x H3 → g x (blockSt own.length ix σ) H3 fun σ4 H4 => σ4.drop own.length = ix.map (fun i => (σ[i]?).getD none) ∧ tt σ4 H4 fun ok H5 =>
      if ok = true then te σ4 H5 fun y H6 => H6 acc = some (.lst ys) ∧ ∃ m', m' < m ∧ W (i + 1) m' (ys ++ [y]) (upd H6 acc (.lst (ys ++ [y])))
      else ∃ m', m' < m ∧ W (i + 1) m' ys H5)))
    (fin : ∀ s6 H5, Inv (blockCx X pins (own ++ fr) scope C sF HF fp) [] (blockSt own.length ix σ) H5 s6 → Q (.ref acc) H5 → RR (.ok .next) s6) :
    codeAny (model X.prog X.w) X.A (.compStart (.ListComp elt [⟨tg, iter, ifs, 0⟩] scope pos) 0 (.ref it) (.ref acc) (compEnvC scope (clOf X.env scope.names []) C X.env)) RR
      { sF with heap := h₁, toks := sF.toks + ([] : List (Str × Value)).length } := by
  have J0 : Inv (blockCx X pins (own ++ fr) scope C sF HF fp) [] (blockSt own.length ix σ) HF { sF with heap := h₁, toks := sF.toks + ([] : List (Str × Value)).length } := block_start I3 B hC.symm f3 f3' old hns₁
  have st4 : tn 0 h₁ := T.keep _ _ _ st3 fun b _ o e => old b o e
  have fY : ∀ {pl : List (Addr × Obj)} {H' : Hp}, (∀ b ∈ fp, H' b = none) → (∀ p ∈ pl, p.1 ∉ fp) → ∀ b ∈ fp, FpOk (blockCx X pins (own ++ fr) scope C sF HF fp) pl H' b := fun {pl H'} hn hp b hb => by
    refine ⟨hn b hb, (J0.ok.exf b hb).1, J0.ok.exfs b hb, .inl hb, (J0.ok.exf b hb).2, fun p hpm => ?_⟩
    rcases List.mem_append.mp hpm with z | z
    · exact (f3 b hb).2.2.2.2.2 p z
    · exact fun e => hp p z (by rw [e]; exact hb)
  have weak : ∀ {pl : List (Addr × Obj)} {σ4 : St} {H4 : Hp} {s4 : Shared}, Inv (blockCx X pins (own ++ fr) scope C sF HF fp) pl σ4 H4 s4 → σ4.drop own.length = ix.map (fun i => (σ[i]?).getD none) → Inv (blockCx X pins (own ++ fr) scope C sF HF fp) pl (blockSt own.length ix σ) H4 s4 := fun {pl σ4 H4 s4} J e => by
    refine J.weak ?_ fun i v hv => ?_
    · have := J.len
      have := J0.len
      omega
    · have hv' : (List.replicate own.length none ++ ix.map fun i => (σ[i]?).getD none)[i]? = some (some v) := hv
      by_cases hi : i < own.length
      · rw [List.getElem?_append_left (by rw [List.length_replicate]; exact hi), List.getElem?_replicate, if_pos hi] at hv'
        cases hv'
      · rw [List.getElem?_append_right (by rw [List.length_replicate]; omega), List.length_replicate, ← e, List.getElem?_drop] at hv'
        rw [show own.length + (i - own.length) = i by omega] at hv'
        exact hv'
  have loop : ∀ s4 : Shared, s4 = { sF with heap := h₁, toks := sF.toks + ([] : List (Str × Value)).length } →
      codeAny (model X.prog X.w) X.A (.compLoop (.ListComp elt [⟨tg, iter, ifs, 0⟩] scope pos) 0 (.ref it) (.ref acc) (compEnvC scope (clOf X.env scope.names []) C X.env)) RR s4 := by
    rintro s4 rfl
    refine codeAny_compLoop_gen (fun n s' => ∃ i ys H', Inv (blockCx X pins (own ++ fr) scope C sF HF fp) [] (blockSt own.length ix σ) H' s' ∧ tn i s'.heap ∧ (∀ b ∈ fp, H' b = none) ∧ W i n ys H') ?_ m0 ⟨0, [], HF, J0, st4, fun b hb => (f3 b hb).1, w0⟩
    rintro n s5 ⟨i, ys, H5, J5, st5, fr5, w5⟩
    obtain ⟨ha, hturn⟩ := turn i n ys H5 w5
    rcases hturn with ⟨stop, qn⟩ | ⟨go, hsz, step⟩
    · refine thn (T.done (blockCx X pins (own ++ fr) scope C sF HF fp) rfl rfl rfl hc i [] s5 _ H5 (fun _ _ => False) J5 (fY fr5 (fun _ z => by cases z)) st5 stop) fun r s6 ⟨hr, J6⟩ => ?_
      subst hr
      exact fin s6 H5 J6 qn
    · refine thn (T.item (blockCx X pins (own ++ fr) scope C sF HF fp) rfl rfl rfl hc i [] s5 _ H5 (fun _ _ => False) J5 (fY fr5 (fun _ z => by cases z)) st5 go) fun r s6 ⟨u, hr, h6⟩ => ?_
      subst hr
      refine thn h6 fun _ s7 ⟨x, H7, J7, r7, y7, st7, fr7⟩ => ?_
      have J7' := J7.pinned (fY fr7 (fun _ z => by cases z)) (T.obj _ _ st7)
      refine thn (hg pins C sF HF fp _ s7 _ H7 x u _ J7' r7 (step x H7 y7)) fun _ s8 ⟨σ8, H8, J8, k8, q8⟩ => ?_
      have back : ∀ {s9 : Shared} {H9 : Hp}, Inv (blockCx X pins (own ++ fr) scope C sF HF fp) ([] ++ pinsAt fp s7.heap) σ8 H9 s9 → Inv (blockCx X pins (own ++ fr) scope C sF HF fp) [] (blockSt own.length ix σ) H9 s9 ∧ tn (i + 1) s9.heap ∧ ∀ b ∈ fp, H9 b = none := fun {s9 H9} J9 => by
        refine ⟨weak J9.unpinned k8, T.keep _ _ _ st7 fun b hb o e => (J9.pin (b, o) (List.mem_append_right _ (List.mem_append_right _ (mem_pinsAt hb e)))).1, fun b hb => ?_⟩
        obtain ⟨o, e, d⟩ := T.obj _ _ st7 b hb
        exact (J9.pin (b, o) (List.mem_append_right _ (List.mem_append_right _ (mem_pinsAt hb e)))).2.1
      refine thn (ht pins C sF HF fp _ s8 σ8 H8 _ J8 q8) fun ok s9 ⟨H9, J9, q9⟩ => ?_
      cases ok with
      | false =>
        obtain ⟨m', hm, w9⟩ := q9
        obtain ⟨b1, b2, b3⟩ := back J9
        exact ⟨m', hm, i + 1, ys, H9, b1, b2, b3, w9⟩
      | true =>
        refine thn (he pins C sF HF fp _ s9 σ8 H9 _ J9 q9) fun v s10 ⟨y, H10, J10, r10, a10, m', hm, w10⟩ => ?_
        refine thn (mt_append _ s10 σ8 H10 (.ref acc) [y] (.ref acc) [v] (fun _ H' => H' = upd H10 acc (.lst (ys ++ [y]))) J10 rfl (.cons r10 .nil) ⟨acc, ys, y, rfl, rfl, a10, hsz, rfl⟩) fun _ s11 ⟨_, H11, J11, _, e11⟩ => ?_
        subst e11
        obtain ⟨b1, b2, b3⟩ := back J11
        exact ⟨m', hm, i + 1, ys ++ [y], _, b1, b2, b3, w10⟩
  exact codeAny_compStart_list (loop _ rfl) (T.self _ 0 _ _ _ st4 (loop _ rfl))
theorem pe_comp {tg iter elt : Expr} {ifs : List Expr} {scope : Scope} {own fr : List Str} {ix : List Nat} {wi : TI} {g : TG} {tt : TT} {te : TE} {pos : Pos} (hc : X.calm = true) (BB : BlockB X scope own fr ix) (hi : PI X tg iter wi)
    (hg : ∀ pins C sF HF fp, PG (blockCx X pins (own ++ fr) scope C sF HF fp) tg g) (ht : ∀ pins C sF HF fp, PTs (blockCx X pins (own ++ fr) scope C sF HF fp) ifs tt) (he : ∀ pins C sF HF fp, PE (blockCx X pins (own ++ fr) scope C sF HF fp) elt te)
    (hs : ∀ x, foldedSetIterable iter X.env x = pure x := by intro _; rfl) : PE X (.ListComp elt [⟨tg, iter, ifs, 0⟩] scope pos) (tComp wi own.length ix g tt te) := by
  intro pins s σ H Q I h
  have B := BB.ok I.ok
  rw [eval_ListComp]
  refine wpAny_comprehension_free (use := none) rfl hs (closure_eq B.free) B.kind B.names (thn (hi pins s σ H _ I h) fun xv s1 h1 => thn h1 fun itv s2 h2 => ?_)
  obtain ⟨it, fp, tn, J, H2, rfl, I2, T, st2, f2, R⟩ := h2
  refine wpAny_newObj_type (wpAny_newFunctionEnv B.nocell (by intro y hy; simp at hy) (fun h₁ hns₁ hsb₁ => ?_) B.kind)
  dsimp only at hns₁ hsb₁
  have I3 := I2.lnew (t' := s2.toks) (its := []) (ys := []) .nil (Nat.zero_le _)
  obtain ⟨W, ⟨m0, w0⟩, turn⟩ := R _ I2.fresh
  have fF : ∀ b ∈ fp, ∃ o, s2.heap.get? b = some o := fun b hb => let ⟨o, e, _⟩ := T.obj _ _ st2 b hb; ⟨o, e⟩
  have nacc : ∀ b ∈ fp, b ≠ s2.heap.objs.size := fun b hb => let ⟨o, e⟩ := fF b hb; Nat.ne_of_lt (Heap.lt_size e)
  have push : ∀ b o, s2.heap.get? b = some o → (s2.heap.push { cls := .type "list", data := .seq ([] : List Value).toArray }).get? b = some o := fun b o e => Heap.get?_push_of_some _ e
  exact comp_block hc B hg ht he I3 T (T.keep _ _ _ st2 fun b _ o e => push b o e) (fun b hb => ⟨by rw [upd_ne (nacc b hb)]; exact (f2 b hb).1, (f2 b hb).2⟩) (fun b hb => let ⟨o, e⟩ := fF b hb; ⟨o, push b o e⟩) rfl
    (fun b o e => hsb₁.extBut b o (Nat.ne_of_lt (Heap.lt_size e)) (Heap.get?_push_of_some _ e)) hns₁ w0 turn fun s6 H5 J6 qn => by
      obtain ⟨m6, hn6, _⟩ := J6.loc
      exact ⟨m6, hn6, fun h' hs' => ⟨.ref _, H5, block_end I3 (fun b hb => ⟨by rw [upd_ne (nacc b hb)]; exact (f2 b hb).1, (f2 b hb).2⟩) rfl J6 hs', rfl, qn⟩⟩
end
end L2
namespace L2
open PySem PySem.Spec PyProof.Rows PySem.SeqAt
noncomputable def SqLL (K : PySem.W.Frag) (H : Hp) (a : Addr) (nss : List (List Int)) : Prop := ∃ as : List Addr, SqL K H a (as.map V.ref) ∧ Paired (fun b ns => SqL K H b (ns.map V.int)) as nss
theorem SqLL.same {K : PySem.W.Frag} {H H' : Hp} {a : Addr} {nss : List (List Int)} (e : Same H H') (h : SqLL K H a nss) : SqLL K H' a nss := by
  obtain ⟨as, h1, h2⟩ := h
  exact ⟨as, e.seq h1, Paired.imp' (fun b ns z => e.seq z) h2⟩
section
variable {X : Cx} {pins : List (Addr × Obj)} {σ : St} {H : Hp} {s : Shared}
end
section
variable {X : Cx}
theorem call_all (hc : X.calm = true) : CallR X (.builtin "all") (fun xs H Q => ∃ (p : Addr) (bs : List Bool), xs = [.ref p] ∧ SqL X.K H p (bs.map V.bl) ∧ Q (.bl (bs.all id)) H) := by
  intro pins s σ H xs us Q I r h
  obtain ⟨p, bs, rfl, hq, q⟩ := h
  obtain ⟨u, rfl, ru⟩ := vals1 r
  cases ru
  obtain ⟨its, rv, pl, hz⟩ := I.list hq
  have hl := pl.isList
  have hlt : p < s.heap.objs.size := by obtain ⟨_, e, _⟩ := hl; exact Heap.lt_size e
  refine call_all_walk (wpAny_pyIter_list hl ?_)
  refine ⟨s.heap.objs.size, [s.heap.objs.size, p], [s.heap.objs.size], its.toArray.size, _, _, fun i => (bs[i]?).getD true, rfl, Walks.list (A := X.A.in1) (I.ok.hd hc) _ p (Nat.ne_of_lt hlt) its.toArray,
    ⟨⟨_, Heap.get?_push_size _ rfl, rfl, rfl⟩, hl.push _⟩, fun i v s' Q' E' hP hQ => ?_, fun h' tk hk => ?_⟩
  · have hP' : its[i]? = some v := by simpa using hP
    have lenB : bs.length = its.length := by have := rv.length; rwa [List.length_map] at this
    have hi : i < bs.length := by rw [lenB]; exact (List.getElem?_eq_some_iff.mp hP').1
    obtain ⟨w, ew, rw'⟩ := rv.get (x := V.bl bs[i]) (i := i) (by rw [List.getElem?_map, List.getElem?_eq_getElem hi]; rfl)
    rw [hP'] at ew
    cases ew
    cases (show v = Value.bool bs[i] from rw')
    simp only [List.getElem?_eq_getElem hi, Option.getD_some] at hQ
    exact wpAny_truthy_bool hQ
  · have e : ((List.range its.toArray.size).all fun i => (bs[i]?).getD true) = bs.all id := by
      have lenB : bs.length = its.length := by have := rv.length; rwa [List.length_map] at this
      rw [List.size_toArray, ← lenB]; exact PyProof.Rows.LSm.range_all bs
    rw [e]
    exact ⟨.bl _, H, I.kept (PyProof.Rows.LSm.kept_iter hk), rfl, q⟩
end
end L2
namespace L2
open PySem PySem.Spec PyProof.Rows
theorem Same.wr {H H' : Hp} {p : Addr} {o : HO} (s : Same H H') (h : H p = Option.none) : Same H (upd H' p o) := fun b u e => by
  rw [upd_ne (ne_of_none e h)]
  exact s b u e
section
variable {X : Cx}
end
end L2
namespace L2
open PySem PySem.Spec PyProof.Rows
theorem Inv.turns {X : Cx} {pins : List (Addr × Obj)} {σ : St} {H : Hp} {s : Shared} {h' : Heap} {ch : List Addr} {t' : Nat} (I : Inv X pins σ H s) (hf : ∀ b ∈ ch, FpOk X pins H b) (k : ∀ b o, b ∉ ch → s.heap.get? b = some o → h'.get? b = some o) :
    Inv X pins σ H { s with heap := h', toks := t' } := by
  have nit : ∀ b u, H b = some u → b ∉ ch := fun b u e z => by rw [(hf b z).1] at e; cases e
  refine I.step (g' := s.gens) (d' := s.drawn) (ch := ch) (fun b hb => ⟨(hf b hb).2.2.2.1, (hf b hb).2.1, (hf b hb).2.2.2.2.1, (hf b hb).2.2.2.2.2⟩) (fun b o _ _ hc e _ => k b o hc e) (fun b o _ _ hc e _ => ⟨o.slots, k b o hc e⟩) (fun _ _ _ _ n => n)
    (fun b o hc e => ⟨o, k b o hc e⟩) (fun _ _ e => e) (fun _ _ _ e => e) (fun b ps e => ⟨#[], by rw [e]; simp⟩) (fun m hm => ?_) (fun b u e => ?_) I.bare
  · obtain ⟨o, es, ep, ho, r⟩ := hm
    exact ⟨o, es, ep, k _ o (fun z => (hf _ z).2.1 rfl) ho, r⟩
  · refine (I.hok b u e).stay (fun c v hc q => k c v ?_ q) (fun _ q => q) fun _ _ q => q
    rcases hc with z | z
    · rw [z]; exact nit b u e
    · exact nit c _ z
section
variable {X : Cx}
end
end L2
namespace Bw
noncomputable def C : Nat → Nat → Nat
  | _, 0 => 1
  | 0, _ + 1 => 0
  | n + 1, k + 1 => C n k + C n (k + 1)
theorem C_zero (n : Nat) : C n 0 = 1 := by cases n <;> rfl
theorem C_zero_succ (k : Nat) : C 0 (k + 1) = 0 := rfl
theorem C_succ (n k : Nat) : C (n + 1) (k + 1) = C n k + C n (k + 1) := rfl
theorem C_above : ∀ (n k : Nat), n < k → C n k = 0
  | n, 0, h => absurd h (Nat.not_lt_zero _)
  | 0, _ + 1, _ => rfl
  | n + 1, k + 1, h => by
    rw [C_succ, C_above n k (by omega), C_above n (k + 1) (by omega)]
theorem C_self : ∀ n : Nat, C n n = 1
  | 0 => rfl
  | n + 1 => by rw [C_succ, C_self n, C_above n (n + 1) (by omega)]
theorem C_one : ∀ n : Nat, C n 1 = n
  | 0 => rfl
  | n + 1 => by rw [C_succ, C_zero, C_one n]; omega
theorem C_step : ∀ (n k : Nat), (k + 1) * C n (k + 1) + k * C n k = n * C n k
  | 0, 0 => by simp [C]
  | 0, k + 1 => by simp [C]
  | n + 1, 0 => by rw [C_one, C_zero]; omega
  | n + 1, k + 1 => by
    have h1 := C_step n k
    have h2 := C_step n (k + 1)
    rw [C_succ n (k + 1), C_succ n k]
    have e1 : (k + 1 + 1) * (C n (k + 1) + C n (k + 1 + 1)) = (k + 1 + 1) * C n (k + 1) + (k + 1 + 1) * C n (k + 1 + 1) := Nat.mul_add _ _ _
    have e2 : (k + 1) * (C n k + C n (k + 1)) = (k + 1) * C n k + (k + 1) * C n (k + 1) := Nat.mul_add _ _ _
    have e3 : (n + 1) * (C n k + C n (k + 1)) = (n * C n k + C n k) + (n * C n (k + 1) + C n (k + 1)) := by rw [Nat.mul_add, Nat.succ_mul, Nat.succ_mul]
    have e4 : (k + 1 + 1) * C n (k + 1) = (k + 1) * C n (k + 1) + C n (k + 1) := Nat.succ_mul _ _
    have e5 : (k + 1) * C n k = k * C n k + C n k := Nat.succ_mul _ _
    rw [e1, e2, e3, e4, e5]
    omega
theorem C_step' {n k : Nat} (h : k ≤ n) : (k + 1) * C n (k + 1) = C n k * (n - k) := by
  have e := C_step n k
  have e2 : C n k * (n - k) + k * C n k = n * C n k := by
    rw [Nat.mul_comm (C n k), ← Nat.add_mul, Nat.sub_add_cancel h]
  omega
theorem C_div {n k : Nat} (h : k ≤ n) : C n k * (n - k) / (k + 1) = C n (k + 1) := by
  rw [← C_step' h, Nat.mul_div_cancel_left _ (Nat.succ_pos k)]
theorem C_le_pow : ∀ (n k : Nat), C n k ≤ n ^ k
  | n, 0 => by rw [C_zero]; exact Nat.le_refl _
  | n, k + 1 => by
    have ih := C_le_pow n k
    by_cases h : k ≤ n
    · rw [← C_div h, Nat.pow_succ]
      refine Nat.le_trans (Nat.div_le_self _ _) ?_
      exact Nat.mul_le_mul ih (Nat.sub_le _ _)
    · rw [C_above n (k + 1) (by omega)]; exact Nat.zero_le _
noncomputable def ch (n k : Int) : Int := (C n.toNat k.toNat : Nat)
theorem ch_nonneg (n k : Int) : 0 ≤ ch n k := Int.natCast_nonneg _
theorem ch_nat (n k : Nat) : ch (n : Int) (k : Int) = (C n k : Nat) := by
  unfold ch; rw [Int.toNat_natCast, Int.toNat_natCast]
theorem ch_above {n k : Int} (h0 : 0 ≤ n) (h : n < k) : ch n k = 0 := by
  unfold ch; rw [C_above _ _ (by omega)]; rfl
theorem ch_zero (n : Int) : ch n 0 = 1 := by
  unfold ch; rw [show (0 : Int).toNat = 0 from rfl, C_zero]; rfl
theorem ch_succ {n k : Int} (hn : 0 ≤ n) (hk : 0 ≤ k) : ch (n + 1) (k + 1) = ch n k + ch n (k + 1) := by
  unfold ch
  rw [show (n + 1).toNat = n.toNat + 1 by omega, show (k + 1).toNat = k.toNat + 1 by omega, C_succ]
  omega
theorem ch_step {n : Int} {i : Nat} (hn : (i : Int) ≤ n) : ch n i * (n - i) / ((i : Int) + 1) = ch n ((i : Int) + 1) := by
  unfold ch
  have e : n = ((n.toNat : Nat) : Int) := by omega
  have e1 : ((i : Int) + 1).toNat = i + 1 := by omega
  have e2 : ((i : Nat) : Int).toNat = i := by omega
  have e3 : n - (i : Int) = ((n.toNat - i : Nat) : Int) := by omega
  rw [e1, e2, e3, ← C_div (n := n.toNat) (k := i) (by omega)]
  have e4 : ((i : Int) + 1) = ((i + 1 : Nat) : Int) := by omega
  rw [e4, ← Int.natCast_mul, ← Int.natCast_ediv]
noncomputable def fac : Nat → Int
  | 0 => 1
  | i + 1 => fac i * ((i : Int) + 1)
theorem fac_succ (i : Nat) : fac (i + 1) = fac i * ((i : Int) + 1) := rfl
end Bw
namespace Bw
theorem C_mono1 : ∀ (n k : Nat), C n k ≤ C (n + 1) k
  | n, 0 => by rw [C_zero, C_zero]; exact Nat.le_refl _
  | n, k + 1 => by rw [C_succ]; omega
theorem C_mono {m n : Nat} (k : Nat) (h : m ≤ n) : C m k ≤ C n k := by
  induction h with
  | refl => exact Nat.le_refl _
  | step _ ih => exact Nat.le_trans ih (C_mono1 _ _)
theorem C_pos {n k : Nat} (h : k ≤ n) : 0 < C n k := by
  have := C_mono k h
  rw [C_self] at this
  omega
theorem C_pos_le {n k : Nat} (h : 0 < C n k) : k ≤ n := by
  rcases Nat.lt_or_ge n k with z | z
  · rw [C_above n k z] at h; omega
  · exact z
theorem C_drop (n k : Nat) : ∀ j : Nat, j ≤ n → C n (k + 1) ≤ C (n - j) (k + 1) + j * C (n - 1) k
  | 0, _ => by simp
  | j + 1, h => by
    have ih := C_drop n k j (by omega)
    obtain ⟨r, hr⟩ : ∃ r, n - j = r + 1 := ⟨n - j - 1, by omega⟩
    have e : n - (j + 1) = r := by omega
    have m := C_mono (m := r) (n := n - 1) k (by omega)
    rw [hr, C_succ] at ih
    rw [e, Nat.succ_mul]
    omega
theorem step_down {t k number : Nat} (h : number < C t (k + 1)) (d : Nat) (hd : d = (C t (k + 1) - number + C (t - 1) k - 1) / C (t - 1) k) :
    0 < C (t - 1) k ∧ 1 ≤ d ∧ d ≤ t ∧ number < C (t - d + 1) (k + 1) := by
  have hk : k + 1 ≤ t := C_pos_le (by omega)
  have ho : 0 < C (t - 1) k := C_pos (by omega)
  have hdm : d * C (t - 1) k ≤ C t (k + 1) - number + C (t - 1) k - 1 := by
    rw [hd]; exact Nat.div_mul_le_self _ _
  have d1 : 1 ≤ d := by
    rw [hd]; exact (Nat.le_div_iff_mul_le ho).mpr (by omega)
  have s : (d - 1) * C (t - 1) k + C (t - 1) k = d * C (t - 1) k := by
    have e : d = d - 1 + 1 := by omega
    conv => rhs; rw [e, Nat.succ_mul]
  have lt : (d - 1) * C (t - 1) k < C t (k + 1) - number := by omega
  have dt : d - 1 ≤ t := by
    rcases Nat.lt_or_ge t (d - 1) with z | z
    · have q := C_drop t k t (Nat.le_refl _)
      rw [Nat.sub_self, C_zero_succ] at q
      have w : t * C (t - 1) k ≤ (d - 1) * C (t - 1) k := Nat.mul_le_mul_right _ (by omega)
      omega
    · exact z
  have q := C_drop t k (d - 1) dt
  have gt : number < C (t - (d - 1)) (k + 1) := by omega
  have ge := C_pos_le (n := t - (d - 1)) (k := k + 1) (by omega)
  have e : t - d + 1 = t - (d - 1) := by omega
  rw [e]
  exact ⟨ho, d1, by omega, gt⟩
noncomputable def facN : Nat → Nat
  | 0 => 1
  | i + 1 => facN i * (i + 1)
theorem C_fac_ge : ∀ {n k : Nat}, k ≤ n → (n + 1 - k) ^ k ≤ C n k * facN k
  | n, 0, _ => by rw [C_zero]; exact Nat.le_refl _
  | n, k + 1, h => by
    have ih := C_fac_ge (n := n) (k := k) (by omega)
    have st := C_step' (n := n) (k := k) (by omega)
    have e : C n (k + 1) * facN (k + 1) = C n k * facN k * (n - k) := by
      show C n (k + 1) * (facN k * (k + 1)) = _
      rw [Nat.mul_comm (facN k), ← Nat.mul_assoc, Nat.mul_comm (C n (k + 1)), st, Nat.mul_assoc, Nat.mul_comm (n - k), ← Nat.mul_assoc]
    rw [e]
    have e2 : n + 1 - (k + 1) = n - k := by omega
    rw [e2, Nat.pow_succ]
    refine Nat.mul_le_mul_right _ (Nat.le_trans (Nat.pow_le_pow_left (by omega) k) ih)
theorem start_above {number k f : Nat} (h : number * facN k < 2 ^ (f * k)) : number < C (2 ^ f + k) k := by
  rw [Nat.pow_mul] at h
  generalize 2 ^ f = p at h ⊢
  have q := C_fac_ge (n := p + k) (k := k) (by omega)
  have e : p + k + 1 - k = p + 1 := by omega
  rw [e] at q
  have r : p ^ k ≤ (p + 1) ^ k := Nat.pow_le_pow_left (by omega) k
  rcases Nat.lt_or_ge number (C (p + k) k) with z | z
  · exact z
  · have := Nat.mul_le_mul_right (facN k) z
    omega
theorem fac_nat : ∀ i : Nat, fac i = (facN i : Nat)
  | 0 => rfl
  | i + 1 => by
    rw [fac_succ, fac_nat i]
    show _ = ((facN i * (i + 1) : Nat) : Int)
    rw [Int.natCast_mul]
    rfl
structure IsTop (k number t : Int) : Prop where
  lo : k - 1 ≤ t
  le : ch t k ≤ number
  lt : number < ch (t + 1) k
theorem ch_mono {m n k : Int} (h : m ≤ n) : ch m k ≤ ch n k := by
  unfold ch
  exact Int.ofNat_le.mpr (C_mono _ (by omega))
theorem ch_pos_le {n k : Int} (hn : 0 ≤ n) (h : 0 < ch n k) : k ≤ n := by
  rcases (by omega : k ≤ n ∨ n < k) with z | z
  · exact z
  · rw [ch_above hn z] at h; omega
theorem ch_pos {n k : Int} (hk : 0 ≤ k) (h : k ≤ n) : 0 < ch n k := by
  unfold ch
  exact Int.ofNat_lt.mpr (C_pos (by omega))
theorem step_downI {t k number : Int} (hk : 1 ≤ k) (h0 : 0 ≤ number) (ht : 0 ≤ t) (h : number < ch t k) (d : Int) (hd : d = (ch t k - number + ch (t - 1) (k - 1) - 1) / ch (t - 1) (k - 1)) :
    k ≤ t ∧ 0 < ch (t - 1) (k - 1) ∧ 1 ≤ d ∧ k - 1 ≤ t - d ∧ number < ch (t - d + 1) k := by
  have kt : k ≤ t := ch_pos_le ht (by omega)
  obtain ⟨j, hj⟩ : ∃ j : Nat, k = (j : Int) + 1 := ⟨(k - 1).toNat, by omega⟩
  obtain ⟨m, hm⟩ : ∃ m : Nat, t = (m : Int) := ⟨t.toNat, by omega⟩
  obtain ⟨r, hr⟩ : ∃ r : Nat, number = (r : Int) := ⟨number.toNat, by omega⟩
  subst hj hm hr
  have e1 : ch (m : Int) ((j : Int) + 1) = (C m (j + 1) : Nat) := by
    rw [show ((j : Int) + 1) = ((j + 1 : Nat) : Int) by omega, ch_nat]
  have e2 : ch ((m : Int) - 1) ((j : Int) + 1 - 1) = (C (m - 1) j : Nat) := by
    rw [show ((m : Int) - 1) = ((m - 1 : Nat) : Int) by omega, show ((j : Int) + 1 - 1) = ((j : Nat) : Int) by omega, ch_nat]
  rw [e1] at h
  rw [e1, e2] at hd
  have h' : r < C m (j + 1) := by omega
  obtain ⟨s1, s2, s3, s4⟩ := step_down h' _ rfl
  have ed : d = (((C m (j + 1) - r + C (m - 1) j - 1) / C (m - 1) j : Nat) : Int) := by
    rw [hd, Int.natCast_ediv]
    congr 1
    omega
  generalize (C m (j + 1) - r + C (m - 1) j - 1) / C (m - 1) j = dn at s2 s3 s4 ed
  subst ed
  have e3 : ch ((m : Int) - (dn : Int) + 1) ((j : Int) + 1) = (C (m - dn + 1) (j + 1) : Nat) := by
    rw [show ((m : Int) - (dn : Int) + 1) = ((m - dn + 1 : Nat) : Int) by omega, show ((j : Int) + 1) = ((j + 1 : Nat) : Int) by omega, ch_nat]
  have le := C_pos_le (n := m - dn + 1) (k := j + 1) (by omega)
  rw [e2, e3]
  exact ⟨kt, by omega, by omega, by omega, by omega⟩
theorem aboveI {number k : Int} {F b : Nat} (hk : 1 ≤ k) (h0 : 0 ≤ number) (hb : (number * fac k.toNat).natAbs < 2 ^ b) (hF : (b : Int) ≤ (F : Int) * k) : number < ch ((2 : Int) ^ F + k - 1 + 1) k := by
  obtain ⟨j, hj⟩ : ∃ j : Nat, k = (j : Int) := ⟨k.toNat, by omega⟩
  obtain ⟨r, hr⟩ : ∃ r : Nat, number = (r : Int) := ⟨number.toNat, by omega⟩
  subst hj hr
  rw [Int.toNat_natCast, fac_nat, ← Int.natCast_mul, Int.natAbs_natCast] at hb
  have hF' : b ≤ F * j := by
    have : ((F * j : Nat) : Int) = (F : Int) * (j : Int) := Int.natCast_mul _ _
    omega
  have s := start_above (number := r) (k := j) (f := F) (Nat.lt_of_lt_of_le hb (Nat.pow_le_pow_right (by decide) hF'))
  have e : (2 : Int) ^ F + (j : Int) - 1 + 1 = ((2 ^ F + j : Nat) : Int) := by
    rw [Int.natCast_add, Int.natCast_pow]
    show _ = (2 : Int) ^ F + (j : Int)
    omega
  rw [e, ch_nat]
  exact Int.ofNat_lt.mpr s
end Bw
namespace Bw
open PySem L2
open Builtin.Int (intBits)
noncomputable def spChoose : Sp := fun vs H Q _ => ∃ n k : Int, vs = [.int n, .int k] ∧ 0 ≤ n ∧ 0 ≤ k ∧ k ≤ 1000 ∧ intBits n ≤ 100000 ∧ Q (.int (ch n k)) H
noncomputable def spRound : Sp := fun vs H Q _ => ∃ a b : Int, vs = [.int a, .int b] ∧ 0 < b ∧ Q (.int ((a + b - 1) / b)) H
noncomputable def spAbove : Sp := fun vs H Q _ => ∃ k number : Int, vs = [.int k, .int number] ∧ 1 ≤ k ∧ k ≤ 60 ∧ 0 ≤ number ∧ intBits number ≤ 50000 ∧ ∀ t : Int, k - 1 ≤ t → number < ch (t + 1) k → intBits t ≤ 60000 → Q (.int t) H
noncomputable def spTop : Sp := fun vs H Q _ => ∃ k number : Int, vs = [.int k, .int number] ∧ 1 ≤ k ∧ k ≤ 60 ∧ 0 ≤ number ∧ intBits number ≤ 50000 ∧ ∀ t : Int, IsTop k number t → intBits t ≤ 60000 → Q (.int t) H
theorem bits_of {x : Int} {m : Nat} (h1 : 0 ≤ x) (h2 : x < (2 : Int) ^ m) : intBits x ≤ m := by
  refine intBits_le_iff.mpr ?_
  have e : ((2 ^ m : Nat) : Int) = (2 : Int) ^ m := by
    rw [Int.natCast_pow]; rfl
  rw [← e] at h2
  omega
theorem bits_mono {x : Int} {m n : Nat} (h : intBits x ≤ m) (hm : m ≤ n) : intBits x ≤ n := Nat.le_trans h hm
theorem bits_ch {n : Int} {k m : Nat} (h : intBits n ≤ m) (hn : 0 ≤ n) : intBits (ch n k) ≤ m * k + 1 := by
  refine intBits_le_of_natAbs (y := n ^ k) ?_ (intBits_pow_le h k)
  unfold ch
  rw [Int.toNat_natCast]
  have e : n = ((n.toNat : Nat) : Int) := by omega
  have e2 : (n ^ k).natAbs = n.toNat ^ k := by
    rw [Int.natAbs_pow]
    congr 1
    omega
  rw [e2]
  have := C_le_pow n.toNat k
  omega
theorem bits_fac : ∀ i : Nat, i ≤ 64 → intBits (fac i) ≤ 7 * i + 1
  | 0, _ => by decide
  | i + 1, hi => by
    rw [fac_succ]
    exact bits_mono (intBits_mul_le (m := 7 * i + 1) (n := 7) (bits_fac i (by omega)) (bits_of (by omega) (by omega))) (by omega)
end Bw
namespace L2
open PySem PySem.Spec PyProof.Rows
section
variable {X : Cx}
end
end L2
namespace L2
open PySem PySem.Spec PyProof.Rows
noncomputable def LL (H : Hp) (p : Addr) (nss : List (List Int)) : Prop := ∃ as : List Addr, H p = some (.lst (as.map V.ref)) ∧ Paired (fun b (ns : List Int) => H b = some (.lst (ns.map V.int))) as nss
noncomputable def LLm (H : Hp) (p : Addr) (nss : List (List Int)) : Prop := ∃ as : List Addr, H p = some (.lst (as.map V.ref)) ∧ Paired (fun b (ns : List Int) => b ≠ p ∧ H b = some (.lst (ns.map V.int))) as nss
theorem paired_imp {α β : Type} {F G : α → β → Prop} (h : ∀ a b, F a b → G a b) : ∀ {as : List α} {bs : List β}, Paired F as bs → Paired G as bs
  | _, _, .nil => .nil
  | _, _, .cons x y => .cons (h _ _ x) (paired_imp h y)
theorem LL.same {H H' : Hp} {p : Addr} {nss : List (List Int)} (s : Same H H') (h : LL H p nss) : LL H' p nss := by
  obtain ⟨as, e, q⟩ := h
  exact ⟨as, s _ _ e, paired_imp (fun _ _ z => s _ _ z) q⟩
theorem LLm.push {H H' : Hp} {pm t : Addr} {bs : List Addr} {nss : List (List Int)} {ns : List Int} (h2 : Paired (fun b (ns : List Int) => b ≠ pm ∧ H b = some (.lst (ns.map V.int))) bs nss) (sm : Same H H') (ht : H' t = some (.lst (ns.map V.int))) (hne : t ≠ pm) :
    LLm (upd H' pm (.lst (bs.map V.ref ++ [V.ref t]))) pm (nss ++ [ns]) := by
  refine ⟨bs ++ [t], by rw [upd_same, List.map_append]; rfl, Paired.snoc (paired_imp (fun b n z => ⟨z.1, by rw [upd_ne z.1]; exact sm _ _ z.2⟩) h2) ⟨hne, ?_⟩⟩
  · rw [upd_ne hne]; exact ht
end L2
namespace L2
open PySem PySem.Spec PyProof.Rows
section
variable {prog : Program} {w : World} {A : Around} {E : Value → Shared → Prop} {s : Shared}
end
section
variable {X : Cx}
end
end L2
namespace L2
open PySem PySem.Spec PyProof.Rows
open PySem.W (hideAll of_hideAll hideAll_get)
noncomputable def CXE (P : Program) (w : World) : CXT := fun outer H s E e s' => ∃ (x : Addr) (C a0 : Value) (H' : Hp) (B : Heap), e = .ref x ∧ s'.os = s.os ∧ AllBare s'.gens ∧ Heap.FlyingW B outer x C a0 s'.heap ∧
  (∀ h3, B.StaysIn h3 → s'.heap.UpToSlots h3 → Un (frs outer) [] H H' s.heap h3 ∧ HOk P w H' h3) ∧ s.heap.get? x = none ∧ H' x = none ∧ E C none H'
theorem own_obj {K : PySem.W.Frag} {h : Heap} {C : Addr} {bmB : List Value} {newId : String} (X : K.In h) (q : PySem.W.excIn K C bmB newId = true) :
    ∃ bm N nm q bs hdct sn sub ab col dd k0 k1 k2 k3 k5 mN, h.get? C = some (excClassObj nm q C N bs bm hdct sn sub ab col dd k0 k1 k2 k3 k5 newId) ∧ h.Ns N mN ∧ mN "__init__" = none ∧ OwnTail h bmB bm ∧ ∀ v b, PySem.W.mroIn K C v = some b → (Value.ref C :: bm).contains v = b := by
  unfold PySem.W.excIn at q
  split at q
  · rename_i dd cd sl ho
    split at q
    · rename_i C' bm k0 k1 k2 k3 n k5 hm hs
      simp only [Bool.and_eq_true, beq_iff_eq, Bool.not_eq_true'] at q
      obtain ⟨⟨⟨⟨⟨rfl, rfl⟩, hdel⟩, ht⟩, hok⟩, hni⟩ := q
      obtain ⟨nm, bs, mro, ns, qn, hd, sn, sub, ab, col, del⟩ := cd
      dsimp only at hm hdel hok hni
      subst hm hdel
      have hsl : sl = #[k0, k1, k2, k3, some (.builtin n), k5] := by
        obtain ⟨l⟩ := sl
        simp only at hs
        rw [hs]
      subst hsl
      exact ⟨bm, ns, nm, qn, bs, hd, sn, sub, ab, col, dd, k0, k1, k2, k3, k5, _, X _ _ ho, .of_isNs (PySem.W.isNs_of_in X hok), PySem.W.nsMap_none_of_in X hok hni, PySem.W.tail_of_in X ht, fun v b e => by
        unfold PySem.W.mroIn PySem.W.clsIn at e
        rw [ho] at e
        simpa using e⟩
    · cases q
  · cases q
theorem ObjOk.there {P : Program} {w : World} {H : Hp} {h : Heap} {a : Addr} {o : HO} (x : ObjOk P w H h a o) : ∃ ob, h.get? a = some ob := by
  cases o with
  | lst xs => obtain ⟨_, _, _, _, e⟩ := x; exact ⟨_, e⟩
  | tup xs => obtain ⟨_, _, _, ob, e, _⟩ := x; exact ⟨_, e⟩
  | dK kvs => obtain ⟨_, _, _, _, o, _, _, e, _⟩ := x; exact ⟨_, e⟩
  | dT kvs => obtain ⟨_, _, _, _, o, _, _, e, _⟩ := x; exact ⟨_, e⟩
  | set S n => obtain ⟨o, _, _, _, e, _⟩ := x; exact ⟨_, e⟩
  | ins C dx fs => obtain ⟨_, _, _, e, _⟩ := x; exact ⟨_, e⟩
  | own y => obtain ⟨_, e⟩ := x; exact ⟨_, e⟩
  | xd fs => obtain ⟨_, ⟨_, _, _, e, _⟩, _⟩ := x; exact ⟨_, e⟩
  | rng lo hi => obtain ⟨_, _, _, e⟩ := x; exact ⟨_, e⟩
  | frz ob u => obtain ⟨e, _⟩ := x; exact ⟨_, e⟩
  | tbl ps => exact ⟨_, (show h.get? a = some _ from x)⟩
  | met f y => exact ⟨_, (show h.get? a = some _ from x)⟩
  | ext φ => obtain ⟨_, ⟨_, e⟩, _⟩ := x; exact ⟨_, e⟩
section
variable {P : Program} {w : World} {K : PySem.W.Frag} {mg : Str → Option Value} {base : Heap} {N : List Str} {qual : Str} {scope : Scope} {f : Addr} {cdv : Value} {A : Around} {outer : List Env} {s s2 : Shared} {H H1 : Hp} {E : XK} {pins : List (Addr × Obj)} {σ : St}
theorem stands (I : Inv (cxOf (CXE P w) P w K mg base N qual scope f cdv A outer s H E) pins σ H1 s2) {h3 : Heap} (hst : (hideAll s2.heap (frs (envOfC qual scope s.heap.objs.size f cdv :: outer))).StaysIn h3) (up : s2.heap.UpToSlots h3) :
    Un (frs outer) [] H H1 s.heap h3 ∧ HOk P w H1 h3 := by
  have kk : ∀ b o, s2.heap.get? b = some o → b ∉ frs (envOfC qual scope s.heap.objs.size f cdv :: outer) → h3.get? b = some o := fun b o e hb => hst b o (hideAll_get _ e hb)
  have frz : ∀ b, b ∈ frs (envOfC qual scope s.heap.objs.size f cdv :: outer) → b = s.heap.objs.size ∨ b ∈ frs outer := fun b hb => by
    unfold frs at hb
    rw [List.filterMap_cons] at hb
    exact List.mem_cons.mp hb
  have notL : ∀ b o, s.heap.get? b = some o → b ∉ frs outer → b ∉ frs (envOfC qual scope s.heap.objs.size f cdv :: outer) := fun b o e hb z => by
    rcases frz b z with q | q
    · exact absurd (Heap.lt_size e) (by rw [q]; exact Nat.lt_irrefl _)
    · exact hb q
  have U := I.base
  have stk := I.stack
  refine ⟨⟨fun b o e n hb hx => kk b o (U.keep b o e n hb hx) (notL b o e hb), fun b o e n hb hx => ?_, fun b o e n hx => U.free b o e n hx, fun b o e hx => ?_, U.tups, U.frzs, U.tbls⟩, fun a u e => ?_⟩
  · obtain ⟨sl, q⟩ := U.slot b o e n hb hx
    obtain ⟨_, o2, ho2, hd2⟩ := I.ok.funs.mem hb
    have ho2' : s.heap.get? b = some o2 := ho2
    rw [e] at ho2'
    cases ho2'
    obtain ⟨sl2, q2⟩ := up b _ q hd2
    exact ⟨sl2, q2⟩
  · obtain ⟨o2, q⟩ := U.there b o e hx
    by_cases hb : b ∈ frs (envOfC qual scope s.heap.objs.size f cdv :: outer)
    · obtain ⟨_, o3, ho3, hd3⟩ := stk.mem hb
      obtain ⟨sl, q3⟩ := up b _ ho3 hd3
      exact ⟨_, q3⟩
    · exact ⟨_, kk b o2 q hb⟩
  · refine (I.hok a u e).stay (fun b v hb q => kk b v q fun z => ?_) (fun _ q => q) fun _ _ q => q
    have hn := I.stkFree b z
    rcases hb with r | r
    · rw [r] at hn; rw [hn] at e; cases e
    · rw [hn] at r; cases r
theorem xe_made {h' : Heap} {e : Addr} {C : Value} {vs : List Value} (I : Inv (cxOf (CXE P w) P w K mg base N qual scope f cdv A outer s H E) pins σ H1 s2) (m : Heap.MadeExcOf s2.heap h' e C vs) (h : E C none H1) :
    (cxOf (CXE P w) P w K mg base N qual scope f cdv A outer s H E).xe (.ref e) { s2 with heap := h' } := by
  show wpAny (model P w) (A.deeper (envOfC qual scope s.heap.objs.size f cdv)) (leaving (envOfC qual scope s.heap.objs.size f cdv) (.ref e)) (fun _ s'' => CXE P w outer H s E (.ref e) s'') (fun e' s'' => CXE P w outer H s E e' s'') { s2 with heap := h' }
  have stk := I.stack
  refine wpAny_leaves_madeW (s := { s2 with heap := h' }) (base := hideAll s2.heap (frs (envOfC qual scope s.heap.objs.size f cdv :: outer))) (h := s2.heap) I.ok.frames rfl (fun b o q => of_hideAll _ q) (PySem.W.funFrames_hide stk fun env he b hb => List.mem_filterMap.mpr ⟨env, he, hb⟩) m fun h'' t fl tup bt ups => ?_
  have up1 : s2.heap.UpToSlots h'' := (Heap.UpToSlots.of_keeps m.keeps).trans ups
  refine ⟨e, C, .ref t, H1, _, rfl, I.os, I.bare, fl, fun h3 st3 up3 => stands I st3 (up1.trans up3), ?_, ?_, h⟩
  · have en := m.new
    cases q : s.heap.get? e with
    | none => rfl
    | some o =>
      obtain ⟨o2, q2⟩ := I.base.there e o q (by show e ∉ ([] : List Addr); simp)
      rw [en] at q2; cases q2
  · cases q : H1 e with
    | none => rfl
    | some u =>
      obtain ⟨ob, q2⟩ := ObjOk.there (I.hok e u q)
      rw [m.new] at q2; cases q2
theorem notL2 {b : Addr} {o : Obj} (e : s.heap.get? b = some o) (hb : b ∉ frs outer) : b ∉ frs (envOfC qual scope s.heap.objs.size f cdv :: outer) := fun z => by
  have z' : b ∈ s.heap.objs.size :: frs outer := by
    unfold frs at z ⊢
    rw [List.filterMap_cons] at z
    exact z
  rcases List.mem_cons.mp z' with q | q
  · exact absurd (Heap.lt_size e) (by rw [q]; exact Nat.lt_irrefl _)
  · exact hb q
theorem xe_pass {x : Addr} {s' : Shared} {e : Value} {E' : XK} (I : Inv (cxOf (CXE P w) P w K mg base N qual scope f cdv A outer s H E) pins σ H1 s2) (hx : CXE P w (envOfC qual scope s.heap.objs.size f cdv :: outer) H1 s2 E' e s') (h : ∀ C H', E' C none H' → E C none H') :
    (cxOf (CXE P w) P w K mg base N qual scope f cdv A outer s H E).xe e s' := by
  obtain ⟨x, C, a0, H', B, rfl, os, bare, fl, st, xn, xh, q⟩ := hx
  show wpAny (model P w) (A.deeper (envOfC qual scope s.heap.objs.size f cdv)) (leaving (envOfC qual scope s.heap.objs.size f cdv) (.ref x)) (fun _ s'' => CXE P w outer H s E (.ref x) s'') (fun e' s'' => CXE P w outer H s E e' s'') s'
  refine wpAny_leaves_onW I.ok.frames rfl fl fun h'' fl2 up => ?_
  have U := I.base
  refine ⟨x, C, a0, H', B, rfl, os.trans I.os, bare, fl2, fun h3 st3 up3 => ?_, ?_, xh, h C H' q⟩
  · obtain ⟨u, ok⟩ := st h3 st3 (up.trans up3)
    refine ⟨⟨fun b o e n hb hx => u.keep b o (U.keep b o e n hb hx) (U.free b o e n hx) (notL2 e hb) hx, fun b o e n hb hx => ?_, fun b o e n hx => ?_, fun b o e hx => ?_, fun b xs e => u.tups b xs (U.tups b xs e), fun b o v e => u.frzs b o v (U.frzs b o v e), fun b ps e => ?_⟩, ok⟩
    · obtain ⟨sl, q1⟩ := U.slot b o e n hb hx
      have hb' : b ∈ frs (envOfC qual scope s.heap.objs.size f cdv :: outer) := by
        unfold frs; rw [List.filterMap_cons]; exact List.mem_cons_of_mem _ hb
      obtain ⟨sl2, q2⟩ := u.slot b _ q1 (U.free b o e n hx) hb' hx
      exact ⟨sl2, q2⟩
    · obtain ⟨o2, q2⟩ := U.there b o e hx
      exact u.free b o2 q2 (U.free b o e n hx) hx
    · obtain ⟨o2, q2⟩ := U.there b o e hx
      exact u.there b o2 q2 hx
    · obtain ⟨m1, q1⟩ := U.tbls b ps e
      obtain ⟨m2, q2⟩ := u.tbls b _ q1
      exact ⟨m1 ++ m2, by rw [q2, Array.append_assoc]⟩
  · cases q1 : s.heap.get? x with
    | none => rfl
    | some o =>
      obtain ⟨o2, q2⟩ := U.there x o q1 (by show x ∉ ([] : List Addr); simp)
      rw [xn] at q2; cases q2
end
section
variable {P : Program} {w : World} {K : PySem.W.Frag} {mg : Str → Option Value} {base : Heap}
noncomputable def FnE (P : Program) (w : World) (K : PySem.W.Frag) (mg : Str → Option Value) (base : Heap) (k : Nat) (x : Str) (ps : List Str) (sp : Sp) : Prop :=
  ∃ f fd, FnOk P w K mg base (CXE P w) k f fd ps sp ∧ PySem.W.keepIn K (.ref f) = true ∧ Binds K fd ps [] ∧ mg x = some (.ref f)
noncomputable def tRaise (C : Addr) (E : XK) (t : TA) : TS := fun _ σ H => t σ H fun vs H1 => vs.length ≤ sizeLine ∧ E (.ref C) none H1
theorem ps_raise {N : List Str} {qual : Str} {scope : Scope} {f : Addr} {cdv : Value} {A : Around} {outer : List Env} {s : Shared} {H : Hp} {E : XK} {xn : Str} {C : Addr} {bmB : List Value} {B newId initId : String} {e : Expr} {es : List Expr} {t : TA} {np cpos pos : Pos}
    (FB : ExcBaseFacts B newId initId bmB) (hq : PySem.W.excIn K C bmB newId = true) (hg : Gl (cxOf (CXE P w) P w K mg base N qual scope f cdv A outer s H E) xn) (hm : mg xn = some (.ref C)) (ha : PA (cxOf (CXE P w) P w K mg base N qual scope f cdv A outer s H E) (e :: es) t)
    (hd : (xn == ("__debug__" : Str)) = false := by decide)
    (he : starEach (e :: es) (cxOf (CXE P w) P w K mg base N qual scope f cdv A outer s H E).env = (false, eval e (cxOf (CXE P w) P w K mg base N qual scope f cdv A outer s H E).env) :: starEach es (cxOf (CXE P w) P w K mg base N qual scope f cdv A outer s H E).env := by rfl)
    (hpl : (backTo cpos (starEach es (cxOf (CXE P w) P w K mg base N qual scope f cdv A outer s H E).env)).any (·.1) = false := by rfl) :
    PS (cxOf (CXE P w) P w K mg base N qual scope f cdv A outer s H E) (.Raise (some (.Call (.Name xn np) (e :: es) [] cpos)) none pos) (tRaise C E t) := by
  intro pins s1 σ H0 D I h
  obtain ⟨bm, N', nm, q, bs, hdct, sn, sub, ab, col, dd, k0, k1, k2, k3, k5, mN, hC, hN, hni, TL, _⟩ := own_obj I.mod.kin hq
  refine wpAny_Raise_call_subT (C := C) (nm := nm) (q := q) (N := N') (bs := bs) (bm := bm) (hdct := hdct) (sn := sn) (sub := sub) (ab := ab) (col := col) (dd := dd) (k0 := k0) (k1 := k1) (k2 := k2) (k3 := k3) (k5 := k5)
    FB (mN := mN) (TL.hasType FB.hasBase) (I.ok.hd rfl) (by rw [he]; show (false || (backTo cpos (starEach es _)).any (·.1)) = false; rw [hpl]; rfl) hni (ld_glob I hg hm ⟨rfl, ?_⟩ hd)
  have hs := ha cpos pins s1 σ H0 _ I h
  rw [he] at hs ⊢
  exact Calls.evalArgs_plain (thn hs fun us s2 x => by
    obtain ⟨vs, H1, I1, r1, z, q1⟩ := x
    exact ⟨rfl, by rw [← r1.length]; exact z, I1.bk _ _ hC, hN.keeps I1.bk, TL.keeps I1.bk, fun h' x m => xe_made I1 m q1⟩)
end
section
variable {P : Program} {w : World} {K : PySem.W.Frag} {mg : Str → Option Value} {base : Heap}
theorem Fun.okE {x qual : Str} {st : Stmt} {f : Addr} {fd : FuncData} {N ps : List Str} {k : Nat} {sp : Sp} (F : Fun K x qual st f fd) (S : FnScope N ps (defScope st)) (len : ∀ vs H Q E, sp vs H Q E → vs.length = ps.length)
    (hbody : ∀ (cdv : Value) (A : Around) (outer : List Env) (s : Shared) (H : Hp) (vs : List V) (Q : VK) (E : XK), Room k (A.deeper (envOfC qual (defScope st) s.heap.objs.size f cdv)) → sp vs H Q E →
      ∃ t, PSs (cxOf (CXE P w) P w K mg base N qual (defScope st) f cdv A outer s H E) (defBody st) t ∧ t { nx := fun _ H' => Q .non H', rt := Q } (start N vs) H) : FnOk P w K mg base (CXE P w) (k + 1) f fd ps sp := by
  obtain ⟨oc, od, kV, doc, pm, an, cdv, ct, osl, rfl, lk, hcd⟩ := F.ex
  exact fn_of lk hcd S len fun A outer s H vs Q E hr hsp => hbody cdv A outer s H vs Q E hr hsp
theorem Def.fnE {x : Str} {st : Stmt} {N ps : List Str} {k : Nat} {sp : Sp} (D : Def K mg x st ps) (S : FnScope N ps (defScope st)) (len : ∀ vs H Q E, sp vs H Q E → vs.length = ps.length)
    (hbody : ∀ (f : Addr) (cdv : Value) (A : Around) (outer : List Env) (s : Shared) (H : Hp) (vs : List V) (Q : VK) (E : XK), Room k (A.deeper (envOfC x (defScope st) s.heap.objs.size f cdv)) → sp vs H Q E →
      ∃ t, PSs (cxOf (CXE P w) P w K mg base N x (defScope st) f cdv A outer s H E) (defBody st) t ∧ t { nx := fun _ H' => Q .non H', rt := Q } (start N vs) H) : FnE P w K mg base (k + 1) x ps sp := by
  obtain ⟨f, fd, F, b, m⟩ := D
  exact ⟨f, fd, F.okE S len (hbody f), F.kp, b, m⟩
end
section
variable {M : Model} {A : Around} {E : Value → Shared → Prop} {h : Heap} {g : Array GenState} {d : Drawn} {t : Nat} {os : OsState}
end
section
variable {X : Cx} {pins : List (Addr × Obj)} {σ : St} {H : Hp} {s : Shared}
abbrev Cx.inX (X : Cx) (x : Addr) : Cx := { X with A := X.A.mark (some (.ref x)), calm := false, xe := fun _ _ => False }
theorem Inv.inX (I : Inv X pins σ H s) (x : Addr) : Inv (X.inX x) pins σ H s :=
  ⟨⟨I.ok.mod, I.ok.kind, I.ok.glob, I.ok.blt, I.ok.above, I.ok.inj, I.ok.has, I.ok.cab, fun z => Bool.noConfusion z, I.ok.frames, I.ok.stk, I.ok.exf, I.ok.bs, I.ok.bsz, I.ok.noex, I.ok.exfs, I.ok.funs, I.ok.frf⟩, I.os, I.bare, I.base, I.loc, I.cell, I.free, I.freeC, I.pin, I.hok, I.len⟩
noncomputable def excIs (x : Addr) (C : Value) : HO := .ext fun h => ∃ o, h.get? x = some o ∧ o.cls = C
end
section
variable {X : Cx} {pins : List (Addr × Obj)} {σ : St} {H : Hp} {s : Shared}
end
end L2
namespace L2
open PySem PySem.Spec PyProof.Rows
section
variable {X : Cx}
end
end L2
namespace L2
open PySem PySem.Spec PyProof.Rows
section
variable {X : Cx}
end
end L2
namespace L2
open PySem PySem.Spec PyProof.Rows PySem.W PySem.Calls
section
variable {prog : Program} {w : World} {A : Around} {E : Value → Shared → Prop} {s : Shared} {K : Frag} {x C : Addr} {ox : Obj}
structure ExcLook (K : Frag) (C : Addr) : Prop where
  ga : findIn K (.ref C) "__getattribute__" = some (some (.builtin "BaseException.__getattribute__"))
  hk : findIn K (.ref C) "__getattr__" = some none
  cl : findIn K (.ref C) "__class__" = some (some (.builtin "object.__class__"))
  gt : specialIn K (.builtin "object.__class__") "__get__" = some (some (.builtin "getset_descriptor.__get__"))
  tk : takesIn K (.builtin "object.__class__") = some true
  mo : mroIn K C (.type "object") = some true
  mb : mroIn K C (.type "BaseException") = some true
end
section
variable {K : Frag} {x C : Addr}
end
inductive XTy (K : PySem.W.Frag) (H : Hp) : V → Value → Prop where
  | of {x : V} {t : Value} (h : TyOf K H x t) : XTy K H x t
  | exc {a C : Addr} (L : ExcLook K C) (h : H a = some (excIs a (.ref C))) : XTy K H (.ref a) (.ref C)
section
variable {X : Cx}
end
noncomputable def PassesG (X : Cx) (G : St → Value → Hp → Prop) : Prop := ∀ (pins : List (Addr × Obj)) (σ : St) (H : Hp) (s : Shared) (e : Value) (s' : Shared), Inv X pins σ H s → CXE X.prog X.w X.stack H s (fun C _ H' => G σ C H') e s' → X.xe e s'
noncomputable def tFnG (sp : Sp) (G : St → Value → Hp → Prop) (t : TA) : TE := fun σ H Q => t σ H fun vs H1 => sp vs H1 Q fun C _ H' => G σ C H'
section
variable {X : Cx} {k : Nat} {x : Str} {ps : List Str} {sp : Sp} {p pos : Pos} {e : Expr} {es : List Expr} {t : TA} {G : St → Value → Hp → Prop}
theorem pe_fnG (F : FnE X.prog X.w X.K X.mg X.base k x ps sp) (hr : Room k X.A) (hg : Gl X x) (hx : PassesG X G) (ha : PA X (e :: es) t) (hdb : (x == ("__debug__" : Str)) = false := by decide)
    (he : starEach (e :: es) X.env = (false, eval e X.env) :: starEach es X.env := by rfl) (hpl : (backTo pos (starEach es X.env)).any (·.1) = false := by rfl) :
    PE X (.Call (.Name x p) (e :: es) [] pos) (tFnG sp G t) := by
  obtain ⟨f, fd, F, kp, b, m⟩ := F
  intro pins s σ H Q I h
  refine wpAny_Call_Name_kw (ld_glob I hg m ?_ hdb)
  refine PySem.W.callWith_K (h₀ := X.base) I.ok.mod.kin kp (thn (ha pos pins s σ H _ I h) fun us s1 ⟨vs, H1, I1, r, q⟩ => ⟨I1.kIn, ?_⟩) he hpl
  have hl : us.length = ps.length := by rw [← r.length]; exact F.len _ _ _ _ q
  have bb := b s1 us I1.kIn (by rw [List.append_nil]; exact hl)
  rw [List.append_nil] at bb
  refine wpAny_call (codeAny_mono (F.run X.A X.stack s1 H1 ⟨us, []⟩ us vs Q _ hr I1.env0 bb r q) fun rr s' hq => ?_)
  cases rr with
  | error e => exact hx pins σ H1 s1 e s' I1 hq
  | ok fl =>
    cases fl with
    | ret u => exact I1.after hq
    | next => exact False.elim hq
    | brk => exact False.elim hq
    | cont => exact False.elim hq
end
theorem passesE {P : Program} {w : World} {K : PySem.W.Frag} {mg : Str → Option Value} {base : Heap} {N : List Str} {qual : Str} {scope : Scope} {f : Addr} {cdv : Value} {A : Around} {outer : List Env} {s : Shared} {H : Hp} {E : XK} :
    PassesG (cxOf (CXE P w) P w K mg base N qual scope f cdv A outer s H E) (fun _ C H' => E C none H') :=
  fun _ _ _ _ _ _ I h => xe_pass (x := 0) I h fun _ _ z => z
abbrev Cx.pinned (X : Cx) (pn : List (Addr × Obj)) : Cx := { X with pn := pn }
end L2
namespace L2
open PySem PySem.Spec PyProof.Rows
end L2
namespace L2
open PySem PySem.Spec PyProof.Rows
end L2
namespace L2
open PySem PySem.Spec PyProof.Rows
end L2
namespace L2
open PySem PySem.Spec PyProof.Rows
section
variable {X : Cx}
variable {a b : Expr} {ta tb : TE} {pos : Pos}
variable {tA tB' : TT} {rest : List Expr}
end
end L2
namespace L2
open PySem PySem.Spec PyProof.Rows
end L2
namespace L2
open PySem PySem.Spec PyProof.Rows
end L2
namespace L2
open PySem PySem.Spec PyProof.Rows
end L2
namespace L2
open PySem PySem.Spec PyProof.Rows
end L2
namespace L2
open PySem PySem.Spec PyProof.Rows
section
variable {X : Cx} {CX : CXT} {k : Nat} {f C : Addr} {fd : FuncData} {ps ks : List Str} {sp : Sp} {E : XK} {x m : Str} {p pos apos kpos : Pos} {e o : Expr} {es : List Expr} {kws : List Keyword} {te ta : TE} {t tk : TA} {nm : Option Str}
variable {g : List Value → List Value → List Value} {gV : List V → List V → List V}
end
end L2
namespace L2
open PySem PySem.Spec PyProof.Rows
end L2
namespace L2
open PySem PySem.Spec PyProof.Rows
section
variable {κ : Type} [DecidableEq κ]
noncomputable def valV (kvs : List (κ × V)) (k : κ) : Option V := (kvs.find? fun kv => decide (kv.1 = k)).map (·.2)
noncomputable def putK (kvs : List (κ × V)) (k : κ) (v : V) : List (κ × V) :=
  if (kvs.any fun kv => decide (kv.1 = k)) = true then kvs.map (fun kv => if kv.1 = k then (kv.1, v) else kv) else kvs ++ [(k, v)]
noncomputable def dropK (kvs : List (κ × V)) (k : κ) : List (κ × V) := kvs.filter fun kv => decide (kv.1 ≠ k)
theorem valV_pos {p : κ × V} {r : List (κ × V)} {k : κ} (e : p.1 = k) : valV (p :: r) k = some p.2 := by simp [valV, List.find?_cons, e]
theorem valV_neg {p : κ × V} {r : List (κ × V)} {k : κ} (e : ¬ p.1 = k) : valV (p :: r) k = valV r k := by simp [valV, List.find?_cons, e]
theorem valV_any (k : κ) : ∀ kvs : List (κ × V), (kvs.any fun kv => decide (kv.1 = k)) = (valV kvs k).isSome
  | [] => rfl
  | p :: r => by
    rw [List.any_cons]
    by_cases e : p.1 = k
    · simp only [valV_pos e, decide_eq_true e, Bool.true_or, Option.isSome_some]
    · rw [valV_neg e, decide_eq_false e, Bool.false_or]; exact valV_any k r
theorem RelO.isSome_eq {o : Option V} {u : Option Value} (r : RelO o u) : o.isSome = u.isSome := by
  cases o with
  | none => cases u with
    | none => rfl
    | some _ => exact (show False from r).elim
  | some _ => cases u with
    | none => exact (show False from r).elim
    | some _ => rfl
theorem RelO.getD {o : Option V} {u : Option Value} {d : V} {d' : Value} (r : RelO o u) (rd : RelV d d') : RelV (o.getD d) (u.getD d') := by
  cases o with
  | none => cases u with
    | none => exact rd
    | some _ => exact (show False from r).elim
  | some _ => cases u with
    | none => exact (show False from r).elim
    | some _ => exact r
theorem KV.val {kvs : List (κ × V)} {vs : List (κ × Value)} (r : KV kvs vs) (k : κ) : RelO (valV kvs k) (valueAt vs k) := by
  unfold KV at r
  induction r with
  | nil => exact True.intro
  | @cons p q ps qs h t ih =>
    obtain ⟨h1, h2⟩ := h
    by_cases e : p.1 = k
    · have e' : q.1 = k := h1.symm.trans e
      have b : valueAt (q :: qs) k = some q.2 := by simp [valueAt, List.find?_cons, e']
      rw [valV_pos e, b]; exact h2
    · have e' : ¬ q.1 = k := fun z => e (h1.trans z)
      have b : valueAt (q :: qs) k = valueAt qs k := by simp [valueAt, List.find?_cons, e']
      rw [valV_neg e, b]; exact ih
theorem KV.any {kvs : List (κ × V)} {vs : List (κ × Value)} (r : KV kvs vs) (k : κ) : (kvs.any fun kv => decide (kv.1 = k)) = vs.any fun kv => decide (kv.1 = k) := by
  unfold KV at r
  induction r with
  | nil => rfl
  | cons h t ih => rw [List.any_cons, List.any_cons, ih, h.1]
theorem KV.repl {kvs : List (κ × V)} {vs : List (κ × Value)} (r : KV kvs vs) (k : κ) {y : V} {u : Value} (ry : RelV y u) :
    KV (kvs.map fun kv => if kv.1 = k then (kv.1, y) else kv) (vs.map fun kv => if kv.1 = k then (kv.1, u) else kv) := by
  unfold KV at r ⊢
  induction r with
  | nil => exact .nil
  | @cons p q ps qs h t ih =>
    rw [List.map_cons, List.map_cons]
    refine .cons ?_ ih
    obtain ⟨h1, h2⟩ := h
    by_cases e : p.1 = k
    · rw [if_pos e, if_pos (h1.symm.trans e)]; exact ⟨h1, ry⟩
    · rw [if_neg e, if_neg (fun z => e (h1.trans z))]; exact ⟨h1, h2⟩
theorem KV.put {kvs : List (κ × V)} {vs : List (κ × Value)} (r : KV kvs vs) (k : κ) {y : V} {u : Value} (ry : RelV y u) : KV (putK kvs k y) (stored vs k u) := by
  unfold putK stored
  rw [r.any k]
  by_cases e : (vs.any fun kv => decide (kv.1 = k)) = true
  · rw [if_pos e, if_pos e]; exact r.repl k ry
  · rw [if_neg e, if_neg e]; exact Paired.snoc r ⟨rfl, ry⟩
theorem KV.drop {kvs : List (κ × V)} {vs : List (κ × Value)} (r : KV kvs vs) (k : κ) : KV (dropK kvs k) (without vs k) := by
  unfold KV at r ⊢
  unfold dropK without
  induction r with
  | nil => exact .nil
  | @cons p q ps qs h t ih =>
    obtain ⟨h1, h2⟩ := h
    rw [List.filter_cons, List.filter_cons]
    by_cases e : p.1 = k
    · have a : ¬ decide (p.1 ≠ k) = true := by simp [e]
      have b : ¬ decide (q.1 ≠ k) = true := by simp [h1.symm.trans e]
      rw [if_neg a, if_neg b]; exact ih
    · have e' : ¬ q.1 = k := fun z => e (h1.trans z)
      have a : decide (p.1 ≠ k) = true := by simp [e]
      have b : decide (q.1 ≠ k) = true := by simp [e']
      rw [if_pos a, if_pos b]; exact .cons ⟨h1, h2⟩ ih
theorem KV.length {kvs : List (κ × V)} {vs : List (κ × Value)} (r : KV kvs vs) : kvs.length = vs.length := Paired.length r
end
abbrev KT (H : Hp) : List (List Key × V) → List (List Key × Addr × Value) → Prop := Paired fun p q => p.1 = q.1 ∧ H q.2.1 = some (.tup (p.1.map kV)) ∧ RelV p.2 q.2.2
theorem KT.val {H : Hp} {kvs : List (List Key × V)} {xs : List (List Key × Addr × Value)} (r : KT H kvs xs) (k : List Key) : RelO (valV kvs k) ((atKey xs k).map (·.2)) := by
  induction r with
  | nil => exact True.intro
  | @cons p q ps qs h t ih =>
    obtain ⟨h1, _, h2⟩ := h
    by_cases e : p.1 = k
    · have e' : q.1 = k := h1.symm.trans e
      have b : atKey (q :: qs) k = some q.2 := by simp [atKey, List.find?_cons, e']
      rw [valV_pos e, b]; exact h2
    · have e' : ¬ q.1 = k := fun z => e (h1.trans z)
      have b : atKey (q :: qs) k = atKey qs k := by simp [atKey, List.find?_cons, e']
      rw [valV_neg e, b]; exact ih
theorem KT.repl {H : Hp} {kvs : List (List Key × V)} {xs : List (List Key × Addr × Value)} (r : KT H kvs xs) (k : List Key) {y : V} {u : Value} (ry : RelV y u) :
    KT H (kvs.map fun kv => if kv.1 = k then (kv.1, y) else kv) (xs.map (putAt k u)) := by
  induction r with
  | nil => exact .nil
  | @cons p q ps qs h t ih =>
    rw [List.map_cons, List.map_cons]
    refine .cons ?_ ih
    obtain ⟨h1, h2, h3⟩ := h
    unfold putAt
    by_cases e : p.1 = k
    · rw [if_pos e, if_pos (h1.symm.trans e)]; exact ⟨h1, h2, ry⟩
    · rw [if_neg e, if_neg (fun z => e (h1.trans z))]; exact ⟨h1, h2, h3⟩
theorem KT.put {H : Hp} {kvs : List (List Key × V)} {xs : List (List Key × Addr × Value)} (r : KT H kvs xs) (k : List Key) {b : Addr} {y : V} {u : Value} (hb : H b = some (.tup (k.map kV))) (ry : RelV y u) :
    KT H (putK kvs k y) (storedH xs k b u) := by
  have e : (kvs.any fun kv => decide (kv.1 = k)) = (atKey xs k).isSome := by
    rw [valV_any, (r.val k).isSome_eq, Option.isSome_map]
  unfold putK storedH
  rw [e]
  by_cases q : (atKey xs k).isSome = true
  · rw [if_pos q, if_pos q]; exact r.repl k ry
  · rw [if_neg q, if_neg q]; exact Paired.snoc r ⟨rfl, hb, ry⟩
theorem KT.keeps {H H' : Hp} {kvs : List (List Key × V)} {xs : List (List Key × Addr × Value)} (r : KT H kvs xs) (ht : ∀ b ys, H b = some (.tup ys) → H' b = some (.tup ys)) : KT H' kvs xs :=
  Paired.mapP r fun _ _ z => ⟨z.1, ht _ _ z.2.1, z.2.2⟩
section
variable {P : Program} {w : World} {H : Hp} {h : Heap} {a : Addr}
end
noncomputable def DGet (H : Hp) (a : Addr) (y : V) (r : Option V) : Prop :=
  (∃ kvs k, Rd H a (.dK kvs) ∧ y = kV k ∧ r = valV kvs k) ∨ ∃ kvs k b, Rd H a (.dT kvs) ∧ y = .ref b ∧ H b = some (.tup (k.map kV)) ∧ r = valV kvs k
noncomputable def DPut (H : Hp) (a : Addr) (y v : V) (H' : Hp) : Prop :=
  (∃ kvs k, H a = some (.dK kvs) ∧ y = kV k ∧ kvs.length < sizeLine ∧ H' = upd H a (.dK (putK kvs k v))) ∨
  ∃ kvs k b, H a = some (.dT kvs) ∧ y = .ref b ∧ H b = some (.tup (k.map kV)) ∧ kvs.length < sizeLine ∧ H' = upd H a (.dT (putK kvs k v))
theorem DGet.k {H : Hp} {a : Addr} {kvs : List (Key × V)} {k : Key} (e : H a = some (.dK kvs)) : DGet H a (kV k) (valV kvs k) := .inl ⟨kvs, k, .inl e, rfl, rfl⟩
theorem DGet.t {H : Hp} {a b : Addr} {kvs : List (List Key × V)} {k : List Key} (e : H a = some (.dT kvs)) (eb : H b = some (.tup (k.map kV))) : DGet H a (.ref b) (valV kvs k) := .inr ⟨kvs, k, b, .inl e, rfl, eb, rfl⟩
theorem DPut.k {H : Hp} {a : Addr} {kvs : List (Key × V)} {k : Key} {v : V} (e : H a = some (.dK kvs)) (hl : kvs.length < sizeLine) : DPut H a (kV k) v (upd H a (.dK (putK kvs k v))) := .inl ⟨kvs, k, e, rfl, hl, rfl⟩
theorem DPut.t {H : Hp} {a b : Addr} {kvs : List (List Key × V)} {k : List Key} {v : V} (e : H a = some (.dT kvs)) (eb : H b = some (.tup (k.map kV))) (hl : kvs.length < sizeLine) :
    DPut H a (.ref b) v (upd H a (.dT (putK kvs k v))) := .inr ⟨kvs, k, b, e, rfl, eb, hl, rfl⟩
section
variable {X : Cx} {pins : List (Addr × Obj)} {σ : St} {H : Hp} {s : Shared} {a : Addr} {y v : V} {u r : Value} {o : Option V} {A : Around} {E : Value → Shared → Prop}
theorem Inv.big (I : Inv X pins σ H s) : sysModules < s.heap.objs.size := by
  have h : mainGlobals < s.heap.objs.size := (I.mod.glob.keeps I.bk).lt
  exact Nat.lt_trans (by decide) h
end
section
variable {X : Cx} {pins : List (Addr × Obj)} {σ : St} {H : Hp} {s : Shared} {a : Addr} {kvs : List (Key × V)} {k : Key} {u : Value} {A : Around} {E : Value → Shared → Prop}
end
section
variable {X : Cx} {o i e value : Expr} {pos pos' tpos : Pos} {td ty tv : TE}
end
theorem dk_empty {P : Program} {w : World} {H : Hp} (h : Heap) (hb : sysModules < h.objs.size) : ObjOk P w H (h.push { cls := .type "dict", data := .dict #[] }) h.objs.size (.dK []) :=
  ⟨Nat.zero_le _, beq_eq_false_iff_ne.mpr (Ne.symm (Nat.ne_of_lt hb)), [], .nil, Heap.DictOf.new h⟩
noncomputable def tDNewK : TE := fun _ H Q => ∀ p, H p = none → Q (.ref p) (upd H p (.dK []))
section
variable {X : Cx} {pos : Pos}
theorem pe_dnewK : PE X (.Dict [] [] pos) tDNewK := fun pins s σ H Q I h =>
  wpAny_Dict_empty ⟨.ref s.heap.objs.size, _, I.laid (a := s.heap.objs.size) (o := .dK []) (t' := s.toks) (fun _ _ q => Heap.get?_push_of_some _ q) (Nat.le_refl _) (dk_empty s.heap I.big), rfl, h _ (I.hok.fresh (Nat.le_refl _))⟩
end
structure M1 (X : Cx) (o : Expr) (m : Str) (apos : Pos) (e : Expr) (cpos : Pos) : Prop where
  base : attributeBase o m X.env (eval o X.env) = eval o X.env
  few : ((backTo cpos (starEach [e] X.env)).all (fun x => !x.1) && (backToKw cpos (keywordEach [] X.env)).all (fun x => x.1.isSome)
    && decide (([e] : List Expr).length + ([] : List Keyword).length + (if ([] : List Keyword).isEmpty then 0 else 1) < 30)) = true
  line : (apos.endLine == cpos.line) = true
  trees : backTo cpos (starEach [e] X.env) = [(false, eval e X.env)]
structure M2 (X : Cx) (o : Expr) (m : Str) (apos : Pos) (e f : Expr) (cpos : Pos) : Prop where
  base : attributeBase o m X.env (eval o X.env) = eval o X.env
  few : ((backTo cpos (starEach [e, f] X.env)).all (fun x => !x.1) && (backToKw cpos (keywordEach [] X.env)).all (fun x => x.1.isSome)
    && decide (([e, f] : List Expr).length + ([] : List Keyword).length + (if ([] : List Keyword).isEmpty then 0 else 1) < 30)) = true
  line : (apos.endLine == cpos.line) = true
  trees : backTo cpos (starEach [e, f] X.env) = [(false, eval e X.env), (false, eval f X.env)]
section
variable {X : Cx} {pins : List (Addr × Obj)} {σ : St} {H : Hp} {s : Shared} {a : Addr} {y d : V} {u r : Value} {o : Option V} {A : Around} {E : Value → Shared → Prop}
end
section
variable {X : Cx} {o e f : Expr} {apos cpos : Pos} {td ty tx : TE}
end
section
variable {X : Cx} {pins : List (Addr × Obj)} {σ : St} {H : Hp} {s : Shared} {a : Addr} {kvs : List (Key × V)} {A : Around} {E : Value → Shared → Prop}
end
section
variable {X : Cx} {pins : List (Addr × Obj)} {σ : St} {H : Hp} {s : Shared} {a : Addr} {y : V} {u : Value} {A : Around} {E : Value → Shared → Prop}
end
end L2
namespace Att
open PySem PySem.W PySem.Calls PyProof.Rows
end Att
namespace L2
open PySem PySem.Spec PyProof.Rows
end L2
namespace L2
open PySem PySem.Spec PyProof.Rows
end L2
namespace L2
open PySem PySem.Spec PyProof.Rows
section
variable {X : Cx}
end
section
variable {κ : Type} [DecidableEq κ]
end
end L2
namespace L2
open PySem PySem.Spec PyProof.Rows
section
variable {X : Cx}
theorem strsAre_of {ys : List Str} : ∀ {us : List Value}, Vals (ys.map V.str) us → StrsAre us ys := by
  induction ys with
  | nil => intro us r; rw [List.map_nil] at r; cases r; exact .nil
  | cons n ns ih =>
    intro us r
    rw [List.map_cons] at r
    cases r with
    | cons r1 r2 =>
      obtain ⟨t, e⟩ := r1
      subst e
      exact .cons n t (ih r2)
noncomputable def rJoin (K : PySem.W.Frag) : V → List V → Hp → VK → Prop := fun x vs H Q => ∃ a p ys, x = .str a ∧ vs = [.ref p] ∧ SqL K H p (ys.map V.str) ∧ (ys.map (·.length)).sum + ys.length * a.length ≤ 16777216 ∧ Q (.str (Txt.join a ys)) H
theorem mt_join : MtR X "str.join" (rJoin X.K) := by
  intro pins s σ H x xs v us Q I rx rs h
  obtain ⟨a, p, ys, rfl, rfl, hq, hz, q⟩ := h
  obtain ⟨t, rfl⟩ := rx
  obtain ⟨u, rfl, w1⟩ := vals1 rs
  cases w1
  obtain ⟨its, r, pl, _⟩ := I.list hq
  exact PyProof.Rows.join_list pl.isList (by simpa using strsAre_of r) hz fun t' k => ⟨.str (Txt.join a ys), H, I.tok _, ⟨_, rfl⟩, q⟩
theorem op_mulS : OpR X (binaryOp .Mult) (fun x y H Q => ∃ a n, x = .str a ∧ y = .int n ∧ MulOk a n ∧ Q (.str (Txt.mul a n)) H) := by
  intro pins s σ H x y v u Q I rx ry h
  obtain ⟨a, n, rfl, rfl, ok, q⟩ := h
  obtain ⟨t, rfl⟩ := rx
  obtain ⟨t', rfl⟩ := ry
  exact SB.mul ok fun _ _ => ⟨.str (Txt.mul a n), H, I.tok _, ⟨_, rfl⟩, q⟩
noncomputable def Its (x : Str) : It := ⟨fun i _ => i < x.cps.size, fun i H v H' => H' = H ∧ ∃ c, x.cps[i]? = some c ∧ v = .str ⟨#[c]⟩, fun i _ => x.cps.size ≤ i⟩
theorem turn_text {P : Program} {w : World} {K : PySem.W.Frag} {tg : Expr} (it : Addr) (x : Str) (t : Tok) (T : String) (hT : ["enumerate", "zip", "dict_itemiterator", "dict_reverseitemiterator", "odict_iterator", "itertools.zip_longest", "itertools.pairwise"].contains T = false)
    (W : ∀ A : Around, A.handled = none → Walks P w A it [it] [it] x.cps.size (SignAt x) (fun i h => h.IsStrIter it T x t i))
    (hself : ∀ (A : Around) (i : Nat) (s : Shared) (Q : Value → Shared → Prop) (E : Value → Shared → Prop), s.heap.IsStrIter it T x t i → Q (.ref it) s → wpAny (model P w) A (pyIter (.ref it)) Q E s) :
    Turn P w K tg (Its x) [it] it (fun i h => i ≤ x.cps.size ∧ h.IsStrIter it T x t i) where
  mem := by simp
  obj := fun i h st b hb => by
    have e : b = it := by simpa using hb
    subst e
    obtain ⟨_, o, e, c, d⟩ := st
    exact ⟨o, e, fun v z => by rw [d] at z; cases z⟩
  keep := fun i h h' st k => by
    obtain ⟨hi, o, e, c, d⟩ := st
    exact ⟨hi, o, k it (by simp) o e, c, d⟩
  item := by
    intro X hP hw hK hc i pins s σ H E I hf st hg
    subst hP hw hK
    obtain ⟨f0, f1, f2, f3, f4, f5⟩ := hf it (by simp)
    refine (W X.A (I.ok.hd hc)).item i s _ _ hg st.2 fun v h' tk hv st' kk => ?_
    obtain ⟨c, u, hcc, rfl⟩ := hv
    have I1 : Inv X pins σ H { s with heap := h', toks := tk } := I.turned (fun b o hb e => kk b o (by simpa using hb) e) f0 f1 f3 f4 f5
    obtain ⟨o, e, cc, d⟩ := id st'
    exact ⟨_, rfl, go_of (s := { s with heap := h', toks := tk }) e cc d hT ⟨.str ⟨#[c]⟩, H, I1, ⟨u, rfl⟩, ⟨rfl, c, hcc, rfl⟩, ⟨hg, st'⟩, fun b hb => (hf b hb).1⟩⟩
  done := by
    intro X hP hw hK hc i pins s σ H E I hf st hg
    subst hP hw hK
    obtain ⟨f0, f1, f2, f3, f4, f5⟩ := hf it (by simp)
    have e : i = x.cps.size := Nat.le_antisymm st.1 hg
    subst e
    exact (W X.A (I.ok.hd hc)).done s _ _ st.2 fun h' tk kk => ⟨rfl, I.turned (t' := tk) (fun b o hb e => kk b o (by simpa using hb) e) f0 f1 f3 f4 f5⟩
  self := fun A i s Q E st h => hself A i s Q E st.2 h
noncomputable def iText (tl : TE) : TI := fun σ H R => tl σ H fun x H1 => ∃ a, x = .str a ∧ R (Its a) H1
theorem pi_text {tg l : Expr} {tl : TE} (hl : PE X l tl) : PI X tg l (iText tl) := by
  intro pins s σ H R I h
  refine thn (hl pins s σ H _ I h) fun v s1 ⟨x, H1, I1, r1, q1⟩ => ?_
  obtain ⟨a, rfl, q⟩ := q1
  obtain ⟨t, rfl⟩ := r1
  have fp : ∀ b ∈ [s1.heap.objs.size], FpOk X pins H1 b := fun b hb => by
    have e : b = s1.heap.objs.size := by simpa using hb
    subst e
    exact I1.fpOk (Nat.le_refl _) (I1.hok.fresh (Nat.le_refl _))
  cases ha : a.cps.all (· < 128)
  · exact wpAny_pyIter_wide ha ⟨s1.heap.objs.size, [s1.heap.objs.size], _, _, H1, rfl, I1.kept (t' := s1.toks) fun b o e => Heap.get?_push_of_some _ e,
      turn_text _ a t "str_iterator" (by decide) (fun A hA => Walks.strWide hA _ a t) (fun A i s Q E st h => wpAny_pyIter_striter_wide st h), ⟨Nat.zero_le _, _, Heap.get?_push_size _ rfl, rfl, rfl⟩, fp, q⟩
  · exact wpAny_pyIter_ascii ha ⟨s1.heap.objs.size, [s1.heap.objs.size], _, _, H1, rfl, I1.kept (t' := s1.toks) fun b o e => Heap.get?_push_of_some _ e,
      turn_text _ a t "str_ascii_iterator" (by decide) (fun A hA => Walks.strAscii hA _ a t) (fun A i s Q E st h => wpAny_pyIter_striter_ascii st h), ⟨Nat.zero_le _, _, Heap.get?_push_size _ rfl, rfl, rfl⟩, fp, q⟩
end
end L2
namespace L2
open PySem PySem.Spec PyProof.Rows PySem.SeqAt
noncomputable def dV : V → PyData
  | .bl b => .bool b
  | .int i => .int i
  | .str x => .str x
  | _ => .none
section
variable {X : Cx}
end
end L2
namespace L2
open PySem PySem.Spec PyProof.Rows
end L2
namespace L2
open PySem PySem.Spec PyProof.Rows
structure FunD (K : PySem.W.Frag) (x qual : Str) (st : Stmt) (f : Addr) (fd : FuncData) : Prop where
  ex : ∃ (oc : Value) (od : Option Addr) (dV kV doc pm : Value) (an : Option Addr) (cdv ct : Value) (osl : Array (Option Value)), fd = PySem.W.fnOf x qual (defArgs st) (defBody st) (defScope st) dV kV doc pm an cdv ct ∧ K.lookup f = some ⟨oc, od, .func fd, osl⟩ ∧ PySem.W.codeIn K cdv qual = true
section
variable {P : Program} {w : World} {K : PySem.W.Frag} {mg : Str → Option Value} {base : Heap}
theorem FunD.ok {x qual : Str} {st : Stmt} {f : Addr} {fd : FuncData} {N ps : List Str} {k : Nat} {sp : Sp} (F : FunD K x qual st f fd) (S : FnScope N ps (defScope st)) (len : ∀ vs H Q E, sp vs H Q E → vs.length = ps.length)
    (hbody : ∀ (cdv : Value) (A : Around) (outer : List Env) (s : Shared) (H : Hp) (vs : List V) (Q : VK) (E : XK), Room k (A.deeper (envOfC qual (defScope st) s.heap.objs.size f cdv)) → sp vs H Q E →
      ∃ t, PSs (cxOf CX0 P w K mg base N qual (defScope st) f cdv A outer s H E).nox (defBody st) t ∧ t { nx := fun _ H' => Q .non H', rt := Q } (start N vs) H) : FnOk P w K mg base CX0 (k + 1) f fd ps sp := by
  obtain ⟨oc, od, dV, kV, doc, pm, an, cdv, ct, osl, rfl, lk, hcd⟩ := F.ex
  refine fn_of lk hcd S len fun A outer s H vs Q E hr hsp => ?_
  obtain ⟨t, h, q⟩ := hbody cdv A outer s H vs Q E hr hsp
  exact ⟨t, fun pins s1 σ H1 D I h1 => wpAny_mono (h pins s1 σ H1 D (I.wish _) h1) (fun fl s2 x => by
    cases fl with
    | next => obtain ⟨σ', H', I', q⟩ := x; exact ⟨σ', H', I'.unwish, q⟩
    | brk => obtain ⟨σ', H', I', q⟩ := x; exact ⟨σ', H', I'.unwish, q⟩
    | cont => obtain ⟨σ', H', I', q⟩ := x; exact ⟨σ', H', I'.unwish, q⟩
    | ret u => obtain ⟨v, σ', H', I', r, q⟩ := x; exact ⟨v, σ', H', I'.unwish, r, q⟩) fun _ _ z => z.elim, q⟩
theorem FunD.okE {x qual : Str} {st : Stmt} {f : Addr} {fd : FuncData} {N ps : List Str} {k : Nat} {sp : Sp} (F : FunD K x qual st f fd) (S : FnScope N ps (defScope st)) (len : ∀ vs H Q E, sp vs H Q E → vs.length = ps.length)
    (hbody : ∀ (cdv : Value) (A : Around) (outer : List Env) (s : Shared) (H : Hp) (vs : List V) (Q : VK) (E : XK), Room k (A.deeper (envOfC qual (defScope st) s.heap.objs.size f cdv)) → sp vs H Q E →
      ∃ t, PSs (cxOf (CXE P w) P w K mg base N qual (defScope st) f cdv A outer s H E) (defBody st) t ∧ t { nx := fun _ H' => Q .non H', rt := Q } (start N vs) H) : FnOk P w K mg base (CXE P w) (k + 1) f fd ps sp := by
  obtain ⟨oc, od, dV, kV, doc, pm, an, cdv, ct, osl, rfl, lk, hcd⟩ := F.ex
  exact fn_of lk hcd S len fun A outer s H vs Q E hr hsp => hbody cdv A outer s H vs Q E hr hsp
theorem FunD.binds {x qual : Str} {st : Stmt} {f : Addr} {fd : FuncData} {ps : List Str} (F : FunD K x qual st f fd)
    (h : ∀ (dV kV doc pm : Value) (an : Option Addr) (cdv ct : Value) (us : List Value), us.length = ps.length → bindArgs (PySem.W.fnOf x qual (defArgs st) (defBody st) (defScope st) dV kV doc pm an cdv ct) ⟨us, []⟩ = pure (ps.zip us)) : Binds K fd ps [] := by
  obtain ⟨oc, od, dV, kV, doc, pm, an, cdv, ct, osl, rfl, lk, hcd⟩ := F.ex
  exact .all (h dV kV doc pm an cdv ct)
theorem fund_mk {x qual : Str} {st : Stmt} {f : Addr} {oc : Value} {od an : Option Addr} {osl : Array (Option Value)} {dV kV doc pm cdv ct : Value} (l : K.lookup f = some ⟨oc, od, .func (PySem.W.fnOf x qual (defArgs st) (defBody st) (defScope st) dV kV doc pm an cdv ct), osl⟩)
    (c : PySem.W.codeIn K cdv qual = true) : FunD K x qual st f (PySem.W.fnOf x qual (defArgs st) (defBody st) (defScope st) dV kV doc pm an cdv ct) := ⟨⟨oc, od, dV, kV, doc, pm, an, cdv, ct, osl, rfl, l, c⟩⟩
end
noncomputable def DefM (K : PySem.W.Frag) (x qual : Str) (st : Stmt) (ps : List Str) (f : Addr) : Prop := ∃ fd, FunD K x qual st f fd ∧ Binds K fd ps []
noncomputable def MtX (CX : CXT) (P : Program) (w : World) (K : PySem.W.Frag) (mg : Str → Option Value) (base : Heap) (k : Nat) (C : Addr) (m : Str) (ps : List Str) (sp : Sp) : Prop :=
  ∃ f fd, FnOk P w K mg base CX k f fd ps sp ∧ Cls K C ∧ Meth K C m f ∧ Binds K fd ps []
abbrev Mt (P : Program) (w : World) (K : PySem.W.Frag) (mg : Str → Option Value) (base : Heap) (k : Nat) (C : Addr) (m : Str) (ps : List Str) (sp : Sp) : Prop := MtX CX0 P w K mg base k C m ps sp
abbrev MtE (P : Program) (w : World) (K : PySem.W.Frag) (mg : Str → Option Value) (base : Heap) (k : Nat) (C : Addr) (m : Str) (ps : List Str) (sp : Sp) : Prop := MtX (CXE P w) P w K mg base k C m ps sp
noncomputable def MkX (CX : CXT) (P : Program) (w : World) (K : PySem.W.Frag) (mg : Str → Option Value) (base : Heap) (k : Nat) (C : Addr) (ps : List Str) (sp : Sp) : Prop :=
  ∃ f fd, FnOk P w K mg base CX k f fd ps sp ∧ Mk K C f ∧ Binds K fd ps []
noncomputable def tMt (C : Addr) (m : Str) (sp : Sp) (ta : TE) (t : TA) : TE := fun σ H Q => ta σ H fun x H1 => ∃ a dx fs, x = .ref a ∧ H1 a = some (.ins C dx fs) ∧ fs.lookup m = none ∧ t σ H1 fun vs H2 => sp (x :: vs) H2 Q E0
noncomputable def tMtG (C : Addr) (m : Str) (sp : Sp) (G : St → Value → Hp → Prop) (ta : TE) (t : TA) : TE := fun σ H Q => ta σ H fun x H1 => ∃ a dx fs, x = .ref a ∧ H1 a = some (.ins C dx fs) ∧ fs.lookup m = none ∧ t σ H1 fun vs H2 => sp (x :: vs) H2 Q fun C _ H' => G σ C H'
noncomputable def tMk (C : Addr) (sp : Sp) (t : TA) : TE := fun σ H Q => t σ H fun vs H1 => ∀ x dx, H1 x = none → H1 dx = none → dx ≠ x → sp (.ref x :: vs) (upd (upd H1 dx (.own x)) x (.ins C dx [])) (fun v H2 => v = .non ∧ Q (.ref x) H2) E0
section
variable {X : Cx} {CX : CXT} {k : Nat} {C : Addr} {x m : Str} {ps : List Str} {sp : Sp} {p pos apos : Pos} {e o : Expr} {es : List Expr} {ta : TE} {t : TA} {G : St → Value → Hp → Prop}
theorem run_mt {f a : Addr} {fd : FuncData} {pins : List (Addr × Obj)} {σ : St} {H : Hp} {s : Shared} {Q : VK} {E : XK} {us : List Value} {vs : List V} (F : FnOk X.prog X.w X.K X.mg X.base CX k f fd ps sp) (hr : Room k X.A) (b : Binds X.K fd ps [])
    (hx : ∀ e s', CX X.stack H s E e s' → X.xe e s') (I : Inv X pins σ H s) (r : Vals vs us) (h : sp (.ref a :: vs) H Q E) : wpAny (model X.prog X.w) X.A (call (.ref f) (.ref a :: us)) (EP X pins σ Q) X.xe s := by
  have r2 : Vals (V.ref a :: vs) (Value.ref a :: us) := .cons rfl r
  have hl : (Value.ref a :: us).length = ps.length := by rw [← r2.length]; exact F.len _ _ _ _ h
  have bb := b s (.ref a :: us) I.kIn (by rw [List.append_nil]; exact hl)
  rw [List.append_nil] at bb
  refine wpAny_call (codeAny_mono (F.run X.A X.stack s H ⟨.ref a :: us, []⟩ (.ref a :: us) (.ref a :: vs) Q E hr I.env0 bb r2 h) fun rr s' hq => ?_)
  cases rr with
  | error e => exact hx e s' hq
  | ok fl =>
    cases fl with
    | ret u => exact I.after hq
    | next => exact False.elim hq
    | brk => exact False.elim hq
    | cont => exact False.elim hq
theorem pe_mt {pl : Sem Bool} (he : PE X o ta) (F : Mt X.prog X.w X.K X.mg X.base k C m ps sp) (hr : Room k X.A) (ha : PA X (e :: es) t)
    (hst : starEach (e :: es) X.env = (false, eval e X.env) :: starEach es X.env := by rfl) (hpl : (backTo pos (starEach es X.env)).any (·.1) = false := by rfl)
    (ht : eval (.Call (.Attribute o m apos) (e :: es) [] pos) X.env = (do
      let ov ← eval o X.env
      standAt apos.atName
      let (f, first) ← holding [ov] (getMethod ov m pl)
      callWith pos f first (backTo pos (starEach (e :: es) X.env)) (backToKw pos (keywordEach [] X.env))) := by rfl) :
    PE X (.Call (.Attribute o m apos) (e :: es) [] pos) (tMt C m sp ta t) := by
  obtain ⟨f, fd, F, c, hm, b⟩ := F
  intro pins s σ H Q I h
  refine PySem.W.methodCall_KW (pl := pl) (thn (he pins s σ H _ I h) fun u s1 ⟨x, H1, I1, rx, a, dx, fs, ex, ea, l, q⟩ => ?_) ht
  subst ex
  obtain rfl : u = Value.ref a := rx
  refine getmeth_ok I1 ea c hm l ?_
  refine PySem.W.callWith_K (first := [.ref a]) (h₀ := X.base) I.ok.mod.kin hm.kp (thn (ha pos pins s1 σ H1 _ I1 q) fun us s2 ⟨vs, H2, I2, r, q2⟩ => ⟨I2.kIn, ?_⟩) hst hpl
  exact run_mt F hr b (fun _ _ z => z.elim) I2 r q2
theorem pe_mtG {pl : Sem Bool} (he : PE X o ta) (F : MtE X.prog X.w X.K X.mg X.base k C m ps sp) (hr : Room k X.A) (hx : PassesG X G) (ha : PA X (e :: es) t)
    (hst : starEach (e :: es) X.env = (false, eval e X.env) :: starEach es X.env := by rfl) (hpl : (backTo pos (starEach es X.env)).any (·.1) = false := by rfl)
    (ht : eval (.Call (.Attribute o m apos) (e :: es) [] pos) X.env = (do
      let ov ← eval o X.env
      standAt apos.atName
      let (f, first) ← holding [ov] (getMethod ov m pl)
      callWith pos f first (backTo pos (starEach (e :: es) X.env)) (backToKw pos (keywordEach [] X.env))) := by rfl) :
    PE X (.Call (.Attribute o m apos) (e :: es) [] pos) (tMtG C m sp G ta t) := by
  obtain ⟨f, fd, F, c, hm, b⟩ := F
  intro pins s σ H Q I h
  refine PySem.W.methodCall_KW (pl := pl) (thn (he pins s σ H _ I h) fun u s1 ⟨x, H1, I1, rx, a, dx, fs, ex, ea, l, q⟩ => ?_) ht
  subst ex
  obtain rfl : u = Value.ref a := rx
  refine getmeth_ok I1 ea c hm l ?_
  refine PySem.W.callWith_K (first := [.ref a]) (h₀ := X.base) I.ok.mod.kin hm.kp (thn (ha pos pins s1 σ H1 _ I1 q) fun us s2 ⟨vs, H2, I2, r, q2⟩ => ⟨I2.kIn, ?_⟩) hst hpl
  exact run_mt F hr b (fun e s' z => hx pins σ H2 s2 e s' I2 z) I2 r q2
theorem run_mk {f : Addr} {fd : FuncData} {pins : List (Addr × Obj)} {σ : St} {H : Hp} {s : Shared} {Q : VK} {E : XK} {us : List Value} {vs : List V} (M : Mk X.K C f) (F : FnOk X.prog X.w X.K X.mg X.base CX k f fd ps sp) (hr : Room (k + 1) X.A) (hb : Binds X.K fd ps [])
    (hx : ∀ (H : Hp) (s : Shared) (e : Value) (s' : Shared), Inv X pins σ H s → CX X.stack H s E e s' → X.xe e s') (I : Inv X pins σ H s) (r : Vals vs us)
    (h : ∀ x dx, H x = none → H dx = none → dx ≠ x → sp (.ref x :: vs) (upd (upd H dx (.own x)) x (.ins C dx [])) (fun v H2 => v = .non ∧ Q (.ref x) H2) E) :
    wpAny (model X.prog X.w) X.A (call (.ref C) us) (EP X pins σ Q) X.xe s := by
  have hq := h (s.heap.objs.size + 1) s.heap.objs.size (I.hok.fresh (Nat.le_succ _)) (I.hok.fresh (Nat.le_refl _)) (Nat.ne_of_lt (Nat.lt_succ_self _))
  have I2 := Inv.made (C := C) I
  have r2 : Vals (V.ref (s.heap.objs.size + 1) :: vs) (Value.ref (s.heap.objs.size + 1) :: us) := .cons rfl r
  have hl : (Value.ref (s.heap.objs.size + 1) :: us).length = ps.length := by rw [← r2.length]; exact F.len _ _ _ _ hq
  have bb := hb _ (Value.ref (s.heap.objs.size + 1) :: us) I2.kIn (by rw [List.append_nil]; exact hl)
  rw [List.append_nil] at bb
  refine wpAny_call (make_map (f := f) I.kIn M.makes M.init (beq_iff_eq.mp M.fn) (codeAny_mono (F.run _ X.stack _ _ ⟨Value.ref (s.heap.objs.size + 1) :: us, []⟩ (Value.ref (s.heap.objs.size + 1) :: us) _ _ E (hr.make C us [])
    (I2.env0.make C us []) bb r2 hq) fun r s' hq' => ?_))
  cases r with
  | error e => exact hx _ _ e s' I2 hq'
  | ok fl =>
    cases fl with
    | ret u =>
      obtain ⟨v, H', I3, rv, ev, q3⟩ := I2.after hq'
      subst ev
      exact ⟨rv, ⟨V.ref (s.heap.objs.size + 1), H', I3, rfl, q3⟩⟩
    | next => exact False.elim hq'
    | brk => exact False.elim hq'
    | cont => exact False.elim hq'
end
theorem MkX.plain {P : Program} {w : World} {K : PySem.W.Frag} {mg : Str → Option Value} {base : Heap} {k : Nat} {C : Addr} {ps : List Str} {sp : Sp} (F : MkX (CXE P w) P w K mg base k C ps sp) : MkX CX0 P w K mg base k C ps (fun vs H Q _ => sp vs H Q E0) := by
  obtain ⟨f, fd, F, r⟩ := F
  refine ⟨f, fd, ⟨fun vs H Q _ h => F.len vs H Q E0 h, fun A outer s H args us vs Q E hr e0 hb rv h => codeAny_mono (F.run A outer s H args us vs Q E0 hr e0 hb rv h) fun rr s' q => ?_⟩, r⟩
  cases rr with
  | ok fl => cases fl <;> exact q
  | error e =>
    obtain ⟨_, _, _, _, _, _, _, _, _, _, _, _, z⟩ := q
    exact False.elim z
end L2
namespace L2
open PySem PySem.Spec PyProof.Rows PySem.SeqAt
section
variable {X : Cx} {pins : List (Addr × Obj)} {σ : St} {H : Hp} {s : Shared}
end
section
variable {X : Cx}
end
end L2
namespace L2
open PySem PySem.Spec PyProof.Rows
open PySem.W (hideAll of_hideAll hideAll_get)
section
variable {M : Model} {A : Around} {E : Value → Shared → Prop} {s : Shared} {env : Env}
end
section
variable {P : Program} {w : World} {K : PySem.W.Frag} {mg : Str → Option Value} {base : Heap} {N : List Str} {qual : Str} {scope : Scope} {f : Addr} {cdv : Value} {A : Around} {outer : List Env} {s s2 : Shared} {H H1 : Hp} {E : XK} {pins : List (Addr × Obj)} {σ : St}
end
section
variable {prog : Program} {w : World} {A : Around}
end
section
variable {X : Cx} {pins : List (Addr × Obj)} {σ : St}
end
section
variable {P : Program} {w : World} {K : PySem.W.Frag} {mg : Str → Option Value} {base : Heap} {N : List Str} {qual : Str} {scope : Scope} {f : Addr} {cdv : Value} {A : Around} {outer : List Env} {s0 : Shared} {H0 : Hp} {E : XK} {pins : List (Addr × Obj)} {σ : St}
end
end L2
namespace L2
open PySem PySem.NumText
abbrev cpl (x : Str) : List Nat := x.cps.toList
theorem cpl_inj {x y : Str} (h : cpl x = cpl y) : x = y := Str.ext' (Array.toList_inj.mp h)
theorem cpl_len (x : Str) : (cpl x).length = x.length := Array.length_toList
theorem cpl_app (x y : Str) : cpl (x ++ y) = cpl x ++ cpl y := by simp only [cpl, Str.cps_append, Array.toList_append]
noncomputable def glueL (c : Nat) : List (List Nat) → List Nat
  | [] => []
  | [x] => x
  | x :: y :: r => x ++ c :: glueL c (y :: r)
theorem cpl_join (c : Nat) : ∀ ws : List Str, cpl (Str.join ⟨#[c]⟩ ws) = glueL c (ws.map cpl)
  | [] => rfl
  | [x] => rfl
  | x :: y :: r => by
    show cpl (x ++ ⟨#[c]⟩ ++ Str.join ⟨#[c]⟩ (y :: r)) = cpl x ++ c :: glueL c (cpl y :: r.map cpl)
    rw [cpl_app, cpl_app, cpl_join c (y :: r), List.append_assoc]
    rfl
theorem cut_eq {c : Nat} : ∀ {x y A B : List Nat}, c ∉ x → c ∉ y → x ++ c :: A = y ++ c :: B → x = y ∧ A = B
  | [], [], _, _, _, _, h => ⟨rfl, (List.cons.inj h).2⟩
  | [], b :: y, _, _, _, hy, h => absurd (show c ∈ b :: y by rw [(List.cons.inj h).1]; exact List.mem_cons_self ..) hy
  | a :: x, [], _, _, hx, _, h => absurd (show c ∈ a :: x by rw [← (List.cons.inj h).1]; exact List.mem_cons_self ..) hx
  | a :: x, b :: y, A, B, hx, hy, h => by
    obtain ⟨h1, h2⟩ := List.cons.inj h
    obtain ⟨e1, e2⟩ := cut_eq (fun z => hx (List.mem_cons_of_mem _ z)) (fun z => hy (List.mem_cons_of_mem _ z)) h2
    exact ⟨by rw [h1, e1], e2⟩
theorem glueL_inj {c : Nat} : ∀ {xs ys : List (List Nat)}, xs ≠ [] → ys ≠ [] → (∀ x ∈ xs, c ∉ x) → (∀ y ∈ ys, c ∉ y) → glueL c xs = glueL c ys → xs = ys
  | [], _, h, _, _, _, _ => absurd rfl h
  | _, [], _, h, _, _, _ => absurd rfl h
  | [x], [y], _, _, _, _, h => by rw [show x = y from h]
  | [x], y :: y2 :: r, _, _, hx, _, h => by
    have h : x = y ++ c :: glueL c (y2 :: r) := h
    exact absurd (by rw [h]; exact List.mem_append_right _ (List.mem_cons_self ..)) (hx x (List.mem_cons_self ..))
  | x :: x2 :: r, [y], _, _, _, hy, h => by
    have h : x ++ c :: glueL c (x2 :: r) = y := h
    exact absurd (by rw [← h]; exact List.mem_append_right _ (List.mem_cons_self ..)) (hy y (List.mem_cons_self ..))
  | x :: x2 :: r, y :: y2 :: s, _, _, hx, hy, h => by
    have h : x ++ c :: glueL c (x2 :: r) = y ++ c :: glueL c (y2 :: s) := h
    obtain ⟨e1, e2⟩ := cut_eq (hx x (List.mem_cons_self ..)) (hy y (List.mem_cons_self ..)) h
    have := glueL_inj (by simp) (by simp) (fun z hz => hx z (List.mem_cons_of_mem _ hz)) (fun z hz => hy z (List.mem_cons_of_mem _ hz)) e2
    rw [e1, this]
theorem map_sg_inj : ∀ {a b : List Str}, a.map cpl = b.map cpl → a = b
  | [], [], _ => rfl
  | [], _ :: _, h => by simp at h
  | _ :: _, [], h => by simp at h
  | x :: a, y :: b, h => by
    obtain ⟨h1, h2⟩ := List.cons.inj h
    rw [cpl_inj h1, map_sg_inj h2]
theorem split_ne (x y : Str) : Txt.split x y ≠ [] := by
  unfold Txt.split
  split
  · simp
  · split
    · simp
    · rw [StrLaws.partsBetween_eq]
      obtain ⟨p, r, e⟩ := StrLaws.partsFrom_ne x y.length 0 (Builtin.Str.occurrences x y 0 x.length (x.length + 1))
      rw [e]
      simp
abbrev sp : Str := " "
theorem sp_eq : sp = ⟨#[32]⟩ := by decide +kernel
theorem join_eq (y : Str) (ws : List Str) : Txt.join y ws = Str.join y ws := by
  unfold Txt.join
  rw [StrLaws.glued_eq_join]
noncomputable def Word (x : Str) : Prop := 32 ∉ cpl x
theorem split_join {ws : List Str} (hn : ws ≠ []) (hw : ∀ w ∈ ws, Word w) : Txt.split (Txt.join sp ws) sp = ws := by
  have h1 := StrLaws.join_split (Txt.join sp ws) sp
  rw [join_eq, sp_eq] at h1
  rw [join_eq, sp_eq]
  have h2 := congrArg cpl h1
  rw [cpl_join, cpl_join] at h2
  refine map_sg_inj (glueL_inj (c := 32) ?_ ?_ ?_ ?_ h2)
  · intro z
    exact split_ne _ _ (List.map_eq_nil_iff.mp z)
  · intro z
    exact hn (List.map_eq_nil_iff.mp z)
  · intro x hx
    obtain ⟨p, hp, rfl⟩ := List.mem_map.mp hx
    exact StrLaws.split_free _ 32 p hp
  · intro x hx
    obtain ⟨p, hp, rfl⟩ := List.mem_map.mp hx
    exact hw p hp
structure Num (most : Nat) (x : Str) : Prop where
  ne : 1 ≤ x.length
  le : x.length ≤ most
  dig : AllDigits (cpl x)
  led : (cpl x)[0]? = some 48 → cpl x = [48]
noncomputable def numV (x : Str) : Int := ((digitsVal (cpl x) : Nat) : Int)
theorem numV_nn (x : Str) : 0 ≤ numV x := Int.natCast_nonneg _
theorem Num.ne' {most : Nat} {x : Str} (h : Num most x) : cpl x ≠ [] := fun z => by
  have := h.ne
  rw [← cpl_len, z] at this
  exact absurd this (by decide)
theorem digitsVal_lt : ∀ (cs : List Nat), AllDigits cs → digitsVal cs < 10 ^ cs.length := by
  intro cs
  have key : ∀ (cs : List Nat) (a : Nat), AllDigits cs → cs.foldl (fun acc c => acc * 10 + (c - 48)) a < (a + 1) * 10 ^ cs.length := by
    intro cs
    induction cs with
    | nil => intro a _; simp
    | cons c r ih =>
      intro a h
      have hc := h.head
      have := ih (a * 10 + (c - 48)) h.tail
      rw [List.foldl_cons, List.length_cons, Nat.pow_succ]
      refine Nat.lt_of_lt_of_le this ?_
      rw [Nat.mul_comm (10 ^ r.length) 10, ← Nat.mul_assoc]
      exact Nat.mul_le_mul_right _ (by omega)
  intro h
  have := key cs 0 h
  simpa [digitsVal] using this
theorem numV_lt {most : Nat} {x : Str} (h : Num most x) : numV x < 10 ^ most := by
  have h1 := digitsVal_lt _ h.dig
  have h2 : 10 ^ (cpl x).length ≤ 10 ^ most := Nat.pow_le_pow_right (by decide) (by rw [cpl_len]; exact h.le)
  unfold numV
  have : digitsVal (cpl x) < 10 ^ most := by omega
  exact_mod_cast this
noncomputable def txt (n : Int) : Str := Str.ofString (toString n)
theorem cpl_of (s : String) : cpl (Str.ofString s) = s.toList.map Char.toNat := by
  exact PyProof.Rows.signs_ofString s
theorem cpl_txt (m : Nat) : cpl (txt ((m : Nat) : Int)) = (Nat.toDigits 10 m).map Char.toNat := by
  unfold txt
  rw [cpl_of]
  show (Nat.repr m).toList.map Char.toNat = _
  rw [Nat.toList_repr]
theorem digitsVal_app (a b : List Nat) : digitsVal (a ++ b) = b.foldl (fun acc c => acc * 10 + (c - 48)) (digitsVal a) := by
  unfold digitsVal
  rw [List.foldl_append]
theorem digit_chr : ∀ d : Nat, d < 10 → (Nat.digitChar d).toNat = 48 + d := by decide
theorem digits_chr {m : Nat} : ∀ ch ∈ Nat.toDigits 10 m, 48 ≤ ch.toNat ∧ ch.toNat ≤ 57 := by
  induction m using Nat.strongRecOn with
  | _ m ih =>
    intro ch hch
    by_cases h : m < 10
    · rw [Nat.toDigits_of_lt_base h] at hch
      rw [List.mem_singleton.mp hch, digit_chr m h]
      omega
    · have hm : m % 10 < 10 := Nat.mod_lt m (by decide)
      have t : Nat.toDigits 10 (m / 10) ++ Nat.toDigits 10 (m % 10) = Nat.toDigits 10 (10 * (m / 10) + m % 10) := Nat.toDigits_append_toDigits (by decide) (by omega) hm
      rw [Nat.div_add_mod] at t
      rw [← t] at hch
      rcases List.mem_append.mp hch with z | z
      · exact ih (m / 10) (by omega) ch z
      · rw [Nat.toDigits_of_lt_base hm] at z
        rw [List.mem_singleton.mp z, digit_chr _ hm]
        omega
theorem txt_dig (m : Nat) : AllDigits (cpl (txt ((m : Nat) : Int))) := by
  intro c hc
  rw [cpl_txt] at hc
  obtain ⟨ch, hch, e⟩ := List.mem_map.mp hc
  rw [← e]
  exact digits_chr ch hch
theorem txt_val (m : Nat) : digitsVal (cpl (txt ((m : Nat) : Int))) = m := by
  rw [cpl_txt]
  induction m using Nat.strongRecOn with
  | _ m ih =>
    by_cases h : m < 10
    · rw [Nat.toDigits_of_lt_base h]
      show 0 * 10 + ((Nat.digitChar m).toNat - 48) = m
      rw [digit_chr m h]
      omega
    · have hm : m % 10 < 10 := Nat.mod_lt m (by decide)
      have t : Nat.toDigits 10 (m / 10) ++ Nat.toDigits 10 (m % 10) = Nat.toDigits 10 (10 * (m / 10) + m % 10) := Nat.toDigits_append_toDigits (by decide) (by omega) hm
      rw [Nat.div_add_mod] at t
      rw [← t, List.map_append, Nat.toDigits_of_lt_base hm, digitsVal_app, ih (m / 10) (by omega)]
      show m / 10 * 10 + ((Nat.digitChar (m % 10)).toNat - 48) = m
      rw [digit_chr _ hm]
      omega
theorem txt_ne (m : Nat) : 1 ≤ (cpl (txt ((m : Nat) : Int))).length := by
  cases h : cpl (txt ((m : Nat) : Int)) with
  | nil =>
    rw [cpl_txt] at h
    have := List.map_eq_nil_iff.mp h
    exact absurd this (Nat.toDigits_ne_nil)
  | cons a r => exact Nat.succ_le_succ (Nat.zero_le _)
theorem txt_led (m : Nat) (h : (cpl (txt ((m : Nat) : Int)))[0]? = some 48) : m = 0 := by
  rw [cpl_txt] at h
  induction m using Nat.strongRecOn with
  | _ m ih =>
    by_cases hm10 : m < 10
    · rw [Nat.toDigits_of_lt_base hm10] at h
      have : (Nat.digitChar m).toNat = 48 := by simpa using h
      rw [digit_chr m hm10] at this
      omega
    · have hm : m % 10 < 10 := Nat.mod_lt m (by decide)
      have t : Nat.toDigits 10 (m / 10) ++ Nat.toDigits 10 (m % 10) = Nat.toDigits 10 (10 * (m / 10) + m % 10) := Nat.toDigits_append_toDigits (by decide) (by omega) hm
      rw [Nat.div_add_mod] at t
      rw [← t, List.map_append, List.getElem?_append_left (by rw [← cpl_txt]; exact txt_ne _)] at h
      have := ih (m / 10) (by omega) h
      omega
theorem txt_len {m k : Nat} (hk : 1 ≤ k) (h : m < 10 ^ k) : (cpl (txt ((m : Nat) : Int))).length ≤ k := by
  rw [cpl_txt, List.length_map]
  induction k generalizing m with
  | zero => exact absurd hk (by decide)
  | succ k ih =>
    by_cases hm10 : m < 10
    · rw [Nat.toDigits_of_lt_base hm10]
      exact Nat.succ_le_succ (Nat.zero_le _)
    · have hm : m % 10 < 10 := Nat.mod_lt m (by decide)
      have t : Nat.toDigits 10 (m / 10) ++ Nat.toDigits 10 (m % 10) = Nat.toDigits 10 (10 * (m / 10) + m % 10) := Nat.toDigits_append_toDigits (by decide) (by omega) hm
      rw [Nat.div_add_mod] at t
      rw [← t, List.length_append, Nat.toDigits_of_lt_base hm, List.length_singleton]
      have h2 : m / 10 < 10 ^ k := Nat.div_lt_of_lt_mul (by rw [Nat.pow_succ, Nat.mul_comm] at h; exact h)
      have k1 : 1 ≤ k := by
        cases k with
        | zero => simp at h2; omega
        | succ k => omega
      have := ih k1 h2
      omega
theorem num_txt {n : Int} {k : Nat} (hk : 1 ≤ k) (h0 : 0 ≤ n) (h1 : n < 10 ^ k) : Num k (txt n) := by
  obtain ⟨m, rfl⟩ := Int.eq_ofNat_of_zero_le h0
  have hm : m < 10 ^ k := by exact_mod_cast h1
  refine ⟨by rw [← cpl_len]; exact txt_ne m, by rw [← cpl_len]; exact txt_len hk hm, txt_dig m, fun z => ?_⟩
  have := txt_led m z
  subst this
  rfl
theorem numV_txt {n : Int} (h0 : 0 ≤ n) : numV (txt n) = n := by
  obtain ⟨m, rfl⟩ := Int.eq_ofNat_of_zero_le h0
  unfold numV
  rw [txt_val]
theorem word_dig {x : Str} (h : AllDigits (cpl x)) : Word x := fun z => by
  have := h 32 z
  omega
theorem word_txt {n : Int} (h0 : 0 ≤ n) : Word (txt n) := by
  obtain ⟨m, rfl⟩ := Int.eq_ofNat_of_zero_le h0
  exact word_dig (txt_dig m)
theorem num_reads {most : Nat} {x : Str} (h : Num most x) (hm : most ≤ 4300) : PySem.intText? x = some (numV x) := intText_digits h.dig h.ne' (Nat.le_trans h.le hm)
end L2
namespace L2
open PySem PySem.Spec PyProof.Rows
theorem strs_vals : ∀ (ws : List Str) (k : Nat), Vals (ws.map V.str) (strsFrom k ws)
  | [], _ => .nil
  | x :: r, k => .cons ⟨k, rfl⟩ (strs_vals r (k + 1))
section
variable {X : Cx}
noncomputable def rSplit : V → List V → Hp → VK → Prop := fun x vs H Q => ∃ a b, x = .str a ∧ vs = [.str b] ∧ (b.length == 0) = false ∧ a.length + 2 ≤ sizeLine ∧ ∀ l, H l = none → Q (.ref l) (upd H l (.lst ((Txt.split a b).map V.str)))
theorem mt_split : MtR X "str.split" rSplit := by
  intro pins s σ H v vs u us Q I rx rs h
  obtain ⟨x, y, rfl, rfl, hy, hz, q⟩ := h
  obtain ⟨t, rfl⟩ := rx
  obtain ⟨u1, rfl, w1⟩ := vals1 rs
  obtain ⟨t', rfl⟩ := w1
  have hn : (Builtin.Str.partsBetween x (Builtin.Str.occurrences x y 0 x.length (x.length + 1)) y.length).length ≤ sizeLine := by
    have e1 := StrLaws.occ_length_le x y 0 x.length (x.length + 1)
    rw [length_partsBetween]
    omega
  have q := q _ I.fresh
  cases h1 : (decide (x.length < y.length) || decide (Builtin.Str.strKind x < Builtin.Str.strKind y)) with
  | false =>
    cases hf : (Builtin.Str.occurrences x y 0 x.length (x.length + 1)).isEmpty with
    | false =>
      have e : Txt.split x y = Builtin.Str.partsBetween x (Builtin.Str.occurrences x y 0 x.length (x.length + 1)) y.length := by
        unfold Txt.split
        rw [h1, hf]
        rfl
      rw [e] at q
      exact call_meets PySem.F.slot_str_split (typeIs_str _ _ _) PySem.F.entry_str_split (PySem.F.args_str_split_2 _ _) (meets_str_split_sep x y t t' h1 hy hf (by omega) hn) ⟨.ref _, _, I.lnew (strs_vals _ _) (by rw [List.length_map]; exact hn), rfl, q⟩
    | true =>
      have e : Txt.split x y = [x] := by
        unfold Txt.split
        rw [h1, hf]
        rfl
      rw [e] at q
      exact call_meets PySem.F.slot_str_split (typeIs_str _ _ _) PySem.F.entry_str_split (PySem.F.args_str_split_2 _ _) (meets_str_split_not_found x y t t' h1 hy hf) ⟨.ref _, _, I.lnew (its := [.str x t]) (ys := [V.str x]) (t' := s.toks) (.cons ⟨t, rfl⟩ .nil) (by show 1 ≤ sizeLine; decide), rfl, q⟩
  | true =>
    have e : Txt.split x y = [x] := by
      unfold Txt.split
      rw [h1]
      rfl
    rw [e] at q
    exact call_meets PySem.F.slot_str_split (typeIs_str _ _ _) PySem.F.entry_str_split (PySem.F.args_str_split_2 _ _) (meets_str_split_cannot_occur x y t t' h1) ⟨.ref _, _, I.lnew (its := [.str x t]) (ys := [V.str x]) (t' := s.toks) (.cons ⟨t, rfl⟩ .nil) (by show 1 ≤ sizeLine; decide), rfl, q⟩
noncomputable def rSplitMax : V → List V → Hp → VK → Prop := fun x vs H Q => ∃ a b k, x = .str a ∧ vs = [.str b, .int k] ∧ (decide (k < -(2 ^ 63 : Int)) || decide (k ≥ 2 ^ 63)) = false ∧ (b.length == 0) = false ∧ a.length + 2 ≤ sizeLine ∧ (Txt.splitMax a b k).length ≤ sizeLine ∧ ∀ l, H l = none → Q (.ref l) (upd H l (.lst ((Txt.splitMax a b k).map V.str)))
theorem mt_splitMax : MtR X "str.split" rSplitMax := by
  intro pins s σ H v vs u us Q I rx rs h
  obtain ⟨x, y, k, rfl, rfl, hk, hy, hz, hn, q⟩ := h
  obtain ⟨t, rfl⟩ := rx
  obtain ⟨u1, u2, rfl, w1, w2⟩ := vals2 rs
  obtain ⟨t', rfl⟩ := w1
  obtain ⟨t2, rfl⟩ := w2
  have q := q _ I.fresh
  cases h1 : (decide (x.length < y.length) || decide (Builtin.Str.strKind x < Builtin.Str.strKind y)) with
  | false =>
    cases hf : (Builtin.Str.occurrences x y 0 x.length (limitOf x k)).isEmpty with
    | false =>
      have e : Txt.splitMax x y k = Builtin.Str.partsBetween x (Builtin.Str.occurrences x y 0 x.length (limitOf x k)) y.length := by
        unfold Txt.splitMax
        rw [h1, hf]
        rfl
      rw [e] at q hn
      exact call_meets PySem.F.slot_str_split (typeIs_str _ _ _) PySem.F.entry_str_split (PySem.F.args_str_split_3 _ _ _) (meets_str_split_sep_max x y k t t' t2 hk h1 hy hf (by omega) hn) ⟨.ref _, _, I.lnew (strs_vals _ _) (by rw [List.length_map]; exact hn), rfl, q⟩
    | true =>
      have e : Txt.splitMax x y k = [x] := by
        unfold Txt.splitMax
        rw [h1, hf]
        rfl
      rw [e] at q
      exact call_meets PySem.F.slot_str_split (typeIs_str _ _ _) PySem.F.entry_str_split (PySem.F.args_str_split_3 _ _ _) (meets_str_split_max_not_found x y k t t' t2 hk h1 hy hf) ⟨.ref _, _, I.lnew (its := [.str x t]) (ys := [V.str x]) (t' := s.toks) (.cons ⟨t, rfl⟩ .nil) (by show 1 ≤ sizeLine; decide), rfl, q⟩
  | true =>
    have e : Txt.splitMax x y k = [x] := by
      unfold Txt.splitMax
      rw [h1]
      rfl
    rw [e] at q
    exact call_meets PySem.F.slot_str_split (typeIs_str _ _ _) PySem.F.entry_str_split (PySem.F.args_str_split_3 _ _ _) (meets_str_split_max_cannot_occur x y k t t' t2 hk h1) ⟨.ref _, _, I.lnew (its := [.str x t]) (ys := [V.str x]) (t' := s.toks) (.cons ⟨t, rfl⟩ .nil) (by show 1 ≤ sizeLine; decide), rfl, q⟩
theorem pe_mk0 {k : Nat} {C : Addr} {x : Str} {ps : List Str} {sp : Sp} {p pos : Pos} (F : MkX CX0 X.prog X.w X.K X.mg X.base k C ps sp) (hr : Room (k + 1) X.A) (hg : Gl X x) (hm : X.mg x = some (.ref C)) (hdb : (x == ("__debug__" : Str)) = false := by decide) :
    PE X (.Call (.Name x p) [] [] pos) (tMk C sp tNil) := by
  obtain ⟨f, fd, F, M, b⟩ := F
  intro pins s σ H Q I h
  refine wpAny_Call_Name_kw (ld_glob I hg hm ?_ hdb)
  exact PySem.W.callWith_K0 I.kIn M.kp (run_mk (us := []) (vs := []) M F hr b (fun _ _ _ _ _ z => z.elim) I .nil h)
noncomputable def tPs : List TE → Str → TE
  | [], acc => fun _ H Q => acc.length ≤ sizeLine ∧ Q (.str acc) H
  | t :: ts, acc => fun σ H Q => t σ H fun x H1 => ∃ y, x = .str y ∧ (acc ++ y).length ≤ sizeLine ∧ tPs ts (acc ++ y) σ H1 Q
inductive PJs (X : Cx) : List Expr → List TE → Prop where
  | nil : PJs X [] []
  | cons {e : Expr} {t : TE} {es : List Expr} {ts : List TE} (h : PE X e t) (r : PJs X es ts) : PJs X (e :: es) (t :: ts)
theorem pj_run : ∀ {es : List Expr} {ts : List TE}, PJs X es ts → ∀ (acc : Str) (pins : List (Addr × Obj)) (s : Shared) (σ : St) (H : Hp) (Q : VK), Inv X pins σ H s → tPs ts acc σ H Q →
    wpAny (model X.prog X.w) X.A (joinParts acc (evalEach es X.env)) (EP X pins σ Q) X.xe s
  | _, _, .nil, acc, pins, s, σ, H, Q, I, h => joinParts_nil ⟨.str acc, H, I.tok _, ⟨_, rfl⟩, h.2⟩ h.1
  | _, _, .cons h r, acc, pins, s, σ, H, Q, I, hw => by
    refine joinParts_cons (thn (h pins s σ H _ I hw) fun v s1 ⟨x, H1, I1, r1, q1⟩ => ?_)
    obtain ⟨y, rfl, hz, q⟩ := q1
    obtain ⟨t', rfl⟩ := r1
    exact ⟨hz, pj_run r (acc ++ y) pins s1 σ H1 Q I1 q⟩
theorem pe_fs {e1 e2 : Expr} {es : List Expr} {ts : List TE} {pos : Pos} (h : PJs X (e1 :: e2 :: es) ts) : PE X (.JoinedStr (e1 :: e2 :: es) pos) (tPs ts Str.empty) :=
  fun pins s σ H Q I hw => JoinedStr_many (pj_run h Str.empty pins s σ H Q I hw)
end
end L2
namespace L2
open PySem PySem.Spec PyProof.Rows PySem.Calls PySem.NumText
noncomputable def NoDig (K : PySem.W.Frag) : Prop := ∀ h : Heap, K.In h → h.NoDigits
theorem nodig_of {K : PySem.W.Frag} {oc : Value} {od : Option Addr} {es : Array DictEntry} {ep : Nat} {sl : Array (Option Value)} (l : K.lookup cStatics = some ⟨oc, od, .dict es ep, sl⟩) (e : (es.all fun e => match e.key with | .str _ _ => true | _ => false) = true)
    (n : PySem.W.nsIn K cStatics "sys.int_max_str_digits" = some none) : NoDig K := by
  intro h X
  have ho := X _ _ l
  refine ⟨fun name => nsFind es name, ⟨_, es, ep, ho, rfl, fun en hen => ?_, fun _ => rfl⟩, ?_⟩
  · have := Array.all_eq_true_iff_forall_mem.mp e en hen
    cases hk : en.key with
    | str a b => exact ⟨a, b, rfl⟩
    | _ => rw [hk] at this; cases this
  · unfold PySem.W.nsIn at n
    rw [l] at n
    dsimp only at n
    split at n
    · cases n
    · rename_i he
      show nsFind es _ = none
      unfold nsFind findBy
      rw [← Array.find?_toList, he]
      rfl
section
variable {prog : Program} {w : World} {A : Around} {E : Value → Shared → Prop} {s : Shared} {a : Int} {t : Tok}
theorem repr_big {Q : Value → Shared → Prop} (hn : s.heap.NoDigits) (hl : a.natAbs < 10 ^ 4300) (h1 : Q (.str (toString a) s.toks) { s with toks := s.toks + 1 }) :
    wpAny (model prog w) A (call (.builtin "int.__repr__") [.int a t]) Q E s := by
  refine wpAny_call_entry F.slot_int_repr (typeIs_int s a t) F.entry_int_repr ?_ (F.args_int_repr_1 _)
  unfold Builtin.«int.__repr__»
  show wpAny _ _ (do let r ← Builtin.overDigitLimit? a; _) _ _ s
  refine wpAny_bind (overDigitLimit_any hn (fun hlt => ?_) (fun hge => absurd hl (Nat.not_lt.mpr hge)))
  exact wpAny_bind (wpAny_mkStr (wpAny_pure ⟨_, rfl, h1⟩) (int_text_fits10 hlt))
theorem strOf_big {Q : Value → Shared → Prop} (hn : s.heap.NoDigits) (hl : a.natAbs < 10 ^ 4300) (h1 : Q (.str (toString a) s.toks) { s with toks := s.toks + 1 }) :
    wpAny (model prog w) A (Builtin.Str.strOf (.int a t)) Q E s := by
  unfold Builtin.Str.strOf
  rw [show Builtin.Str.isExactStr (.int a t) = false from rfl]
  try (have hv : [Value.int a t].any Value.onHeap = false := rfl; simp only [cRoomFor, hv, Bool.false_eq_true, if_false, pure_bind])
  refine wpAny_bind (m := callSpecial? (.int a t) (Str.ofString "__str__")) (wpAny_callSpecial?_slot (name := Str.ofString "__str__") (typeIs_int s a t) F.slot_int_str ?_)
  refine wpAny_call_entry F.slot_int_str (typeIs_int s a t) entry_object_str ?_ (args_object_str _)
  unfold Builtin.«object.__str__»
  refine wpAny_bind (m := slotArgs "__str__" 0 _) (wpAny_pure ?_)
  try (have hv : [Value.int a t].any Value.onHeap = false := rfl; simp only [cRoomFor, hv, Bool.false_eq_true, if_false, pure_bind])
  refine wpAny_bind (m := callSpecialIfBound? (.int a t) (Str.ofString "__repr__")) (wpAny_callSpecialIfBound?_slot (name := Str.ofString "__repr__") (typeIs_int s a t) F.slot_int_repr
    (repr_big hn hl ?_))
  exact wpAny_pure ⟨_, rfl, wpAny_pure h1⟩
theorem str_big {Q : Value → Shared → Prop} (hn : s.heap.NoDigits) (hl : a.natAbs < 10 ^ 4300) (h1 : Q (.str (toString a) s.toks) { s with toks := s.toks + 1 }) :
    wpAny (model prog w) A (call (.type "str") [.int a t]) Q E s :=
  callType_new F.called_str (by decide) (F.typeCall_str_1 _) (F.newCall_str_1 _) (fun obj => F.args_object_init_2 obj _) F.entry_str_new
    (meets_str_new (S := fun A R s => s.heap.NoDigits ∧ R (.ok (.ret (.str (toString a) s.toks))) { s with toks := s.toks + 1 })
      fun _ _ _ _ _ hq => strOf_big hq.1 hl hq.2)
    ⟨hn, typeIs_str _ _ _, h1⟩
theorem field_big {Q : Value → Shared → Prop} (hn : s.heap.NoDigits) (hl : a.natAbs < 10 ^ 4300) (h1 : Q (.str (toString a) (s.toks + 1)) { s with toks := s.toks + 1 + 1 }) :
    wpAny (model prog w) A (formatField (.int a t) Str.empty) Q E s := by
  show wpAny _ _ (holding [.int a t] (pyFormat (.int a t) Str.empty)) Q E s
  refine wpAny_holding ?_
  unfold pyFormat
  refine wpAny_bind (wpAny_mkStr ?_ (by decide))
  refine wpAny_bind (m := callSpecial? (.int a t) (Str.ofString "__format__") [.str Str.empty s.toks]) (wpAny_callSpecial?_slot (name := Str.ofString "__format__") (typeIs_int _ a t) slot_int_format ?_)
  refine wpAny_call (codeAny_call_builtin slot_int_format.plain entry_int_format (slot_int_format.check _ _ _ _ _ _ _ _ (typeIs_int _ a t) (args_int_format _ _) ?_))
  show wpAny _ _ (do let _kind ← typeNameOf (.str Str.empty s.toks); (do rule "int.format.empty"; again (.builtin "int.__repr__" ⟨[.int a t], []⟩))) _ _ _
  refine wpAny_bind (wpAny_typeNameOf (T := "str") (typeIs_str _ _ _) (by decide) fun _ => wpAny_bind (wpAny_rule (wpAny_pure ⟨plainId_quiet plain_int_repr _, ?_⟩)))
  refine codeAny_builtin entry_int_repr ?_
  rw [Around.under_plainId plain_int_repr _]
  unfold Builtin.«int.__repr__»
  show wpAny _ _ (do let r ← Builtin.overDigitLimit? a; _) _ _ _
  refine wpAny_bind (overDigitLimit_any hn (fun hlt => ?_) (fun hge => absurd hl (Nat.not_lt.mpr hge)))
  refine wpAny_bind (wpAny_mkStr (wpAny_pure ?_) (int_text_fits10 hlt))
  show wpAny _ _ (do if ← isInstance (.str (toString a) (s.toks + 1)) (.type "str") then return (.str (toString a) (s.toks + 1)) else _) Q E _
  exact wpAny_bind (wpAny_isInstance (typeIs_str _ _ _) isSubtype_str_str (wpAny_pure h1))
end
theorem wp_textB {M : Model} {A : Around} {E : Value → Shared → Prop} {s : Shared} {Q : Value → Shared → Prop} {v : Value} {text : List Nat} {n : Int} (hn : s.heap.NoDigits)
    (hs : ¬ (text.takeWhile (· != 0)).length ≤ 640) (hr : (int_private% "readNumeral") 4300 10 (text.takeWhile (· != 0)) = (int_private% "Numeral.value") n)
    (ha : ((text.takeWhile (· != 0)).length == text.length) = true) (h : Q (.int n s.toks) { s with toks := s.toks + 1 }) :
    wpAny M A ((int_private% "intFromText") v text 10) Q E s := by
  obtain ⟨mc, hns, hnone⟩ := hn
  obtain ⟨hp, g, d, tk, os⟩ := s
  have hlim : ∀ {Q : Nat → Shared → Prop}, Q 4300 ⟨hp, g, d, tk, os⟩ → wpAny M A Builtin.intMaxStrDigits Q E ⟨hp, g, d, tk, os⟩ := fun hq => by
    unfold Builtin.intMaxStrDigits
    refine wpAny_bind (wpAny_nsGet hns ?_)
    rw [hnone]
    exact wpAny_pure hq
  repeat (any_goals (first
    | assumption
    | (with_reducible refine wpAny_ite_false (decide_eq_false hs) ?_)
    | (with_reducible refine wpAny_ite_true (decide_eq_true ha) ?_)
    | (with_reducible refine hlim ?_)
    | wp_step))
  all_goals (try rw [hr])
  all_goals (try dsimp only)
  repeat (any_goals (first
    | assumption
    | (with_reducible refine wpAny_ite_true (decide_eq_true ha) ?_)
    | wp_step))
set_option maxHeartbeats 4000000 in
theorem meets_textB {x : PySem.Str} {u : Tok} {n : Int} (hz : x.length ≤ sizeLine) (hn : PySem.intText? x = some n) : Meets (Builtin.«int.__new__» ⟨[.type "int", .str x u], []⟩) (fun A R s => s.heap.NoDigits ∧ (Made.int n).post (fun v s' => R (.ok (.ret v)) s') s) := by
  by_cases hl : (numSeenOf x).length ≤ 640
  · have hr : (int_private% "readNumeral") 0 10 (numSeenOf x) = (int_private% "Numeral.value") n ∧ ((numSeenOf x).length == (numTextOf x).length) = true := by
      rcases read0 x hl with ⟨m, h1, h2, h3⟩ | ⟨h1, _⟩
      · rw [hn] at h1
        injection h1 with h1
        subst h1
        exact ⟨h3, h2⟩
      · rw [hn] at h1
        cases h1
    refine .of_wp fun prog w A R s h => ?_
    obtain ⟨nd, h⟩ := h
    obtain ⟨hp, g, d, tk, os⟩ := s
    have f1 := F.conv_sub_int
    have f2 := F.madeHere_int
    have f3 := PySem.W.KIN.str_int
    have f4 := PySem.W.KIN.str_idx
    have f5 := PySem.W.KIN.str_trunc
    have f6 : typeOf (.str x u) = pure (.type "str") := rfl
    have hk := PySem.W.KIN.Hid.mk (And.intro hl hr)
    clear hl hr hn
    repeat (any_goals (first
      | assumption
      | ((with_reducible show wpAny _ _ ((int_private% "intFromText") _ _ _) _ _ _); refine PySem.W.KIN.wp_text hk.out.1 hk.out.2.1 hk.out.2.2 ?_)
      | wp_step))
    all_goals first | exact ⟨_, rfl, h⟩ | skip
  · have hr : (int_private% "readNumeral") 4300 10 (numSeenOf x) = (int_private% "Numeral.value") n ∧ ((numSeenOf x).length == (numTextOf x).length) = true := by
      rcases read4300 x hz with ⟨m, h1, h2, h3⟩ | ⟨h1, _⟩
      · rw [hn] at h1
        injection h1 with h1
        subst h1
        exact ⟨h3, h2⟩
      · rw [hn] at h1
        cases h1
    refine .of_wp fun prog w A R s h => ?_
    obtain ⟨nd, h⟩ := h
    obtain ⟨hp, g, d, tk, os⟩ := s
    have f1 := F.conv_sub_int
    have f2 := F.madeHere_int
    have f3 := PySem.W.KIN.str_int
    have f4 := PySem.W.KIN.str_idx
    have f5 := PySem.W.KIN.str_trunc
    have f6 : typeOf (.str x u) = pure (.type "str") := rfl
    have hk := PySem.W.KIN.Hid.mk (And.intro hl hr)
    have hnd := PySem.W.KIN.Hid.mk nd
    clear hl hr hn nd
    repeat (any_goals (first
      | assumption
      | ((with_reducible show wpAny _ _ ((int_private% "intFromText") _ _ _) _ _ _); refine wp_textB hnd.out hk.out.1 hk.out.2.1 hk.out.2.2 ?_)
      | wp_step))
    all_goals first | exact ⟨_, rfl, h⟩ | skip
section
variable {X : Cx}
theorem call_strB (hD : NoDig X.K) : CallR X (.type "str") (fun xs H Q => ∃ i, xs = [.int i] ∧ i.natAbs < 10 ^ 4300 ∧ Q (.str (toString i)) H) := by
  intro pins s σ H xs us Q I r h
  obtain ⟨i, rfl, hl, q⟩ := h
  obtain ⟨u, rfl, t, rfl⟩ := vals1 r
  exact str_big (hD _ I.kIn) hl ⟨.str _, H, I.tok _, ⟨_, rfl⟩, q⟩
theorem call_intTB (hD : NoDig X.K) : CallR X (.type "int") (fun xs H Q => ∃ x n, xs = [.str x] ∧ PySem.intText? x = some n ∧ x.length ≤ sizeLine ∧ Q (.int n) H) := by
  intro pins s σ H xs us Q I r h
  obtain ⟨x, n, rfl, hn, hl, q⟩ := h
  obtain ⟨u, rfl, t, rfl⟩ := vals1 r
  exact call_int_1 (meets_textB hl hn) ⟨hD _ I.kIn, show (Made.int n).post _ s from ⟨rfl, .int n, H, I.tok _, ⟨_, rfl⟩, q⟩⟩
noncomputable def tFmtB (t : TE) : TE := fun σ H Q => t σ H fun x H1 => ∃ i, x = .int i ∧ i.natAbs < 10 ^ 4300 ∧ Q (.str (toString i)) H1
theorem pe_fmtB {e : Expr} {t : TE} {pos : Pos} (hD : NoDig X.K) (h : PE X e t) : PE X (.FormattedValue e (-1) none pos) (tFmtB t) := by
  intro pins s σ H Q I hw
  refine FormattedValue_plain (thn (h pins s σ H _ I hw) fun v s1 ⟨x, H1, I1, r1, q1⟩ => ?_)
  obtain ⟨i, rfl, hi, q⟩ := q1
  obtain ⟨t', rfl⟩ := r1
  exact field_big (hD _ I1.kIn) hi ⟨.str _, H1, I1.tok _, ⟨_, rfl⟩, q⟩
end
end L2
namespace Bw
open PySem L2
open Builtin.Int (intBits)
def top (i : Nat) : Stmt := PySem.Challenge.pw_bellwrite_k96_frames_at_the_desk.main.body.getD i (.Pass ⟨0, 0, 0, 0⟩)
abbrev st_choose : Stmt := top 1
abbrev st_top_of : Stmt := top 2
abbrev st_top_from : Stmt := top 3
abbrev st_above_top : Stmt := top 4
abbrev st_rounded_up : Stmt := top 5
abbrev st_box_of : Stmt := top 15
abbrev st_bell_row : Stmt := top 16
abbrev st_heard_box : Stmt := top 17
abbrev st_box_count : Stmt := top 18
abbrev st_greatest_part : Stmt := top 19
abbrev st_shortest_frame : Stmt := top 21
abbrev st_best_bells : Stmt := top 22
abbrev st_cheapest : Stmt := top 24
abbrev st_box_number : Stmt := top 26
abbrev st_box_of_message : Stmt := top 27
abbrev st_written : Stmt := top 28
abbrev st_read : Stmt := top 29
abbrev st_keyed_count : Stmt := top 31
abbrev st_keyed : Stmt := top 32
abbrev st_unkeyed : Stmt := top 33
abbrev st_refuse_silent : Stmt := top 35
abbrev st_rung : Stmt := top 36
abbrev st_by_messages : Stmt := top 37
abbrev st_note_number : Stmt := top 42
abbrev st_note_of : Stmt := top 43
abbrev st_parts : Stmt := top 44
abbrev st_number_of_parts : Stmt := top 45
abbrev st_sent : Stmt := top 46
abbrev st_received : Stmt := top 47
abbrev st_messages_ahead_of_end : Stmt := top 48
abbrev st_is_made_of : Stmt := top 56
abbrev st_name_in : Stmt := top 57
abbrev st_figures_in : Stmt := top 58
abbrev st_number_in : Stmt := top 59
abbrev st_message_in : Stmt := top 60
abbrev st_bells_in : Stmt := top 61
abbrev st_turns_in : Stmt := top 62
abbrev st_number_told : Stmt := top 63
abbrev st_turns_told : Stmt := top 64
abbrev st_count_of : Stmt := top 68
abbrev st_note_heard : Stmt := top 69
abbrev st_choice_told : Stmt := top 70
abbrev st_cheapest_told : Stmt := top 71
abbrev st__law_drawn : Stmt := top 73
abbrev st__law_great : Stmt := top 74
abbrev st__law_late : Stmt := top 75
abbrev st__law_many : Stmt := top 76
abbrev st__law_short : Stmt := top 77
abbrev st__law_best : Stmt := top 78
abbrev st__law_cheap : Stmt := top 79
abbrev st_law : Stmt := top 80
abbrev st_Frame_init : Stmt := inClass (top 66) 0
abbrev st_Desk_init : Stmt := inClass (top 67) 0
abbrev st_Desk_told : Stmt := inClass (top 67) 1
abbrev st_Desk_keep : Stmt := inClass (top 67) 2
abbrev st_Desk_ring : Stmt := inClass (top 67) 3
abbrev st_Desk_listen : Stmt := inClass (top 67) 4
abbrev st_Desk_send_note : Stmt := inClass (top 67) 5
abbrev st_Desk_kept : Stmt := inClass (top 67) 6
structure Own (K : PySem.W.Frag) (C_Frame C_Desk : Addr) : Prop where
  c_Frame : Cls K C_Frame
  n_Frame_turns : NoAttr K C_Frame "turns"
  n_Frame_bells : NoAttr K C_Frame "bells"
  n_Frame_late : NoAttr K C_Frame "late"
  n_Frame_frames : NoAttr K C_Frame "frames"
  c_Desk : Cls K C_Desk
  n_Desk_turns : NoAttr K C_Desk "turns"
  n_Desk_bells : NoAttr K C_Desk "bells"
  n_Desk_late : NoAttr K C_Desk "late"
  n_Desk_frames : NoAttr K C_Desk "frames"
  d_Frame_init : ∃ f, DefM K "__init__" "Frame.__init__" st_Frame_init ["self", "turns", "bells", "late"] f ∧ Mk K C_Frame f
  d_Desk_init : ∃ f, DefM K "__init__" "Desk.__init__" st_Desk_init ["self"] f ∧ Mk K C_Desk f
  d_Desk_told : ∃ f, DefM K "told" "Desk.told" st_Desk_told ["self", "order"] f ∧ Meth K C_Desk "told" f
  d_Desk_keep : ∃ f, DefM K "keep" "Desk.keep" st_Desk_keep ["self", "words"] f ∧ Meth K C_Desk "keep" f
  d_Desk_ring : ∃ f, DefM K "ring" "Desk.ring" st_Desk_ring ["self", "words"] f ∧ Meth K C_Desk "ring" f
  d_Desk_listen : ∃ f, DefM K "listen" "Desk.listen" st_Desk_listen ["self", "words"] f ∧ Meth K C_Desk "listen" f
  d_Desk_send_note : ∃ f, DefM K "send_note" "Desk.send_note" st_Desk_send_note ["self", "words"] f ∧ Meth K C_Desk "send_note" f
  d_Desk_kept : ∃ f, DefM K "kept" "Desk.kept" st_Desk_kept ["self", "name"] f ∧ Meth K C_Desk "kept" f
structure Txt (K : PySem.W.Frag) (mg : Str → Option Value) : Prop where
  z_range : mg "range" = none
  z_isinstance : mg "isinstance" = none
  z_int : mg "int" = none
  z_bool : mg "bool" = none
  z_len : mg "len" = none
  z_list : mg "list" = none
  z_max : mg "max" = none
  z_min : mg "min" = none
  z_enumerate : mg "enumerate" = none
  z_sorted : mg "sorted" = none
  z_sum : mg "sum" = none
  z_all : mg "all" = none
  z_str : mg "str" = none
  z_zip : mg "zip" = none
  z_ValueError : mg "ValueError" = none
noncomputable def cellOf (ns : List Int) (k : Int) : Int := ns.getD k.toNat 0
structure RowL (row : List Int) : Prop where
  inc : row.Pairwise (· < ·)
  nn : ∀ x ∈ row, 0 ≤ x
  sz : ∀ x ∈ row, x < 2 ^ 200
theorem at_map {ns : List Int} {k : Nat} {x : Int} (h : ns[k]? = some x) : atI (ns.map V.int) (k : Int) = some (V.int x) := atI_nat (by rw [List.getElem?_map, h]; rfl)
noncomputable def cutI (ns : List Int) (lo hi : Option Int) : List Int := (ns.drop (HT.sIx ns.length 0 lo)).take (HT.sIx ns.length ns.length hi - HT.sIx ns.length 0 lo)
theorem cut_map (ns : List Int) (lo hi : Option Int) : cutV (ns.map V.int) lo hi = (cutI ns lo hi).map V.int := by
  unfold cutV cutI
  rw [List.length_map, List.map_take, List.map_drop]
theorem cutI_len (ns : List Int) (lo hi : Option Int) : (cutI ns lo hi).length ≤ ns.length := by
  have := cutV_length (ns.map V.int) lo hi
  rwa [cut_map, List.length_map, List.length_map] at this
abbrev bmV : List Value := [.type "ValueError", .type "Exception", .type "BaseException", .type "object"]
section
variable {P : Program} {w : World} {K : PySem.W.Frag} {mg : Str → Option Value} {base : Heap}
noncomputable def spDr : Sp := fun vs H Q _ => ∃ c k : Int, vs = [.int c, .int k] ∧ intBits k ≤ 100 ∧ ∀ d : Int, 0 ≤ d → d < 2 ^ 61 → Q (.int d) H
theorem sc__law_drawn : FnScope ["cell", "k", "number"] ["cell", "k"] (defScope st__law_drawn) := ⟨rfl, rfl, rfl, by decide +kernel, rfl, by decide +kernel, by decide +kernel⟩
theorem ok_dr (D : Def K mg "_law_drawn" st__law_drawn ["cell", "k"]) : Fn P w K mg base 1 "_law_drawn" ["cell", "k"] spDr := by
  refine D.fn sc__law_drawn (fun vs H Q E h => ?_) (fun f cdv A outer s H vs Q E hr h => ?_)
  · obtain ⟨c, k, rfl, _⟩ := h
    rfl
  · obtain ⟨c, k, rfl, kb, q⟩ := h
    refine ⟨_, (pss_cons (ps_set (i := 2) sc__law_drawn.nd rfl (Or.inl rfl) (pe_op op_modB (pe_op op_mulB (pe_op op_addI (pe_op op_addI (pe_op op_modB (pv 0) (pe_op op_powB pe_int pe_int)) (pe_op op_mulB pe_int (pv 1))) pe_int) pe_int) pe_int))
      (pss_cons (ps_set (i := 2) sc__law_drawn.nd rfl (Or.inl rfl) (pe_op op_modB (pe_op op_mulB (pv 2) (pv 2)) pe_int))
      (pss_one (ps_ret (pe_op op_fdivB (pe_op op_modB (pe_op op_addI (pe_op op_mulB (pv 2) pe_int) (pe_op op_mulB (pv 1) (pv 1))) pe_int) pe_int))))), ?_⟩
    have p40 : (0 : Int) < 10 ^ (40 : Int).toNat := by decide
    have l40 : (10 : Int) ^ (40 : Int).toNat < 2 ^ 140 := by decide
    have c0 := Int.emod_nonneg c (show (10 : Int) ^ (40 : Int).toNat ≠ 0 by decide)
    have c1 := Int.emod_lt_of_pos c p40
    have cb : intBits (c % 10 ^ (40 : Int).toNat) ≤ 140 := bits_of c0 (Int.lt_trans c1 l40)
    have kb7 : intBits (7 * k) ≤ 103 := intBits_mul_le (m := 3) (n := 100) (by decide) kb
    have b1 : intBits (c % 10 ^ (40 : Int).toNat + 7 * k + 1) ≤ 142 := bits_mono (intBits_add_le (m := 141) (n := 1) (bits_mono (intBits_add_le cb kb7) (by decide)) (by decide)) (by decide)
    refine ⟨_, rfl, _, _, rfl, rfl, ⟨by decide, by decide, by decide⟩, _, _, rfl, rfl, p40, _, rfl, _, _, rfl, rfl, ⟨3, 100, by decide, kb, by decide⟩, _, _, rfl, rfl, _, _, rfl, rfl, _, _, rfl, rfl, ⟨142, 40, b1, by decide, by decide⟩, _, _, rfl, rfl, (by decide), ?_⟩
    have n0 := Int.emod_nonneg ((c % 10 ^ (40 : Int).toNat + 7 * k + 1) * 2654435769) (show (2305843009213693951 : Int) ≠ 0 by decide)
    have n1 := Int.emod_lt_of_pos ((c % 10 ^ (40 : Int).toNat + 7 * k + 1) * 2654435769) (show (0 : Int) < 2305843009213693951 by decide)
    generalize (c % 10 ^ (40 : Int).toNat + 7 * k + 1) * 2654435769 % 2305843009213693951 = number at n0 n1 ⊢
    have nb : intBits number ≤ 62 := bits_of n0 (by omega)
    refine ⟨_, rfl, _, rfl, _, _, rfl, rfl, ⟨62, 62, nb, nb, by decide⟩, _, _, rfl, rfl, (by decide), ?_⟩
    have m0 := Int.emod_nonneg (number * number) (show (2305843009213693951 : Int) ≠ 0 by decide)
    have m1 := Int.emod_lt_of_pos (number * number) (show (0 : Int) < 2305843009213693951 by decide)
    generalize number * number % 2305843009213693951 = num at m0 m1 ⊢
    have mb : intBits num ≤ 62 := bits_of m0 (by omega)
    have r0 := Int.emod_nonneg (num * 40503 + k * k) (show (2305843009213693951 : Int) ≠ 0 by decide)
    have r1 := Int.emod_lt_of_pos (num * 40503 + k * k) (show (0 : Int) < 2305843009213693951 by decide)
    refine ⟨_, rfl, _, _, rfl, rfl, ⟨62, 20, mb, by decide, by decide⟩, _, rfl, _, rfl, _, _, rfl, rfl, ⟨100, 100, kb, kb, by decide⟩, _, _, rfl, rfl, _, _, rfl, rfl, (by decide), _, _, rfl, rfl, ⟨by decide, by decide⟩, q _ ?_ ?_⟩
    · omega
    · omega
end
section
noncomputable def spLaw (K : PySem.W.Frag) : Sp := fun vs H Q _ => ∃ (a : Addr) (ns : List Int), vs = [.ref a] ∧ SqL K H a (ns.map V.int) ∧ ns.length ≤ 63 ∧ ∀ H', Q (.bl true) H'
end
section
variable {P : Program} {w : World} {K : PySem.W.Frag} {mg : Str → Option Value} {base : Heap}
theorem sc_choose : FnScope ["n", "k", "ways", "taken"] ["n", "k"] (defScope st_choose) := ⟨rfl, rfl, rfl, by decide +kernel, rfl, by decide +kernel, by decide +kernel⟩
theorem ok_choose (D : Def K mg "choose" st_choose ["n", "k"]) (T : Txt K mg) : Fn P w K mg base 1 "choose" ["n", "k"] spChoose := by
  refine D.fn sc_choose (fun vs H Q E h => ?_) (fun f cdv A outer s H vs Q E hr h => ?_)
  · obtain ⟨n, k, rfl, _⟩ := h
    rfl
  · obtain ⟨n, k, rfl, hn, hk, hk2, hb, q⟩ := h
    refine ⟨_, (pss_cons (ps_if (pt_cmpR op_gtI (pv 1) (pv 0) (nomark _))
        (pss_one (ps_ret pe_int))
        pss_nil)
      (pss_cons (ps_set (i := 2) sc_choose.nd rfl (Or.inl rfl) pe_int)
      (pss_cons (ps_for PassesOwn.never rfl (pi_range1 (by rfl) T.z_range (pa_cons (pv 1) pa_nil)) (pg_name (i := 3) sc_choose.nd rfl (Or.inl rfl))
        (pss_one (ps_set (i := 2) sc_choose.nd rfl (Or.inl rfl) (pe_op op_fdivB (pe_op op_mulB (pv 2) (pe_op op_subI (pv 0) (pv 3))) (pe_op op_addI (pv 3) pe_int)))))
      (pss_one (ps_ret (pv 2)))))), ?_⟩
    refine ⟨_, rfl, _, rfl, _, _, rfl, rfl, _, rfl, ?_⟩
    refine ite2 (fun h => ?_) (fun h => ?_)
    · have h' : n < k := of_decide_eq_true h
      have e := ch_above hn h'
      rw [e] at q
      exact q
    · have h' : ¬ n < k := fun z => h (decide_eq_true z)
      refine ⟨_, rfl, k, rfl, by omega, by omega, for_range (n := k.toNat) (fun i σ H' => ∃ v, σ = [some (.int n), some (.int k), some (.int (ch n i)), v] ∧ H' = H) ⟨none, ?_, rfl⟩ ?_ ?_⟩
      · have e := ch_zero n
        show _ = [some (V.int n), some (V.int k), some (V.int (ch n 0)), none]
        rw [e]
        rfl
      · rintro i σ H' hi ⟨v, rfl, rfl⟩
        have hi' : (i : Int) < k := by omega
        refine ⟨_, rfl, _, rfl, _, rfl, _, _, rfl, rfl, _, _, rfl, rfl, ?_, _, rfl, _, _, rfl, rfl, _, _, rfl, rfl, ?_, ?_⟩
        · refine ⟨100000 * i + 1, 100000, bits_ch hb hn, ?_, by omega⟩
          exact intBits_le_of_natAbs (by omega) hb
        · exact ⟨by omega, bits_of (by omega) (by omega)⟩
        · have e := ch_step (n := n) (i := i) (by omega)
          have e0 : (0 : Int) + (i : Int) = (i : Int) := by omega
          refine ⟨some (.int (0 + (i : Int))), ?_, rfl⟩
          rw [e0, e]
          rfl
      · rintro σ H' ⟨v, rfl, rfl⟩
        refine ⟨_, rfl, ?_⟩
        have e : ((k.toNat : Nat) : Int) = k := by omega
        rw [e]
        exact q
end
section
variable {P : Program} {w : World} {K : PySem.W.Frag} {mg : Str → Option Value} {base : Heap}
theorem sc_rounded_up : FnScope ["number", "divisor"] ["number", "divisor"] (defScope st_rounded_up) := ⟨rfl, rfl, rfl, by decide +kernel, rfl, by decide +kernel, by decide +kernel⟩
theorem ok_rounded_up (D : Def K mg "rounded_up" st_rounded_up ["number", "divisor"]) (hP : P.given.tree = none) : Fn P w K mg base 36 "rounded_up" ["number", "divisor"] spRound := by
  refine D.fn sc_rounded_up (fun vs H Q E h => ?_) (fun f cdv A outer s H vs Q E hr h => ?_)
  · obtain ⟨n, k, rfl, _⟩ := h
    rfl
  · obtain ⟨a, b, rfl, hb, q⟩ := h
    refine ⟨_, (pss_one (ps_ret (pe_op (op_fdivP (pyl_ok hP sc_rounded_up hr)) (pe_op op_subI (pe_op op_addI (pv 0) (pv 1)) pe_int) (pv 1)))), ?_⟩
    exact ⟨_, rfl, _, rfl, _, _, rfl, rfl, _, _, rfl, rfl, _, rfl, _, _, rfl, rfl, hb, q⟩
theorem sc_above_top : FnScope ["k", "number", "product", "factor", "figures"] ["k", "number"] (defScope st_above_top) := ⟨rfl, rfl, rfl, by decide +kernel, rfl, by decide +kernel, by decide +kernel⟩
theorem ok_above_top (D : Def K mg "above_top" st_above_top ["k", "number"]) (T : Txt K mg) (G_rounded_up : Fn P w K mg base 36 "rounded_up" ["number", "divisor"] spRound) : Fn P w K mg base 37 "above_top" ["k", "number"] spAbove := by
  refine D.fn sc_above_top (fun vs H Q E h => ?_) (fun f cdv A outer s H vs Q E hr h => ?_)
  · obtain ⟨n, k, rfl, _⟩ := h
    rfl
  · obtain ⟨k, number, rfl, k1, k60, n0, nb, q⟩ := h
    refine ⟨_, (pss_cons (ps_set (i := 2) sc_above_top.nd rfl (Or.inl rfl) (pv 1))
      (pss_cons (ps_for PassesOwn.never rfl (pi_range2 (by rfl) T.z_range (pa_cons pe_int (pa_cons (pe_op op_addI (pv 0) pe_int) pa_nil))) (pg_name (i := 3) sc_above_top.nd rfl (Or.inl rfl))
        (pss_one (ps_set (i := 2) sc_above_top.nd rfl (Or.inl rfl) (pe_op op_mulB (pv 2) (pv 3)))))
      (pss_cons (ps_set (i := 4) sc_above_top.nd rfl (Or.inl rfl) (pe_fn G_rounded_up (hr.mono (by decide)) (by rfl) (pa_cons (pe_bm0 PySem.F.plainAttrs_int PySem.F.slot_int_bit_length PySem.F.type_int_bit_length mt_bit_length (pv 2)) (pa_cons (pv 0) pa_nil))))
      (pss_one (ps_ret (pe_op op_subI (pe_op op_addI (pe_op op_shlB pe_int (pv 4)) (pv 0)) pe_int)))))), ?_⟩
    have ek : ((k.toNat : Nat) : Int) = k := by omega
    have pb : ∀ i : Nat, (i : Int) ≤ 60 → intBits (number * fac i) ≤ 50000 + (7 * i + 1) := fun i hi => intBits_mul_le nb (bits_fac i (by omega))
    refine ⟨_, rfl, _, rfl, _, _, rfl, rfl, 1, k + 1, rfl, ⟨by omega, by omega, by omega, by omega⟩, for_range (lo := 1) (n := (k + 1 - 1).toNat) (fun i σ H2 => ∃ v, σ = [some (.int k), some (.int number), some (.int (number * fac i)), v, none] ∧ H2 = H) ⟨none, ?_, rfl⟩ ?_ ?_⟩
    · show _ = [some (V.int k), some (V.int number), some (V.int (number * 1)), none, none]
      rw [Int.mul_one]
      rfl
    · rintro i σ H2 hi ⟨v, rfl, rfl⟩
      have hi' : (i : Int) < k := by omega
      refine ⟨_, rfl, _, rfl, _, _, rfl, rfl, ⟨_, 64, pb i (by omega), bits_of (by omega) (by omega), by omega⟩, some (.int (1 + (i : Int))), ?_, rfl⟩
      rw [fac_succ, ← Int.mul_assoc, Int.add_comm (i : Int) 1]
      rfl
    · rintro σ H2 ⟨v, rfl, rfl⟩
      have en : (k + 1 - 1).toNat = k.toNat := by omega
      rw [en]
      have pk := pb k.toNat (by omega)
      have hsz := intBits_le_iff.mp (Nat.le_refl (intBits (number * fac k.toNat)))
      refine ⟨_, rfl, rfl, _, rfl, rfl, _, rfl, _, _, rfl, by omega, ?_⟩
      generalize hbn : intBits (number * fac k.toNat) = b at pk hsz ⊢
      have d1 := Int.mul_ediv_add_emod ((b : Int) + k - 1) k
      have d2 := Int.emod_nonneg ((b : Int) + k - 1) (show k ≠ 0 by omega)
      have d3 := Int.emod_lt_of_pos ((b : Int) + k - 1) (show 0 < k by omega)
      have f0 : 0 ≤ ((b : Int) + k - 1) / k := Int.ediv_nonneg (by omega) (by omega)
      have f1 : ((b : Int) + k - 1) / k ≤ (b : Int) + k - 1 := Int.ediv_le_self _ (by omega)
      generalize ((b : Int) + k - 1) / k = fg at d1 f0 f1 ⊢
      generalize ((b : Int) + k - 1) % k = r at d1 d2 d3
      refine ⟨_, rfl, _, _, rfl, rfl, ⟨f0, by omega, by decide⟩, _, rfl, _, _, rfl, rfl, _, _, rfl, rfl, ?_⟩
      have ef : ((fg.toNat : Nat) : Int) = fg := by omega
      have hp : (0 : Int) < 2 ^ fg.toNat := Int.pow_pos (by decide)
      have ab := aboveI (F := fg.toNat) (b := b) k1 n0 hsz (by rw [ef, Int.mul_comm]; omega)
      have e1 : (1 : Int) * 2 ^ fg.toNat = 2 ^ fg.toNat := Int.one_mul _
      rw [e1]
      refine q _ (by omega) ab ?_
      have hb2 : intBits ((2 : Int) ^ fg.toNat) ≤ fg.toNat + 1 := by
        refine intBits_le_iff.mpr ?_
        rw [Int.natAbs_pow]
        exact Nat.pow_lt_pow_right (by decide) (by omega)
      refine bits_mono (intBits_sub_le (m := 50600) (n := 64) (bits_mono (intBits_add_le (m := 50599) (n := 64) (bits_mono hb2 (by omega)) (bits_of (by omega) (by omega))) (by decide)) (by decide)) (by decide)
theorem C_absorb (n k : Nat) : (k + 1) * C (n + 1) (k + 1) = (n + 1) * C n k := by
  have h := C_step n k
  rw [C_succ, Nat.mul_add, Nat.add_mul, Nat.add_mul, Nat.one_mul, Nat.one_mul, Nat.add_mul n 1, Nat.one_mul]
  rw [Nat.add_mul] at h
  omega
theorem ch_absorb {t k : Int} (hk : 1 ≤ k) (ht : 1 ≤ t) : ch t k * k / t = ch (t - 1) (k - 1) := by
  obtain ⟨j, hj⟩ : ∃ j : Nat, k = (j : Int) + 1 := ⟨(k - 1).toNat, by omega⟩
  obtain ⟨m, hm⟩ : ∃ m : Nat, t = (m : Int) + 1 := ⟨(t - 1).toNat, by omega⟩
  subst hj hm
  have e1 : ch ((m : Int) + 1) ((j : Int) + 1) = (C (m + 1) (j + 1) : Nat) := by
    rw [show ((m : Int) + 1) = ((m + 1 : Nat) : Int) by omega, show ((j : Int) + 1) = ((j + 1 : Nat) : Int) by omega, ch_nat]
  have e2 : ch ((m : Int) + 1 - 1) ((j : Int) + 1 - 1) = (C m j : Nat) := by
    rw [show ((m : Int) + 1 - 1) = ((m : Nat) : Int) by omega, show ((j : Int) + 1 - 1) = ((j : Nat) : Int) by omega, ch_nat]
  rw [e1, e2]
  have a := C_absorb m j
  have a' : ((C (m + 1) (j + 1) : Nat) : Int) * ((j : Int) + 1) = ((m : Int) + 1) * ((C m j : Nat) : Int) := by
    rw [Int.mul_comm]
    exact_mod_cast a
  rw [a']
  exact Int.mul_ediv_cancel_left _ (by omega)
noncomputable def spTopFrom : Sp := fun vs H Q _ => ∃ start k number : Int, vs = [.int start, .int k, .int number] ∧ 1 ≤ k ∧ k ≤ 60 ∧ 0 ≤ number ∧ k - 1 ≤ start ∧ number < ch (start + 1) k ∧ intBits start ≤ 60000 ∧ ∀ t : Int, IsTop k number t → intBits t ≤ 60000 → Q (.int t) H
theorem sc_top_from : FnScope ["start", "k", "number", "top", "ways", "most_off", "step"] ["start", "k", "number"] (defScope st_top_from) := ⟨rfl, rfl, rfl, by decide +kernel, rfl, by decide +kernel, by decide +kernel⟩
theorem ok_top_from (D : Def K mg "top_from" st_top_from ["start", "k", "number"]) (G_choose : Fn P w K mg base 1 "choose" ["n", "k"] spChoose) (G_rounded_up : Fn P w K mg base 36 "rounded_up" ["number", "divisor"] spRound) (hP : P.given.tree = none) :
    Fn P w K mg base 37 "top_from" ["start", "k", "number"] spTopFrom := by
  refine D.fn sc_top_from (fun vs H Q E h => ?_) (fun f cdv A outer s H vs Q E hr h => ?_)
  · obtain ⟨a, n, k, rfl, _⟩ := h
    rfl
  · obtain ⟨t0, k, number, rfl, k1, k60, n0, t1, t2, t3, q⟩ := h
    refine ⟨_, (pss_cons (ps_set (i := 3) sc_top_from.nd rfl (Or.inl rfl) (pv 0))
      (pss_cons (ps_set (i := 4) sc_top_from.nd rfl (Or.inl rfl) (pe_fn G_choose (hr.mono (by decide)) (by rfl) (pa_cons (pv 3) (pa_cons (pv 1) pa_nil))))
      (pss_cons (ps_while PassesOwn.never (pt_cmpR op_gtI (pv 4) (pv 2) (nomark _))
        (pss_cons (ps_set (i := 5) sc_top_from.nd rfl (Or.inl rfl) (pe_op (op_fdivP (pyl_ok hP sc_top_from (hr.mono (by decide)))) (pe_op op_mulB (pv 4) (pv 1)) (pv 3)))
        (pss_cons (ps_set (i := 6) sc_top_from.nd rfl (Or.inl rfl) (pe_fn G_rounded_up (hr.mono (by decide)) (by rfl) (pa_cons (pe_op op_subI (pv 4) (pv 2)) (pa_cons (pv 5) pa_nil))))
        (pss_cons (ps_set (i := 3) sc_top_from.nd rfl (Or.inl rfl) (pe_op op_subI (pv 3) (pv 6)))
        (pss_one (ps_set (i := 4) sc_top_from.nd rfl (Or.inl rfl) (pe_ifExp (pt_cmpR op_eqI (pv 6) pe_int (nomark _)) (pe_op op_subI (pv 4) (pv 5)) (pe_fn G_choose (hr.mono (by decide)) (by rfl) (pa_cons (pv 3) (pa_cons (pv 1) pa_nil))))))))))
      (pss_one (ps_ret (pv 3)))))), ?_⟩
    refine ⟨_, rfl, _, rfl, _, rfl, t0, k, rfl, by omega, by omega, by omega, bits_mono t3 (by decide), ?_⟩
    refine while_by (fun σ H2 => ∃ t v v', σ = [some (.int t0), some (.int k), some (.int number), some (.int t), some (.int (ch t k)), v, v'] ∧ H2 = H ∧ k - 1 ≤ t ∧ number < ch (t + 1) k ∧ intBits t ≤ 60000)
      (fun σ _ => match σ with | [_, _, _, some (.int t), _, _, _] => t.toNat | _ => 0) ⟨t0, none, none, rfl, rfl, t1, t2, t3⟩ ?_ ?_
    · rintro σ H2 ⟨t, v, v', rfl, rfl, u1, u2, u3⟩
      refine ⟨_, rfl, _, rfl, _, _, rfl, rfl, _, rfl, ifD (fun h => ?_) (fun h => ?_)⟩
      · obtain ⟨a1, a2, a3, a4, a5⟩ := step_downI k1 n0 (by omega) h _ rfl
        have wb : intBits (ch t k) ≤ 60000 * 60 + 1 := by
          have := bits_ch (k := k.toNat) u3 (by omega)
          rw [show ((k.toNat : Nat) : Int) = k by omega] at this
          exact bits_mono this (Nat.add_le_add_right (Nat.mul_le_mul_left _ (by omega)) _)
        refine ⟨_, rfl, _, rfl, _, _, rfl, rfl, ⟨_, 64, wb, bits_of (by omega) (by omega), by decide⟩, _, rfl, _, _, rfl, rfl, by omega, ?_⟩
        rw [ch_absorb k1 (by omega)]
        have sb : ch (t - 1) k = ch t k - ch (t - 1) (k - 1) := by
          have := ch_succ (n := t - 1) (k := k - 1) (by omega) (by omega)
          rw [show t - 1 + 1 = t by omega, show k - 1 + 1 = k by omega] at this
          omega
        refine ⟨_, rfl, _, rfl, _, _, rfl, rfl, _, rfl, ch t k - number, ch (t - 1) (k - 1), rfl, a2, ?_⟩
        generalize (ch t k - number + ch (t - 1) (k - 1) - 1) / ch (t - 1) (k - 1) = d at a3 a4 a5 ⊢
        have tb : intBits (t - d) ≤ 60000 := intBits_le_of_natAbs (y := t) (by omega) u3
        refine ⟨_, rfl, _, rfl, _, _, rfl, rfl, _, rfl, _, _, rfl, rfl, _, rfl, ifD (fun e => ?_) (fun e => ?_)⟩
        · subst e
          refine ⟨_, rfl, _, rfl, _, _, rfl, rfl, ⟨t - 1, _, _, by rw [sb]; rfl, rfl, a4, a5, tb⟩, ?_⟩
          show (t - 1).toNat < t.toNat
          omega
        · refine ⟨_, rfl, _, rfl, t - d, k, rfl, by omega, by omega, by omega, bits_mono tb (by decide), ?_⟩
          refine ⟨⟨t - d, _, _, rfl, rfl, a4, a5, tb⟩, ?_⟩
          show (t - d).toNat < t.toNat
          omega
      · refine ⟨_, rfl, q t ⟨u1, by omega, u2⟩ u3⟩
    · intro σ H2 R R' m h
      obtain ⟨v, e1, u, e2, i, j, e3, e4, b, e5, z⟩ := h
      exact ⟨v, e1, u, e2, i, j, e3, e4, b, e5, m _ _ z⟩
end
section
variable {P : Program} {w : World} {K : PySem.W.Frag} {mg : Str → Option Value} {base : Heap}
theorem sc_top_of : FnScope ["k", "number"] ["k", "number"] (defScope st_top_of) := ⟨rfl, rfl, rfl, by decide +kernel, rfl, by decide +kernel, by decide +kernel⟩
theorem ok_top_of (D : Def K mg "top_of" st_top_of ["k", "number"]) (G_above_top : Fn P w K mg base 37 "above_top" ["k", "number"] spAbove) (G_top_from : Fn P w K mg base 37 "top_from" ["start", "k", "number"] spTopFrom) :
    Fn P w K mg base 38 "top_of" ["k", "number"] spTop := by
  refine D.fn sc_top_of (fun vs H Q E h => ?_) (fun f cdv A outer s H vs Q E hr h => ?_)
  · obtain ⟨n, k, rfl, _⟩ := h
    rfl
  · obtain ⟨k, number, rfl, k1, k60, n0, nb, q⟩ := h
    refine ⟨_, (pss_one (ps_ret (pe_fn G_top_from (hr.mono (by decide)) (by rfl) (pa_cons (pe_fn G_above_top (hr.mono (by decide)) (by rfl) (pa_cons (pv 0) (pa_cons (pv 1) pa_nil))) (pa_cons (pv 0) (pa_cons (pv 1) pa_nil)))))), ?_⟩
    exact ⟨_, rfl, _, rfl, k, number, rfl, k1, k60, n0, nb, fun t0 t1 t2 t3 => ⟨_, rfl, _, rfl, t0, k, number, rfl, k1, k60, n0, t1, t2, t3, q⟩⟩
end
noncomputable def cnt (turns bells late : Int) : Int := if turns < bells then 0 else ch ((turns - bells) / (late + 1) + bells) bells
noncomputable def spCount : Sp := fun vs H Q _ => ∃ turns bells late : Int, vs = [.int turns, .int bells, .int late] ∧ 0 ≤ bells ∧ bells ≤ 1000 ∧ 0 ≤ late ∧ intBits late ≤ 8000 ∧ intBits turns ≤ 70000 ∧ Q (.int (cnt turns bells late)) H
section
variable {P : Program} {w : World} {K : PySem.W.Frag} {mg : Str → Option Value} {base : Heap}
noncomputable def spGreat : Sp := fun vs H Q _ => ∃ turns bells late : Int, vs = [.int turns, .int bells, .int late] ∧ 0 ≤ late ∧ intBits late ≤ 8000 ∧ Q (.int ((turns - bells) / (late + 1))) H
theorem sc_greatest_part : FnScope ["turns", "bells", "late"] ["turns", "bells", "late"] (defScope st_greatest_part) := ⟨rfl, rfl, rfl, by decide +kernel, rfl, by decide +kernel, by decide +kernel⟩
theorem ok_greatest_part (D : Def K mg "greatest_part" st_greatest_part ["turns", "bells", "late"]) : Fn P w K mg base 1 "greatest_part" ["turns", "bells", "late"] spGreat := by
  refine D.fn sc_greatest_part (fun vs H Q E h => ?_) (fun f cdv A outer s H vs Q E hr h => ?_)
  · obtain ⟨a, b, c, rfl, _⟩ := h
    rfl
  · obtain ⟨turns, bells, late, rfl, l0, lb, q⟩ := h
    refine ⟨_, (pss_one (ps_ret (pe_op op_fdivB (pe_op op_subI (pv 0) (pv 1)) (pe_op op_addI (pv 2) pe_int)))), ?_⟩
    have lb1 : intBits (late + 1) ≤ 9000 := bits_mono (intBits_add_le (m := 8000) (n := 1) lb (by decide)) (by decide)
    exact ⟨_, rfl, _, rfl, _, _, rfl, rfl, _, rfl, _, _, rfl, rfl, _, _, rfl, rfl, ⟨by omega, lb1⟩, q⟩
theorem sc_box_count : FnScope ["turns", "bells", "late"] ["turns", "bells", "late"] (defScope st_box_count) := ⟨rfl, rfl, rfl, by decide +kernel, rfl, by decide +kernel, by decide +kernel⟩
theorem ok_box_count (D : Def K mg "box_count" st_box_count ["turns", "bells", "late"]) (T : Txt K mg) (G_greatest_part : Fn P w K mg base 1 "greatest_part" ["turns", "bells", "late"] spGreat) (G_choose : Fn P w K mg base 1 "choose" ["n", "k"] spChoose) : Fn P w K mg base 2 "box_count" ["turns", "bells", "late"] spCount := by
  refine D.fn sc_box_count (fun vs H Q E h => ?_) (fun f cdv A outer s H vs Q E hr h => ?_)
  · obtain ⟨a, b, c, rfl, _⟩ := h
    rfl
  · obtain ⟨turns, bells, late, rfl, b0, b1, l0, lb, tb, q⟩ := h
    refine ⟨_, (pss_cons (ps_if (pt_cmpR op_gtI (pv 1) (pv 0) (nomark _))
        (pss_one (ps_ret pe_int))
        pss_nil)
      (pss_one (ps_ret (pe_fn G_choose (hr.mono (by decide)) (by rfl) (pa_cons (pe_op op_addI (pe_fn G_greatest_part (hr.mono (by decide)) (by rfl) (pa_cons (pv 0) (pa_cons (pv 1) (pa_cons (pv 2) pa_nil)))) (pv 1)) (pa_cons (pv 1) pa_nil)))))), ?_⟩
    unfold cnt at q
    refine ⟨_, rfl, _, rfl, _, _, rfl, rfl, _, rfl, ifD (fun h => ?_) (fun h => ?_)⟩
    · rw [if_pos h] at q
      exact q
    · rw [if_neg h] at q
      have d0 : 0 ≤ (turns - bells) / (late + 1) := Int.ediv_nonneg (by omega) (by omega)
      have db : intBits ((turns - bells) / (late + 1)) ≤ 70000 := by
        have h2 := Int.ediv_le_self (late + 1) (show 0 ≤ turns - bells by omega)
        exact intBits_le_of_natAbs (y := turns) (by omega) tb
      refine ⟨_, rfl, _, rfl, _, rfl, turns, bells, late, rfl, l0, lb, _, rfl, _, _, rfl, rfl, _, rfl, _, bells, rfl, by omega, b0, b1, ?_, q⟩
      exact bits_mono (intBits_add_le (m := 70000) (n := 64) db (bits_of b0 (by omega))) (by decide)
end
theorem cnt_pos {turns bells late : Int} (b0 : 0 ≤ bells) (h : bells ≤ turns) (l0 : 0 ≤ late) : 0 < cnt turns bells late := by
  unfold cnt
  rw [if_neg (by omega)]
  have d0 : 0 ≤ (turns - bells) / (late + 1) := Int.ediv_nonneg (by omega) (by omega)
  exact ch_pos b0 (by omega)
theorem cnt_nonneg (turns bells late : Int) : 0 ≤ cnt turns bells late := by
  unfold cnt
  split
  · exact Int.le_refl _
  · exact ch_nonneg _ _
noncomputable def IsShort (bells late many t : Int) : Prop := 0 ≤ t ∧ many ≤ cnt t bells late ∧ (t = 0 ∨ cnt (t - 1) bells late < many)
theorem short_zero {bells late : Int} : IsShort bells late 0 0 := ⟨Int.le_refl _, cnt_nonneg _ _ _, Or.inl rfl⟩
theorem short_one {late : Int} (l0 : 0 ≤ late) : IsShort 0 late 1 0 := ⟨Int.le_refl _, by have := cnt_pos (turns := 0) (bells := 0) (late := late) (by decide) (by decide) l0; omega, Or.inl rfl⟩
theorem short_top {bells late many t : Int} (b1 : 1 ≤ bells) (l0 : 0 ≤ late) (m1 : 1 ≤ many) (h : IsTop bells (many - 1) t) : IsShort bells late many ((t + 1 - bells) * (late + 1) + bells) := by
  have h1 := h.lo
  have h2 := h.le
  have h3 := h.lt
  have g0 : 0 ≤ t + 1 - bells := by omega
  have p0 : 0 ≤ (t + 1 - bells) * (late + 1) := Int.mul_nonneg g0 (by omega)
  refine ⟨by omega, ?_, Or.inr ?_⟩
  · unfold cnt
    rw [if_neg (by omega), show (t + 1 - bells) * (late + 1) + bells - bells = (t + 1 - bells) * (late + 1) by omega, Int.mul_ediv_cancel _ (by omega), show t + 1 - bells + bells = t + 1 by omega]
    omega
  · unfold cnt
    split
    · omega
    · rename_i z
      have e : ((t + 1 - bells) * (late + 1) + bells - 1 - bells) / (late + 1) = t - bells := by
        have e1 : (t + 1 - bells) * (late + 1) = (t - bells) * (late + 1) + (late + 1) := by
          rw [show t + 1 - bells = (t - bells) + 1 by omega, Int.add_mul, Int.one_mul]
        rw [show (t + 1 - bells) * (late + 1) + bells - 1 - bells = late + (t - bells) * (late + 1) by omega, Int.add_mul_ediv_right _ _ (by omega), Int.ediv_eq_zero_of_lt l0 (by omega)]
        omega
      rw [e, show t - bells + bells = t by omega]
      omega
section
variable {P : Program} {w : World} {K : PySem.W.Frag} {mg : Str → Option Value} {base : Heap}
noncomputable def spShort : Sp := fun vs H Q _ => ∃ bells late many : Int, vs = [.int bells, .int late, .int many] ∧ 0 ≤ bells ∧ bells ≤ 60 ∧ 0 ≤ late ∧ 0 ≤ many ∧ intBits late ≤ 8000 ∧ intBits many ≤ 40000 ∧ (bells = 0 → 1 < many → Q .non H) ∧ ((bells = 0 → many ≤ 1) → ∀ t : Int, IsShort bells late many t → intBits t ≤ 69000 → Q (.int t) H)
theorem sc_shortest_frame : FnScope ["bells", "late", "many", "greatest"] ["bells", "late", "many"] (defScope st_shortest_frame) := ⟨rfl, rfl, rfl, by decide +kernel, rfl, by decide +kernel, by decide +kernel⟩
theorem ok_shortest_frame (D : Def K mg "shortest_frame" st_shortest_frame ["bells", "late", "many"]) (T : Txt K mg) (G_top_of : Fn P w K mg base 38 "top_of" ["k", "number"] spTop) : Fn P w K mg base 39 "shortest_frame" ["bells", "late", "many"] spShort := by
  refine D.fn sc_shortest_frame (fun vs H Q E h => ?_) (fun f cdv A outer s H vs Q E hr h => ?_)
  · obtain ⟨a, b, c, rfl, _⟩ := h
    rfl
  · obtain ⟨bells, late, many, rfl, b0, b60, l0, m0, lb, mb, q1, q2⟩ := h
    refine ⟨_, (pss_cons (ps_if (pt_cmpR op_eqI (pv 2) pe_int (nomark _))
        (pss_one (ps_ret pe_int))
        pss_nil)
      (pss_cons (ps_if (pt_cmpR op_eqI (pv 0) pe_int (nomark _))
        (pss_one (ps_ret (pe_ifExp (pt_cmpR op_eqI (pv 2) pe_int (nomark _)) pe_int pe_non)))
        pss_nil)
      (pss_cons (ps_set (i := 3) sc_shortest_frame.nd rfl (Or.inl rfl) (pe_op op_subI (pe_op op_addI (pe_fn G_top_of (hr.mono (by decide)) (by rfl) (pa_cons (pv 0) (pa_cons (pe_op op_subI (pv 2) pe_int) pa_nil))) pe_int) (pv 0)))
      (pss_one (ps_ret (pe_op op_addI (pe_op op_mulB (pv 3) (pe_op op_addI (pv 1) pe_int)) (pv 0))))))), ?_⟩
    refine ⟨_, rfl, _, _, rfl, rfl, _, rfl, ifD (fun h => ?_) (fun h => ⟨_, rfl, _, _, rfl, rfl, _, rfl, ifD (fun z => ⟨_, rfl, _, _, rfl, rfl, _, rfl, ifD (fun o => ?_) (fun o => ?_)⟩) (fun z => ?_)⟩)⟩
    · subst h
      exact q2 (fun _ => by decide) 0 short_zero (by decide)
    · subst o z
      exact q2 (fun _ => by decide) 0 (short_one l0) (by decide)
    · exact q1 z (by omega)
    · refine ⟨_, rfl, _, rfl, _, _, rfl, rfl, bells, many - 1, rfl, by omega, b60, by omega, intBits_le_of_natAbs (y := many) (by omega) (bits_mono mb (by decide)), fun t tp tb => ?_⟩
      have gb : intBits (t + 1 - bells) ≤ 60064 := bits_mono (intBits_sub_le (m := 60001) (n := 64) (intBits_add_le (m := 60000) (n := 1) tb (by decide)) (bits_of (by omega) (by omega))) (by decide)
      have lb1 : intBits (late + 1) ≤ 8001 := bits_mono (intBits_add_le (m := 8000) (n := 1) lb (by decide)) (by decide)
      refine ⟨_, _, rfl, rfl, _, rfl, _, _, rfl, rfl, _, rfl, _, rfl, _, _, rfl, rfl, _, _, rfl, rfl, ⟨60064, 8001, gb, lb1, by decide⟩, _, rfl, _, _, rfl, rfl, ?_⟩
      exact q2 (fun e => absurd e z) _ (short_top (by omega) l0 (by omega) tp) (bits_mono (intBits_add_le (m := 68065) (n := 64) (intBits_mul_le gb lb1) (bits_of (by omega) (by omega))) (by decide))
end
noncomputable def IsBest (turns late most b : Int) : Prop := 0 ≤ b ∧ b ≤ most ∧ ∀ j : Int, 0 ≤ j → j ≤ most → cnt turns j late ≤ cnt turns b late ∧ (j < b → cnt turns j late < cnt turns b late)
section
variable {P : Program} {w : World} {K : PySem.W.Frag} {mg : Str → Option Value} {base : Heap}
noncomputable def spBest : Sp := fun vs H Q _ => ∃ turns late most : Int, vs = [.int turns, .int late, .int most] ∧ 0 ≤ late ∧ 0 ≤ most ∧ most ≤ 1000 ∧ intBits late ≤ 8000 ∧ intBits turns ≤ 70000 ∧ ∀ b : Int, IsBest turns late most b → Q (.int b) H
theorem sc_best_bells : FnScope ["turns", "late", "most", "best", "greatest", "bells", "many"] ["turns", "late", "most"] (defScope st_best_bells) := ⟨rfl, rfl, rfl, by decide +kernel, rfl, by decide +kernel, by decide +kernel⟩
theorem ok_best_bells (D : Def K mg "best_bells" st_best_bells ["turns", "late", "most"]) (T : Txt K mg) (G_box_count : Fn P w K mg base 2 "box_count" ["turns", "bells", "late"] spCount) : Fn P w K mg base 3 "best_bells" ["turns", "late", "most"] spBest := by
  refine D.fn sc_best_bells (fun vs H Q E h => ?_) (fun f cdv A outer s H vs Q E hr h => ?_)
  · obtain ⟨a, b, c, rfl, _⟩ := h
    rfl
  · obtain ⟨turns, late, most, rfl, l0, m0, m1, lb, tb, q⟩ := h
    refine ⟨_, (pss_cons (ps_set (i := 3) sc_best_bells.nd rfl (Or.inl rfl) pe_int)
      (pss_cons (ps_set (i := 4) sc_best_bells.nd rfl (Or.inl rfl) pe_int)
      (pss_cons (ps_for PassesOwn.never rfl (pi_range1 (by rfl) T.z_range (pa_cons (pe_op op_addI (pv 2) pe_int) pa_nil)) (pg_name (i := 5) sc_best_bells.nd rfl (Or.inl rfl))
        (pss_cons (ps_set (i := 6) sc_best_bells.nd rfl (Or.inl rfl) (pe_fn G_box_count (hr.mono (by decide)) (by rfl) (pa_cons (pv 0) (pa_cons (pv 5) (pa_cons (pv 1) pa_nil)))))
        (pss_one (ps_if (pt_cmpR op_gtI (pv 6) (pv 4) (nomark _))
          (pss_cons (ps_set (i := 3) sc_best_bells.nd rfl (Or.inl rfl) (pv 5))
          (pss_one (ps_set (i := 4) sc_best_bells.nd rfl (Or.inl rfl) (pv 6))))
          pss_nil))))
      (pss_one (ps_ret (pv 3)))))), ?_⟩
    refine ⟨_, rfl, _, _, rfl, rfl, most + 1, rfl, by omega, by omega, for_range (n := (most + 1).toNat) (fun i σ H' => ∃ (b g : Int) (v5 v6 : Option V), σ = [some (.int turns), some (.int late), some (.int most), some (.int b), some (.int g), v5, v6] ∧ H' = H ∧ 0 ≤ b ∧ (i = 0 → b = 0 ∧ g = 0) ∧ (0 < i → b < (i : Int) ∧ g = cnt turns b late) ∧ (∀ j : Int, 0 ≤ j → j < (i : Int) → cnt turns j late ≤ g ∧ (j < b → cnt turns j late < g)))
      ⟨0, 0, none, none, rfl, rfl, by omega, fun _ => ⟨rfl, rfl⟩, fun z => absurd z (by omega), fun j _ _ => by omega⟩ ?_ ?_⟩
    · rintro i σ H' hi ⟨b, g, v5, v6, rfl, rfl, b0, iz, ip, al⟩
      have e0 : (0 : Int) + (i : Int) = (i : Int) := by omega
      rw [e0]
      refine ⟨_, rfl, _, rfl, _, rfl, turns, (i : Int), late, rfl, by omega, by omega, l0, lb, tb, ?_⟩
      have c0 := cnt_nonneg turns (i : Int) late
      have bi : b ≤ (i : Int) := by
        by_cases z : i = 0
        · have := iz z; omega
        · have := ip (by omega); omega
      refine ⟨_, rfl, _, rfl, _, _, rfl, rfl, _, rfl, ifD (fun h => ⟨_, rfl, _, rfl, ?_⟩) (fun h => ?_)⟩
      · refine ⟨(i : Int), _, _, _, rfl, rfl, by omega, fun z => absurd z (by omega), fun _ => ⟨by omega, rfl⟩, fun j j0 j1 => ?_⟩
        by_cases z : j = (i : Int)
        · subst z; exact ⟨Int.le_refl _, fun z => absurd z (by omega)⟩
        · have := (al j j0 (by omega)).1
          exact ⟨by omega, fun _ => by omega⟩
      · refine ⟨b, g, _, _, rfl, rfl, b0, fun z => absurd z (by omega), fun _ => ?_, fun j j0 j1 => ?_⟩
        · by_cases z : i = 0
          · obtain ⟨z1, z2⟩ := iz z
            subst z z1 z2
            exact ⟨by omega, by have : ((0 : Nat) : Int) = 0 := rfl; rw [this] at c0 h; omega⟩
          · have := ip (by omega)
            exact ⟨by omega, this.2⟩
        · by_cases z : j = (i : Int)
          · subst z; exact ⟨by omega, fun z => absurd z (by omega)⟩
          · exact al j j0 (by omega)
    · rintro σ H' ⟨b, g, v5, v6, rfl, rfl, b0, iz, ip, al⟩
      obtain ⟨p1, p2⟩ := ip (by omega)
      refine ⟨_, rfl, q b ⟨b0, by omega, fun j j0 j1 => ?_⟩⟩
      rw [← p2]
      exact al j j0 (by omega)
end
section
open PySem.Spec PyProof.Rows PySem.SeqAt
variable {X : Cx}
end
theorem cnt_mono {t u bells late : Int} (b0 : 0 ≤ bells) (l0 : 0 ≤ late) (h : t ≤ u) : cnt t bells late ≤ cnt u bells late := by
  unfold cnt
  split
  · split
    · exact Int.le_refl _
    · exact ch_nonneg _ _
  · rw [if_neg (by omega)]
    have : (t - bells) / (late + 1) ≤ (u - bells) / (late + 1) := Int.ediv_le_ediv (by omega) (by omega)
    exact ch_mono (by omega)
theorem short_unique {bells late many t u : Int} (b0 : 0 ≤ bells) (l0 : 0 ≤ late) (h1 : IsShort bells late many t) (h2 : IsShort bells late many u) : t = u := by
  obtain ⟨a0, a1, a2⟩ := h1
  obtain ⟨c0, c1, c2⟩ := h2
  rcases (by omega : t = u ∨ t < u ∨ u < t) with z | z | z
  · exact z
  · have := cnt_mono (t := t) (u := u - 1) b0 l0 (by omega)
    omega
  · have := cnt_mono (t := u) (u := t - 1) b0 l0 (by omega)
    omega
noncomputable def shT (b l m : Int) : Int := Classical.epsilon (IsShort b l m)
theorem shT_eq {b l m t : Int} (b0 : 0 ≤ b) (l0 : 0 ≤ l) (h : IsShort b l m t) : shT b l m = t := short_unique b0 l0 (Classical.epsilon_spec ⟨t, h⟩) h
noncomputable def shO (b l m : Int) : Option Int := if b = 0 ∧ 1 < m then none else some (shT b l m)
theorem shO_none {b l m : Int} (h1 : b = 0) (h2 : 1 < m) : shO b l m = none := by unfold shO; rw [if_pos ⟨h1, h2⟩]
theorem shO_some {b l m t : Int} (b0 : 0 ≤ b) (l0 : 0 ≤ l) (h : b = 0 → m ≤ 1) (ht : IsShort b l m t) : shO b l m = some t := by
  unfold shO
  rw [if_neg (fun z => by have := h z.1; omega), shT_eq b0 l0 ht]
abbrev Tr := Int × Int × Int
abbrev trV (x : Tr) : HO := .tup [V.int x.1, V.int x.2.1, V.int x.2.2]
noncomputable def stepB : Option Tr → Tr → Option Tr
  | none, x => some x
  | some y, x => if x.1 < y.1 then some x else some y
theorem stepB_some (y x : Tr) : stepB (some y) x = if x.1 < y.1 then some x else some y := rfl
noncomputable def bestL (l : List Tr) : Option Tr := l.foldl stepB none
theorem bestL_snoc (l : List Tr) (x : Tr) : bestL (l ++ [x]) = stepB (bestL l) x := by
  unfold bestL
  rw [List.foldl_append]
  rfl
noncomputable def oneS (tc bc l m : Int) (i : Nat) : List Tr := match shO (i : Int) l m with
  | none => []
  | some t => [(t * tc + (i : Int) * bc, t, (i : Int))]
noncomputable def listS (tc bc l m : Int) : Nat → List Tr
  | 0 => []
  | i + 1 => listS tc bc l m i ++ oneS tc bc l m i
theorem listS_none {tc bc l m : Int} {i : Nat} (h : shO (i : Int) l m = none) : listS tc bc l m (i + 1) = listS tc bc l m i := by
  show listS tc bc l m i ++ oneS tc bc l m i = _
  unfold oneS
  rw [h]
  exact List.append_nil _
theorem listS_some {tc bc l m t : Int} {i : Nat} (h : shO (i : Int) l m = some t) : listS tc bc l m (i + 1) = listS tc bc l m i ++ [(t * tc + (i : Int) * bc, t, (i : Int))] := by
  show listS tc bc l m i ++ oneS tc bc l m i = _
  unfold oneS
  rw [h]
inductive BestV (H : Hp) : V → Option Tr → Prop where
  | non : BestV H .non none
  | tup (p : Addr) (x : Tr) (h : H p = some (trV x)) : BestV H (.ref p) (some x)
theorem BestV.same {H H' : Hp} {v : V} {x : Option Tr} (s : Same H H') (h : BestV H v x) : BestV H' v x := by
  cases h with
  | non => exact .non
  | tup p x h => exact .tup p x (s _ _ h)
section
variable {P : Program} {w : World} {K : PySem.W.Frag} {mg : Str → Option Value} {base : Heap}
noncomputable def spCheap : Sp := fun vs H Q _ => ∃ many late tc bc most : Int, vs = [.int many, .int late, .int tc, .int bc, .int most] ∧ 0 ≤ most ∧ most ≤ 60 ∧ 0 ≤ late ∧ 0 ≤ many ∧ intBits late ≤ 8000 ∧ intBits many ≤ 40000 ∧ intBits tc ≤ 8000 ∧ intBits bc ≤ 8000 ∧
  ∀ (v : V) (H' : Hp), Same H H' → BestV H' v (bestL (listS tc bc late many (most + 1).toNat)) → Q v H'
theorem sc_cheapest : FnScope ["many", "late", "turn_cost", "bell_cost", "most", "best", "bells", "turns", "cost"] ["many", "late", "turn_cost", "bell_cost", "most"] (defScope st_cheapest) := ⟨rfl, rfl, rfl, by decide +kernel, rfl, by decide +kernel, by decide +kernel⟩
theorem ok_cheapest (D : Def K mg "cheapest" st_cheapest ["many", "late", "turn_cost", "bell_cost", "most"]) (T : Txt K mg) (G_shortest_frame : Fn P w K mg base 39 "shortest_frame" ["bells", "late", "many"] spShort) : Fn P w K mg base 40 "cheapest" ["many", "late", "turn_cost", "bell_cost", "most"] spCheap := by
  refine D.fn sc_cheapest (fun vs H Q E h => ?_) (fun f cdv A outer s H vs Q E hr h => ?_)
  · obtain ⟨a, b, c, d, e, rfl, _⟩ := h
    rfl
  · obtain ⟨many, late, tc, bc, most, rfl, o0, o60, l0, m0, lb, mb, tb, bb, q⟩ := h
    refine ⟨_, (pss_cons (ps_set (i := 5) sc_cheapest.nd rfl (Or.inl rfl) pe_non)
      (pss_cons (ps_for PassesOwn.never rfl (pi_range1 (by rfl) T.z_range (pa_cons (pe_op op_addI (pv 4) pe_int) pa_nil)) (pg_name (i := 6) sc_cheapest.nd rfl (Or.inl rfl))
        (pss_cons (ps_set (i := 7) sc_cheapest.nd rfl (Or.inl rfl) (pe_fn G_shortest_frame (hr.mono (by decide)) (by rfl) (pa_cons (pv 6) (pa_cons (pv 1) (pa_cons (pv 0) pa_nil)))))
        (pss_one (ps_if (pt_cmpR op_notN (pv 7) pe_non (nomark _))
          (pss_cons (ps_set (i := 8) sc_cheapest.nd rfl (Or.inl rfl) (pe_op op_addI (pe_op op_mulB (pv 7) (pv 2)) (pe_op op_mulB (pv 6) (pv 3))))
          (pss_one (ps_if (pw_or (pt_cmpR op_isN (pv 5) pe_non (nomark _)) (pw_or1 (pt_cmpR op_ltI (pv 8) (pe_ix ix_tup (pv 5) pe_int (fun _ _ => rfl)) (nomark _)))).pt
            (pss_one (ps_set (i := 5) sc_cheapest.nd rfl (Or.inl rfl) (pe_tup (pa_cons (pv 8) (pa_cons (pv 7) (pa_cons (pv 6) pa_nil))))))
            pss_nil)))
          pss_nil))))
      (pss_one (ps_ret (pv 5))))), ?_⟩
    refine ⟨_, rfl, _, _, rfl, rfl, _, rfl, by omega, by omega, for_range (n := (most + 1).toNat) (fun i σ H2 => ∃ (bv : V) (v6 v7 v8 : Option V), σ = [some (.int many), some (.int late), some (.int tc), some (.int bc), some (.int most), some bv, v6, v7, v8] ∧ Same H H2 ∧ BestV H2 bv (bestL (listS tc bc late many i))) ⟨.non, none, none, none, rfl, Same.refl _, .non⟩ ?_ ?_⟩
    · rintro i σ H2 hi ⟨bv, v6, v7, v8, rfl, sm, B⟩
      rw [show (0 : Int) + (i : Int) = (i : Int) by omega]
      refine ⟨_, rfl, _, rfl, _, rfl, (i : Int), late, many, rfl, by omega, by omega, l0, m0, lb, mb, fun z1 z2 => ?n1, fun hz t ht tbb => ?s1⟩
      case n1 =>
        refine ⟨_, rfl, rfl, _, rfl, ifND (fun z => absurd rfl z) (fun _ => ?_)⟩
        exact ⟨bv, _, _, _, rfl, sm, by rw [listS_none (shO_none z1 z2)]; exact B⟩
      case s1 =>
        have eS := listS_some (tc := tc) (bc := bc) (shO_some (by omega) l0 hz ht)
        refine ⟨_, rfl, rfl, _, rfl, ifND (fun _ => ?_) (fun z => nomatch z)⟩
        refine ⟨_, rfl, _, rfl, _, _, rfl, rfl, ⟨69000, 8000, tbb, tb, by decide⟩, _, rfl, _, rfl, _, _, rfl, rfl, ⟨64, 8000, bits_of (by omega) (by omega), bb, by decide⟩, _, _, rfl, rfl, ?_⟩
        generalize hB : bestL (listS tc bc late many i) = ob at B
        cases B with
        | non =>
          refine ⟨_, rfl, rfl, _, rfl, ifT rfl ?_⟩
          refine ⟨_, rfl, _, rfl, _, rfl, (by show 3 ≤ sizeLine; decide), fun p hp => ?_⟩
          refine ⟨.ref p, _, _, _, rfl, sm.put hp, ?_⟩
          rw [eS, bestL_snoc, hB]
          exact .tup p _ upd_same
        | tup b x hb =>
          refine ⟨_, rfl, rfl, _, rfl, ifF (fun z => nomatch z) ⟨_, rfl, _, rfl, _, _, _, _, rfl, rfl, SqT.of hb, rfl, _, _, rfl, rfl, _, rfl, ifD (fun lt => ?_) (fun nlt => ?_)⟩⟩
          · refine ⟨_, rfl, _, rfl, _, rfl, (by show 3 ≤ sizeLine; decide), fun p hp => ?_⟩
            refine ⟨.ref p, _, _, _, rfl, sm.put hp, ?_⟩
            rw [eS, bestL_snoc, hB]
            rw [stepB_some]
            dsimp only
            rw [if_pos lt]
            exact .tup p _ upd_same
          · refine ⟨.ref b, _, _, _, rfl, sm, ?_⟩
            rw [eS, bestL_snoc, hB]
            rw [stepB_some]
            dsimp only
            rw [if_neg nlt]
            exact .tup b _ hb
    · rintro σ H2 ⟨bv, v6, v7, v8, rfl, sm, B⟩
      exact ⟨_, rfl, q bv H2 sm B⟩
end
theorem cut1 {c : TT} {tA tB R : TS} {D : Ends} {σ : St} {H : Hp} (Pre : St → Hp → Prop) (tail : ∀ σ H, Pre σ H → R D σ H) (h : ∀ N : St → Hp → Prop, (∀ σ H, Pre σ H → N σ H) → tIfS c tA tB { D with nx := N } σ H) : tSeq (tIfS c tA tB) R D σ H := h (fun σ H => R D σ H) tail
theorem comp_textP {x : Str} {acc : Addr} {own : Nat} {ix : List Nat} {g : TG} {te : TE} {σ : St} {H1 : Hp} {Q : VK} (f : Nat → V) (hn : H1 acc = none) (hz : x.length ≤ sizeLine)
    (step : ∀ (i c : Nat) (H : Hp) (R : VK), x.cps[i]? = some c → Same H1 H → R (f c) H → g (.str ⟨#[c]⟩) (blockSt own ix σ) H fun σ4 H4 => σ4.drop own = ix.map (fun i => (σ[i]?).getD none) ∧ te σ4 H4 R)
    (hd : Q (.ref acc) (upd H1 acc (.lst ((cpl x).map f)))) : CompGo (Its x) own ix g tNoTest te σ H1 acc Q := by
  have sz : x.cps.size = (cpl x).length := by simp [cpl]
  refine ⟨fun i m ys H => m = x.cps.size - i ∧ i ≤ x.cps.size ∧ ys = ((cpl x).take i).map f ∧ H = upd H1 acc (.lst ys), ⟨x.cps.size, by simp, Nat.zero_le _, rfl, rfl⟩, ?_⟩
  rintro i m ys H ⟨rfl, hi, rfl, rfl⟩
  refine ⟨upd_same, ?_⟩
  by_cases hlt : i < x.cps.size
  · refine .inr ⟨hlt, ?_, fun v H3 y => ?_⟩
    · rw [List.length_map, List.length_take]
      have : x.length = x.cps.size := rfl
      omega
    obtain ⟨e, c, hc, e2⟩ := y
    subst e e2
    refine step i c _ _ hc (Same.new hn) ⟨upd_same, x.cps.size - (i + 1), by omega, rfl, hlt, ?_, by rw [upd_upd]⟩
    have hc' : (cpl x)[i]? = some c := by rw [← hc]; simp [cpl]
    rw [List.take_add_one, hc', List.map_append]
    rfl
  · have e : i = x.cps.size := by omega
    subst e
    rw [sz, List.take_length]
    exact .inl ⟨Nat.le_refl _, hd⟩
noncomputable def MadeOf (x s : Str) (most : Int) : Prop := 1 ≤ x.length ∧ (x.length : Int) ≤ most ∧ ∀ c ∈ cpl x, c ∈ cpl s
structure GoodName (x : Str) : Prop where
  ne : 1 ≤ x.length
  le : x.length ≤ 8
  let_ : ∀ c ∈ cpl x, 97 ≤ c ∧ c ≤ 122
theorem fig_iff : ∀ c : Nat, c ∈ cpl "0123456789" ↔ 48 ≤ c ∧ c ≤ 57 := fun c => by
  have e : cpl "0123456789" = (List.range 10).map (· + 48) := by decide +kernel
  rw [e, List.mem_map]
  constructor
  · rintro ⟨i, hi, rfl⟩
    have := List.mem_range.mp hi
    omega
  · intro h
    exact ⟨c - 48, List.mem_range.mpr (by omega), by omega⟩
theorem s0_eq : cpl "0" = [48] := by decide +kernel
theorem num_made {x : Str} {most : Nat} : Num most x ↔ MadeOf x "0123456789" (most : Int) ∧ ¬ ((cpl x)[0]? = some 48 ∧ x ≠ "0") := by
  constructor
  · intro h
    refine ⟨⟨h.ne, by have := h.le; omega, fun c hc => (fig_iff c).mpr (h.dig c hc)⟩, fun z => z.2 (cpl_inj ?_)⟩
    rw [h.led z.1, s0_eq]
  · rintro ⟨⟨h1, h2, h3⟩, h4⟩
    refine ⟨h1, by omega, fun c hc => (fig_iff c).mp (h3 c hc), fun z => ?_⟩
    have : x = "0" := Classical.byContradiction fun n => h4 ⟨z, n⟩
    rw [this, s0_eq]
section
variable {P : Program} {w : World} {K : PySem.W.Frag} {mg : Str → Option Value} {base : Heap}
noncomputable def spMade : Sp := fun vs H Q _ => ∃ (x s : Str) (most : Int), vs = [.str x, .str s, .int most] ∧ x.length ≤ 1000000 ∧ ∀ (b : Bool) (H' : Hp), Same H H' → (b = true ↔ MadeOf x s most) → Q (.bl b) H'
theorem sc_is_made_of : FnScope ["word", "signs", "most"] ["word", "signs", "most"] (defScope st_is_made_of) := ⟨rfl, rfl, rfl, by decide +kernel, rfl, by decide +kernel, by decide +kernel⟩
theorem ok_made (D : Def K mg "is_made_of" st_is_made_of ["word", "signs", "most"]) (T : Txt K mg) : Fn P w K mg base 1 "is_made_of" ["word", "signs", "most"] spMade := by
  refine D.fn sc_is_made_of (fun vs H Q E h => ?_) (fun f cdv A outer s H vs Q E hr h => ?_)
  · obtain ⟨x, sg, most, rfl, _⟩ := h
    rfl
  · obtain ⟨x, sg, most, rfl, xl, q⟩ := h
    have xs : x.length ≤ sizeLine := by rw [sizeLine_eq]; omega
    refine ⟨_, (pss_one (ps_ret (pe_and (pe_chain op_leI op_leI pe_int (pe_callB call_len_str (by rfl) T.z_len b_len (pa_cons (pv 0) pa_nil)) (pv 2)) (pe_one (pe_callB (call_all rfl) (by rfl) T.z_all b_all (pa_cons (pe_comp (own := ["sign"]) (fr := ["signs"]) (ix := [1]) rfl ⟨rfl, rfl, rfl, rfl, rfl, rfl⟩ (pi_text (pv 0)) (fun _ _ _ _ _ => (pg_name (i := 0) (show (["sign", "signs"] : List Str).Nodup by decide +kernel) rfl (Or.inl rfl))) (fun _ _ _ _ _ => pts_nil) (fun _ _ _ _ _ => (pe_cmpR op_in_str (pv 0) (pv 1) (by with_unfolding_all rfl)))) pa_nil)))))), ?_⟩
    refine ⟨_, rfl, x, rfl, xs, _, _, rfl, rfl, _, rfl, ifD (fun h1 => ⟨_, rfl, _, _, rfl, rfl, _, rfl, ifD (fun h2 => ?_) (fun h2 => q false H (Same.refl _) ⟨(fun z => nomatch z), fun z => absurd z.2.1 h2⟩)⟩) (fun h1 => ⟨_, rfl, iteF (q false H (Same.refl _) ⟨(fun z => nomatch z), fun z => absurd (show (1 : Int) ≤ (x.length : Int) by have := z.1; omega) h1⟩)⟩)⟩
    refine ⟨_, rfl, x, rfl, fun acc hacc => comp_textP (fun c => V.bl (decide (c ∈ cpl sg))) hacc xs (fun i c H6 R hc s6 hR => ?_) ?_⟩
    · refine ⟨rfl, _, rfl, _, rfl, _, _, rfl, rfl, ?_⟩
      rw [StrLaws.found_one]
      exact hR
    · refine ⟨acc, (cpl x).map (fun c => decide (c ∈ cpl sg)), rfl, SqL.of (by rw [upd_same, List.map_map]; rfl), q _ _ (Same.new hacc) ?_⟩
      rw [List.all_eq_true]
      constructor
      · intro z
        exact ⟨by omega, h2, fun c hc => of_decide_eq_true (z _ (List.mem_map.mpr ⟨c, hc, rfl⟩))⟩
      · rintro ⟨_, _, z⟩ b hb
        obtain ⟨c, hc, rfl⟩ := List.mem_map.mp hb
        exact decide_eq_true (z c hc)
noncomputable def spFigE (C : Addr) : Sp := fun vs H Q E => ∃ (x : Str) (most : Nat), vs = [.str x, .int (most : Int)] ∧ x.length ≤ 1000000 ∧ most ≤ 4300 ∧ (Num most x → ∀ H', Same H H' → Q (.int (numV x)) H') ∧ (¬ Num most x → ∀ H', Same H H' → E (.ref C) none H')
theorem sc_figures_in : FnScope ["word", "most"] ["word", "most"] (defScope st_figures_in) := ⟨rfl, rfl, rfl, by decide +kernel, rfl, by decide +kernel, by decide +kernel⟩
theorem ok_figures_in (ND : NoDig K) (D : Def K mg "figures_in" st_figures_in ["word", "most"]) (T : Txt K mg) {C_NoOrder : Addr} (m_NoOrder : mg "NoOrder" = some (.ref C_NoOrder)) (x_NoOrder : PySem.W.excIn K C_NoOrder bmV "ValueError.__new__" = true) {t_FIGURES : Tok} (m_FIGURES : mg "FIGURES" = some (.str "0123456789" t_FIGURES)) (G_is_made_of : Fn P w K mg base 1 "is_made_of" ["word", "signs", "most"] spMade) : FnE P w K mg base 2 "figures_in" ["word", "most"] (spFigE C_NoOrder) := by
  refine D.fnE sc_figures_in (fun vs H Q E h => ?_) (fun f cdv A outer s H vs Q E hr h => ?_)
  · obtain ⟨x, most, rfl, _⟩ := h
    rfl
  · obtain ⟨x, most, rfl, xl, ml, q1, q2⟩ := h
    have xs : x.length ≤ sizeLine := by rw [sizeLine_eq]; omega
    refine ⟨_, (pss_cons (ps_if (pw_or (pt_not (pt_val (pe_fn G_is_made_of (hr.mono (by decide)) (by rfl) (pa_cons (pv 0) (pa_cons (pe_glob (v := .str "0123456789") (by rfl) m_FIGURES ⟨_, rfl⟩) (pa_cons (pv 1) pa_nil)))))) (pw_or1 (pw_and (pt_cmpR op_eq (pe_ix ix_str (pv 0) pe_int (fun _ _ => rfl)) pe_str (nomark _)) (pw_and1 (pt_cmpR op_ne (pv 0) pe_str (nomark _)))).pt)).pt
        (pss_one (ps_raise PySem.F.excBase_ValueError x_NoOrder (by rfl) m_NoOrder (pa_cons pe_str pa_nil)))
        pss_nil)
      (pss_one (ps_ret (pe_callTy (call_intTB ND) (by rfl) T.z_int b_int (pa_cons (pv 0) pa_nil))))), ?_⟩
    refine ⟨_, rfl, _, rfl, x, _, _, rfl, xl, fun b H1 s1 hb => ?_⟩
    cases b
    · exact ⟨_, rfl, iteT (iteT ⟨(by decide), q2 (fun z => by cases hb.mpr (num_made.mp z).1) H1 s1⟩)⟩
    · have hm := hb.mp rfl
      refine ⟨_, rfl, iteF ?_⟩
      obtain ⟨c, r, hx⟩ : ∃ c r, cpl x = c :: r := by
        cases e : cpl x with
        | nil =>
          have := hm.1
          rw [← cpl_len, e] at this
          exact absurd this (by decide)
        | cons c r => exact ⟨c, r, rfl⟩
      have e0 : (cpl x)[0]? = some c := by rw [hx]; rfl
      have ha : atI x.cps.toList 0 = some c := by
        show atI (cpl x) 0 = some c
        rw [hx]
        exact (show atI (c :: r) ((0 : Nat) : Int) = some c from atI_nat rfl)
      refine ⟨_, rfl, x, 0, c, rfl, rfl, xs, ha, rfl, _, rfl, ifD (fun z => ?_) (fun z => ?_)⟩
      · have z : (⟨#[c]⟩ : Str) = "0" := V.str.inj z
        have ec : c = 48 := by
          have := congrArg cpl z
          rw [s0_eq] at this
          simpa [cpl] using this
        subst ec
        refine ⟨_, rfl, rfl, _, rfl, ifND (fun n => ⟨(by decide), q2 (fun y => (num_made.mp y).2 ⟨e0, fun k => n (by rw [k])⟩) H1 s1⟩) (fun n => ?_)⟩
        have n : x = "0" := V.str.inj n
        have y : Num most x := num_made.mpr ⟨hm, fun k => k.2 n⟩
        exact ⟨_, rfl, x, numV x, rfl, num_reads y ml, xs, q1 y H1 s1⟩
      · have y : Num most x := num_made.mpr ⟨hm, fun k => z (by rw [e0] at k; cases k.1; rfl)⟩
        exact iteF ⟨_, rfl, x, numV x, rfl, num_reads y ml, xs, q1 y H1 s1⟩
noncomputable def spNumE (C : Addr) (most : Nat) : Sp := fun vs H Q E => ∃ x : Str, vs = [.str x] ∧ x.length ≤ 1000000 ∧ (Num most x → ∀ H', Same H H' → Q (.int (numV x)) H') ∧ (¬ Num most x → ∀ H', Same H H' → E (.ref C) none H')
theorem sc_number_in : FnScope ["word"] ["word"] (defScope st_number_in) := ⟨rfl, rfl, rfl, by decide +kernel, rfl, by decide +kernel, by decide +kernel⟩
theorem ok_number_in (D : Def K mg "number_in" st_number_in ["word"]) (T : Txt K mg) {C_NoOrder : Addr} {t_MOST_FIGURES : Tok} (m_MOST_FIGURES : mg "MOST_FIGURES" = some (.int 60 t_MOST_FIGURES)) (GE_figures_in : FnE P w K mg base 2 "figures_in" ["word", "most"] (spFigE C_NoOrder)) : FnE P w K mg base 3 "number_in" ["word"] (spNumE C_NoOrder 60) := by
  refine D.fnE sc_number_in (fun vs H Q E h => ?_) (fun f cdv A outer s H vs Q E hr h => ?_)
  · obtain ⟨x, rfl, _⟩ := h
    rfl
  · obtain ⟨x, rfl, xl, q1, q2⟩ := h
    exact ⟨_, (pss_one (ps_ret (pe_fnG GE_figures_in (hr.mono (by decide)) (by rfl) passesE (pa_cons (pv 0) (pa_cons (pe_glob (v := .int 60) (by rfl) m_MOST_FIGURES ⟨_, rfl⟩) pa_nil))))), _, rfl, x, 60, rfl, xl, by decide, q1, q2⟩
theorem sc_message_in : FnScope ["word"] ["word"] (defScope st_message_in) := ⟨rfl, rfl, rfl, by decide +kernel, rfl, by decide +kernel, by decide +kernel⟩
theorem ok_message_in (D : Def K mg "message_in" st_message_in ["word"]) (T : Txt K mg) {C_NoOrder : Addr} {t_MOST_FIGURES_OF_MESSAGE : Tok} (m_MOST_FIGURES_OF_MESSAGE : mg "MOST_FIGURES_OF_MESSAGE" = some (.int 3000 t_MOST_FIGURES_OF_MESSAGE)) (GE_figures_in : FnE P w K mg base 2 "figures_in" ["word", "most"] (spFigE C_NoOrder)) : FnE P w K mg base 3 "message_in" ["word"] (spNumE C_NoOrder 3000) := by
  refine D.fnE sc_message_in (fun vs H Q E h => ?_) (fun f cdv A outer s H vs Q E hr h => ?_)
  · obtain ⟨x, rfl, _⟩ := h
    rfl
  · obtain ⟨x, rfl, xl, q1, q2⟩ := h
    exact ⟨_, (pss_one (ps_ret (pe_fnG GE_figures_in (hr.mono (by decide)) (by rfl) passesE (pa_cons (pv 0) (pa_cons (pe_glob (v := .int 3000) (by rfl) m_MOST_FIGURES_OF_MESSAGE ⟨_, rfl⟩) pa_nil))))), _, rfl, x, 3000, rfl, xl, by decide, q1, q2⟩
noncomputable def GoodBells (x : Str) : Prop := Num 60 x ∧ numV x ≤ 60
noncomputable def spBellsE (C : Addr) : Sp := fun vs H Q E => ∃ x : Str, vs = [.str x] ∧ x.length ≤ 1000000 ∧ (GoodBells x → ∀ H', Same H H' → Q (.int (numV x)) H') ∧ (¬ GoodBells x → ∀ H', Same H H' → E (.ref C) none H')
theorem sc_bells_in : FnScope ["word", "bells"] ["word"] (defScope st_bells_in) := ⟨rfl, rfl, rfl, by decide +kernel, rfl, by decide +kernel, by decide +kernel⟩
theorem ok_bells_in (D : Def K mg "bells_in" st_bells_in ["word"]) (T : Txt K mg) {C_NoOrder : Addr} (m_NoOrder : mg "NoOrder" = some (.ref C_NoOrder)) (x_NoOrder : PySem.W.excIn K C_NoOrder bmV "ValueError.__new__" = true) {t_MOST_BELLS : Tok} (m_MOST_BELLS : mg "MOST_BELLS" = some (.int 60 t_MOST_BELLS)) (GE_number_in : FnE P w K mg base 3 "number_in" ["word"] (spNumE C_NoOrder 60)) : FnE P w K mg base 4 "bells_in" ["word"] (spBellsE C_NoOrder) := by
  refine D.fnE sc_bells_in (fun vs H Q E h => ?_) (fun f cdv A outer s H vs Q E hr h => ?_)
  · obtain ⟨x, rfl, _⟩ := h
    rfl
  · obtain ⟨x, rfl, xl, q1, q2⟩ := h
    refine ⟨_, (pss_cons (ps_set (i := 1) sc_bells_in.nd rfl (Or.inl rfl) (pe_fnG GE_number_in (hr.mono (by decide)) (by rfl) passesE (pa_cons (pv 0) pa_nil)))
      (pss_cons (ps_if (pt_cmpR op_gtI (pv 1) (pe_glob (v := .int 60) (by rfl) m_MOST_BELLS ⟨_, rfl⟩) (nomark _))
        (pss_one (ps_raise PySem.F.excBase_ValueError x_NoOrder (by rfl) m_NoOrder (pa_cons pe_str pa_nil)))
        pss_nil)
      (pss_one (ps_ret (pv 1))))), ?_⟩
    refine ⟨_, rfl, x, rfl, xl, fun n H1 s1 => ?_, fun n H1 s1 => q2 (fun z => n z.1) H1 s1⟩
    exact ⟨_, rfl, _, _, rfl, rfl, _, rfl, ifD (fun z => ⟨(by decide), q2 (fun y => by have := y.2; omega) H1 s1⟩) (fun z => ⟨_, rfl, q1 ⟨n, by omega⟩ H1 s1⟩)⟩
theorem p4300 : (10 : Int) ^ 4000 ≤ 10 ^ 4300 := by decide +kernel
theorem lgB {n : Int} (h0 : 0 ≤ n) (h1 : n < 10 ^ 4000) : n.natAbs < 10 ^ 4300 := by
  have h2 := Int.lt_of_lt_of_le h1 p4300
  have e : ((10 ^ 4300 : Nat) : Int) = (10 : Int) ^ 4300 := by rw [Int.natCast_pow]; rfl
  rw [← e] at h2
  generalize (10 ^ 4300 : Nat) = M at h2 ⊢
  omega
noncomputable def spNumTold : Sp := fun vs H Q _ => ∃ v : V, vs = [v] ∧ ((v = .non ∧ Q (.str "none") H) ∨ ∃ n : Int, v = .int n ∧ 0 ≤ n ∧ n < 10 ^ 4000 ∧ Q (.str (txt n)) H)
theorem sc_number_told : FnScope ["number"] ["number"] (defScope st_number_told) := ⟨rfl, rfl, rfl, by decide +kernel, rfl, by decide +kernel, by decide +kernel⟩
theorem ok_number_told (ND : NoDig K) (D : Def K mg "number_told" st_number_told ["number"]) (T : Txt K mg) : Fn P w K mg base 1 "number_told" ["number"] spNumTold := by
  refine D.fn sc_number_told (fun vs H Q E h => ?_) (fun f cdv A outer s H vs Q E hr h => ?_)
  · obtain ⟨v, rfl, _⟩ := h
    rfl
  · obtain ⟨v, rfl, h⟩ := h
    refine ⟨_, (pss_one (ps_ret (pe_ifExp (pt_cmpR op_isN (pv 0) pe_non (nomark _)) pe_str (pe_callTy (call_strB ND) (by rfl) T.z_str b_str (pa_cons (pv 0) pa_nil))))), ?_⟩
    rcases h with ⟨rfl, q⟩ | ⟨n, rfl, h0, h1, q⟩
    · exact ⟨_, rfl, rfl, _, rfl, iteT q⟩
    · exact ⟨_, rfl, rfl, _, rfl, iteF ⟨_, rfl, n, rfl, lgB h0 h1, q⟩⟩
end
theorem C_more (m : Nat) : ∀ n : Nat, m < C (m + (n + 1)) (n + 1)
  | 0 => by rw [C_one]; omega
  | n + 1 => by
    have := C_more m n
    rw [show m + (n + 1 + 1) = (m + (n + 1)) + 1 by omega, C_succ]
    omega
theorem ch_more {m : Int} {n : Nat} (h0 : 0 ≤ m) (hz : (n : Int) = 0 → m = 0) : m < ch (m + (n : Int)) (n : Int) := by
  cases n with
  | zero =>
    have := hz rfl
    subst this
    rw [show ((0 : Nat) : Int) = 0 from rfl, ch_zero]
    decide
  | succ n =>
    obtain ⟨r, rfl⟩ : ∃ r : Nat, m = (r : Int) := ⟨m.toNat, by omega⟩
    rw [← Int.natCast_add, ch_nat]
    have := C_more r n
    omega
theorem short_least {b l m : Int} : ∀ n : Nat, m ≤ cnt (n : Int) b l → ∃ t : Int, IsShort b l m t ∧ t ≤ (n : Int)
  | 0, h => ⟨0, ⟨Int.le_refl _, h, .inl rfl⟩, Int.le_refl _⟩
  | n + 1, h => by
    by_cases z : m ≤ cnt (n : Int) b l
    · obtain ⟨t, ht, hn⟩ := short_least n z
      exact ⟨t, ht, by omega⟩
    · refine ⟨((n + 1 : Nat) : Int), ⟨by omega, h, .inr ?_⟩, Int.le_refl _⟩
      rw [show ((n + 1 : Nat) : Int) - 1 = (n : Int) by omega]
      omega
theorem short_ex {b l m : Int} (b0 : 0 ≤ b) (l0 : 0 ≤ l) (m0 : 0 ≤ m) (h : b = 0 → m ≤ 1) : ∃ t : Int, IsShort b l m t ∧ t ≤ m * (l + 1) + b := by
  have mn : 0 ≤ m * (l + 1) := Int.mul_nonneg m0 (by omega)
  have e : (((m * (l + 1) + b).toNat : Nat) : Int) = m * (l + 1) + b := by omega
  have hc : m ≤ cnt (m * (l + 1) + b) b l := by
    unfold cnt
    rw [if_neg (by omega), show m * (l + 1) + b - b = m * (l + 1) by omega, Int.mul_ediv_cancel m (show l + 1 ≠ 0 by omega)]
    by_cases z : b = 0
    · subst z
      rw [ch_zero]
      exact h rfl
    · have := ch_more (n := b.toNat) m0 (fun y => absurd y (by omega))
      rw [show ((b.toNat : Nat) : Int) = b by omega] at this
      omega
  have := short_least (b := b) (l := l) (m := m) (m * (l + 1) + b).toNat (by rw [e]; exact hc)
  rw [e] at this
  exact this
theorem short_le {b l m t : Int} (b0 : 0 ≤ b) (l0 : 0 ≤ l) (m0 : 0 ≤ m) (h : b = 0 → m ≤ 1) (ht : IsShort b l m t) : 0 ≤ t ∧ t ≤ m * (l + 1) + b := by
  obtain ⟨u, hu, hl⟩ := short_ex b0 l0 m0 h
  rw [short_unique b0 l0 ht hu]
  exact ⟨hu.1, hl⟩
theorem best_unique {t l o a b : Int} (h1 : IsBest t l o a) (h2 : IsBest t l o b) : a = b := by
  obtain ⟨a0, a1, a2⟩ := h1
  obtain ⟨c0, c1, c2⟩ := h2
  rcases (by omega : a = b ∨ a < b ∨ b < a) with z | z | z
  · exact z
  · have := (c2 a a0 a1).2 z
    have := (a2 b c0 c1).1
    omega
  · have := (a2 b c0 c1).2 z
    have := (c2 a a0 a1).1
    omega
theorem stepB_mem {o : Option Tr} {x y : Tr} (h : stepB o x = some y) : y = x ∨ o = some y := by
  cases o with
  | none => cases h; exact .inl rfl
  | some z =>
    rw [stepB_some] at h
    split at h
    · cases h; exact .inl rfl
    · exact .inr h
theorem fold_mem : ∀ (l : List Tr) (o : Option Tr) (y : Tr), l.foldl stepB o = some y → y ∈ l ∨ o = some y
  | [], _, _, h => .inr h
  | x :: r, o, y, h => by
    rcases fold_mem r (stepB o x) y h with z | z
    · exact .inl (List.mem_cons_of_mem _ z)
    · rcases stepB_mem z with w | w
      · exact .inl (by rw [w]; exact List.mem_cons_self ..)
      · exact .inr w
theorem bestL_mem {l : List Tr} {y : Tr} (h : bestL l = some y) : y ∈ l := (fold_mem l none y h).resolve_right (fun z => nomatch z)
theorem listS_mem {tc bc l m : Int} (l0 : 0 ≤ l) (m0 : 0 ≤ m) : ∀ (i : Nat) (x : Tr), x ∈ listS tc bc l m i → 0 ≤ x.2.2 ∧ x.2.2 < (i : Int) ∧ 0 ≤ x.2.1 ∧ x.2.1 ≤ m * (l + 1) + x.2.2 ∧ x.1 = x.2.1 * tc + x.2.2 * bc
  | 0, x, h => nomatch h
  | i + 1, x, h => by
    cases e : shO (i : Int) l m with
    | none =>
      rw [listS_none e] at h
      have := listS_mem l0 m0 i x h
      omega
    | some t =>
      rw [listS_some e] at h
      rcases List.mem_append.mp h with z | z
      · have := listS_mem l0 m0 i x z
        omega
      · rw [List.mem_singleton.mp z]
        have hz : (i : Int) = 0 → m ≤ 1 := fun y => by
          apply Classical.byContradiction
          intro n
          rw [shO_none y (by omega)] at e
          cases e
        obtain ⟨u, hu, hl⟩ := short_ex (b := (i : Int)) (by omega) l0 m0 hz
        rw [shO_some (by omega) l0 hz hu] at e
        cases e
        exact ⟨by show 0 ≤ (i : Int); omega, by show (i : Int) < ((i + 1 : Nat) : Int); omega, hu.1, hl, rfl⟩
section
variable {P : Program} {w : World} {K : PySem.W.Frag} {mg : Str → Option Value} {base : Heap}
noncomputable def cheapTxt : Option Tr → Str
  | none => "none"
  | some x => txt x.1 ++ " for " ++ txt x.2.1 ++ " turns and " ++ txt x.2.2 ++ " bells"
structure N60 (n : Int) : Prop where
  lo : 0 ≤ n
  hi : n < 10 ^ 60
theorem N60.num {n : Int} (h : N60 n) : Num 60 (txt n) := num_txt (by decide) h.lo h.hi
theorem N60.val {n : Int} (h : N60 n) : numV (txt n) = n := numV_txt h.lo
theorem N60.len {n : Int} (h : N60 n) : (txt n).length ≤ 1000000 := Nat.le_trans h.num.le (by decide)
theorem p60B : (10 : Int) ^ 60 ≤ 2 ^ 200 := by decide +kernel
theorem p3000B : (10 : Int) ^ 3000 ≤ 2 ^ 10000 := by decide +kernel
theorem N60.bits {n : Int} (h : N60 n) : intBits n ≤ 200 := bits_of h.lo (Int.lt_of_lt_of_le h.hi p60B)
noncomputable def spChoice (CHP : Sp) : Sp := fun vs H Q E => ∃ (a : Addr) (ws : List Str), vs = [.ref a] ∧ H a = some (.lst (ws.map V.str)) ∧
  ((∃ b l m : Int, ws = [("short" : Str), txt b, txt l, txt m] ∧ 0 ≤ b ∧ b ≤ 60 ∧ N60 l ∧ 0 ≤ m ∧ m < 10 ^ 3000 ∧ (b = 0 → 1 < m → ∀ H', Same H H' → Q (.str "none") H') ∧ ((b = 0 → m ≤ 1) → ∀ t H', Same H H' → IsShort b l m t → Q (.str (txt t)) H')) ∨
   (∃ t l b : Int, ws = [("best" : Str), txt t, txt l, txt b] ∧ N60 t ∧ N60 l ∧ 0 ≤ b ∧ b ≤ 60 ∧ ∀ x H', Same H H' → IsBest t l b x → Q (.str (txt x)) H') ∨
   (∃ w1 w2 w3 w4 w5 : Str, ws = [("cheap" : Str), w1, w2, w3, w4, w5] ∧ CHP [.ref a] H Q (fun C _ H2 => E C none H2)))
theorem big_short {b l m t : Int} (b0 : 0 ≤ b) (b60 : b ≤ 60) (hl : N60 l) (m0 : 0 ≤ m) (m1 : m < 10 ^ 3000) (h : b = 0 → m ≤ 1) (ht : IsShort b l m t) : 0 ≤ t ∧ t < 10 ^ 4000 := by
  obtain ⟨h1, h2⟩ := short_le b0 hl.lo m0 h ht
  refine ⟨h1, ?_⟩
  have hl2 := hl.hi
  have hl0 := hl.lo
  have h3 : m * (l + 1) ≤ 10 ^ 3000 * 10 ^ 60 := Int.mul_le_mul (Int.le_of_lt m1) (by omega) (by omega) (by decide +kernel)
  have h4 : (10 : Int) ^ 3000 * 10 ^ 60 + 61 ≤ 10 ^ 4000 := by decide +kernel
  generalize (10 : Int) ^ 3000 * 10 ^ 60 = A at h3 h4
  generalize (10 : Int) ^ 4000 = B at h4 ⊢
  omega
theorem sc_choice_told : FnScope ["words"] ["words"] (defScope st_choice_told) := ⟨rfl, rfl, rfl, by decide +kernel, rfl, by decide +kernel, by decide +kernel⟩
theorem ok_choice (ND : NoDig K) (D : Def K mg "choice_told" st_choice_told ["words"]) (T : Txt K mg) {C_NoOrder : Addr} (m_NoOrder : mg "NoOrder" = some (.ref C_NoOrder)) (x_NoOrder : PySem.W.excIn K C_NoOrder bmV "ValueError.__new__" = true) (GE_number_in : FnE P w K mg base 3 "number_in" ["word"] (spNumE C_NoOrder 60)) (GE_message_in : FnE P w K mg base 3 "message_in" ["word"] (spNumE C_NoOrder 3000)) (GE_bells_in : FnE P w K mg base 4 "bells_in" ["word"] (spBellsE C_NoOrder)) (G_number_told : Fn P w K mg base 1 "number_told" ["number"] spNumTold) (G_shortest_frame : Fn P w K mg base 39 "shortest_frame" ["bells", "late", "many"] spShort) (G_best_bells : Fn P w K mg base 3 "best_bells" ["turns", "late", "most"] spBest) {CHP : Sp} (GE_cheapest_told : FnE P w K mg base 42 "cheapest_told" ["words"] CHP) : FnE P w K mg base 45 "choice_told" ["words"] (spChoice CHP) := by
  refine D.fnE sc_choice_told (fun vs H Q E h => ?_) (fun f cdv A outer s H vs Q E hr h => ?_)
  · obtain ⟨a, ws, rfl, _⟩ := h
    rfl
  · obtain ⟨a, ws, rfl, hA, h⟩ := h
    refine ⟨_, (pss_cons (ps_if (pw_and (pt_cmpR op_eq (pe_ix ix_list (pv 0) pe_int (fun _ _ => rfl)) pe_str (nomark _)) (pw_and1 (pt_cmpR op_eqI (pe_callB call_len_seq (by rfl) T.z_len b_len (pa_cons (pv 0) pa_nil)) pe_int (nomark _)))).pt
        (pss_one (ps_ret (pe_fn G_number_told (hr.mono (by decide)) (by rfl) (pa_cons (pe_fn G_shortest_frame (hr.mono (by decide)) (by rfl) (pa_cons (pe_fnG GE_bells_in (hr.mono (by decide)) (by rfl) passesE (pa_cons (pe_ix ix_list (pv 0) pe_int (fun _ _ => rfl)) pa_nil)) (pa_cons (pe_fnG GE_number_in (hr.mono (by decide)) (by rfl) passesE (pa_cons (pe_ix ix_list (pv 0) pe_int (fun _ _ => rfl)) pa_nil)) (pa_cons (pe_fnG GE_message_in (hr.mono (by decide)) (by rfl) passesE (pa_cons (pe_ix ix_list (pv 0) pe_int (fun _ _ => rfl)) pa_nil)) pa_nil)))) pa_nil))))
        pss_nil)
      (pss_cons (ps_if (pw_and (pt_cmpR op_eq (pe_ix ix_list (pv 0) pe_int (fun _ _ => rfl)) pe_str (nomark _)) (pw_and1 (pt_cmpR op_eqI (pe_callB call_len_seq (by rfl) T.z_len b_len (pa_cons (pv 0) pa_nil)) pe_int (nomark _)))).pt
        (pss_one (ps_ret (pe_fn G_number_told (hr.mono (by decide)) (by rfl) (pa_cons (pe_fn G_best_bells (hr.mono (by decide)) (by rfl) (pa_cons (pe_fnG GE_number_in (hr.mono (by decide)) (by rfl) passesE (pa_cons (pe_ix ix_list (pv 0) pe_int (fun _ _ => rfl)) pa_nil)) (pa_cons (pe_fnG GE_number_in (hr.mono (by decide)) (by rfl) passesE (pa_cons (pe_ix ix_list (pv 0) pe_int (fun _ _ => rfl)) pa_nil)) (pa_cons (pe_fnG GE_bells_in (hr.mono (by decide)) (by rfl) passesE (pa_cons (pe_ix ix_list (pv 0) pe_int (fun _ _ => rfl)) pa_nil)) pa_nil)))) pa_nil))))
        pss_nil)
      (pss_cons (ps_if (pw_and (pt_cmpR op_eq (pe_ix ix_list (pv 0) pe_int (fun _ _ => rfl)) pe_str (nomark _)) (pw_and1 (pt_cmpR op_eqI (pe_callB call_len_seq (by rfl) T.z_len b_len (pa_cons (pv 0) pa_nil)) pe_int (nomark _)))).pt
        (pss_one (ps_ret (pe_fnG GE_cheapest_told (hr.mono (by decide)) (by rfl) passesE (pa_cons (pv 0) pa_nil))))
        pss_nil)
      (pss_one (ps_raise PySem.F.excBase_ValueError x_NoOrder (by rfl) m_NoOrder (pa_cons pe_str pa_nil)))))), ?_⟩
    rcases h with ⟨b, l, m, rfl, b0, b60, hl, m0, m1, q1, q2⟩ | ⟨t, l, b, rfl, ht, hl, b0, b60, q⟩ | ⟨w1, w2, w3, w4, w5, rfl, q⟩
    · have nb : N60 b := ⟨b0, Int.lt_of_le_of_lt b60 (by decide)⟩
      have nm := num_txt (k := 3000) (by decide) m0 m1
      have vm := numV_txt m0
      have mb : intBits m ≤ 40000 := bits_mono (bits_of m0 (Int.lt_of_lt_of_le m1 p3000B)) (by decide)
      refine ⟨_, rfl, a, _, 0, _, rfl, rfl, SqL.of hA, rfl, rfl, _, rfl, ifT rfl ⟨_, rfl, _, _, rfl, .inl (SqL.of hA), _, _, rfl, rfl, _, rfl, ifT rfl ?_⟩⟩
      refine ⟨_, rfl, a, _, 1, _, rfl, rfl, SqL.of hA, rfl, txt b, rfl, nb.len, fun _ H1 s1 => ?_, fun z => absurd ⟨nb.num, by rw [nb.val]; exact b60⟩ z⟩
      have hA1 := s1 _ _ hA
      refine ⟨_, rfl, a, _, 2, _, rfl, rfl, SqL.of hA1, rfl, txt l, rfl, hl.len, fun _ H2 s2 => ?_, fun z => absurd hl.num z⟩
      have hA2 := s2 _ _ hA1
      refine ⟨_, rfl, a, _, 3, _, rfl, rfl, SqL.of hA2, rfl, txt m, rfl, Nat.le_trans nm.le (by decide), fun _ H3 s3 => ?_, fun z => absurd nm z⟩
      rw [nb.val, hl.val, vm]
      have s03 := (s1.trans s2).trans s3
      refine ⟨b, l, m, rfl, b0, b60, hl.lo, m0, bits_mono hl.bits (by decide), mb, fun z1 z2 => ?_, fun z t ht _ => ?_⟩
      · exact ⟨_, rfl, .inl ⟨rfl, q1 z1 z2 H3 s03⟩⟩
      · have hb := big_short b0 b60 hl m0 m1 z ht
        exact ⟨_, rfl, .inr ⟨t, rfl, hb.1, hb.2, q2 z t H3 s03 ht⟩⟩
    · have nb : N60 b := ⟨b0, Int.lt_of_le_of_lt b60 (by decide)⟩
      refine ⟨_, rfl, a, _, 0, _, rfl, rfl, SqL.of hA, rfl, rfl, _, rfl, ifF (fun z => absurd (V.str.inj z) (by decide +kernel)) (iteF ⟨_, rfl, a, _, 0, _, rfl, rfl, SqL.of hA, rfl, rfl, _, rfl, ifT rfl ⟨_, rfl, _, _, rfl, .inl (SqL.of hA), _, _, rfl, rfl, _, rfl, ifT rfl ?_⟩⟩)⟩
      refine ⟨_, rfl, a, _, 1, _, rfl, rfl, SqL.of hA, rfl, txt t, rfl, ht.len, fun _ H1 s1 => ?_, fun z => absurd ht.num z⟩
      have hA1 := s1 _ _ hA
      refine ⟨_, rfl, a, _, 2, _, rfl, rfl, SqL.of hA1, rfl, txt l, rfl, hl.len, fun _ H2 s2 => ?_, fun z => absurd hl.num z⟩
      have hA2 := s2 _ _ hA1
      refine ⟨_, rfl, a, _, 3, _, rfl, rfl, SqL.of hA2, rfl, txt b, rfl, nb.len, fun _ H3 s3 => ?_, fun z => absurd ⟨nb.num, by rw [nb.val]; exact b60⟩ z⟩
      rw [nb.val, hl.val, ht.val]
      refine ⟨t, l, b, rfl, hl.lo, b0, by omega, bits_mono hl.bits (by decide), bits_mono ht.bits (by decide), fun x hx => ?_⟩
      have x1 := hx.1
      have x2 := hx.2.1
      exact ⟨_, rfl, .inr ⟨x, rfl, x1, Int.lt_of_le_of_lt (show x ≤ 60 by omega) (by decide +kernel), q x H3 ((s1.trans s2).trans s3) hx⟩⟩
    · exact ⟨_, rfl, a, _, 0, _, rfl, rfl, SqL.of hA, rfl, rfl, _, rfl, ifF (fun z => absurd (V.str.inj z) (by decide +kernel)) (iteF ⟨_, rfl, a, _, 0, _, rfl, rfl, SqL.of hA, rfl, rfl, _, rfl, ifF (fun z => absurd (V.str.inj z) (by decide +kernel)) (iteF ⟨_, rfl, a, _, 0, _, rfl, rfl, SqL.of hA, rfl, rfl, _, rfl, ifT rfl ⟨_, rfl, _, _, rfl, .inl (SqL.of hA), _, _, rfl, rfl, _, rfl, ifT rfl ⟨_, rfl, q⟩⟩⟩)⟩)⟩
end
section
variable {P : Program} {w : World} {K : PySem.W.Frag} {mg : Str → Option Value} {base : Heap}
theorem app_lenB (a b : Str) : (a ++ b).length = a.length + b.length := by rw [← cpl_len, cpl_app, List.length_append, cpl_len, cpl_len]
theorem empty_app (x : Str) : Str.empty ++ x = x := cpl_inj (by rw [cpl_app]; rfl)
theorem txt_lenB {n : Int} (h0 : 0 ≤ n) (h1 : n < 10 ^ 4000) : (txt n).length ≤ 4000 := (num_txt (k := 4000) (by decide) h0 h1).le
theorem big_cheap {tc bc l m b : Int} {x : Tr} (b0 : 0 ≤ b) (b60 : b ≤ 60) (hl : N60 l) (ht : N60 tc) (hc : N60 bc) (m0 : 0 ≤ m) (m1 : m < 10 ^ 3000) (h : bestL (listS tc bc l m (b + 1).toNat) = some x) :
    (0 ≤ x.1 ∧ x.1 < 10 ^ 4000) ∧ (0 ≤ x.2.1 ∧ x.2.1 < 10 ^ 4000) ∧ 0 ≤ x.2.2 ∧ x.2.2 < 10 ^ 4000 := by
  obtain ⟨h1, h2, h3, h4, h5⟩ := listS_mem hl.lo m0 _ x (bestL_mem h)
  have hl2 := hl.hi
  have hl0 := hl.lo
  have a1 : m * (l + 1) ≤ 10 ^ 3000 * 10 ^ 60 := Int.mul_le_mul (Int.le_of_lt m1) (by omega) (by omega) (by decide +kernel)
  have a2 : x.2.1 ≤ 10 ^ 3061 := by
    have h6 : (10 : Int) ^ 3000 * 10 ^ 60 + 61 ≤ 10 ^ 3061 := by decide +kernel
    generalize (10 : Int) ^ 3000 * 10 ^ 60 = A at a1 h6
    generalize (10 : Int) ^ 3061 = B at h6 ⊢
    omega
  have a3 : x.2.1 * tc ≤ 10 ^ 3061 * 10 ^ 60 := Int.mul_le_mul a2 (Int.le_of_lt ht.hi) ht.lo (by decide +kernel)
  have a4 : x.2.2 * bc ≤ 61 * 10 ^ 60 := Int.mul_le_mul (by omega) (Int.le_of_lt hc.hi) hc.lo (by decide)
  have a5 := Int.mul_nonneg h3 ht.lo
  have a6 := Int.mul_nonneg h1 hc.lo
  have e1 : (10 : Int) ^ 3061 * 10 ^ 60 + 61 * 10 ^ 60 < 10 ^ 4000 := by decide +kernel
  have e2 : (10 : Int) ^ 3061 < 10 ^ 4000 := by decide +kernel
  have e3 : (61 : Int) < 10 ^ 4000 := by decide +kernel
  rw [h5]
  generalize x.2.1 * tc = p at a3 a5 ⊢
  generalize x.2.2 * bc = r at a4 a6 ⊢
  generalize (10 : Int) ^ 3061 * 10 ^ 60 = A at a3 e1
  generalize (61 : Int) * 10 ^ 60 = A2 at a4 e1
  generalize (10 : Int) ^ 3061 = A3 at a2 e2
  generalize (10 : Int) ^ 4000 = B at e1 e2 e3 ⊢
  omega
noncomputable def spCheapT : Sp := fun vs H Q _ => ∃ (a : Addr) (m l tc bc b : Int), vs = [.ref a] ∧ H a = some (.lst ([("cheap" : Str), txt m, txt l, txt tc, txt bc, txt b].map V.str)) ∧ 0 ≤ m ∧ m < 10 ^ 3000 ∧ N60 l ∧ N60 tc ∧ N60 bc ∧ 0 ≤ b ∧ b ≤ 60 ∧ ∀ H', Same H H' → Q (.str (cheapTxt (bestL (listS tc bc l m (b + 1).toNat)))) H'
theorem sc_cheapest_told : FnScope ["words", "many", "late", "found", "cost", "turns", "bells"] ["words"] (defScope st_cheapest_told) := ⟨rfl, rfl, rfl, by decide +kernel, rfl, by decide +kernel, by decide +kernel⟩
theorem ok_cheapT (ND : NoDig K) (D : Def K mg "cheapest_told" st_cheapest_told ["words"]) (T : Txt K mg) {C_NoOrder : Addr} (GE_number_in : FnE P w K mg base 3 "number_in" ["word"] (spNumE C_NoOrder 60)) (GE_message_in : FnE P w K mg base 3 "message_in" ["word"] (spNumE C_NoOrder 3000)) (GE_bells_in : FnE P w K mg base 4 "bells_in" ["word"] (spBellsE C_NoOrder)) (G_cheapest : Fn P w K mg base 40 "cheapest" ["many", "late", "turn_cost", "bell_cost", "most"] spCheap) : FnE P w K mg base 42 "cheapest_told" ["words"] spCheapT := by
  refine D.fnE sc_cheapest_told (fun vs H Q E h => ?_) (fun f cdv A outer s H vs Q E hr h => ?_)
  · obtain ⟨a, m, l, tc, bc, b, rfl, _⟩ := h
    rfl
  · obtain ⟨a, m, l, tc, bc, b, rfl, hA, m0, m1, hl, ht, hc, b0, b60, q⟩ := h
    refine ⟨_, (pss_cons (ps_set (i := 1) sc_cheapest_told.nd rfl (Or.inl rfl) (pe_fnG GE_message_in (hr.mono (by decide)) (by rfl) passesE (pa_cons (pe_ix ix_list (pv 0) pe_int (fun _ _ => rfl)) pa_nil)))
      (pss_cons (ps_set (i := 2) sc_cheapest_told.nd rfl (Or.inl rfl) (pe_fnG GE_number_in (hr.mono (by decide)) (by rfl) passesE (pa_cons (pe_ix ix_list (pv 0) pe_int (fun _ _ => rfl)) pa_nil)))
      (pss_cons (ps_set (i := 3) sc_cheapest_told.nd rfl (Or.inl rfl) (pe_fn G_cheapest (hr.mono (by decide)) (by rfl) (pa_cons (pv 1) (pa_cons (pv 2) (pa_cons (pe_fnG GE_number_in (hr.mono (by decide)) (by rfl) passesE (pa_cons (pe_ix ix_list (pv 0) pe_int (fun _ _ => rfl)) pa_nil)) (pa_cons (pe_fnG GE_number_in (hr.mono (by decide)) (by rfl) passesE (pa_cons (pe_ix ix_list (pv 0) pe_int (fun _ _ => rfl)) pa_nil)) (pa_cons (pe_fnG GE_bells_in (hr.mono (by decide)) (by rfl) passesE (pa_cons (pe_ix ix_list (pv 0) pe_int (fun _ _ => rfl)) pa_nil)) pa_nil)))))))
      (pss_cons (ps_if (pt_cmpR op_isN (pv 3) pe_non (nomark _))
        (pss_one (ps_ret pe_str))
        pss_nil)
      (pss_cons (ps_set (i := 4) sc_cheapest_told.nd rfl (Or.inl rfl) (pe_ix ix_tup (pv 3) pe_int (fun _ _ => rfl)))
      (pss_cons (ps_set (i := 5) sc_cheapest_told.nd rfl (Or.inl rfl) (pe_ix ix_tup (pv 3) pe_int (fun _ _ => rfl)))
      (pss_cons (ps_set (i := 6) sc_cheapest_told.nd rfl (Or.inl rfl) (pe_ix ix_tup (pv 3) pe_int (fun _ _ => rfl)))
      (pss_one (ps_ret (pe_fs (.cons (pe_fmtB ND (pv 4)) (.cons pe_str (.cons (pe_fmtB ND (pv 5)) (.cons pe_str (.cons (pe_fmtB ND (pv 6)) (.cons pe_str .nil)))))))))))))))), ?_⟩
    have nb : N60 b := ⟨b0, Int.lt_of_le_of_lt b60 (by decide)⟩
    have nm := num_txt (k := 3000) (by decide) m0 m1
    have vm := numV_txt m0
    have mb : intBits m ≤ 40000 := bits_mono (bits_of m0 (Int.lt_of_lt_of_le m1 p3000B)) (by decide)
    refine ⟨_, rfl, a, _, 1, _, rfl, rfl, SqL.of hA, rfl, txt m, rfl, Nat.le_trans nm.le (by decide), fun _ H1 s1 => ?_, fun z => absurd nm z⟩
    have hA1 := s1 _ _ hA
    refine ⟨_, rfl, a, _, 2, _, rfl, rfl, SqL.of hA1, rfl, txt l, rfl, hl.len, fun _ H2 s2 => ?_, fun z => absurd hl.num z⟩
    have hA2 := s2 _ _ hA1
    refine ⟨_, rfl, _, rfl, _, rfl, a, _, 3, _, rfl, rfl, SqL.of hA2, rfl, txt tc, rfl, ht.len, fun _ H3 s3 => ?_, fun z => absurd ht.num z⟩
    have hA3 := s3 _ _ hA2
    refine ⟨_, rfl, a, _, 4, _, rfl, rfl, SqL.of hA3, rfl, txt bc, rfl, hc.len, fun _ H4 s4 => ?_, fun z => absurd hc.num z⟩
    have hA4 := s4 _ _ hA3
    refine ⟨_, rfl, a, _, 5, _, rfl, rfl, SqL.of hA4, rfl, txt b, rfl, nb.len, fun _ H5 s5 => ?_, fun z => absurd ⟨nb.num, by rw [nb.val]; exact b60⟩ z⟩
    rw [vm, hl.val, ht.val, hc.val, nb.val]
    refine ⟨m, l, tc, bc, b, rfl, b0, b60, hl.lo, m0, bits_mono hl.bits (by decide), mb, bits_mono ht.bits (by decide), bits_mono hc.bits (by decide), fun v H6 s6 B => ?_⟩
    have s06 := ((((s1.trans s2).trans s3).trans s4).trans s5).trans s6
    have q := q H6 s06
    generalize hx : bestL (listS tc bc l m (b + 1).toNat) = ox at B q
    cases B with
    | non => exact ⟨_, rfl, rfl, _, rfl, ifT rfl q⟩
    | tup p x hp =>
      obtain ⟨⟨c0, c1⟩, ⟨d0, d1⟩, e0, e1⟩ := big_cheap b0 b60 hl ht hc m0 m1 hx
      have k1 := txt_lenB c0 c1
      have k2 := txt_lenB d0 d1
      have k3 := txt_lenB e0 e1
      have f1 : (" for " : Str).length = 5 := by decide +kernel
      have f2 : (" turns and " : Str).length = 11 := by decide +kernel
      have f3 : (" bells" : Str).length = 6 := by decide +kernel
      refine ⟨_, rfl, rfl, _, rfl, ifF (fun z => nomatch z) ⟨_, rfl, _, _, _, _, rfl, rfl, SqT.of hp, rfl, _, rfl, _, _, _, _, rfl, rfl, SqT.of hp, rfl, _, rfl, _, _, _, _, rfl, rfl, SqT.of hp, rfl, ?_⟩⟩
      refine ⟨_, rfl, x.1, rfl, lgB c0 c1, txt x.1, rfl, by rw [empty_app, sizeLine_eq]; omega, " for ", rfl, by rw [empty_app, app_lenB, sizeLine_eq]; omega, _, rfl, x.2.1, rfl, lgB d0 d1, txt x.2.1, rfl, by rw [empty_app, app_lenB, app_lenB, sizeLine_eq]; omega, " turns and ", rfl, by rw [empty_app, app_lenB, app_lenB, app_lenB, sizeLine_eq]; omega, _, rfl, x.2.2, rfl, lgB e0 e1, txt x.2.2, rfl, by rw [empty_app, app_lenB, app_lenB, app_lenB, app_lenB, sizeLine_eq]; omega, " bells", rfl, by rw [empty_app, app_lenB, app_lenB, app_lenB, app_lenB, app_lenB, sizeLine_eq]; omega, by rw [empty_app, app_lenB, app_lenB, app_lenB, app_lenB, app_lenB, sizeLine_eq]; omega, ?_⟩
      rw [empty_app]
      exact q
end
theorem at_ints {ns : List Int} {k : Int} (h0 : 0 ≤ k) (h1 : k < ns.length) : ∃ x, atI (ns.map V.int) k = some (V.int x) ∧ x ∈ ns := by
  have hk : k.toNat < ns.length := by omega
  refine ⟨ns[k.toNat], ?_, List.getElem_mem hk⟩
  have := at_map (ns := ns) (k := k.toNat) (List.getElem?_eq_getElem hk)
  rwa [show ((k.toNat : Nat) : Int) = k by omega] at this
section
variable {P : Program} {w : World} {K : PySem.W.Frag} {mg : Str → Option Value} {base : Heap}
noncomputable def spGreatL : Sp := fun vs H Q _ => ∃ c k : Int, vs = [.int c, .int k] ∧ 0 ≤ k ∧ k ≤ 1000 ∧ ∀ g : Int, 0 ≤ g → g < 10 ^ 59 → Q (.int g) H
theorem sc__law_great : FnScope ["cell", "k"] ["cell", "k"] (defScope st__law_great) := ⟨rfl, rfl, rfl, by decide +kernel, rfl, by decide +kernel, by decide +kernel⟩
theorem ok_great (D : Def K mg "_law_great" st__law_great ["cell", "k"]) (G__law_drawn : Fn P w K mg base 1 "_law_drawn" ["cell", "k"] spDr) : Fn P w K mg base 2 "_law_great" ["cell", "k"] spGreatL := by
  refine D.fn sc__law_great (fun vs H Q E h => ?_) (fun f cdv A outer s H vs Q E hr h => ?_)
  · obtain ⟨c, k, rfl, _⟩ := h
    rfl
  · obtain ⟨c, k, rfl, k0, k1, q⟩ := h
    refine ⟨_, (pss_one (ps_ret (pe_op op_modB (pe_op op_mulB (pe_op op_mulB (pe_fn G__law_drawn (hr.mono (by decide)) (by rfl) (pa_cons (pv 0) (pa_cons (pv 1) pa_nil))) (pe_fn G__law_drawn (hr.mono (by decide)) (by rfl) (pa_cons (pv 0) (pa_cons (pe_op op_addI (pv 1) pe_int) pa_nil)))) (pe_op op_powB pe_int pe_int)) (pe_op op_powB pe_int pe_int)))), ?_⟩
    refine ⟨_, rfl, _, rfl, c, k, rfl, bits_of k0 (by omega), fun d1 a0 a1 => ⟨_, rfl, _, rfl, _, _, rfl, rfl, c, k + 1, rfl, bits_of (by omega) (by omega), fun d2 b0 b1 => ?_⟩⟩
    have db : intBits (d1 * d2) ≤ 61 + 61 := intBits_mul_le (bits_of a0 a1) (bits_of b0 b1)
    refine ⟨_, _, rfl, rfl, ⟨61, 61, bits_of a0 a1, bits_of b0 b1, by decide⟩, _, _, rfl, rfl, ⟨by decide, by decide, by decide⟩, _, _, rfl, rfl, ⟨122, 200, db, by decide, by decide⟩, _, _, rfl, rfl, ⟨by decide, by decide, by decide⟩, _, _, rfl, rfl, by decide, ?_⟩
    exact q _ (Int.emod_nonneg _ (by decide)) (Int.emod_lt_of_pos _ (show (0 : Int) < 10 ^ (59 : Int).toNat by decide))
noncomputable def spLateL : Sp := fun vs H Q _ => ∃ c : Int, vs = [.int c] ∧ ∀ (l : Int) (H' : Hp), Same H H' → 0 ≤ l → l < 10 ^ 40 → Q (.int l) H'
theorem sc__law_late : FnScope ["cell"] ["cell"] (defScope st__law_late) := ⟨rfl, rfl, rfl, by decide +kernel, rfl, by decide +kernel, by decide +kernel⟩
theorem ok_lateL (D : Def K mg "_law_late" st__law_late ["cell"]) (G__law_drawn : Fn P w K mg base 1 "_law_drawn" ["cell", "k"] spDr) (G__law_great : Fn P w K mg base 2 "_law_great" ["cell", "k"] spGreatL) : Fn P w K mg base 3 "_law_late" ["cell"] spLateL := by
  refine D.fn sc__law_late (fun vs H Q E h => ?_) (fun f cdv A outer s H vs Q E hr h => ?_)
  · obtain ⟨c, rfl, _⟩ := h
    rfl
  · obtain ⟨c, rfl, q⟩ := h
    refine ⟨_, (pss_one (ps_ret (pe_ix ix_list (pe_lst (pa_cons (pe_op op_modB (pe_fn G__law_drawn (hr.mono (by decide)) (by rfl) (pa_cons (pv 0) (pa_cons pe_int pa_nil))) pe_int) (pa_cons (pe_op op_modB (pe_fn G__law_great (hr.mono (by decide)) (by rfl) (pa_cons (pv 0) (pa_cons pe_int pa_nil))) (pe_op op_powB pe_int pe_int)) pa_nil))) (pe_op op_modB (pe_fn G__law_drawn (hr.mono (by decide)) (by rfl) (pa_cons (pv 0) (pa_cons pe_int pa_nil))) pe_int) (fun _ _ => rfl)))), ?_⟩
    refine ⟨_, rfl, c, 1, rfl, by decide, fun d1 a0 a1 => ⟨_, _, rfl, rfl, by decide, _, rfl, c, 1, rfl, by decide, by decide, fun g g0 g1 => ⟨_, _, rfl, rfl, ⟨by decide, by decide, by decide⟩, _, _, rfl, rfl, by decide, (by show 2 ≤ sizeLine; decide), fun p hp => ?_⟩⟩⟩
    refine ⟨_, rfl, c, 3, rfl, by decide, fun d2 b0 b1 => ⟨_, _, rfl, rfl, by decide, ?_⟩⟩
    have e0 := Int.emod_nonneg d2 (show (2 : Int) ≠ 0 by decide)
    have e1 := Int.emod_lt_of_pos d2 (show (0 : Int) < 2 by decide)
    obtain ⟨x, hx, hm⟩ := at_ints (ns := [d1 % 10, g % 10 ^ (40 : Int).toNat]) e0 e1
    refine ⟨p, _, _, _, rfl, rfl, SqL.of upd_same, hx, q x _ (Same.new hp) ?_ ?_⟩
    · rcases List.mem_cons.mp hm with rfl | hm
      · exact Int.emod_nonneg _ (by decide)
      · rw [List.mem_singleton.mp hm]; exact Int.emod_nonneg _ (by decide)
    · rcases List.mem_cons.mp hm with rfl | hm
      · exact Int.lt_trans (Int.emod_lt_of_pos _ (show (0 : Int) < 10 by decide)) (by decide)
      · rw [List.mem_singleton.mp hm]; exact Int.emod_lt_of_pos _ (show (0 : Int) < 10 ^ (40 : Int).toNat by decide)
noncomputable def spManyL : Sp := fun vs H Q _ => ∃ c : Int, vs = [.int c] ∧ ∀ (m : Int) (H' : Hp), Same H H' → 0 ≤ m → m < 10 ^ 59 → Q (.int m) H'
theorem sc__law_many : FnScope ["cell", "number"] ["cell"] (defScope st__law_many) := ⟨rfl, rfl, rfl, by decide +kernel, rfl, by decide +kernel, by decide +kernel⟩
theorem ok_manyL (D : Def K mg "_law_many" st__law_many ["cell"]) (G__law_drawn : Fn P w K mg base 1 "_law_drawn" ["cell", "k"] spDr) (G__law_great : Fn P w K mg base 2 "_law_great" ["cell", "k"] spGreatL) : Fn P w K mg base 3 "_law_many" ["cell"] spManyL := by
  refine D.fn sc__law_many (fun vs H Q E h => ?_) (fun f cdv A outer s H vs Q E hr h => ?_)
  · obtain ⟨c, rfl, _⟩ := h
    rfl
  · obtain ⟨c, rfl, q⟩ := h
    refine ⟨_, (pss_cons (ps_set (i := 1) sc__law_many.nd rfl (Or.inl rfl) (pe_fn G__law_drawn (hr.mono (by decide)) (by rfl) (pa_cons (pv 0) (pa_cons pe_int pa_nil))))
      (pss_one (ps_ret (pe_ix ix_list (pe_lst (pa_cons (pe_op op_modB (pv 1) pe_int) (pa_cons (pe_op op_modB (pv 1) pe_int) (pa_cons (pe_fn G__law_great (hr.mono (by decide)) (by rfl) (pa_cons (pv 0) (pa_cons pe_int pa_nil))) pa_nil)))) (pe_op op_modB (pe_fn G__law_drawn (hr.mono (by decide)) (by rfl) (pa_cons (pv 0) (pa_cons pe_int pa_nil))) pe_int) (fun _ _ => rfl))))), ?_⟩
    refine ⟨_, rfl, c, 4, rfl, by decide, fun d1 a0 a1 => ?_⟩
    refine ⟨_, rfl, _, _, rfl, rfl, by decide, _, rfl, _, _, rfl, rfl, by decide, _, rfl, c, 4, rfl, by decide, by decide, fun g g0 g1 => ⟨(by show 3 ≤ sizeLine; decide), fun p hp => ?_⟩⟩
    refine ⟨_, rfl, c, 6, rfl, by decide, fun d2 b0 b1 => ⟨_, _, rfl, rfl, by decide, ?_⟩⟩
    have e0 := Int.emod_nonneg d2 (show (3 : Int) ≠ 0 by decide)
    have e1 := Int.emod_lt_of_pos d2 (show (0 : Int) < 3 by decide)
    obtain ⟨x, hx, hm⟩ := at_ints (ns := [d1 % 6, d1 % 1001, g]) e0 e1
    have xb : 0 ≤ x ∧ x < 10 ^ 59 := by
      rcases List.mem_cons.mp hm with rfl | hm
      · exact ⟨Int.emod_nonneg _ (by decide), Int.lt_trans (Int.emod_lt_of_pos _ (show (0 : Int) < 6 by decide)) (by decide)⟩
      rcases List.mem_cons.mp hm with rfl | hm
      · exact ⟨Int.emod_nonneg _ (by decide), Int.lt_trans (Int.emod_lt_of_pos _ (show (0 : Int) < 1001 by decide)) (by decide)⟩
      rw [List.mem_singleton.mp hm]
      exact ⟨g0, g1⟩
    exact ⟨p, _, _, _, rfl, rfl, SqL.of upd_same, hx, q x _ (Same.new hp) xb.1 xb.2⟩
end
noncomputable def fr1 (d : Addr) : List (Str × V) := [("frames", .ref d)]
theorem fr1_no {d : Addr} {m : Str} (h : ¬ m = "frames") : (fr1 d).lookup m = none := by
  unfold fr1
  simp only [List.lookup_cons, List.lookup_nil, beq_eq_false_iff_ne.mpr h]
noncomputable def SameX (x : Addr) (H H' : Hp) : Prop := ∀ a o, H a = some o → a ≠ x → H' a = some o
theorem SameX.of {x : Addr} {H H' : Hp} (s : Same H H') : SameX x H H' := fun a o h _ => s a o h
theorem SameX.trans {x : Addr} {H H' H2 : Hp} (s : SameX x H H') (s2 : SameX x H' H2) : SameX x H H2 := fun a o h n => s2 a o (s a o h n) n
theorem SameX.put {x : Addr} {H H' : Hp} {o : HO} (s : SameX x H H') : SameX x H (upd H' x o) := fun a v h n => by rw [upd_ne n]; exact s a v h n
theorem SameX.new {x p : Addr} {H H' : Hp} {o : HO} (s : SameX x H H') (hp : H' p = none) : SameX x H (upd H' p o) := fun a v h n => (Same.new hp) a v (s a v h n)
structure DkT (K : PySem.W.Frag) (CD CF : Addr) : Prop where
  cd : Cls K CD
  cf : Cls K CF
  n1 : NoAttr K CF "turns"
  n2 : NoAttr K CF "bells"
  n3 : NoAttr K CF "late"
  n4 : NoAttr K CD "frames"
section
variable {P : Program} {w : World} {K : PySem.W.Frag} {mg : Str → Option Value} {base : Heap} {CD CF : Addr}
noncomputable def spDkInitB (CD : Addr) : Sp := fun vs H Q _ => ∃ (x dx : Addr), vs = [.ref x] ∧ H x = some (.ins CD dx []) ∧ ∀ d H', SameX x H H' → H' x = some (.ins CD dx (fr1 d)) → Q .non H'
theorem sc_Desk_init : FnScope ["self"] ["self"] (defScope st_Desk_init) := ⟨rfl, rfl, rfl, by decide +kernel, rfl, by decide +kernel, by decide +kernel⟩
theorem ok_dkinitB {f : Addr} {fd : FuncData} (F : FunD K "__init__" "Desk.__init__" st_Desk_init f fd) (hT : DkT K CD CF) : FnOk P w K mg base CX0 1 f fd ["self"] (spDkInitB CD) := by
  refine F.ok sc_Desk_init (fun vs H Q E h => ?_) (fun cdv A outer s H vs Q E hr h => ?_)
  · obtain ⟨x, dx, rfl, _⟩ := h
    rfl
  · obtain ⟨x, dx, rfl, hx, q⟩ := h
    refine ⟨_, (pss_one (ps_fld (pv 0) pe_dnewK rfl)), ?_⟩
    refine fun d hd => ⟨_, rfl, x, CD, dx, _, rfl, (Same.new hd) _ _ hx, hT.cd, hT.n4, (by show 0 < 1000; decide), ?_⟩
    exact q d _ ((SameX.of (Same.new hd)).put) upd_same
end
section
variable {P : Program} {w : World} {K : PySem.W.Frag} {mg : Str → Option Value} {base : Heap} {CD CF : Addr}
noncomputable def spTold (CD CO : Addr) (KP RG LS SN CT : Sp) : Sp := fun vs H Q E => ∃ (x dx d : Addr) (o w0 : Str) (ws : List Str), vs = [.ref x, .str o] ∧ H x = some (.ins CD dx (fr1 d)) ∧ o.length + 2 ≤ sizeLine ∧ Txt.split o " " = w0 :: ws ∧
  (w0 = "frame" → ws.length = 4 → ∀ a H', Same H H' → H' a = some (.lst ((w0 :: ws).map V.str)) → KP [.ref x, .ref a] H' Q (fun C _ H2 => E C none H2)) ∧
  (w0 = "write" ∨ w0 = "key" → ws.length = 2 → ∀ a H', Same H H' → H' a = some (.lst ((w0 :: ws).map V.str)) → RG [.ref x, .ref a] H' Q (fun C _ H2 => E C none H2)) ∧
  (w0 = "read" ∨ w0 = "unkey" ∨ w0 = "hear" → 1 ≤ ws.length → ∀ a H', Same H H' → H' a = some (.lst ((w0 :: ws).map V.str)) → LS [.ref x, .ref a] H' Q (fun C _ H2 => E C none H2)) ∧
  (w0 = "note" → 2 ≤ ws.length → (Txt.splitMax o " " 2).length ≤ sizeLine ∧ ∀ a H', Same H H' → H' a = some (.lst ((Txt.splitMax o " " 2).map V.str)) → SN [.ref x, .ref a] H' Q (fun C _ H2 => E C none H2)) ∧
  (¬ (w0 = "frame" ∧ ws.length = 4) → ¬ ((w0 = "write" ∨ w0 = "key") ∧ ws.length = 2) → ¬ ((w0 = "read" ∨ w0 = "unkey" ∨ w0 = "hear") ∧ 1 ≤ ws.length) → ¬ (w0 = "note" ∧ 2 ≤ ws.length) → ∀ a H', Same H H' → H' a = some (.lst ((w0 :: ws).map V.str)) → CT [.ref a] H' Q (fun C _ H2 => E C none H2))
theorem bl_len : ((" " : Str).length == 0) = false := by decide +kernel
theorem in2 {x a b : Str} : inV (.str x) [.str a, .str b] = decide (x = a ∨ x = b) := by
  rw [Bool.eq_iff_iff]
  simp only [inV, List.any_cons, List.any_nil, eqV, Bool.or_false, Bool.or_eq_true, beq_iff_eq, decide_eq_true_eq]
  exact ⟨fun h => h.imp Eq.symm Eq.symm, fun h => h.imp Eq.symm Eq.symm⟩
theorem in3 {x a b c : Str} : inV (.str x) [.str a, .str b, .str c] = decide (x = a ∨ x = b ∨ x = c) := by
  rw [Bool.eq_iff_iff]
  simp only [inV, List.any_cons, List.any_nil, eqV, Bool.or_false, Bool.or_eq_true, beq_iff_eq, decide_eq_true_eq]
  exact ⟨fun h => h.imp Eq.symm fun h => h.imp Eq.symm Eq.symm, fun h => h.imp Eq.symm fun h => h.imp Eq.symm Eq.symm⟩
theorem kit_str_str (K : PySem.W.Frag) : PySem.W.kitOne K (.type "str") (.type "str") = some true := by with_unfolding_all rfl
theorem sc_Desk_told : FnScope ["self", "order", "words"] ["self", "order"] (defScope st_Desk_told) := ⟨rfl, rfl, rfl, by decide +kernel, rfl, by decide +kernel, by decide +kernel⟩
theorem ok_told {f : Addr} {fd : FuncData} (F : FunD K "told" "Desk.told" st_Desk_told f fd) (T : Txt K mg) (hT : DkT K CD CF) {C_NoOrder : Addr} {KP RG LS SN CT : Sp} (m_NoOrder : mg "NoOrder" = some (.ref C_NoOrder)) (x_NoOrder : PySem.W.excIn K C_NoOrder bmV "ValueError.__new__" = true) (ME_keep : MtE P w K mg base 45 CD "keep" ["self", "words"] KP) (ME_ring : MtE P w K mg base 45 CD "ring" ["self", "words"] RG) (ME_listen : MtE P w K mg base 45 CD "listen" ["self", "words"] LS) (ME_send_note : MtE P w K mg base 45 CD "send_note" ["self", "words"] SN) (GE_choice_told : FnE P w K mg base 45 "choice_told" ["words"] CT) : FnOk P w K mg base (CXE P w) 46 f fd ["self", "order"] (spTold CD C_NoOrder KP RG LS SN CT) := by
  refine F.okE sc_Desk_told (fun vs H Q E h => ?_) (fun cdv A outer s H vs Q E hr h => ?_)
  · obtain ⟨x, dx, d, o, w0, ws, rfl, _⟩ := h
    rfl
  · obtain ⟨x, dx, d, o, w0, ws, rfl, hx, ol, es, q1, q2, q3, q4, q5⟩ := h
    refine ⟨_, (pss_cons (ps_if (pt_not (pt_val (pe_callB call_isinst (by rfl) T.z_isinstance b_isinstance (pa_cons (pv 1) (pa_cons (pe_bltn (v := .ty "str") (by rfl) T.z_str b_str rfl) pa_nil)))))
        (pss_one (ps_raise PySem.F.excBase_ValueError x_NoOrder (by rfl) m_NoOrder (pa_cons pe_str pa_nil)))
        pss_nil)
      (pss_cons (ps_set (i := 2) sc_Desk_told.nd rfl (Or.inl rfl) (pe_bm PySem.F.plainAttrs_str PySem.F.slot_str_split PySem.F.type_str_split mt_split (pv 1) (pa_cons pe_str pa_nil)))
      (pss_cons (ps_if (pw_and (pt_cmpR op_eq (pe_ix ix_list (pv 2) pe_int (fun _ _ => rfl)) pe_str (nomark _)) (pw_and1 (pt_cmpR op_eqI (pe_callB call_len_seq (by rfl) T.z_len b_len (pa_cons (pv 2) pa_nil)) pe_int (nomark _)))).pt
        (pss_one (ps_ret (pe_mtG (pv 0) ME_keep (hr.mono (by decide)) passesE (pa_cons (pv 2) pa_nil))))
        pss_nil)
      (pss_cons (ps_if (pw_and (pt_cmpR op_in_seq (pe_ix ix_list (pv 2) pe_int (fun _ _ => rfl)) (pe_tup (pa_cons pe_str (pa_cons pe_str pa_nil))) (by with_unfolding_all rfl)) (pw_and1 (pt_cmpR op_eqI (pe_callB call_len_seq (by rfl) T.z_len b_len (pa_cons (pv 2) pa_nil)) pe_int (nomark _)))).pt
        (pss_one (ps_ret (pe_mtG (pv 0) ME_ring (hr.mono (by decide)) passesE (pa_cons (pv 2) pa_nil))))
        pss_nil)
      (pss_cons (ps_if (pw_and (pt_cmpR op_in_seq (pe_ix ix_list (pv 2) pe_int (fun _ _ => rfl)) (pe_tup (pa_cons pe_str (pa_cons pe_str (pa_cons pe_str pa_nil)))) (by with_unfolding_all rfl)) (pw_and1 (pt_cmpR op_geI (pe_callB call_len_seq (by rfl) T.z_len b_len (pa_cons (pv 2) pa_nil)) pe_int (nomark _)))).pt
        (pss_one (ps_ret (pe_mtG (pv 0) ME_listen (hr.mono (by decide)) passesE (pa_cons (pv 2) pa_nil))))
        pss_nil)
      (pss_cons (ps_if (pw_and (pt_cmpR op_eq (pe_ix ix_list (pv 2) pe_int (fun _ _ => rfl)) pe_str (nomark _)) (pw_and1 (pt_cmpR op_geI (pe_callB call_len_seq (by rfl) T.z_len b_len (pa_cons (pv 2) pa_nil)) pe_int (nomark _)))).pt
        (pss_one (ps_ret (pe_mtG (pv 0) ME_send_note (hr.mono (by decide)) passesE (pa_cons (pe_bm PySem.F.plainAttrs_str PySem.F.slot_str_split PySem.F.type_str_split mt_splitMax (pv 1) (pa_cons pe_str (pa_cons pe_int pa_nil))) pa_nil))))
        pss_nil)
      (pss_one (ps_ret (pe_fnG GE_choice_told (hr.mono (by decide)) (by rfl) passesE (pa_cons (pv 2) pa_nil)))))))))), ?_⟩
    refine ⟨_, rfl, _, _, _, true, rfl, TyOf.str _, kit_str_str K, _, rfl, iteF ?_⟩
    refine ⟨_, rfl, rfl, o, " ", rfl, rfl, bl_len, ol, fun a ha => ?_⟩
    rw [es]
    have sA : Same H (upd H a (.lst ((w0 :: ws).map V.str))) := Same.new ha
    have hA : (upd H a (.lst ((w0 :: ws).map V.str))) a = some (.lst ((w0 :: ws).map V.str)) := upd_same
    generalize upd H a (.lst ((w0 :: ws).map V.str)) = H1 at sA hA ⊢
    have h0 : atI ((w0 :: ws).map V.str) ((0 : Nat) : Int) = some (V.str w0) := atI_nat rfl
    have hx1 := sA _ _ hx
    have el : (((w0 :: ws).map V.str).length : Int) = (ws.length : Int) + 1 := by rw [List.length_map, List.length_cons]; omega
    dsimp only [gName]
    refine cut1 (fun σ' H' => σ' = [some (.ref x), some (.str o), some (.ref a)] ∧ H' = H1 ∧ ¬ (w0 = "frame" ∧ ws.length = 4)) ?_ (fun N hN => ?_)
    rotate_left
    · refine ⟨_, rfl, a, _, 0, _, rfl, rfl, SqL.of hA, h0, rfl, _, rfl, ifD (fun z => ⟨_, rfl, _, _, rfl, .inl (SqL.of hA), _, _, rfl, rfl, _, rfl, ?_⟩) (fun z => iteF (hN _ _ ⟨rfl, rfl, fun y => z (by rw [y.1])⟩))⟩
      rw [el]
      refine ifD (fun z2 => ⟨_, rfl, x, dx, _, rfl, hx1, fr1_no (by decide +kernel), _, rfl, ?_⟩) (fun z2 => hN _ _ ⟨rfl, rfl, fun y => by have := y.2; omega⟩)
      exact q1 (V.str.inj z) (by omega) a H1 sA hA
    rintro σ' H' ⟨rfl, rfl, n1⟩
    refine cut1 (fun σ' H2 => σ' = [some (.ref x), some (.str o), some (.ref a)] ∧ Same H' H2 ∧ ¬ ((w0 = "write" ∨ w0 = "key") ∧ ws.length = 2)) ?_ (fun N hN => ?_)
    rotate_left
    · refine ⟨_, rfl, a, _, 0, _, rfl, rfl, SqL.of hA, h0, (by show 2 ≤ sizeLine; decide), fun tp htp => ⟨tp, _, rfl, .inr (SqT.of upd_same), rfl, rfl, ?_⟩⟩
      have sT : Same H' (upd H' tp (.tup [V.str "write", V.str "key"])) := Same.new htp
      generalize upd H' tp (.tup [V.str "write", V.str "key"]) = H3 at sT ⊢
      refine ⟨inV (.str w0) [V.str "write", V.str "key"], rfl, ?_⟩
      rw [in2]
      refine ifD (fun z => ⟨_, rfl, _, _, rfl, .inl (SqL.of (sT _ _ hA)), _, _, rfl, rfl, _, rfl, ?_⟩) (fun z => iteF (hN _ _ ⟨rfl, sT, fun y => z y.1⟩))
      rw [el]
      refine ifD (fun z2 => ⟨_, rfl, x, dx, _, rfl, sT _ _ hx1, fr1_no (by decide +kernel), _, rfl, ?_⟩) (fun z2 => hN _ _ ⟨rfl, sT, fun y => by have := y.2; omega⟩)
      exact q2 z (by omega) a H3 (sA.trans sT) (sT _ _ hA)
    rintro σ' H2 ⟨rfl, s2, n2⟩
    have sA2 := sA.trans s2
    have hA2 := s2 _ _ hA
    have hx2 := s2 _ _ hx1
    refine cut1 (fun σ' H3 => σ' = [some (.ref x), some (.str o), some (.ref a)] ∧ Same H2 H3 ∧ ¬ ((w0 = "read" ∨ w0 = "unkey" ∨ w0 = "hear") ∧ 1 ≤ ws.length)) ?_ (fun N hN => ?_)
    rotate_left
    · refine ⟨_, rfl, a, _, 0, _, rfl, rfl, SqL.of hA2, h0, (by show 3 ≤ sizeLine; decide), fun tp htp => ⟨tp, _, rfl, .inr (SqT.of upd_same), rfl, rfl, ?_⟩⟩
      have sT : Same H2 (upd H2 tp (.tup [V.str "read", V.str "unkey", V.str "hear"])) := Same.new htp
      generalize upd H2 tp (.tup [V.str "read", V.str "unkey", V.str "hear"]) = H3 at sT ⊢
      refine ⟨inV (.str w0) [V.str "read", V.str "unkey", V.str "hear"], rfl, ?_⟩
      rw [in3]
      refine ifD (fun z => ⟨_, rfl, _, _, rfl, .inl (SqL.of (sT _ _ hA2)), _, _, rfl, rfl, _, rfl, ?_⟩) (fun z => iteF (hN _ _ ⟨rfl, sT, fun y => z y.1⟩))
      rw [el]
      refine ifD (fun z2 => ⟨_, rfl, x, dx, _, rfl, sT _ _ hx2, fr1_no (by decide +kernel), _, rfl, ?_⟩) (fun z2 => hN _ _ ⟨rfl, sT, fun y => by have := y.2; omega⟩)
      exact q3 z (by omega) a H3 (sA2.trans sT) (sT _ _ hA2)
    rintro σ' H3 ⟨rfl, s3, n3⟩
    have sA3 := sA2.trans s3
    have hA3 := s3 _ _ hA2
    have hx3 := s3 _ _ hx2
    refine cut1 (fun σ' H4 => σ' = [some (.ref x), some (.str o), some (.ref a)] ∧ H4 = H3 ∧ ¬ (w0 = "note" ∧ 2 ≤ ws.length)) ?_ (fun N hN => ?_)
    rotate_left
    · refine ⟨_, rfl, a, _, 0, _, rfl, rfl, SqL.of hA3, h0, rfl, _, rfl, ifD (fun z => ⟨_, rfl, _, _, rfl, .inl (SqL.of hA3), _, _, rfl, rfl, _, rfl, ?_⟩) (fun z => iteF (hN _ _ ⟨rfl, rfl, fun y => z (by rw [y.1])⟩))⟩
      rw [el]
      refine ifD (fun z2 => ⟨_, rfl, x, dx, _, rfl, hx3, fr1_no (by decide +kernel), ?_⟩) (fun z2 => hN _ _ ⟨rfl, rfl, fun y => by have := y.2; omega⟩)
      obtain ⟨zl, q6⟩ := q4 (V.str.inj z) (by omega)
      exact ⟨_, rfl, rfl, o, " ", 2, rfl, rfl, rfl, bl_len, ol, zl, fun b hb => q6 b _ (sA3.trans (Same.new hb)) upd_same⟩
    rintro σ' H4 ⟨rfl, rfl, n4⟩
    exact ⟨_, rfl, q5 n1 n2 n3 n4 a H4 sA3 hA3⟩
end
section
variable {P : Program} {w : World} {K : PySem.W.Frag} {mg : Str → Option Value} {base : Heap} {CD CO : Addr} {KP RG LS SN CHP : Sp} {x : Addr} {H : Hp} {Q : VK}
theorem bl_sp : (" " : Str) = sp := by decide +kernel
theorem glue_lenB (c : Nat) : ∀ xs : List (List Nat), (glueL c xs).length ≤ (xs.map List.length).sum + xs.length
  | [] => Nat.le_refl _
  | [x] => by simp [glueL]
  | x :: y :: r => by
    have := glue_lenB c (y :: r)
    show (x ++ c :: glueL c (y :: r)).length ≤ _
    rw [List.length_append, List.length_cons, List.map_cons, List.sum_cons, List.length_cons]
    omega
theorem join_lenB (ws : List Str) : (Txt.join " " ws).length ≤ (ws.map (·.length)).sum + ws.length := by
  rw [join_eq, ← cpl_len, show (" " : Str) = ⟨#[32]⟩ by decide +kernel, cpl_join]
  have := glue_lenB 32 (ws.map cpl)
  rw [List.map_map, List.length_map] at this
  have e : (ws.map (List.length ∘ cpl)) = ws.map (·.length) := List.map_congr_left fun x _ => cpl_len x
  rw [e] at this
  exact this
theorem tell_choice {w0 : Str} {ws : List Str} {dx d : Addr} (hx : H x = some (.ins CD dx (fr1 d))) (hw : ∀ y ∈ w0 :: ws, Word y) (hl : ((w0 :: ws).map (·.length)).sum + (ws.length + 1) + 2 ≤ sizeLine) (n1 : w0 ≠ "frame") (n2 : ¬ (w0 = "write" ∨ w0 = "key")) (n3 : ¬ (w0 = "read" ∨ w0 = "unkey" ∨ w0 = "hear")) (n4 : w0 ≠ "note")
    (q : ∀ a H', Same H H' → H' a = some (.lst ((w0 :: ws).map V.str)) → spChoice CHP [.ref a] H' Q (fun C _ H2 => E0 C none H2)) : spTold CD CO KP RG LS SN (spChoice CHP) [.ref x, .str (Txt.join " " (w0 :: ws))] H Q E0 := by
  refine ⟨x, dx, d, _, w0, ws, rfl, hx, ?_, ?_, fun z => absurd z n1, fun z => absurd z n2, fun z => absurd z n3, fun z => absurd z n4, fun _ _ _ _ a H' s h => q a H' s h⟩
  · have := join_lenB (w0 :: ws)
    rw [List.length_cons] at this
    omega
  · rw [bl_sp]
    exact split_join (by simp) hw
end
section
variable {P : Program} {w : World} {K : PySem.W.Frag} {mg : Str → Option Value} {base : Heap} {CD CO : Addr} {KP RG LS SN CHP : Sp}
noncomputable def spAsk (CD : Addr) : Sp := fun vs H Q _ => ∃ (x dx d : Addr) (c : Int), vs = [.ref x, .int c] ∧ H x = some (.ins CD dx (fr1 d)) ∧ ∀ H', Same H H' → Q (.bl true) H'
theorem wd_best : Word "best" := by unfold Word; decide +kernel
theorem sc__law_best : FnScope ["desk", "cell", "turns", "most", "late", "due", "words"] ["desk", "cell"] (defScope st__law_best) := ⟨rfl, rfl, rfl, by decide +kernel, rfl, by decide +kernel, by decide +kernel⟩
theorem ok_lbest (ND : NoDig K) (D : Def K mg "_law_best" st__law_best ["desk", "cell"]) (T : Txt K mg) (G__law_drawn : Fn P w K mg base 1 "_law_drawn" ["cell", "k"] spDr) (G__law_great : Fn P w K mg base 2 "_law_great" ["cell", "k"] spGreatL) (G__law_late : Fn P w K mg base 3 "_law_late" ["cell"] spLateL) (G_best_bells : Fn P w K mg base 3 "best_bells" ["turns", "late", "most"] spBest) (M_told : Mt P w K mg base 46 CD "told" ["self", "order"] (fun vs H Q _ => spTold CD CO KP RG LS SN (spChoice CHP) vs H Q E0)) : Fn P w K mg base 47 "_law_best" ["desk", "cell"] (spAsk CD) := by
  refine D.fn sc__law_best (fun vs H Q E h => ?_) (fun f cdv A outer s H vs Q E hr h => ?_)
  · obtain ⟨x, dx, d, c, rfl, _⟩ := h
    rfl
  · obtain ⟨x, dx, d, c, rfl, hx, q⟩ := h
    refine ⟨_, (pss_cons (ps_set (i := 2) sc__law_best.nd rfl (Or.inl rfl) (pe_op op_modB (pe_fn G__law_great (hr.mono (by decide)) (by rfl) (pa_cons (pv 1) (pa_cons pe_int pa_nil))) (pe_ix ix_list (pe_lst (pa_cons pe_int (pa_cons (pe_op op_powB pe_int pe_int) pa_nil))) (pe_op op_modB (pe_fn G__law_drawn (hr.mono (by decide)) (by rfl) (pa_cons (pv 1) (pa_cons pe_int pa_nil))) pe_int) (fun _ _ => rfl))))
      (pss_cons (ps_set (i := 3) sc__law_best.nd rfl (Or.inl rfl) (pe_op op_modB (pe_fn G__law_drawn (hr.mono (by decide)) (by rfl) (pa_cons (pv 1) (pa_cons pe_int pa_nil))) (pe_ix ix_list (pe_lst (pa_cons pe_int (pa_cons pe_int (pa_cons pe_int pa_nil)))) (pe_op op_modB (pe_fn G__law_drawn (hr.mono (by decide)) (by rfl) (pa_cons (pv 1) (pa_cons pe_int pa_nil))) pe_int) (fun _ _ => rfl))))
      (pss_cons (ps_set (i := 4) sc__law_best.nd rfl (Or.inl rfl) (pe_fn G__law_late (hr.mono (by decide)) (by rfl) (pa_cons (pv 1) pa_nil)))
      (pss_cons (ps_set (i := 5) sc__law_best.nd rfl (Or.inl rfl) (pe_callTy (call_strB ND) (by rfl) T.z_str b_str (pa_cons (pe_fn G_best_bells (hr.mono (by decide)) (by rfl) (pa_cons (pv 2) (pa_cons (pv 4) (pa_cons (pv 3) pa_nil)))) pa_nil)))
      (pss_cons (ps_set (i := 6) sc__law_best.nd rfl (Or.inl rfl) (pe_lst (pa_cons pe_str (pa_cons (pe_callTy (call_strB ND) (by rfl) T.z_str b_str (pa_cons (pv 2) pa_nil)) (pa_cons (pe_callTy (call_strB ND) (by rfl) T.z_str b_str (pa_cons (pv 4) pa_nil)) (pa_cons (pe_callTy (call_strB ND) (by rfl) T.z_str b_str (pa_cons (pv 3) pa_nil)) pa_nil))))))
      (pss_one (ps_ret (pe_cmpR op_eq (pe_mt (pv 0) M_told (hr.mono (by decide)) (pa_cons (pe_bm PySem.F.plainAttrs_str PySem.F.slot_str_join PySem.F.type_str_join mt_join pe_str (pa_cons (pv 6) pa_nil)) pa_nil)) (pv 5) (nomark _))))))))), ?_⟩
    refine ⟨_, rfl, c, 11, rfl, by decide, by decide, fun g g0 g1 => ⟨_, _, rfl, rfl, ⟨by decide, by decide, by decide⟩, (by show 2 ≤ sizeLine; decide), fun p hp => ?_⟩⟩
    have s1 : Same H (upd H p (.lst ([31, 10 ^ (50 : Int).toNat].map V.int))) := Same.new hp
    have h1 : (upd H p (.lst ([31, 10 ^ (50 : Int).toNat].map V.int))) p = some (.lst ([31, 10 ^ (50 : Int).toNat].map V.int)) := upd_same
    show _
    refine ⟨_, rfl, c, 13, rfl, by decide, fun d1 a0 a1 => ⟨_, _, rfl, rfl, by decide, ?_⟩⟩
    obtain ⟨y, hy, ym⟩ := at_ints (ns := [31, 10 ^ (50 : Int).toNat]) (Int.emod_nonneg d1 (show (2 : Int) ≠ 0 by decide)) (Int.emod_lt_of_pos d1 (show (0 : Int) < 2 by decide))
    have yb : 0 < y ∧ y ≤ 10 ^ 50 := by
      rcases List.mem_cons.mp ym with rfl | ym
      · exact ⟨by decide, by decide⟩
      · rw [List.mem_singleton.mp ym]; exact ⟨by decide, by decide⟩
    refine ⟨p, _, _, _, rfl, rfl, SqL.of upd_same, hy, _, _, rfl, rfl, by omega, ?_⟩
    have t0 := Int.emod_nonneg g (show y ≠ 0 by omega)
    have t1 := Int.emod_lt_of_pos g yb.1
    have tb : N60 (g % y) := ⟨t0, by omega⟩
    generalize g % y = t at tb
    generalize hH1 : upd H p _ = H1
    have s1 : Same H H1 := by rw [← hH1]; exact Same.new hp
    clear hH1
    refine ⟨_, rfl, c, 14, rfl, by decide, fun d2 b0 b1 => ⟨(by show 3 ≤ sizeLine; decide), fun p2 hp2 => ⟨_, rfl, c, 15, rfl, by decide, fun d3 e0 e1 => ⟨_, _, rfl, rfl, by decide, ?_⟩⟩⟩⟩
    obtain ⟨z, hz, zm⟩ := at_ints (ns := [13, 13, 61]) (Int.emod_nonneg d3 (show (3 : Int) ≠ 0 by decide)) (Int.emod_lt_of_pos d3 (show (0 : Int) < 3 by decide))
    have zb : 0 < z ∧ z ≤ 61 := by
      rcases List.mem_cons.mp zm with rfl | zm
      · exact ⟨by decide, by decide⟩
      rcases List.mem_cons.mp zm with rfl | zm
      · exact ⟨by decide, by decide⟩
      rw [List.mem_singleton.mp zm]; exact ⟨by decide, by decide⟩
    refine ⟨p2, _, _, _, rfl, rfl, SqL.of upd_same, hz, _, _, rfl, rfl, by omega, ?_⟩
    have m0 := Int.emod_nonneg d2 (show z ≠ 0 by omega)
    have m1 := Int.emod_lt_of_pos d2 zb.1
    have mb : 0 ≤ d2 % z ∧ d2 % z ≤ 60 := by omega
    generalize d2 % z = b at mb
    have nb : N60 b := ⟨mb.1, Int.lt_of_le_of_lt mb.2 (by decide)⟩
    generalize hH2 : upd H1 p2 _ = H2
    have s2 : Same H1 H2 := by rw [← hH2]; exact Same.new hp2
    clear hH2
    refine ⟨_, rfl, c, rfl, fun l H3 s3 l0 l1 => ?_⟩
    have hl : N60 l := ⟨l0, Int.lt_of_lt_of_le l1 (by decide)⟩
    refine ⟨_, rfl, _, rfl, _, rfl, t, l, b, rfl, l0, mb.1, by omega, bits_mono hl.bits (by decide), bits_mono tb.bits (by decide), fun u hu => ?_⟩
    have u0 := hu.1
    have u1 := hu.2.1
    have big : ∀ {n : Int}, N60 n → n.natAbs < 10 ^ 4300 := fun h => lgB h.lo (Int.lt_of_lt_of_le h.hi (by decide +kernel))
    have nu : N60 u := ⟨u0, Int.lt_of_le_of_lt (show u ≤ 60 by omega) (by decide)⟩
    refine ⟨u, rfl, big nu, ?_⟩
    refine ⟨_, rfl, t, rfl, big tb, _, rfl, l, rfl, big hl, _, rfl, b, rfl, big nb, (by show 4 ≤ sizeLine; decide), fun pw hpw => ?_⟩
    have hw : (upd H3 pw (.lst ([("best" : Str), txt t, txt l, txt b].map V.str))) pw = some (.lst ([("best" : Str), txt t, txt l, txt b].map V.str)) := upd_same
    have s4 : Same H3 (upd H3 pw (.lst ([("best" : Str), txt t, txt l, txt b].map V.str))) := Same.new hpw
    have s04 := ((s1.trans s2).trans s3).trans s4
    have k1 := tb.num.le
    have k2 := hl.num.le
    have k3 := nb.num.le
    have k0 : ("best" : Str).length = 4 := by decide +kernel
    have ks : (" " : Str).length = 1 := by decide +kernel
    refine ⟨_, rfl, x, dx, _, rfl, s04 _ _ hx, fr1_no (by decide +kernel), rfl, _, rfl, " ", pw, [("best" : Str), txt t, txt l, txt b], rfl, rfl, SqL.of hw, ?_, ?_⟩
    · simp only [List.map_cons, List.map_nil, List.sum_cons, List.sum_nil, List.length_cons, List.length_nil, k0, ks]
      omega
    refine tell_choice (CO := CO) (s04 _ _ hx) (fun y hy => ?_) ?_ (by decide +kernel) (by decide +kernel) (by decide +kernel) (by decide +kernel) (fun a H5 s5 h5 => ⟨a, _, rfl, h5, .inr (.inl ⟨t, l, b, rfl, tb, hl, mb.1, mb.2, fun v H6 s6 hv => ?_⟩)⟩)
    · rcases List.mem_cons.mp hy with rfl | hy
      · exact wd_best
      rcases List.mem_cons.mp hy with rfl | hy
      · exact word_txt tb.lo
      rcases List.mem_cons.mp hy with rfl | hy
      · exact word_txt hl.lo
      rw [List.mem_singleton.mp hy]
      exact word_txt nb.lo
    · rw [sizeLine_eq]
      simp only [List.map_cons, List.map_nil, List.sum_cons, List.sum_nil, List.length_cons, List.length_nil, k0]
      omega
    · rw [best_unique hv hu]
      refine ⟨_, rfl, rfl, ?_⟩
      rw [show decide (V.str (txt u) = V.str (toString u)) = true from decide_eq_true rfl]
      exact q H6 ((s04.trans s5).trans s6)
end
theorem seven_eq : ("7" : Str) = ⟨#[55]⟩ := by decide +kernel
theorem fold_reps (c : Nat) : ∀ (k : Nat) (a : Array Nat), (List.replicate k #[c]).foldl (· ++ ·) a = a ++ (List.replicate k c).toArray
  | 0, a => by simp
  | k + 1, a => by
    rw [List.replicate_succ, List.foldl_cons, fold_reps c k]
    apply Array.ext'
    simp [List.replicate_succ]
theorem cpl_mul7 {n : Int} (h : 0 ≤ n) : cpl (Txt.mul "7" n) = List.replicate n.toNat 55 := by
  rw [seven_eq]
  unfold Txt.mul
  by_cases h1 : n < 1
  · have : n = 0 := by omega
    subst this
    rw [if_pos (by decide)]
    rfl
  · rw [if_neg h1]
    by_cases h2 : n = 1
    · subst h2
      rw [if_pos (show ((1 : Int) == 1 || (⟨#[55]⟩ : Str).length == 0) = true from rfl)]
      rfl
    · have hb : (n == 1 || (⟨#[55]⟩ : Str).length == 0) = false := by
        rw [Bool.or_eq_false_iff]
        exact ⟨by simpa using h2, by simp [Str.length]⟩
      rw [if_neg (by rw [hb]; decide)]
      show (cpl (Str.mk ((List.replicate n.toNat #[55]).foldl (· ++ ·) #[]))) = _
      rw [fold_reps]
      simp [cpl]
theorem ok_mul7 {n : Int} (h : 0 ≤ n) (h1 : n ≤ 3000) : MulOk "7" n := by
  rw [seven_eq]
  have hl : (⟨#[55]⟩ : Str).length = 1 := rfl
  refine ⟨?_, fun h2 _ => ?_, fun _ _ => ?_⟩
  · have e1 : decide (n < -(2 ^ 63 : Int)) = false := decide_eq_false (by omega)
    have e2 : decide (n ≥ 2 ^ 63) = false := decide_eq_false (by omega)
    rw [e1, e2, Bool.or_false]
  · rw [hl]
    have : (3000 : Int) ≤ (2 ^ 63 - 1) / n := by
      rw [Int.le_ediv_iff_mul_le (by omega)]
      omega
    omega
  · rw [hl]
    unfold Builtin.Str.tooLong
    exact decide_eq_false (by rw [sizeLine_eq]; omega)
theorem num_sevens {n : Int} (h0 : 0 ≤ n) (h1 : n < 3000) : Num 3000 ("1" ++ Txt.mul "7" n) := by
  have e : cpl ("1" ++ Txt.mul "7" n) = 49 :: List.replicate n.toNat 55 := by
    rw [cpl_app, cpl_mul7 h0, show cpl ("1" : Str) = [49] by decide +kernel]
    rfl
  have l : ("1" ++ Txt.mul "7" n).length = n.toNat + 1 := by
    rw [← cpl_len, e, List.length_cons, List.length_replicate]
  refine ⟨by omega, by omega, ?_, fun z => ?_⟩
  · rw [e]
    intro c hc
    rcases List.mem_cons.mp hc with rfl | hc
    · decide
    · rw [List.eq_of_mem_replicate hc]; decide
  · rw [e] at z
    cases z
theorem len_sevens {n : Int} (h0 : 0 ≤ n) : (Txt.mul "7" n).length = n.toNat := by rw [← cpl_len, cpl_mul7 h0, List.length_replicate]
section
variable {P : Program} {w : World} {K : PySem.W.Frag} {mg : Str → Option Value} {base : Heap} {CD CO : Addr} {KP RG LS SN CHP : Sp}
theorem wd_short : Word "short" := by unfold Word; decide +kernel
noncomputable def DueS (b l m : Int) (u : Str) : Prop := (b = 0 → 1 < m → u = "none") ∧ ((b = 0 → m ≤ 1) → ∀ t, IsShort b l m t → u = txt t)
theorem sc__law_short : FnScope ["desk", "cell", "bells", "late", "many", "found", "due", "words"] ["desk", "cell"] (defScope st__law_short) := ⟨rfl, rfl, rfl, by decide +kernel, rfl, by decide +kernel, by decide +kernel⟩
theorem ok_lshort (ND : NoDig K) (D : Def K mg "_law_short" st__law_short ["desk", "cell"]) (T : Txt K mg) (G__law_drawn : Fn P w K mg base 1 "_law_drawn" ["cell", "k"] spDr) (G__law_late : Fn P w K mg base 3 "_law_late" ["cell"] spLateL) (G__law_many : Fn P w K mg base 3 "_law_many" ["cell"] spManyL) (G_shortest_frame : Fn P w K mg base 39 "shortest_frame" ["bells", "late", "many"] spShort) (M_told : Mt P w K mg base 46 CD "told" ["self", "order"] (fun vs H Q _ => spTold CD CO KP RG LS SN (spChoice CHP) vs H Q E0)) : Fn P w K mg base 47 "_law_short" ["desk", "cell"] (spAsk CD) := by
  refine D.fn sc__law_short (fun vs H Q E h => ?_) (fun f cdv A outer s H vs Q E hr h => ?_)
  · obtain ⟨x, dx, d, c, rfl, _⟩ := h
    rfl
  · obtain ⟨x, dx, d, c, rfl, hx, q⟩ := h
    refine ⟨_, (pss_cons (ps_set (i := 2) sc__law_short.nd rfl (Or.inl rfl) (pe_op op_modB (pe_fn G__law_drawn (hr.mono (by decide)) (by rfl) (pa_cons (pv 1) (pa_cons pe_int pa_nil))) (pe_ix ix_list (pe_lst (pa_cons pe_int (pa_cons pe_int (pa_cons pe_int pa_nil)))) (pe_op op_modB (pe_fn G__law_drawn (hr.mono (by decide)) (by rfl) (pa_cons (pv 1) (pa_cons pe_int pa_nil))) pe_int) (fun _ _ => rfl))))
      (pss_cons (ps_set (i := 3) sc__law_short.nd rfl (Or.inl rfl) (pe_fn G__law_late (hr.mono (by decide)) (by rfl) (pa_cons (pv 1) pa_nil)))
      (pss_cons (ps_set (i := 4) sc__law_short.nd rfl (Or.inl rfl) (pe_fn G__law_many (hr.mono (by decide)) (by rfl) (pa_cons (pv 1) pa_nil)))
      (pss_cons (ps_if (pt_cmpR op_eqI (pe_op op_modB (pe_fn G__law_drawn (hr.mono (by decide)) (by rfl) (pa_cons (pv 1) (pa_cons pe_int pa_nil))) pe_int) pe_int (nomark _))
        (pss_cons (ps_set (i := 2) sc__law_short.nd rfl (Or.inl rfl) (pe_op op_addI pe_int (pe_op op_modB (pv 2) pe_int)))
        (pss_one (ps_set (i := 4) sc__law_short.nd rfl (Or.inl rfl) (pe_callTy (call_intTB ND) (by rfl) T.z_int b_int (pa_cons (pe_op op_add_str pe_str (pe_op op_mulS pe_str (pe_op op_modB (pe_fn G__law_drawn (hr.mono (by decide)) (by rfl) (pa_cons (pv 1) (pa_cons pe_int pa_nil))) (pe_ix ix_list (pe_lst (pa_cons pe_int (pa_cons pe_int pa_nil))) (pe_op op_subI (pv 2) pe_int) (fun _ _ => rfl))))) pa_nil)))))
        pss_nil)
      (pss_cons (ps_set (i := 5) sc__law_short.nd rfl (Or.inl rfl) (pe_fn G_shortest_frame (hr.mono (by decide)) (by rfl) (pa_cons (pv 2) (pa_cons (pv 3) (pa_cons (pv 4) pa_nil)))))
      (pss_cons (ps_set (i := 6) sc__law_short.nd rfl (Or.inl rfl) pe_str)
      (pss_cons (ps_if (pt_cmpR op_notN (pv 5) pe_non (nomark _))
        (pss_one (ps_set (i := 6) sc__law_short.nd rfl (Or.inl rfl) (pe_callTy (call_strB ND) (by rfl) T.z_str b_str (pa_cons (pv 5) pa_nil))))
        pss_nil)
      (pss_cons (ps_set (i := 7) sc__law_short.nd rfl (Or.inl rfl) (pe_lst (pa_cons pe_str (pa_cons (pe_callTy (call_strB ND) (by rfl) T.z_str b_str (pa_cons (pv 2) pa_nil)) (pa_cons (pe_callTy (call_strB ND) (by rfl) T.z_str b_str (pa_cons (pv 3) pa_nil)) (pa_cons (pe_callTy (call_strB ND) (by rfl) T.z_str b_str (pa_cons (pv 4) pa_nil)) pa_nil))))))
      (pss_one (ps_ret (pe_cmpR op_eq (pe_mt (pv 0) M_told (hr.mono (by decide)) (pa_cons (pe_bm PySem.F.plainAttrs_str PySem.F.slot_str_join PySem.F.type_str_join mt_join pe_str (pa_cons (pv 7) pa_nil)) pa_nil)) (pv 6) (nomark _)))))))))))), ?_⟩
    refine ⟨_, rfl, c, 7, rfl, by decide, fun d2 b0 b1 => ⟨(by show 3 ≤ sizeLine; decide), fun p2 hp2 => ⟨_, rfl, c, 8, rfl, by decide, fun d3 e0 e1 => ⟨_, _, rfl, rfl, by decide, ?_⟩⟩⟩⟩
    obtain ⟨z, hz, zm⟩ := at_ints (ns := [13, 13, 61]) (Int.emod_nonneg d3 (show (3 : Int) ≠ 0 by decide)) (Int.emod_lt_of_pos d3 (show (0 : Int) < 3 by decide))
    have zb : 0 < z ∧ z ≤ 61 := by
      rcases List.mem_cons.mp zm with rfl | zm
      · exact ⟨by decide, by decide⟩
      rcases List.mem_cons.mp zm with rfl | zm
      · exact ⟨by decide, by decide⟩
      rw [List.mem_singleton.mp zm]; exact ⟨by decide, by decide⟩
    refine ⟨p2, _, _, _, rfl, rfl, SqL.of upd_same, hz, _, _, rfl, rfl, by omega, ?_⟩
    have m0 := Int.emod_nonneg d2 (show z ≠ 0 by omega)
    have m1 := Int.emod_lt_of_pos d2 zb.1
    have mb : 0 ≤ d2 % z ∧ d2 % z ≤ 60 := by omega
    generalize d2 % z = bb at mb
    generalize hH1 : upd H p2 _ = H1
    have s1 : Same H H1 := by rw [← hH1]; exact Same.new hp2
    clear hH1
    refine ⟨_, rfl, c, rfl, fun l H2 s2 l0 l1 => ?_⟩
    have hl : N60 l := ⟨l0, Int.lt_of_lt_of_le l1 (by decide)⟩
    refine ⟨_, rfl, c, rfl, fun mm H3 s3 mm0 mm1 => ?_⟩
    have s03 := (s1.trans s2).trans s3
    try dsimp only [gName]
    change tSeq (tIfS _ _ _) _ _ _ _
    refine cut1 (fun σ H4 => ∃ b m : Int, σ = [some (.ref x), some (.int c), some (.int b), some (.int l), some (.int m), none, none, none] ∧ Same H H4 ∧ 0 ≤ b ∧ b ≤ 60 ∧ 0 ≤ m ∧ m < 10 ^ 3000) ?t1 (fun N hN => ⟨_, rfl, c, 9, rfl, by decide, fun d4 f0 f1 => ⟨_, _, rfl, rfl, by decide, _, _, rfl, rfl, _, rfl, ifD (fun _ => ?t2) (fun _ => hN _ _ ⟨bb, mm, rfl, s03, mb.1, mb.2, mm0, Int.lt_trans mm1 (by decide +kernel)⟩)⟩⟩)
    case t2 =>
      have r0 := Int.emod_nonneg bb (show (2 : Int) ≠ 0 by decide)
      have r1 := Int.emod_lt_of_pos bb (show (0 : Int) < 2 by decide)
      refine ⟨_, rfl, _, _, rfl, rfl, by decide, _, _, rfl, rfl, ?_⟩
      generalize bb % 2 = r at r0 r1
      refine ⟨_, rfl, c, 10, rfl, by decide, fun d5 g0 g1 => ⟨(by show 2 ≤ sizeLine; decide), fun p3 hp3 => ⟨_, rfl, _, _, rfl, rfl, ?_⟩⟩⟩
      obtain ⟨y, hy, ym⟩ := at_ints (ns := [3000, 300]) (k := 1 + r - 1) (by omega) (by simp; omega)
      have yb : 0 < y ∧ y ≤ 3000 := by
        rcases List.mem_cons.mp ym with rfl | ym
        · exact ⟨by decide, by decide⟩
        rw [List.mem_singleton.mp ym]; exact ⟨by decide, by decide⟩
      refine ⟨p3, _, _, _, rfl, rfl, SqL.of upd_same, hy, _, _, rfl, rfl, by omega, ?_⟩
      have k0 := Int.emod_nonneg d5 (show y ≠ 0 by omega)
      have k1 := Int.emod_lt_of_pos d5 yb.1
      generalize d5 % y = kk at k0 k1
      have nk := num_sevens k0 (by omega)
      have e1 : ("1" : Str).length = 1 := by decide +kernel
      refine ⟨_, _, rfl, rfl, ok_mul7 k0 (by omega), _, _, rfl, rfl, by rw [e1, len_sevens k0, sizeLine_eq]; omega, _, numV ("1" ++ Txt.mul "7" kk), rfl, num_reads nk (by decide), Nat.le_trans nk.le (by decide), ?_⟩
      exact hN _ _ ⟨1 + r, _, rfl, s03.put hp3, by omega, by omega, numV_nn _, numV_lt nk⟩
    rintro σ H4 ⟨b, m, rfl, s4, b0, b60, m0, m1⟩
    have mbit : intBits m ≤ 40000 := bits_mono (bits_of m0 (Int.lt_of_lt_of_le m1 p3000B)) (by decide)
    have nb : N60 b := ⟨b0, Int.lt_of_le_of_lt b60 (by decide)⟩
    have nm := num_txt (k := 3000) (by decide) m0 m1
    have big : ∀ {n : Int}, N60 n → n.natAbs < 10 ^ 4300 := fun h => lgB h.lo (Int.lt_of_lt_of_le h.hi (by decide +kernel))
    refine ⟨_, rfl, _, rfl, _, rfl, b, l, m, rfl, b0, b60, l0, m0, bits_mono hl.bits (by decide), mbit, fun z0 z1 => ?a, fun hz t ht _ => ?b⟩
    case' a =>
      refine ⟨_, rfl, rfl, _, rfl, ifND (fun n => absurd rfl n) (fun _ => ?_)⟩
      have due : DueS b l m "none" := ⟨fun _ _ => rfl, fun y => absurd (y z0) (by omega)⟩
    case' b =>
      have tb := big_short b0 b60 hl m0 m1 hz ht
      refine ⟨_, rfl, rfl, _, rfl, ifND (fun _ => ⟨_, rfl, t, rfl, lgB tb.1 tb.2, ?_⟩) (fun y => nomatch y)⟩
      have due : DueS b l m (txt t) := ⟨fun y0 y1 => absurd (hz y0) (by omega), fun _ t' ht' => by rw [short_unique b0 l0 ht ht']⟩
    all_goals
      refine ⟨_, rfl, b, rfl, big nb, _, rfl, l, rfl, big hl, _, rfl, m, rfl, lgB m0 (Int.lt_of_lt_of_le m1 (by decide +kernel)), (by show 4 ≤ sizeLine; decide), fun pw hpw => ?_⟩
      have hw : (upd H4 pw (.lst ([("short" : Str), txt b, txt l, txt m].map V.str))) pw = some (.lst ([("short" : Str), txt b, txt l, txt m].map V.str)) := upd_same
      have s5 : Same H4 (upd H4 pw (.lst ([("short" : Str), txt b, txt l, txt m].map V.str))) := Same.new hpw
      have s05 := s4.trans s5
      have k1 := nb.num.le
      have k2 := hl.num.le
      have k3 := nm.le
      have k0 : ("short" : Str).length = 5 := by decide +kernel
      have ks : (" " : Str).length = 1 := by decide +kernel
      refine ⟨_, rfl, x, dx, _, rfl, s05 _ _ hx, fr1_no (by decide +kernel), rfl, _, rfl, " ", pw, [("short" : Str), txt b, txt l, txt m], rfl, rfl, SqL.of hw, ?_, ?_⟩
      · simp only [List.map_cons, List.map_nil, List.sum_cons, List.sum_nil, List.length_cons, List.length_nil, k0, ks]
        omega
      refine tell_choice (CO := CO) (s05 _ _ hx) (fun y hy => ?_) ?_ (by decide +kernel) (by decide +kernel) (by decide +kernel) (by decide +kernel) (fun a H5 s6 h5 => ⟨a, _, rfl, h5, .inl ⟨b, l, m, rfl, b0, b60, hl, m0, m1, fun y0 y1 H6 s7 => ?_, fun y t' H6 s7 ht' => ?_⟩⟩)
      · rcases List.mem_cons.mp hy with rfl | hy
        · exact wd_short
        rcases List.mem_cons.mp hy with rfl | hy
        · exact word_txt nb.lo
        rcases List.mem_cons.mp hy with rfl | hy
        · exact word_txt hl.lo
        rw [List.mem_singleton.mp hy]
        exact word_txt m0
      · rw [sizeLine_eq]
        simp only [List.map_cons, List.map_nil, List.sum_cons, List.sum_nil, List.length_cons, List.length_nil, k0]
        omega
      · exact ⟨_, rfl, rfl, Eq.mpr (congrArg (fun bo => Q (V.bl bo) H6) (decide_eq_true (congrArg V.str (due.1 y0 y1).symm))) (q H6 ((s05.trans s6).trans s7))⟩
      · exact ⟨_, rfl, rfl, Eq.mpr (congrArg (fun bo => Q (V.bl bo) H6) (decide_eq_true (congrArg V.str (due.2 y t' ht').symm))) (q H6 ((s05.trans s6).trans s7))⟩
end
section
variable {P : Program} {w : World} {K : PySem.W.Frag} {mg : Str → Option Value} {base : Heap} {CD CO : Addr} {KP RG LS SN : Sp}
theorem wd_cheap : Word "cheap" := by unfold Word; decide +kernel
theorem at_two {ns : List Int} (h : ns.length = 2) : ∃ a b, ns = [a, b] := by
  match ns, h with
  | [a, b], _ => exact ⟨a, b, rfl⟩
theorem sc__law_cheap : FnScope ["desk", "cell", "many", "late", "costs", "k", "most", "found", "due", "words"] ["desk", "cell"] (defScope st__law_cheap) := ⟨rfl, rfl, rfl, by decide +kernel, rfl, by decide +kernel, by decide +kernel⟩
theorem ok_lcheap (ND : NoDig K) (D : Def K mg "_law_cheap" st__law_cheap ["desk", "cell"]) (T : Txt K mg) (G__law_drawn : Fn P w K mg base 1 "_law_drawn" ["cell", "k"] spDr) (G__law_great : Fn P w K mg base 2 "_law_great" ["cell", "k"] spGreatL) (G__law_late : Fn P w K mg base 3 "_law_late" ["cell"] spLateL) (G__law_many : Fn P w K mg base 3 "_law_many" ["cell"] spManyL) (G_cheapest : Fn P w K mg base 40 "cheapest" ["many", "late", "turn_cost", "bell_cost", "most"] spCheap) (M_told : Mt P w K mg base 46 CD "told" ["self", "order"] (fun vs H Q _ => spTold CD CO KP RG LS SN (spChoice spCheapT) vs H Q E0)) : Fn P w K mg base 47 "_law_cheap" ["desk", "cell"] (spAsk CD) := by
  refine D.fn sc__law_cheap (fun vs H Q E h => ?_) (fun f cdv A outer s H vs Q E hr h => ?_)
  · obtain ⟨x, dx, d, c, rfl, _⟩ := h
    rfl
  · obtain ⟨x, dx, d, c, rfl, hx, q⟩ := h
    refine ⟨_, (pss_cons (ps_set (i := 2) sc__law_cheap.nd rfl (Or.inl rfl) (pe_fn G__law_many (hr.mono (by decide)) (by rfl) (pa_cons (pv 1) pa_nil)))
      (pss_cons (ps_set (i := 3) sc__law_cheap.nd rfl (Or.inl rfl) (pe_fn G__law_late (hr.mono (by decide)) (by rfl) (pa_cons (pv 1) pa_nil)))
      (pss_cons (ps_set (i := 4) sc__law_cheap.nd rfl (Or.inl rfl) (pe_lst pa_nil))
      (pss_cons (ps_for PassesOwn.never rfl (pi_range1 (by rfl) T.z_range (pa_cons pe_int pa_nil)) (pg_name (i := 5) sc__law_cheap.nd rfl (Or.inl rfl))
        (pss_one (ps_expr (pe_bm PySem.F.plainAttrs_list PySem.F.slot_list_append PySem.F.type_list_append mt_append (pv 4) (pa_cons (pe_ix ix_list (pe_lst (pa_cons (pe_op op_modB (pe_fn G__law_drawn (hr.mono (by decide)) (by rfl) (pa_cons (pv 1) (pa_cons (pe_op op_addI pe_int (pv 5)) pa_nil))) pe_int) (pa_cons (pe_fn G__law_great (hr.mono (by decide)) (by rfl) (pa_cons (pv 1) (pa_cons (pe_op op_addI pe_int (pv 5)) pa_nil))) pa_nil))) (pe_op op_modB (pe_fn G__law_drawn (hr.mono (by decide)) (by rfl) (pa_cons (pv 1) (pa_cons (pe_op op_addI pe_int (pv 5)) pa_nil))) pe_int) (fun _ _ => rfl)) pa_nil)))))
      (pss_cons (ps_set (i := 6) sc__law_cheap.nd rfl (Or.inl rfl) (pe_op op_modB (pe_fn G__law_drawn (hr.mono (by decide)) (by rfl) (pa_cons (pv 1) (pa_cons pe_int pa_nil))) (pe_ix ix_list (pe_lst (pa_cons pe_int (pa_cons pe_int (pa_cons pe_int pa_nil)))) (pe_op op_modB (pe_fn G__law_drawn (hr.mono (by decide)) (by rfl) (pa_cons (pv 1) (pa_cons pe_int pa_nil))) pe_int) (fun _ _ => rfl))))
      (pss_cons (ps_if (pt_cmpR op_gtI (pv 6) pe_int (nomark _))
        (pss_one (ps_set (i := 2) sc__law_cheap.nd rfl (Or.inl rfl) (pe_op op_modB (pv 2) pe_int)))
        pss_nil)
      (pss_cons (ps_if (pt_cmpR op_eqI (pe_op op_modB (pe_fn G__law_drawn (hr.mono (by decide)) (by rfl) (pa_cons (pv 1) (pa_cons pe_int pa_nil))) pe_int) pe_int (nomark _))
        (pss_cons (ps_set (i := 6) sc__law_cheap.nd rfl (Or.inl rfl) (pe_op op_modB (pv 6) pe_int))
        (pss_one (ps_set (i := 2) sc__law_cheap.nd rfl (Or.inl rfl) (pe_callTy (call_intTB ND) (by rfl) T.z_int b_int (pa_cons (pe_op op_add_str pe_str (pe_op op_mulS pe_str (pe_op op_modB (pe_fn G__law_drawn (hr.mono (by decide)) (by rfl) (pa_cons (pv 1) (pa_cons pe_int pa_nil))) pe_int))) pa_nil)))))
        pss_nil)
      (pss_cons (ps_set (i := 7) sc__law_cheap.nd rfl (Or.inl rfl) (pe_fn G_cheapest (hr.mono (by decide)) (by rfl) (pa_cons (pv 2) (pa_cons (pv 3) (pa_cons (pe_ix ix_list (pv 4) pe_int (fun _ _ => rfl)) (pa_cons (pe_ix ix_list (pv 4) pe_int (fun _ _ => rfl)) (pa_cons (pv 6) pa_nil)))))))
      (pss_cons (ps_set (i := 8) sc__law_cheap.nd rfl (Or.inl rfl) pe_str)
      (pss_cons (ps_if (pt_cmpR op_notN (pv 7) pe_non (nomark _))
        (pss_one (ps_set (i := 8) sc__law_cheap.nd rfl (Or.inl rfl) (pe_op op_add_str (pe_op op_add_str (pe_op op_add_str (pe_op op_add_str (pe_op op_add_str (pe_callTy (call_strB ND) (by rfl) T.z_str b_str (pa_cons (pe_ix ix_tup (pv 7) pe_int (fun _ _ => rfl)) pa_nil)) pe_str) (pe_callTy (call_strB ND) (by rfl) T.z_str b_str (pa_cons (pe_ix ix_tup (pv 7) pe_int (fun _ _ => rfl)) pa_nil))) pe_str) (pe_callTy (call_strB ND) (by rfl) T.z_str b_str (pa_cons (pe_ix ix_tup (pv 7) pe_int (fun _ _ => rfl)) pa_nil))) pe_str)))
        pss_nil)
      (pss_cons (ps_set (i := 9) sc__law_cheap.nd rfl (Or.inl rfl) (pe_lst (pa_cons pe_str (pa_cons (pe_callTy (call_strB ND) (by rfl) T.z_str b_str (pa_cons (pv 2) pa_nil)) (pa_cons (pe_callTy (call_strB ND) (by rfl) T.z_str b_str (pa_cons (pv 3) pa_nil)) (pa_cons (pe_callTy (call_strB ND) (by rfl) T.z_str b_str (pa_cons (pe_ix ix_list (pv 4) pe_int (fun _ _ => rfl)) pa_nil)) (pa_cons (pe_callTy (call_strB ND) (by rfl) T.z_str b_str (pa_cons (pe_ix ix_list (pv 4) pe_int (fun _ _ => rfl)) pa_nil)) (pa_cons (pe_callTy (call_strB ND) (by rfl) T.z_str b_str (pa_cons (pv 6) pa_nil)) pa_nil))))))))
      (pss_one (ps_ret (pe_cmpR op_eq (pe_mt (pv 0) M_told (hr.mono (by decide)) (pa_cons (pe_bm PySem.F.plainAttrs_str PySem.F.slot_str_join PySem.F.type_str_join mt_join pe_str (pa_cons (pv 9) pa_nil)) pa_nil)) (pv 8) (nomark _))))))))))))))), ?_⟩
    refine ⟨_, rfl, c, rfl, fun mm H1 s1 mm0 mm1 => ?_⟩
    refine ⟨_, rfl, c, rfl, fun l H2 s2 l0 l1 => ?_⟩
    have hl : N60 l := ⟨l0, Int.lt_of_lt_of_le l1 (by decide)⟩
    refine ⟨(by decide), fun pc hpc => ?_⟩
    have s02 := s1.trans s2
    refine ⟨_, rfl, by decide, by decide, for_range (n := 2) (fun i σ H3 => ∃ (cs : List Int) (v5 : Option V), σ = [some (.ref x), some (.int c), some (.int mm), some (.int l), some (.ref pc), v5, none, none, none, none] ∧ Same H2 H3 ∧ H3 pc = some (.lst (cs.map V.int)) ∧ cs.length = i ∧ ∀ y ∈ cs, N60 y) ⟨[], none, rfl, Same.new hpc, upd_same, rfl, (fun _ z => nomatch z)⟩ ?_ ?_⟩
    · rintro i σ H3 hi ⟨cs, v5, rfl, s3, h3, cl, cb⟩
      rw [show (0 : Int) + (i : Int) = (i : Int) by omega]
      refine ⟨_, rfl, .inl ⟨rfl, _, SqL.of h3⟩, _, rfl, _, rfl, _, _, rfl, rfl, c, 16 + (i : Int), rfl, bits_of (by omega) (by omega), fun d1 a0 a1 => ⟨_, _, rfl, rfl, by decide, _, rfl, _, rfl, _, _, rfl, rfl, c, 16 + (i : Int), rfl, by omega, by omega, fun g g0 g1 => ⟨(by show 2 ≤ sizeLine; decide), fun p hp => ⟨_, rfl, _, rfl, _, _, rfl, rfl, c, 18 + (i : Int), rfl, bits_of (by omega) (by omega), fun d2 e0 e1 => ⟨_, _, rfl, rfl, by decide, ?_⟩⟩⟩⟩⟩
      obtain ⟨y, hy, ym⟩ := at_ints (ns := [d1 % 10, g]) (Int.emod_nonneg d2 (show (2 : Int) ≠ 0 by decide)) (Int.emod_lt_of_pos d2 (show (0 : Int) < 2 by decide))
      have yb : N60 y := by
        rcases List.mem_cons.mp ym with rfl | ym
        · exact ⟨Int.emod_nonneg _ (by decide), Int.lt_trans (Int.emod_lt_of_pos _ (show (0 : Int) < 10 by decide)) (by decide)⟩
        rw [List.mem_singleton.mp ym]; exact ⟨g0, Int.lt_of_lt_of_le g1 (by decide)⟩
      refine ⟨p, _, _, _, rfl, rfl, SqL.of upd_same, hy, ?_⟩
      have npc : pc ≠ p := (ne_of_none h3 hp)
      refine ⟨pc, _, _, rfl, rfl, (Same.new hp) _ _ h3, by rw [List.length_map]; exact small1000 (by omega), ?_⟩
      refine ⟨cs ++ [y], _, rfl, (s3.put hp).wr hpc, by rw [upd_same, List.map_append]; rfl, by rw [List.length_append, cl]; rfl, fun z hz => ?_⟩
      rcases List.mem_append.mp hz with z' | z'
      · exact cb z z'
      · rw [List.mem_singleton.mp z']; exact yb
    rintro σ H3 ⟨cs, v5, rfl, s3, h3, cl, cb⟩
    obtain ⟨tc, bc, rfl⟩ := at_two cl
    have ht : N60 tc := cb tc (by simp)
    have hc : N60 bc := cb bc (by simp)
    have s03 := s02.trans s3
    refine ⟨_, rfl, c, 20, rfl, by decide, fun d2 b0 b1 => ⟨(by show 3 ≤ sizeLine; decide), fun p2 hp2 => ⟨_, rfl, c, 21, rfl, by decide, fun d3 e0 e1 => ⟨_, _, rfl, rfl, by decide, ?_⟩⟩⟩⟩
    obtain ⟨z, hz, zm⟩ := at_ints (ns := [13, 13, 61]) (Int.emod_nonneg d3 (show (3 : Int) ≠ 0 by decide)) (Int.emod_lt_of_pos d3 (show (0 : Int) < 3 by decide))
    have zb : 0 < z ∧ z ≤ 61 := by
      rcases List.mem_cons.mp zm with rfl | zm
      · exact ⟨by decide, by decide⟩
      rcases List.mem_cons.mp zm with rfl | zm
      · exact ⟨by decide, by decide⟩
      rw [List.mem_singleton.mp zm]; exact ⟨by decide, by decide⟩
    refine ⟨p2, _, _, _, rfl, rfl, SqL.of upd_same, hz, _, _, rfl, rfl, by omega, ?_⟩
    have m0 := Int.emod_nonneg d2 (show z ≠ 0 by omega)
    have m1 := Int.emod_lt_of_pos d2 zb.1
    have mb : 0 ≤ d2 % z ∧ d2 % z ≤ 60 := by omega
    generalize d2 % z = bb at mb
    generalize hH4 : upd H3 p2 _ = H4
    have s4 : Same H3 H4 := by rw [← hH4]; exact Same.new hp2
    have h4 := s4 _ _ h3
    clear hH4
    have s04 := s03.trans s4
    try dsimp only [gName]
    change tSeq (tIfS _ _ _) _ _ _ _
    refine cut1 (fun σ H5 => ∃ m : Int, σ = [some (.ref x), some (.int c), some (.int m), some (.int l), some (.ref pc), v5, some (.int bb), none, none, none] ∧ H5 = H4 ∧ 0 ≤ m ∧ m < 10 ^ 59) ?t1 (fun N hN => ⟨_, rfl, _, _, rfl, rfl, _, rfl, ifD (fun _ => ⟨_, rfl, _, _, rfl, rfl, by decide, hN _ _ ⟨_, rfl, rfl, Int.emod_nonneg _ (by decide), Int.lt_trans (Int.emod_lt_of_pos _ (show (0 : Int) < 1001 by decide)) (by decide)⟩⟩) (fun _ => hN _ _ ⟨mm, rfl, rfl, mm0, mm1⟩)⟩)
    rintro σ H5 ⟨m2, rfl, rfl, m20, m21⟩
    try dsimp only [gName]
    change tSeq (tIfS _ _ _) _ _ _ _
    refine cut1 (fun σ H6 => ∃ m b : Int, σ = [some (.ref x), some (.int c), some (.int m), some (.int l), some (.ref pc), v5, some (.int b), none, none, none] ∧ H6 = H5 ∧ 0 ≤ b ∧ b ≤ 60 ∧ 0 ≤ m ∧ m < 10 ^ 3000) ?t2 (fun N hN => ⟨_, rfl, c, 9, rfl, by decide, fun d4 f0 f1 => ⟨_, _, rfl, rfl, by decide, _, _, rfl, rfl, _, rfl, ifD (fun _ => ?t3) (fun _ => hN _ _ ⟨m2, bb, rfl, rfl, mb.1, mb.2, m20, Int.lt_trans m21 (by decide +kernel)⟩)⟩⟩)
    case t3 =>
      have r0 := Int.emod_nonneg bb (show (2 : Int) ≠ 0 by decide)
      have r1 := Int.emod_lt_of_pos bb (show (0 : Int) < 2 by decide)
      refine ⟨_, rfl, _, _, rfl, rfl, by decide, ?_⟩
      refine ⟨_, rfl, c, 10, rfl, by decide, fun d5 g0 g1 => ⟨_, _, rfl, rfl, by decide, ?_⟩⟩
      have k0 := Int.emod_nonneg d5 (show (3000 : Int) ≠ 0 by decide)
      have k1 := Int.emod_lt_of_pos d5 (show (0 : Int) < 3000 by decide)
      generalize d5 % 3000 = kk at k0 k1
      have nk := num_sevens k0 (by omega)
      have e1 : ("1" : Str).length = 1 := by decide +kernel
      refine ⟨_, _, rfl, rfl, ok_mul7 k0 (by omega), _, _, rfl, rfl, by rw [e1, len_sevens k0, sizeLine_eq]; omega, _, numV ("1" ++ Txt.mul "7" kk), rfl, num_reads nk (by decide), Nat.le_trans nk.le (by decide), ?_⟩
      exact hN _ _ ⟨_, _, rfl, rfl, r0, by omega, numV_nn _, numV_lt nk⟩
    rintro σ H6 ⟨m, b, rfl, rfl, b0, b60, m0, m1⟩
    have mbit : intBits m ≤ 40000 := bits_mono (bits_of m0 (Int.lt_of_lt_of_le m1 p3000B)) (by decide)
    have nb : N60 b := ⟨b0, Int.lt_of_le_of_lt b60 (by decide)⟩
    have nm := num_txt (k := 3000) (by decide) m0 m1
    have big : ∀ {n : Int}, N60 n → n.natAbs < 10 ^ 4300 := fun h => lgB h.lo (Int.lt_of_lt_of_le h.hi (by decide +kernel))
    refine ⟨_, rfl, _, rfl, _, rfl, _, _, _, _, rfl, rfl, SqL.of h4, rfl, _, rfl, _, _, _, _, rfl, rfl, SqL.of h4, rfl, _, rfl, m, l, tc, bc, b, rfl, b0, b60, l0, m0, bits_mono hl.bits (by decide), mbit, bits_mono ht.bits (by decide), bits_mono hc.bits (by decide), fun v H7 s7 B => ?_⟩
    have h7 := s7 _ _ h4
    have s07 := s04.trans s7
    generalize hx' : bestL (listS tc bc l m (b + 1).toNat) = ox at B
    cases B
    case' non =>
      refine ⟨_, rfl, rfl, _, rfl, ifND (fun n => absurd rfl n) (fun _ => ?_)⟩
      have due : ("none" : Str) = cheapTxt (bestL (listS tc bc l m (b + 1).toNat)) := by rw [hx']; rfl
    case' tup p y hp =>
      obtain ⟨⟨c0, c1⟩, ⟨d0, d1⟩, e0, e1⟩ := big_cheap b0 b60 hl ht hc m0 m1 hx'
      have k1 := txt_lenB c0 c1
      have k2 := txt_lenB d0 d1
      have k3 := txt_lenB e0 e1
      have f1 : (" for " : Str).length = 5 := by decide +kernel
      have f2 : (" turns and " : Str).length = 11 := by decide +kernel
      have f3 : (" bells" : Str).length = 6 := by decide +kernel
      refine ⟨_, rfl, rfl, _, rfl, ifND (fun _ => ?_) (fun y => nomatch y)⟩
      refine ⟨_, rfl, _, _, _, _, rfl, rfl, SqT.of hp, rfl, y.1, rfl, lgB c0 c1, txt y.1, " for ", rfl, rfl, by rw [f1, sizeLine_eq]; omega, _, rfl, _, _, _, _, rfl, rfl, SqT.of hp, rfl, y.2.1, rfl, lgB d0 d1, txt y.1 ++ " for ", txt y.2.1, rfl, rfl, by rw [app_lenB, f1, sizeLine_eq]; omega, _, " turns and ", rfl, rfl, by rw [app_lenB, app_lenB, f1, f2, sizeLine_eq]; omega, ?_⟩
      refine ⟨_, rfl, _, _, _, _, rfl, rfl, SqT.of hp, rfl, y.2.2, rfl, lgB e0 e1, txt y.1 ++ " for " ++ txt y.2.1 ++ " turns and ", txt y.2.2, rfl, rfl, by rw [app_lenB, app_lenB, app_lenB, f1, f2, sizeLine_eq]; omega, txt y.1 ++ " for " ++ txt y.2.1 ++ " turns and " ++ txt y.2.2, " bells", rfl, rfl, by rw [app_lenB, app_lenB, app_lenB, app_lenB, f1, f2, f3, sizeLine_eq]; omega, ?_⟩
      have due : txt y.1 ++ " for " ++ txt y.2.1 ++ " turns and " ++ txt y.2.2 ++ " bells" = cheapTxt (bestL (listS tc bc l m (b + 1).toNat)) := by rw [hx']; rfl
    all_goals
      refine ⟨_, rfl, m, rfl, lgB m0 (Int.lt_of_lt_of_le m1 (by decide +kernel)), _, rfl, l, rfl, big hl, _, rfl, _, _, _, _, rfl, rfl, SqL.of h7, rfl, tc, rfl, big ht, _, rfl, _, _, _, _, rfl, rfl, SqL.of h7, rfl, bc, rfl, big hc, _, rfl, b, rfl, big nb, (by show 6 ≤ sizeLine; decide), fun pw hpw => ?_⟩
      have hw : (upd H7 pw (.lst ([("cheap" : Str), txt m, txt l, txt tc, txt bc, txt b].map V.str))) pw = some (.lst ([("cheap" : Str), txt m, txt l, txt tc, txt bc, txt b].map V.str)) := upd_same
      have s8 : Same H7 (upd H7 pw (.lst ([("cheap" : Str), txt m, txt l, txt tc, txt bc, txt b].map V.str))) := Same.new hpw
      have s08 := s07.trans s8
      have w1 := nb.num.le
      have w2 := hl.num.le
      have w3 := nm.le
      have w4 := ht.num.le
      have w5 := hc.num.le
      have w0 : ("cheap" : Str).length = 5 := by decide +kernel
      have ks : (" " : Str).length = 1 := by decide +kernel
      refine ⟨_, rfl, x, dx, _, rfl, s08 _ _ hx, fr1_no (by decide +kernel), rfl, _, rfl, " ", pw, [("cheap" : Str), txt m, txt l, txt tc, txt bc, txt b], rfl, rfl, SqL.of hw, ?_, ?_⟩
      · simp only [List.map_cons, List.map_nil, List.sum_cons, List.sum_nil, List.length_cons, List.length_nil, w0, ks]
        omega
      refine tell_choice (CO := CO) (s08 _ _ hx) (fun y hy => ?_) ?_ (by decide +kernel) (by decide +kernel) (by decide +kernel) (by decide +kernel) (fun a H9 s9 h9 => ⟨a, _, rfl, h9, .inr (.inr ⟨_, _, _, _, _, rfl, a, m, l, tc, bc, b, rfl, h9, m0, m1, hl, ht, hc, b0, b60, fun H10 s10 => ?_⟩)⟩)
      · simp only [List.mem_cons, List.not_mem_nil, or_false] at hy
        rcases hy with rfl | rfl | rfl | rfl | rfl | rfl
        · exact wd_cheap
        · exact word_txt m0
        · exact word_txt hl.lo
        · exact word_txt ht.lo
        · exact word_txt hc.lo
        · exact word_txt nb.lo
      · rw [sizeLine_eq]
        simp only [List.map_cons, List.map_nil, List.sum_cons, List.sum_nil, List.length_cons, List.length_nil, w0]
        omega
      · exact ⟨_, rfl, rfl, Eq.mpr (congrArg (fun bo => Q (V.bl bo) H10) (decide_eq_true (congrArg V.str due.symm))) (q H10 ((s08.trans s9).trans s10))⟩
end
theorem Mt.plain96 {P : Program} {w : World} {K : PySem.W.Frag} {mg : Str → Option Value} {base : Heap} {k : Nat} {C : Addr} {m : Str} {ps : List Str} {sp : Sp} (F : MtE P w K mg base k C m ps sp) : Mt P w K mg base k C m ps (fun vs H Q _ => sp vs H Q E0) := by
  obtain ⟨f, fd, F, r⟩ := F
  refine ⟨f, fd, ⟨fun vs H Q _ h => F.len vs H Q E0 h, fun A outer s H args us vs Q E hr e0 hb rv h => codeAny_mono (F.run A outer s H args us vs Q E0 hr e0 hb rv h) fun rr s' q => ?_⟩, r⟩
  cases rr with
  | ok fl => cases fl <;> exact q
  | error e =>
    obtain ⟨_, _, _, _, _, _, _, _, _, _, _, _, z⟩ := q
    exact z.elim
section
variable {P : Program} {w : World} {K : PySem.W.Frag} {mg : Str → Option Value} {base : Heap}
theorem sc_law : FnScope ["script", "desk", "cell", "way", "good"] ["script"] (defScope st_law) := ⟨rfl, rfl, rfl, by decide +kernel, rfl, by decide +kernel, by decide +kernel⟩
theorem ok_law (hP : P.given.tree = none) {f : Addr} {fd : FuncData} (F : Fun K "law" "law" st_law f fd) (T : Txt K mg) (D_choose : Def K mg "choose" st_choose ["n", "k"]) (D_top_of : Def K mg "top_of" st_top_of ["k", "number"]) (D_top_from : Def K mg "top_from" st_top_from ["start", "k", "number"]) (D_above_top : Def K mg "above_top" st_above_top ["k", "number"]) (D_rounded_up : Def K mg "rounded_up" st_rounded_up ["number", "divisor"]) (D_box_of : Def K mg "box_of" st_box_of ["row", "late"]) (D_bell_row : Def K mg "bell_row" st_bell_row ["box", "late"]) (D_heard_box : Def K mg "heard_box" st_heard_box ["reading", "late"]) (D_box_count : Def K mg "box_count" st_box_count ["turns", "bells", "late"]) (D_greatest_part : Def K mg "greatest_part" st_greatest_part ["turns", "bells", "late"]) (D_shortest_frame : Def K mg "shortest_frame" st_shortest_frame ["bells", "late", "many"]) (D_best_bells : Def K mg "best_bells" st_best_bells ["turns", "late", "most"]) (D_cheapest : Def K mg "cheapest" st_cheapest ["many", "late", "turn_cost", "bell_cost", "most"]) (D_box_number : Def K mg "box_number" st_box_number ["box"]) (D_box_of_message : Def K mg "box_of_message" st_box_of_message ["message", "bells"]) (D_written : Def K mg "written" st_written ["message", "turns", "bells", "late"]) (D_read : Def K mg "read" st_read ["reading", "turns", "bells", "late"]) (D_keyed_count : Def K mg "keyed_count" st_keyed_count ["turns", "bells", "late"]) (D_keyed : Def K mg "keyed" st_keyed ["message", "turns", "bells", "late"]) (D_unkeyed : Def K mg "unkeyed" st_unkeyed ["reading", "turns", "bells", "late"]) (D_refuse_silent : Def K mg "refuse_silent" st_refuse_silent ["turns", "bells"]) (D_rung : Def K mg "rung" st_rung ["messages", "turns", "bells", "late"]) (D_by_messages : Def K mg "by_messages" st_by_messages ["reading", "turns", "late"]) (D_note_number : Def K mg "note_number" st_note_number ["note"]) (D_note_of : Def K mg "note_of" st_note_of ["number"]) (D_parts : Def K mg "parts" st_parts ["number", "base"]) (D_number_of_parts : Def K mg "number_of_parts" st_number_of_parts ["figures", "base"]) (D_sent : Def K mg "sent" st_sent ["note", "turns", "bells", "late"]) (D_received : Def K mg "received" st_received ["reading", "turns", "bells", "late"]) (D_messages_ahead_of_end : Def K mg "messages_ahead_of_end" st_messages_ahead_of_end ["reading", "turns", "bells", "late"]) (D_is_made_of : Def K mg "is_made_of" st_is_made_of ["word", "signs", "most"]) (D_name_in : Def K mg "name_in" st_name_in ["word"]) (D_figures_in : Def K mg "figures_in" st_figures_in ["word", "most"]) (D_number_in : Def K mg "number_in" st_number_in ["word"]) (D_message_in : Def K mg "message_in" st_message_in ["word"]) (D_bells_in : Def K mg "bells_in" st_bells_in ["word"]) (D_turns_in : Def K mg "turns_in" st_turns_in ["words"]) (D_number_told : Def K mg "number_told" st_number_told ["number"]) (D_turns_told : Def K mg "turns_told" st_turns_told ["turns"]) (D_count_of : Def K mg "count_of" st_count_of ["frame"]) (D_note_heard : Def K mg "note_heard" st_note_heard ["reading", "frame"]) (D_choice_told : Def K mg "choice_told" st_choice_told ["words"]) (D_cheapest_told : Def K mg "cheapest_told" st_cheapest_told ["words"]) (D__law_drawn : Def K mg "_law_drawn" st__law_drawn ["cell", "k"]) (D__law_great : Def K mg "_law_great" st__law_great ["cell", "k"]) (D__law_late : Def K mg "_law_late" st__law_late ["cell"]) (D__law_many : Def K mg "_law_many" st__law_many ["cell"]) (D__law_short : Def K mg "_law_short" st__law_short ["desk", "cell"]) (D__law_best : Def K mg "_law_best" st__law_best ["desk", "cell"]) (D__law_cheap : Def K mg "_law_cheap" st__law_cheap ["desk", "cell"]) {C_BellError : Addr} (m_BellError : mg "BellError" = some (.ref C_BellError)) {C_NoRow : Addr} (m_NoRow : mg "NoRow" = some (.ref C_NoRow)) {C_NoReading : Addr} (m_NoReading : mg "NoReading" = some (.ref C_NoReading)) {C_TooGreat : Addr} (m_TooGreat : mg "TooGreat" = some (.ref C_TooGreat)) {C_NoOrder : Addr} (m_NoOrder : mg "NoOrder" = some (.ref C_NoOrder)) {C_NoName : Addr} (m_NoName : mg "NoName" = some (.ref C_NoName)) {C_NoNote : Addr} (m_NoNote : mg "NoNote" = some (.ref C_NoNote)) {C_Frame : Addr} (m_Frame : mg "Frame" = some (.ref C_Frame)) {C_Desk : Addr} (m_Desk : mg "Desk" = some (.ref C_Desk)) {t_LETTERS : Tok} (m_LETTERS : mg "LETTERS" = some (.str "abcdefghijklmnopqrstuvwxyz" t_LETTERS)) {t_MOST_LETTERS : Tok} (m_MOST_LETTERS : mg "MOST_LETTERS" = some (.int 8 t_MOST_LETTERS)) {t_FIGURES : Tok} (m_FIGURES : mg "FIGURES" = some (.str "0123456789" t_FIGURES)) {t_MOST_FIGURES : Tok} (m_MOST_FIGURES : mg "MOST_FIGURES" = some (.int 60 t_MOST_FIGURES)) {t_MOST_FIGURES_OF_MESSAGE : Tok} (m_MOST_FIGURES_OF_MESSAGE : mg "MOST_FIGURES_OF_MESSAGE" = some (.int 3000 t_MOST_FIGURES_OF_MESSAGE)) {t_MOST_BELLS : Tok} (m_MOST_BELLS : mg "MOST_BELLS" = some (.int 60 t_MOST_BELLS)) (x_BellError : PySem.W.excIn K C_BellError bmV "ValueError.__new__" = true) (x_NoRow : PySem.W.excIn K C_NoRow bmV "ValueError.__new__" = true) (x_NoReading : PySem.W.excIn K C_NoReading bmV "ValueError.__new__" = true) (x_TooGreat : PySem.W.excIn K C_TooGreat bmV "ValueError.__new__" = true) (x_NoOrder : PySem.W.excIn K C_NoOrder bmV "ValueError.__new__" = true) (x_NoName : PySem.W.excIn K C_NoName bmV "ValueError.__new__" = true) (x_NoNote : PySem.W.excIn K C_NoNote bmV "ValueError.__new__" = true) (O : Own K C_Frame C_Desk) (ND : NoDig K) : FnOk P w K mg base CX0 50 f fd ["script"] (spLaw K) := by
  have hT : DkT K C_Desk C_Frame := ⟨O.c_Desk, O.c_Frame, O.n_Frame_turns, O.n_Frame_bells, O.n_Frame_late, O.n_Desk_frames⟩
  have G_choose : Fn P w K mg base 1 "choose" ["n", "k"] spChoose := ok_choose D_choose T
  have G_greatest_part : Fn P w K mg base 1 "greatest_part" ["turns", "bells", "late"] spGreat := ok_greatest_part D_greatest_part
  have G_box_count : Fn P w K mg base 2 "box_count" ["turns", "bells", "late"] spCount := ok_box_count D_box_count T G_greatest_part G_choose
  have G_rounded := ok_rounded_up (w := w) (base := base) D_rounded_up hP
  have G_above_top := ok_above_top D_above_top T G_rounded
  have G_top_from := ok_top_from D_top_from G_choose G_rounded hP
  have G_top_of := ok_top_of D_top_of G_above_top G_top_from
  have G_shortest_frame := ok_shortest_frame D_shortest_frame T G_top_of
  have G_best_bells := ok_best_bells D_best_bells T G_box_count
  have G_cheapest := ok_cheapest D_cheapest T G_shortest_frame
  have G_is_made_of : Fn P w K mg base 1 "is_made_of" ["word", "signs", "most"] spMade := ok_made D_is_made_of T
  have GE_figures_in := ok_figures_in ND D_figures_in T m_NoOrder x_NoOrder m_FIGURES G_is_made_of
  have GE_number_in := ok_number_in D_number_in T m_MOST_FIGURES GE_figures_in
  have GE_message_in := ok_message_in D_message_in T m_MOST_FIGURES_OF_MESSAGE GE_figures_in
  have GE_bells_in := ok_bells_in D_bells_in T m_NoOrder x_NoOrder m_MOST_BELLS GE_number_in
  have G_number_told : Fn P w K mg base 1 "number_told" ["number"] spNumTold := ok_number_told ND D_number_told T
  have GE_cheapest_told := ok_cheapT ND D_cheapest_told T GE_number_in GE_message_in GE_bells_in G_cheapest
  have GE_choice_told := ok_choice ND D_choice_told T m_NoOrder x_NoOrder GE_number_in GE_message_in GE_bells_in G_number_told G_shortest_frame G_best_bells GE_cheapest_told
  obtain ⟨f2, ⟨fd2, F2, b2⟩, l2⟩ := O.d_Desk_init
  obtain ⟨f3, ⟨fd3, F3, b3⟩, l3⟩ := O.d_Desk_told
  obtain ⟨f4, ⟨fd4, F4, b4⟩, l4⟩ := O.d_Desk_keep
  obtain ⟨f5, ⟨fd5, F5, b5⟩, l5⟩ := O.d_Desk_ring
  obtain ⟨f6, ⟨fd6, F6, b6⟩, l6⟩ := O.d_Desk_listen
  obtain ⟨f7, ⟨fd7, F7, b7⟩, l7⟩ := O.d_Desk_send_note
  have MK_Desk : MkX CX0 P w K mg base 1 C_Desk ["self"] (spDkInitB C_Desk) := ⟨f2, fd2, ok_dkinitB F2 hT, l2, b2⟩
  have ME_keep : MtE P w K mg base 45 C_Desk "keep" ["self", "words"] (fun _ _ _ _ => False) := ⟨f4, fd4, ⟨fun _ _ _ _ h => h.elim, fun _ _ _ _ _ _ _ _ _ _ _ _ _ h => h.elim⟩, hT.cd, l4, b4⟩
  have ME_ring : MtE P w K mg base 45 C_Desk "ring" ["self", "words"] (fun _ _ _ _ => False) := ⟨f5, fd5, ⟨fun _ _ _ _ h => h.elim, fun _ _ _ _ _ _ _ _ _ _ _ _ _ h => h.elim⟩, hT.cd, l5, b5⟩
  have ME_listen : MtE P w K mg base 45 C_Desk "listen" ["self", "words"] (fun _ _ _ _ => False) := ⟨f6, fd6, ⟨fun _ _ _ _ h => h.elim, fun _ _ _ _ _ _ _ _ _ _ _ _ _ h => h.elim⟩, hT.cd, l6, b6⟩
  have ME_send_note : MtE P w K mg base 45 C_Desk "send_note" ["self", "words"] (fun _ _ _ _ => False) := ⟨f7, fd7, ⟨fun _ _ _ _ h => h.elim, fun _ _ _ _ _ _ _ _ _ _ _ _ _ h => h.elim⟩, hT.cd, l7, b7⟩
  have ME_told : MtE P w K mg base 46 C_Desk "told" ["self", "order"] (spTold C_Desk C_NoOrder (fun _ _ _ _ => False) (fun _ _ _ _ => False) (fun _ _ _ _ => False) (fun _ _ _ _ => False) (spChoice spCheapT)) := ⟨f3, fd3, ok_told F3 T hT m_NoOrder x_NoOrder ME_keep ME_ring ME_listen ME_send_note GE_choice_told, hT.cd, l3, b3⟩
  have M_told := Mt.plain96 ME_told
  have G__law_drawn : Fn P w K mg base 1 "_law_drawn" ["cell", "k"] spDr := ok_dr D__law_drawn
  have G__law_great := ok_great D__law_great G__law_drawn
  have G__law_late := ok_lateL D__law_late G__law_drawn G__law_great
  have G__law_many := ok_manyL D__law_many G__law_drawn G__law_great
  have G__law_short := ok_lshort ND D__law_short T G__law_drawn G__law_late G__law_many G_shortest_frame M_told
  have G__law_best := ok_lbest ND D__law_best T G__law_drawn G__law_great G__law_late G_best_bells M_told
  have G__law_cheap := ok_lcheap ND D__law_cheap T G__law_drawn G__law_great G__law_late G__law_many G_cheapest M_told
  refine F.ok sc_law (fun vs H Q E h => ?_) (fun cdv A outer s H vs Q E hr h => ?_)
  · obtain ⟨a, ns, rfl, _⟩ := h
    rfl
  · obtain ⟨a, ns, rfl, hS, hlen, q⟩ := h
    refine ⟨_, (pss_cons (ps_set (i := 1) sc_law.nd rfl (Or.inl rfl) (pe_mk0 MK_Desk (hr.mono (by decide)) (by rfl) m_Desk))
      (pss_cons (ps_for PassesOwn.never rfl (pi_list (pe_op op_cat (pe_slice sl_list (pv 0) po_none (po_some pe_int)) (pe_lst (pa_cons pe_int pa_nil)))) (pg_name (i := 2) sc_law.nd rfl (Or.inl rfl))
        (pss_cons (ps_set (i := 3) sc_law.nd rfl (Or.inl rfl) (pe_op op_modB (pe_fn G__law_drawn (hr.mono (by decide)) (by rfl) (pa_cons (pv 2) (pa_cons pe_int pa_nil))) pe_int))
        (pss_cons (ps_set (i := 4) sc_law.nd rfl (Or.inl rfl) pe_bl)
        (pss_cons (ps_if (pt_cmpR op_eqI (pv 3) pe_int (nomark _))
          (pss_one (ps_set (i := 4) sc_law.nd rfl (Or.inl rfl) (pe_fn G__law_short (hr.mono (by decide)) (by rfl) (pa_cons (pv 1) (pa_cons (pv 2) pa_nil)))))
          (pss_one (ps_if (pt_cmpR op_eqI (pv 3) pe_int (nomark _))
            (pss_one (ps_set (i := 4) sc_law.nd rfl (Or.inl rfl) (pe_fn G__law_best (hr.mono (by decide)) (by rfl) (pa_cons (pv 1) (pa_cons (pv 2) pa_nil)))))
            (pss_one (ps_set (i := 4) sc_law.nd rfl (Or.inl rfl) (pe_fn G__law_cheap (hr.mono (by decide)) (by rfl) (pa_cons (pv 1) (pa_cons (pv 2) pa_nil))))))))
        (pss_one (ps_if (pt_not (pt_truth (pv 4) (fun _ => rfl)))
          (pss_one (ps_ret pe_bl))
          pss_nil))))))
      (pss_one (ps_ret pe_bl)))), ?_⟩
    refine fun x dx hx hdx ne => ⟨x, dx, rfl, upd_same, fun d H0 sx hD => ⟨rfl, ?_⟩⟩
    have s0 : Same H H0 := fun c o hc => by
      have n1 : c ≠ x := fun e => by rw [e, hx] at hc; cases hc
      have n2 : c ≠ dx := fun e => by rw [e, hdx] at hc; cases hc
      exact sx c o (by rw [upd_ne n1, upd_ne n2]; exact hc) n1
    have hS0 := s0.seq hS
    refine ⟨_, rfl, _, rfl, _, _, rfl, hS0, fun p1 hp1 => ?_⟩
    have zl := cutI_len ns none (some 10)
    rw [cut_map]
    generalize cutI ns none (some 10) = zs at zl ⊢
    refine ⟨(by show 1 ≤ sizeLine; decide), fun p2 hp2 => ⟨p1, p2, _, _, rfl, rfl, (Same.new hp2) _ _ upd_same, upd_same, by rw [List.length_map, sizeLine_eq]; simp; omega, fun pc hpc => ?_⟩⟩
    have s1 : Same H0 (upd (upd (upd H0 p1 (.lst (zs.map V.int))) p2 (.lst [V.int 0])) pc (.lst (zs.map V.int ++ [V.int 0]))) := ((Same.new hp1).put hp2).put hpc
    have h1 : (upd (upd (upd H0 p1 (.lst (zs.map V.int))) p2 (.lst [V.int 0])) pc (.lst (zs.map V.int ++ [V.int 0]))) pc = some (.lst ((zs ++ [0]).map V.int)) := by rw [upd_same, List.map_append]; rfl
    generalize upd (upd (upd H0 p1 (.lst (zs.map V.int))) p2 (.lst [V.int 0])) pc (.lst (zs.map V.int ++ [V.int 0])) = H1 at s1 h1 ⊢
    generalize zs ++ [0] = cs at h1
    refine ⟨pc, rfl, ⟨_, SqL.of h1⟩, for_list (K := K) (a := pc) (xs := cs.map V.int) (fun i σ H2 => ∃ v2 v3 v4 : Option V, σ = [some (.ref a), some (.ref x), v2, v3, v4] ∧ Same H1 H2) ⟨none, none, none, rfl, Same.refl _⟩ (fun i σ H2 _ ⟨_, _, _, _, s2⟩ => SqL.of (s2 _ _ h1)) ?_ ?_⟩
    · rintro i xv σ H2 hxv ⟨v2, v3, v4, rfl, s2⟩
      rw [List.getElem?_map] at hxv
      obtain ⟨c, hc, rfl⟩ := Option.map_eq_some_iff.mp hxv
      refine ⟨_, rfl, c, 0, rfl, by decide, fun dd a0 a1 => ⟨_, _, rfl, rfl, by decide, ?_⟩⟩
      have hx2 := s2 _ _ (s1 _ _ hD)
      generalize dd % 3 = way
      have fin : ∀ {H3 : Hp}, Same H2 H3 → Same H1 H3 := fun s => s2.trans s
      refine ⟨_, rfl, _, _, rfl, rfl, _, rfl, ifD (fun _ => ⟨_, rfl, _, rfl, x, dx, d, c, rfl, hx2, fun H3 s3 => ⟨_, rfl, _, rfl, iteF ⟨_, _, _, rfl, fin s3⟩⟩⟩) (fun _ => ⟨_, rfl, _, _, rfl, rfl, _, rfl, ifD (fun _ => ⟨_, rfl, _, rfl, x, dx, d, c, rfl, hx2, fun H3 s3 => ⟨_, rfl, _, rfl, iteF ⟨_, _, _, rfl, fin s3⟩⟩⟩) (fun _ => ⟨_, rfl, _, rfl, x, dx, d, c, rfl, hx2, fun H3 s3 => ⟨_, rfl, _, rfl, iteF ⟨_, _, _, rfl, fin s3⟩⟩⟩)⟩)⟩
    · rintro σ H2 ⟨v2, v3, v4, rfl, s2⟩
      exact q _
end
theorem of_len0 {α : Type} {F : List α → Prop} {us : List α} (h : us.length = 0) (k : F []) : F us := by
  cases us with
  | nil => exact k
  | cons a r => cases h
theorem of_len1 {α : Type} {F : List α → Prop} {us : List α} (h : us.length = 1) (k : ∀ a, F [a]) : F us := by
  cases us with
  | nil => cases h
  | cons a r => exact of_len0 (F := fun r => F (a :: r)) (Nat.succ.inj h) (k a)
theorem of_len2 {α : Type} {F : List α → Prop} {us : List α} (h : us.length = 2) (k : ∀ a b, F [a, b]) : F us := by
  cases us with
  | nil => cases h
  | cons a r => exact of_len1 (F := fun r => F (a :: r)) (Nat.succ.inj h) (k a)
theorem of_len3 {α : Type} {F : List α → Prop} {us : List α} (h : us.length = 3) (k : ∀ a b c, F [a, b, c]) : F us := by
  cases us with
  | nil => cases h
  | cons a r => exact of_len2 (F := fun r => F (a :: r)) (Nat.succ.inj h) (k a)
theorem of_len4 {α : Type} {F : List α → Prop} {us : List α} (h : us.length = 4) (k : ∀ a b c d, F [a, b, c, d]) : F us := by
  cases us with
  | nil => cases h
  | cons a r => exact of_len3 (F := fun r => F (a :: r)) (Nat.succ.inj h) (k a)
theorem of_len5 {α : Type} {F : List α → Prop} {us : List α} (h : us.length = 5) (k : ∀ a b c d e, F [a, b, c, d, e]) : F us := by
  cases us with
  | nil => cases h
  | cons a r => exact of_len4 (F := fun r => F (a :: r)) (Nat.succ.inj h) (k a)
theorem binds_len1 {fd : FuncData} {ps : List Str} {us : List Value} (h : us.length = 1) (k : ∀ a, bindArgs fd ⟨[a], []⟩ = pure (ps.zip [a])) : bindArgs fd ⟨us, []⟩ = pure (ps.zip us) := of_len1 (F := fun us => bindArgs fd ⟨us, []⟩ = pure (ps.zip us)) h k
theorem binds_len2 {fd : FuncData} {ps : List Str} {us : List Value} (h : us.length = 2) (k : ∀ a b, bindArgs fd ⟨[a, b], []⟩ = pure (ps.zip [a, b])) : bindArgs fd ⟨us, []⟩ = pure (ps.zip us) := of_len2 (F := fun us => bindArgs fd ⟨us, []⟩ = pure (ps.zip us)) h k
theorem binds_len3 {fd : FuncData} {ps : List Str} {us : List Value} (h : us.length = 3) (k : ∀ a b c, bindArgs fd ⟨[a, b, c], []⟩ = pure (ps.zip [a, b, c])) : bindArgs fd ⟨us, []⟩ = pure (ps.zip us) := of_len3 (F := fun us => bindArgs fd ⟨us, []⟩ = pure (ps.zip us)) h k
theorem binds_len4 {fd : FuncData} {ps : List Str} {us : List Value} (h : us.length = 4) (k : ∀ a b c d, bindArgs fd ⟨[a, b, c, d], []⟩ = pure (ps.zip [a, b, c, d])) : bindArgs fd ⟨us, []⟩ = pure (ps.zip us) := of_len4 (F := fun us => bindArgs fd ⟨us, []⟩ = pure (ps.zip us)) h k
theorem binds_len5 {fd : FuncData} {ps : List Str} {us : List Value} (h : us.length = 5) (k : ∀ a b c d e, bindArgs fd ⟨[a, b, c, d, e], []⟩ = pure (ps.zip [a, b, c, d, e])) : bindArgs fd ⟨us, []⟩ = pure (ps.zip us) := of_len5 (F := fun us => bindArgs fd ⟨us, []⟩ = pure (ps.zip us)) h k
theorem all_mk {l : PySem.W.OpenLaw} (hP : l.prog.given.tree = none) {w : World} {K : PySem.W.Frag} {h : Heap} {mg : Str → Option Value} {fa : Addr} (X : K.In h) (G : h.Ns mainGlobals mg) (hfa : mg "law" = some (.ref fa))
    {f0 : Addr} {od0 an0 : Option Addr} {sl0 : Array (Option Value)} {oc0 kV0 dc0 pm0 cd0 ct0 : Value}
    (a0 : PySem.W.nsIn K mainGlobals "choose" = some (some (.ref f0))) (l0 : K.lookup f0 = some ⟨oc0, od0, .func (PySem.W.fnOf "choose" "choose" (defArgs st_choose) (defBody st_choose) (defScope st_choose) .none kV0 dc0 pm0 an0 cd0 ct0), sl0⟩) (c0 : PySem.W.codeIn K cd0 "choose" = true) (k0 : PySem.W.keepIn K (.ref f0) = true)
    {f1 : Addr} {od1 an1 : Option Addr} {sl1 : Array (Option Value)} {oc1 kV1 dc1 pm1 cd1 ct1 : Value}
    (a1 : PySem.W.nsIn K mainGlobals "top_of" = some (some (.ref f1))) (l1 : K.lookup f1 = some ⟨oc1, od1, .func (PySem.W.fnOf "top_of" "top_of" (defArgs st_top_of) (defBody st_top_of) (defScope st_top_of) .none kV1 dc1 pm1 an1 cd1 ct1), sl1⟩) (c1 : PySem.W.codeIn K cd1 "top_of" = true) (k1 : PySem.W.keepIn K (.ref f1) = true)
    {f2 : Addr} {od2 an2 : Option Addr} {sl2 : Array (Option Value)} {oc2 kV2 dc2 pm2 cd2 ct2 : Value}
    (a2 : PySem.W.nsIn K mainGlobals "top_from" = some (some (.ref f2))) (l2 : K.lookup f2 = some ⟨oc2, od2, .func (PySem.W.fnOf "top_from" "top_from" (defArgs st_top_from) (defBody st_top_from) (defScope st_top_from) .none kV2 dc2 pm2 an2 cd2 ct2), sl2⟩) (c2 : PySem.W.codeIn K cd2 "top_from" = true) (k2 : PySem.W.keepIn K (.ref f2) = true)
    {f3 : Addr} {od3 an3 : Option Addr} {sl3 : Array (Option Value)} {oc3 kV3 dc3 pm3 cd3 ct3 : Value}
    (a3 : PySem.W.nsIn K mainGlobals "above_top" = some (some (.ref f3))) (l3 : K.lookup f3 = some ⟨oc3, od3, .func (PySem.W.fnOf "above_top" "above_top" (defArgs st_above_top) (defBody st_above_top) (defScope st_above_top) .none kV3 dc3 pm3 an3 cd3 ct3), sl3⟩) (c3 : PySem.W.codeIn K cd3 "above_top" = true) (k3 : PySem.W.keepIn K (.ref f3) = true)
    {f4 : Addr} {od4 an4 : Option Addr} {sl4 : Array (Option Value)} {oc4 kV4 dc4 pm4 cd4 ct4 : Value}
    (a4 : PySem.W.nsIn K mainGlobals "rounded_up" = some (some (.ref f4))) (l4 : K.lookup f4 = some ⟨oc4, od4, .func (PySem.W.fnOf "rounded_up" "rounded_up" (defArgs st_rounded_up) (defBody st_rounded_up) (defScope st_rounded_up) .none kV4 dc4 pm4 an4 cd4 ct4), sl4⟩) (c4 : PySem.W.codeIn K cd4 "rounded_up" = true) (k4 : PySem.W.keepIn K (.ref f4) = true)
    {f5 : Addr} {od5 an5 : Option Addr} {sl5 : Array (Option Value)} {oc5 kV5 dc5 pm5 cd5 ct5 : Value}
    (a5 : PySem.W.nsIn K mainGlobals "box_of" = some (some (.ref f5))) (l5 : K.lookup f5 = some ⟨oc5, od5, .func (PySem.W.fnOf "box_of" "box_of" (defArgs st_box_of) (defBody st_box_of) (defScope st_box_of) .none kV5 dc5 pm5 an5 cd5 ct5), sl5⟩) (c5 : PySem.W.codeIn K cd5 "box_of" = true) (k5 : PySem.W.keepIn K (.ref f5) = true)
    {f6 : Addr} {od6 an6 : Option Addr} {sl6 : Array (Option Value)} {oc6 kV6 dc6 pm6 cd6 ct6 : Value}
    (a6 : PySem.W.nsIn K mainGlobals "bell_row" = some (some (.ref f6))) (l6 : K.lookup f6 = some ⟨oc6, od6, .func (PySem.W.fnOf "bell_row" "bell_row" (defArgs st_bell_row) (defBody st_bell_row) (defScope st_bell_row) .none kV6 dc6 pm6 an6 cd6 ct6), sl6⟩) (c6 : PySem.W.codeIn K cd6 "bell_row" = true) (k6 : PySem.W.keepIn K (.ref f6) = true)
    {f7 : Addr} {od7 an7 : Option Addr} {sl7 : Array (Option Value)} {oc7 kV7 dc7 pm7 cd7 ct7 : Value}
    (a7 : PySem.W.nsIn K mainGlobals "heard_box" = some (some (.ref f7))) (l7 : K.lookup f7 = some ⟨oc7, od7, .func (PySem.W.fnOf "heard_box" "heard_box" (defArgs st_heard_box) (defBody st_heard_box) (defScope st_heard_box) .none kV7 dc7 pm7 an7 cd7 ct7), sl7⟩) (c7 : PySem.W.codeIn K cd7 "heard_box" = true) (k7 : PySem.W.keepIn K (.ref f7) = true)
    {f8 : Addr} {od8 an8 : Option Addr} {sl8 : Array (Option Value)} {oc8 kV8 dc8 pm8 cd8 ct8 : Value}
    (a8 : PySem.W.nsIn K mainGlobals "box_count" = some (some (.ref f8))) (l8 : K.lookup f8 = some ⟨oc8, od8, .func (PySem.W.fnOf "box_count" "box_count" (defArgs st_box_count) (defBody st_box_count) (defScope st_box_count) .none kV8 dc8 pm8 an8 cd8 ct8), sl8⟩) (c8 : PySem.W.codeIn K cd8 "box_count" = true) (k8 : PySem.W.keepIn K (.ref f8) = true)
    {f9 : Addr} {od9 an9 : Option Addr} {sl9 : Array (Option Value)} {oc9 kV9 dc9 pm9 cd9 ct9 : Value}
    (a9 : PySem.W.nsIn K mainGlobals "greatest_part" = some (some (.ref f9))) (l9 : K.lookup f9 = some ⟨oc9, od9, .func (PySem.W.fnOf "greatest_part" "greatest_part" (defArgs st_greatest_part) (defBody st_greatest_part) (defScope st_greatest_part) .none kV9 dc9 pm9 an9 cd9 ct9), sl9⟩) (c9 : PySem.W.codeIn K cd9 "greatest_part" = true) (k9 : PySem.W.keepIn K (.ref f9) = true)
    {f10 : Addr} {od10 an10 : Option Addr} {sl10 : Array (Option Value)} {oc10 kV10 dc10 pm10 cd10 ct10 : Value}
    (a10 : PySem.W.nsIn K mainGlobals "shortest_frame" = some (some (.ref f10))) (l10 : K.lookup f10 = some ⟨oc10, od10, .func (PySem.W.fnOf "shortest_frame" "shortest_frame" (defArgs st_shortest_frame) (defBody st_shortest_frame) (defScope st_shortest_frame) .none kV10 dc10 pm10 an10 cd10 ct10), sl10⟩) (c10 : PySem.W.codeIn K cd10 "shortest_frame" = true) (k10 : PySem.W.keepIn K (.ref f10) = true)
    {f11 : Addr} {od11 an11 : Option Addr} {sl11 : Array (Option Value)} {oc11 kV11 dc11 pm11 cd11 ct11 : Value}
    (a11 : PySem.W.nsIn K mainGlobals "best_bells" = some (some (.ref f11))) (l11 : K.lookup f11 = some ⟨oc11, od11, .func (PySem.W.fnOf "best_bells" "best_bells" (defArgs st_best_bells) (defBody st_best_bells) (defScope st_best_bells) .none kV11 dc11 pm11 an11 cd11 ct11), sl11⟩) (c11 : PySem.W.codeIn K cd11 "best_bells" = true) (k11 : PySem.W.keepIn K (.ref f11) = true)
    {f12 : Addr} {od12 an12 : Option Addr} {sl12 : Array (Option Value)} {oc12 kV12 dc12 pm12 cd12 ct12 : Value}
    (a12 : PySem.W.nsIn K mainGlobals "cheapest" = some (some (.ref f12))) (l12 : K.lookup f12 = some ⟨oc12, od12, .func (PySem.W.fnOf "cheapest" "cheapest" (defArgs st_cheapest) (defBody st_cheapest) (defScope st_cheapest) .none kV12 dc12 pm12 an12 cd12 ct12), sl12⟩) (c12 : PySem.W.codeIn K cd12 "cheapest" = true) (k12 : PySem.W.keepIn K (.ref f12) = true)
    {f13 : Addr} {od13 an13 : Option Addr} {sl13 : Array (Option Value)} {oc13 kV13 dc13 pm13 cd13 ct13 : Value}
    (a13 : PySem.W.nsIn K mainGlobals "box_number" = some (some (.ref f13))) (l13 : K.lookup f13 = some ⟨oc13, od13, .func (PySem.W.fnOf "box_number" "box_number" (defArgs st_box_number) (defBody st_box_number) (defScope st_box_number) .none kV13 dc13 pm13 an13 cd13 ct13), sl13⟩) (c13 : PySem.W.codeIn K cd13 "box_number" = true) (k13 : PySem.W.keepIn K (.ref f13) = true)
    {f14 : Addr} {od14 an14 : Option Addr} {sl14 : Array (Option Value)} {oc14 kV14 dc14 pm14 cd14 ct14 : Value}
    (a14 : PySem.W.nsIn K mainGlobals "box_of_message" = some (some (.ref f14))) (l14 : K.lookup f14 = some ⟨oc14, od14, .func (PySem.W.fnOf "box_of_message" "box_of_message" (defArgs st_box_of_message) (defBody st_box_of_message) (defScope st_box_of_message) .none kV14 dc14 pm14 an14 cd14 ct14), sl14⟩) (c14 : PySem.W.codeIn K cd14 "box_of_message" = true) (k14 : PySem.W.keepIn K (.ref f14) = true)
    {f15 : Addr} {od15 an15 : Option Addr} {sl15 : Array (Option Value)} {oc15 kV15 dc15 pm15 cd15 ct15 : Value}
    (a15 : PySem.W.nsIn K mainGlobals "written" = some (some (.ref f15))) (l15 : K.lookup f15 = some ⟨oc15, od15, .func (PySem.W.fnOf "written" "written" (defArgs st_written) (defBody st_written) (defScope st_written) .none kV15 dc15 pm15 an15 cd15 ct15), sl15⟩) (c15 : PySem.W.codeIn K cd15 "written" = true) (k15 : PySem.W.keepIn K (.ref f15) = true)
    {f16 : Addr} {od16 an16 : Option Addr} {sl16 : Array (Option Value)} {oc16 kV16 dc16 pm16 cd16 ct16 : Value}
    (a16 : PySem.W.nsIn K mainGlobals "read" = some (some (.ref f16))) (l16 : K.lookup f16 = some ⟨oc16, od16, .func (PySem.W.fnOf "read" "read" (defArgs st_read) (defBody st_read) (defScope st_read) .none kV16 dc16 pm16 an16 cd16 ct16), sl16⟩) (c16 : PySem.W.codeIn K cd16 "read" = true) (k16 : PySem.W.keepIn K (.ref f16) = true)
    {f17 : Addr} {od17 an17 : Option Addr} {sl17 : Array (Option Value)} {oc17 kV17 dc17 pm17 cd17 ct17 : Value}
    (a17 : PySem.W.nsIn K mainGlobals "keyed_count" = some (some (.ref f17))) (l17 : K.lookup f17 = some ⟨oc17, od17, .func (PySem.W.fnOf "keyed_count" "keyed_count" (defArgs st_keyed_count) (defBody st_keyed_count) (defScope st_keyed_count) .none kV17 dc17 pm17 an17 cd17 ct17), sl17⟩) (c17 : PySem.W.codeIn K cd17 "keyed_count" = true) (k17 : PySem.W.keepIn K (.ref f17) = true)
    {f18 : Addr} {od18 an18 : Option Addr} {sl18 : Array (Option Value)} {oc18 kV18 dc18 pm18 cd18 ct18 : Value}
    (a18 : PySem.W.nsIn K mainGlobals "keyed" = some (some (.ref f18))) (l18 : K.lookup f18 = some ⟨oc18, od18, .func (PySem.W.fnOf "keyed" "keyed" (defArgs st_keyed) (defBody st_keyed) (defScope st_keyed) .none kV18 dc18 pm18 an18 cd18 ct18), sl18⟩) (c18 : PySem.W.codeIn K cd18 "keyed" = true) (k18 : PySem.W.keepIn K (.ref f18) = true)
    {f19 : Addr} {od19 an19 : Option Addr} {sl19 : Array (Option Value)} {oc19 kV19 dc19 pm19 cd19 ct19 : Value}
    (a19 : PySem.W.nsIn K mainGlobals "unkeyed" = some (some (.ref f19))) (l19 : K.lookup f19 = some ⟨oc19, od19, .func (PySem.W.fnOf "unkeyed" "unkeyed" (defArgs st_unkeyed) (defBody st_unkeyed) (defScope st_unkeyed) .none kV19 dc19 pm19 an19 cd19 ct19), sl19⟩) (c19 : PySem.W.codeIn K cd19 "unkeyed" = true) (k19 : PySem.W.keepIn K (.ref f19) = true)
    {f20 : Addr} {od20 an20 : Option Addr} {sl20 : Array (Option Value)} {oc20 kV20 dc20 pm20 cd20 ct20 : Value}
    (a20 : PySem.W.nsIn K mainGlobals "refuse_silent" = some (some (.ref f20))) (l20 : K.lookup f20 = some ⟨oc20, od20, .func (PySem.W.fnOf "refuse_silent" "refuse_silent" (defArgs st_refuse_silent) (defBody st_refuse_silent) (defScope st_refuse_silent) .none kV20 dc20 pm20 an20 cd20 ct20), sl20⟩) (c20 : PySem.W.codeIn K cd20 "refuse_silent" = true) (k20 : PySem.W.keepIn K (.ref f20) = true)
    {f21 : Addr} {od21 an21 : Option Addr} {sl21 : Array (Option Value)} {oc21 kV21 dc21 pm21 cd21 ct21 : Value}
    (a21 : PySem.W.nsIn K mainGlobals "rung" = some (some (.ref f21))) (l21 : K.lookup f21 = some ⟨oc21, od21, .func (PySem.W.fnOf "rung" "rung" (defArgs st_rung) (defBody st_rung) (defScope st_rung) .none kV21 dc21 pm21 an21 cd21 ct21), sl21⟩) (c21 : PySem.W.codeIn K cd21 "rung" = true) (k21 : PySem.W.keepIn K (.ref f21) = true)
    {f22 : Addr} {od22 an22 : Option Addr} {sl22 : Array (Option Value)} {oc22 kV22 dc22 pm22 cd22 ct22 : Value}
    (a22 : PySem.W.nsIn K mainGlobals "by_messages" = some (some (.ref f22))) (l22 : K.lookup f22 = some ⟨oc22, od22, .func (PySem.W.fnOf "by_messages" "by_messages" (defArgs st_by_messages) (defBody st_by_messages) (defScope st_by_messages) .none kV22 dc22 pm22 an22 cd22 ct22), sl22⟩) (c22 : PySem.W.codeIn K cd22 "by_messages" = true) (k22 : PySem.W.keepIn K (.ref f22) = true)
    {f23 : Addr} {od23 an23 : Option Addr} {sl23 : Array (Option Value)} {oc23 kV23 dc23 pm23 cd23 ct23 : Value}
    (a23 : PySem.W.nsIn K mainGlobals "note_number" = some (some (.ref f23))) (l23 : K.lookup f23 = some ⟨oc23, od23, .func (PySem.W.fnOf "note_number" "note_number" (defArgs st_note_number) (defBody st_note_number) (defScope st_note_number) .none kV23 dc23 pm23 an23 cd23 ct23), sl23⟩) (c23 : PySem.W.codeIn K cd23 "note_number" = true) (k23 : PySem.W.keepIn K (.ref f23) = true)
    {f24 : Addr} {od24 an24 : Option Addr} {sl24 : Array (Option Value)} {oc24 kV24 dc24 pm24 cd24 ct24 : Value}
    (a24 : PySem.W.nsIn K mainGlobals "note_of" = some (some (.ref f24))) (l24 : K.lookup f24 = some ⟨oc24, od24, .func (PySem.W.fnOf "note_of" "note_of" (defArgs st_note_of) (defBody st_note_of) (defScope st_note_of) .none kV24 dc24 pm24 an24 cd24 ct24), sl24⟩) (c24 : PySem.W.codeIn K cd24 "note_of" = true) (k24 : PySem.W.keepIn K (.ref f24) = true)
    {f25 : Addr} {od25 an25 : Option Addr} {sl25 : Array (Option Value)} {oc25 kV25 dc25 pm25 cd25 ct25 : Value}
    (a25 : PySem.W.nsIn K mainGlobals "parts" = some (some (.ref f25))) (l25 : K.lookup f25 = some ⟨oc25, od25, .func (PySem.W.fnOf "parts" "parts" (defArgs st_parts) (defBody st_parts) (defScope st_parts) .none kV25 dc25 pm25 an25 cd25 ct25), sl25⟩) (c25 : PySem.W.codeIn K cd25 "parts" = true) (k25 : PySem.W.keepIn K (.ref f25) = true)
    {f26 : Addr} {od26 an26 : Option Addr} {sl26 : Array (Option Value)} {oc26 kV26 dc26 pm26 cd26 ct26 : Value}
    (a26 : PySem.W.nsIn K mainGlobals "number_of_parts" = some (some (.ref f26))) (l26 : K.lookup f26 = some ⟨oc26, od26, .func (PySem.W.fnOf "number_of_parts" "number_of_parts" (defArgs st_number_of_parts) (defBody st_number_of_parts) (defScope st_number_of_parts) .none kV26 dc26 pm26 an26 cd26 ct26), sl26⟩) (c26 : PySem.W.codeIn K cd26 "number_of_parts" = true) (k26 : PySem.W.keepIn K (.ref f26) = true)
    {f27 : Addr} {od27 an27 : Option Addr} {sl27 : Array (Option Value)} {oc27 kV27 dc27 pm27 cd27 ct27 : Value}
    (a27 : PySem.W.nsIn K mainGlobals "sent" = some (some (.ref f27))) (l27 : K.lookup f27 = some ⟨oc27, od27, .func (PySem.W.fnOf "sent" "sent" (defArgs st_sent) (defBody st_sent) (defScope st_sent) .none kV27 dc27 pm27 an27 cd27 ct27), sl27⟩) (c27 : PySem.W.codeIn K cd27 "sent" = true) (k27 : PySem.W.keepIn K (.ref f27) = true)
    {f28 : Addr} {od28 an28 : Option Addr} {sl28 : Array (Option Value)} {oc28 kV28 dc28 pm28 cd28 ct28 : Value}
    (a28 : PySem.W.nsIn K mainGlobals "received" = some (some (.ref f28))) (l28 : K.lookup f28 = some ⟨oc28, od28, .func (PySem.W.fnOf "received" "received" (defArgs st_received) (defBody st_received) (defScope st_received) .none kV28 dc28 pm28 an28 cd28 ct28), sl28⟩) (c28 : PySem.W.codeIn K cd28 "received" = true) (k28 : PySem.W.keepIn K (.ref f28) = true)
    {f29 : Addr} {od29 an29 : Option Addr} {sl29 : Array (Option Value)} {oc29 kV29 dc29 pm29 cd29 ct29 : Value}
    (a29 : PySem.W.nsIn K mainGlobals "messages_ahead_of_end" = some (some (.ref f29))) (l29 : K.lookup f29 = some ⟨oc29, od29, .func (PySem.W.fnOf "messages_ahead_of_end" "messages_ahead_of_end" (defArgs st_messages_ahead_of_end) (defBody st_messages_ahead_of_end) (defScope st_messages_ahead_of_end) .none kV29 dc29 pm29 an29 cd29 ct29), sl29⟩) (c29 : PySem.W.codeIn K cd29 "messages_ahead_of_end" = true) (k29 : PySem.W.keepIn K (.ref f29) = true)
    {f30 : Addr} {od30 an30 : Option Addr} {sl30 : Array (Option Value)} {oc30 kV30 dc30 pm30 cd30 ct30 : Value}
    (a30 : PySem.W.nsIn K mainGlobals "is_made_of" = some (some (.ref f30))) (l30 : K.lookup f30 = some ⟨oc30, od30, .func (PySem.W.fnOf "is_made_of" "is_made_of" (defArgs st_is_made_of) (defBody st_is_made_of) (defScope st_is_made_of) .none kV30 dc30 pm30 an30 cd30 ct30), sl30⟩) (c30 : PySem.W.codeIn K cd30 "is_made_of" = true) (k30 : PySem.W.keepIn K (.ref f30) = true)
    {f31 : Addr} {od31 an31 : Option Addr} {sl31 : Array (Option Value)} {oc31 kV31 dc31 pm31 cd31 ct31 : Value}
    (a31 : PySem.W.nsIn K mainGlobals "name_in" = some (some (.ref f31))) (l31 : K.lookup f31 = some ⟨oc31, od31, .func (PySem.W.fnOf "name_in" "name_in" (defArgs st_name_in) (defBody st_name_in) (defScope st_name_in) .none kV31 dc31 pm31 an31 cd31 ct31), sl31⟩) (c31 : PySem.W.codeIn K cd31 "name_in" = true) (k31 : PySem.W.keepIn K (.ref f31) = true)
    {f32 : Addr} {od32 an32 : Option Addr} {sl32 : Array (Option Value)} {oc32 kV32 dc32 pm32 cd32 ct32 : Value}
    (a32 : PySem.W.nsIn K mainGlobals "figures_in" = some (some (.ref f32))) (l32 : K.lookup f32 = some ⟨oc32, od32, .func (PySem.W.fnOf "figures_in" "figures_in" (defArgs st_figures_in) (defBody st_figures_in) (defScope st_figures_in) .none kV32 dc32 pm32 an32 cd32 ct32), sl32⟩) (c32 : PySem.W.codeIn K cd32 "figures_in" = true) (k32 : PySem.W.keepIn K (.ref f32) = true)
    {f33 : Addr} {od33 an33 : Option Addr} {sl33 : Array (Option Value)} {oc33 kV33 dc33 pm33 cd33 ct33 : Value}
    (a33 : PySem.W.nsIn K mainGlobals "number_in" = some (some (.ref f33))) (l33 : K.lookup f33 = some ⟨oc33, od33, .func (PySem.W.fnOf "number_in" "number_in" (defArgs st_number_in) (defBody st_number_in) (defScope st_number_in) .none kV33 dc33 pm33 an33 cd33 ct33), sl33⟩) (c33 : PySem.W.codeIn K cd33 "number_in" = true) (k33 : PySem.W.keepIn K (.ref f33) = true)
    {f34 : Addr} {od34 an34 : Option Addr} {sl34 : Array (Option Value)} {oc34 kV34 dc34 pm34 cd34 ct34 : Value}
    (a34 : PySem.W.nsIn K mainGlobals "message_in" = some (some (.ref f34))) (l34 : K.lookup f34 = some ⟨oc34, od34, .func (PySem.W.fnOf "message_in" "message_in" (defArgs st_message_in) (defBody st_message_in) (defScope st_message_in) .none kV34 dc34 pm34 an34 cd34 ct34), sl34⟩) (c34 : PySem.W.codeIn K cd34 "message_in" = true) (k34 : PySem.W.keepIn K (.ref f34) = true)
    {f35 : Addr} {od35 an35 : Option Addr} {sl35 : Array (Option Value)} {oc35 kV35 dc35 pm35 cd35 ct35 : Value}
    (a35 : PySem.W.nsIn K mainGlobals "bells_in" = some (some (.ref f35))) (l35 : K.lookup f35 = some ⟨oc35, od35, .func (PySem.W.fnOf "bells_in" "bells_in" (defArgs st_bells_in) (defBody st_bells_in) (defScope st_bells_in) .none kV35 dc35 pm35 an35 cd35 ct35), sl35⟩) (c35 : PySem.W.codeIn K cd35 "bells_in" = true) (k35 : PySem.W.keepIn K (.ref f35) = true)
    {f36 : Addr} {od36 an36 : Option Addr} {sl36 : Array (Option Value)} {oc36 kV36 dc36 pm36 cd36 ct36 : Value}
    (a36 : PySem.W.nsIn K mainGlobals "turns_in" = some (some (.ref f36))) (l36 : K.lookup f36 = some ⟨oc36, od36, .func (PySem.W.fnOf "turns_in" "turns_in" (defArgs st_turns_in) (defBody st_turns_in) (defScope st_turns_in) .none kV36 dc36 pm36 an36 cd36 ct36), sl36⟩) (c36 : PySem.W.codeIn K cd36 "turns_in" = true) (k36 : PySem.W.keepIn K (.ref f36) = true)
    {f37 : Addr} {od37 an37 : Option Addr} {sl37 : Array (Option Value)} {oc37 kV37 dc37 pm37 cd37 ct37 : Value}
    (a37 : PySem.W.nsIn K mainGlobals "number_told" = some (some (.ref f37))) (l37 : K.lookup f37 = some ⟨oc37, od37, .func (PySem.W.fnOf "number_told" "number_told" (defArgs st_number_told) (defBody st_number_told) (defScope st_number_told) .none kV37 dc37 pm37 an37 cd37 ct37), sl37⟩) (c37 : PySem.W.codeIn K cd37 "number_told" = true) (k37 : PySem.W.keepIn K (.ref f37) = true)
    {f38 : Addr} {od38 an38 : Option Addr} {sl38 : Array (Option Value)} {oc38 kV38 dc38 pm38 cd38 ct38 : Value}
    (a38 : PySem.W.nsIn K mainGlobals "turns_told" = some (some (.ref f38))) (l38 : K.lookup f38 = some ⟨oc38, od38, .func (PySem.W.fnOf "turns_told" "turns_told" (defArgs st_turns_told) (defBody st_turns_told) (defScope st_turns_told) .none kV38 dc38 pm38 an38 cd38 ct38), sl38⟩) (c38 : PySem.W.codeIn K cd38 "turns_told" = true) (k38 : PySem.W.keepIn K (.ref f38) = true)
    {f39 : Addr} {od39 an39 : Option Addr} {sl39 : Array (Option Value)} {oc39 kV39 dc39 pm39 cd39 ct39 : Value}
    (a39 : PySem.W.nsIn K mainGlobals "count_of" = some (some (.ref f39))) (l39 : K.lookup f39 = some ⟨oc39, od39, .func (PySem.W.fnOf "count_of" "count_of" (defArgs st_count_of) (defBody st_count_of) (defScope st_count_of) .none kV39 dc39 pm39 an39 cd39 ct39), sl39⟩) (c39 : PySem.W.codeIn K cd39 "count_of" = true) (k39 : PySem.W.keepIn K (.ref f39) = true)
    {f40 : Addr} {od40 an40 : Option Addr} {sl40 : Array (Option Value)} {oc40 kV40 dc40 pm40 cd40 ct40 : Value}
    (a40 : PySem.W.nsIn K mainGlobals "note_heard" = some (some (.ref f40))) (l40 : K.lookup f40 = some ⟨oc40, od40, .func (PySem.W.fnOf "note_heard" "note_heard" (defArgs st_note_heard) (defBody st_note_heard) (defScope st_note_heard) .none kV40 dc40 pm40 an40 cd40 ct40), sl40⟩) (c40 : PySem.W.codeIn K cd40 "note_heard" = true) (k40 : PySem.W.keepIn K (.ref f40) = true)
    {f41 : Addr} {od41 an41 : Option Addr} {sl41 : Array (Option Value)} {oc41 kV41 dc41 pm41 cd41 ct41 : Value}
    (a41 : PySem.W.nsIn K mainGlobals "choice_told" = some (some (.ref f41))) (l41 : K.lookup f41 = some ⟨oc41, od41, .func (PySem.W.fnOf "choice_told" "choice_told" (defArgs st_choice_told) (defBody st_choice_told) (defScope st_choice_told) .none kV41 dc41 pm41 an41 cd41 ct41), sl41⟩) (c41 : PySem.W.codeIn K cd41 "choice_told" = true) (k41 : PySem.W.keepIn K (.ref f41) = true)
    {f42 : Addr} {od42 an42 : Option Addr} {sl42 : Array (Option Value)} {oc42 kV42 dc42 pm42 cd42 ct42 : Value}
    (a42 : PySem.W.nsIn K mainGlobals "cheapest_told" = some (some (.ref f42))) (l42 : K.lookup f42 = some ⟨oc42, od42, .func (PySem.W.fnOf "cheapest_told" "cheapest_told" (defArgs st_cheapest_told) (defBody st_cheapest_told) (defScope st_cheapest_told) .none kV42 dc42 pm42 an42 cd42 ct42), sl42⟩) (c42 : PySem.W.codeIn K cd42 "cheapest_told" = true) (k42 : PySem.W.keepIn K (.ref f42) = true)
    {f43 : Addr} {od43 an43 : Option Addr} {sl43 : Array (Option Value)} {oc43 kV43 dc43 pm43 cd43 ct43 : Value}
    (a43 : PySem.W.nsIn K mainGlobals "_law_drawn" = some (some (.ref f43))) (l43 : K.lookup f43 = some ⟨oc43, od43, .func (PySem.W.fnOf "_law_drawn" "_law_drawn" (defArgs st__law_drawn) (defBody st__law_drawn) (defScope st__law_drawn) .none kV43 dc43 pm43 an43 cd43 ct43), sl43⟩) (c43 : PySem.W.codeIn K cd43 "_law_drawn" = true) (k43 : PySem.W.keepIn K (.ref f43) = true)
    {f44 : Addr} {od44 an44 : Option Addr} {sl44 : Array (Option Value)} {oc44 kV44 dc44 pm44 cd44 ct44 : Value}
    (a44 : PySem.W.nsIn K mainGlobals "_law_great" = some (some (.ref f44))) (l44 : K.lookup f44 = some ⟨oc44, od44, .func (PySem.W.fnOf "_law_great" "_law_great" (defArgs st__law_great) (defBody st__law_great) (defScope st__law_great) .none kV44 dc44 pm44 an44 cd44 ct44), sl44⟩) (c44 : PySem.W.codeIn K cd44 "_law_great" = true) (k44 : PySem.W.keepIn K (.ref f44) = true)
    {f45 : Addr} {od45 an45 : Option Addr} {sl45 : Array (Option Value)} {oc45 kV45 dc45 pm45 cd45 ct45 : Value}
    (a45 : PySem.W.nsIn K mainGlobals "_law_late" = some (some (.ref f45))) (l45 : K.lookup f45 = some ⟨oc45, od45, .func (PySem.W.fnOf "_law_late" "_law_late" (defArgs st__law_late) (defBody st__law_late) (defScope st__law_late) .none kV45 dc45 pm45 an45 cd45 ct45), sl45⟩) (c45 : PySem.W.codeIn K cd45 "_law_late" = true) (k45 : PySem.W.keepIn K (.ref f45) = true)
    {f46 : Addr} {od46 an46 : Option Addr} {sl46 : Array (Option Value)} {oc46 kV46 dc46 pm46 cd46 ct46 : Value}
    (a46 : PySem.W.nsIn K mainGlobals "_law_many" = some (some (.ref f46))) (l46 : K.lookup f46 = some ⟨oc46, od46, .func (PySem.W.fnOf "_law_many" "_law_many" (defArgs st__law_many) (defBody st__law_many) (defScope st__law_many) .none kV46 dc46 pm46 an46 cd46 ct46), sl46⟩) (c46 : PySem.W.codeIn K cd46 "_law_many" = true) (k46 : PySem.W.keepIn K (.ref f46) = true)
    {f47 : Addr} {od47 an47 : Option Addr} {sl47 : Array (Option Value)} {oc47 kV47 dc47 pm47 cd47 ct47 : Value}
    (a47 : PySem.W.nsIn K mainGlobals "_law_short" = some (some (.ref f47))) (l47 : K.lookup f47 = some ⟨oc47, od47, .func (PySem.W.fnOf "_law_short" "_law_short" (defArgs st__law_short) (defBody st__law_short) (defScope st__law_short) .none kV47 dc47 pm47 an47 cd47 ct47), sl47⟩) (c47 : PySem.W.codeIn K cd47 "_law_short" = true) (k47 : PySem.W.keepIn K (.ref f47) = true)
    {f48 : Addr} {od48 an48 : Option Addr} {sl48 : Array (Option Value)} {oc48 kV48 dc48 pm48 cd48 ct48 : Value}
    (a48 : PySem.W.nsIn K mainGlobals "_law_best" = some (some (.ref f48))) (l48 : K.lookup f48 = some ⟨oc48, od48, .func (PySem.W.fnOf "_law_best" "_law_best" (defArgs st__law_best) (defBody st__law_best) (defScope st__law_best) .none kV48 dc48 pm48 an48 cd48 ct48), sl48⟩) (c48 : PySem.W.codeIn K cd48 "_law_best" = true) (k48 : PySem.W.keepIn K (.ref f48) = true)
    {f49 : Addr} {od49 an49 : Option Addr} {sl49 : Array (Option Value)} {oc49 kV49 dc49 pm49 cd49 ct49 : Value}
    (a49 : PySem.W.nsIn K mainGlobals "_law_cheap" = some (some (.ref f49))) (l49 : K.lookup f49 = some ⟨oc49, od49, .func (PySem.W.fnOf "_law_cheap" "_law_cheap" (defArgs st__law_cheap) (defBody st__law_cheap) (defScope st__law_cheap) .none kV49 dc49 pm49 an49 cd49 ct49), sl49⟩) (c49 : PySem.W.codeIn K cd49 "_law_cheap" = true) (k49 : PySem.W.keepIn K (.ref f49) = true)
    {f50 : Addr} {od50 an50 : Option Addr} {sl50 : Array (Option Value)} {oc50 kV50 dc50 pm50 cd50 ct50 : Value}
    (a50 : PySem.W.nsIn K mainGlobals "law" = some (some (.ref f50))) (l50 : K.lookup f50 = some ⟨oc50, od50, .func (PySem.W.fnOf "law" "law" (defArgs st_law) (defBody st_law) (defScope st_law) .none kV50 dc50 pm50 an50 cd50 ct50), sl50⟩) (c50 : PySem.W.codeIn K cd50 "law" = true) (k50 : PySem.W.keepIn K (.ref f50) = true)
    (z_range : PySem.W.nsIn K mainGlobals "range" = some none)
    (z_isinstance : PySem.W.nsIn K mainGlobals "isinstance" = some none)
    (z_int : PySem.W.nsIn K mainGlobals "int" = some none)
    (z_bool : PySem.W.nsIn K mainGlobals "bool" = some none)
    (z_len : PySem.W.nsIn K mainGlobals "len" = some none)
    (z_list : PySem.W.nsIn K mainGlobals "list" = some none)
    (z_max : PySem.W.nsIn K mainGlobals "max" = some none)
    (z_min : PySem.W.nsIn K mainGlobals "min" = some none)
    (z_enumerate : PySem.W.nsIn K mainGlobals "enumerate" = some none)
    (z_sorted : PySem.W.nsIn K mainGlobals "sorted" = some none)
    (z_sum : PySem.W.nsIn K mainGlobals "sum" = some none)
    (z_all : PySem.W.nsIn K mainGlobals "all" = some none)
    (z_str : PySem.W.nsIn K mainGlobals "str" = some none)
    (z_zip : PySem.W.nsIn K mainGlobals "zip" = some none)
    (z_ValueError : PySem.W.nsIn K mainGlobals "ValueError" = some none)
    {C_BellError : Addr} (m_BellError : PySem.W.nsIn K mainGlobals "BellError" = some (some (.ref C_BellError)))
    {C_NoRow : Addr} (m_NoRow : PySem.W.nsIn K mainGlobals "NoRow" = some (some (.ref C_NoRow)))
    {C_NoReading : Addr} (m_NoReading : PySem.W.nsIn K mainGlobals "NoReading" = some (some (.ref C_NoReading)))
    {C_TooGreat : Addr} (m_TooGreat : PySem.W.nsIn K mainGlobals "TooGreat" = some (some (.ref C_TooGreat)))
    {C_NoOrder : Addr} (m_NoOrder : PySem.W.nsIn K mainGlobals "NoOrder" = some (some (.ref C_NoOrder)))
    {C_NoName : Addr} (m_NoName : PySem.W.nsIn K mainGlobals "NoName" = some (some (.ref C_NoName)))
    {C_NoNote : Addr} (m_NoNote : PySem.W.nsIn K mainGlobals "NoNote" = some (some (.ref C_NoNote)))
    {C_Frame : Addr} (m_Frame : PySem.W.nsIn K mainGlobals "Frame" = some (some (.ref C_Frame)))
    {C_Desk : Addr} (m_Desk : PySem.W.nsIn K mainGlobals "Desk" = some (some (.ref C_Desk)))
    {t_LETTERS : Tok} (m_LETTERS : PySem.W.nsIn K mainGlobals "LETTERS" = some (some (.str "abcdefghijklmnopqrstuvwxyz" t_LETTERS)))
    {t_MOST_LETTERS : Tok} (m_MOST_LETTERS : PySem.W.nsIn K mainGlobals "MOST_LETTERS" = some (some (.int 8 t_MOST_LETTERS)))
    {t_FIGURES : Tok} (m_FIGURES : PySem.W.nsIn K mainGlobals "FIGURES" = some (some (.str "0123456789" t_FIGURES)))
    {t_MOST_FIGURES : Tok} (m_MOST_FIGURES : PySem.W.nsIn K mainGlobals "MOST_FIGURES" = some (some (.int 60 t_MOST_FIGURES)))
    {t_MOST_FIGURES_OF_MESSAGE : Tok} (m_MOST_FIGURES_OF_MESSAGE : PySem.W.nsIn K mainGlobals "MOST_FIGURES_OF_MESSAGE" = some (some (.int 3000 t_MOST_FIGURES_OF_MESSAGE)))
    {t_MOST_BELLS : Tok} (m_MOST_BELLS : PySem.W.nsIn K mainGlobals "MOST_BELLS" = some (some (.int 60 t_MOST_BELLS)))
    (x_BellError : PySem.W.excIn K C_BellError bmV "ValueError.__new__" = true)
    (x_NoRow : PySem.W.excIn K C_NoRow bmV "ValueError.__new__" = true)
    (x_NoReading : PySem.W.excIn K C_NoReading bmV "ValueError.__new__" = true)
    (x_TooGreat : PySem.W.excIn K C_TooGreat bmV "ValueError.__new__" = true)
    (x_NoOrder : PySem.W.excIn K C_NoOrder bmV "ValueError.__new__" = true)
    (x_NoName : PySem.W.excIn K C_NoName bmV "ValueError.__new__" = true)
    (x_NoNote : PySem.W.excIn K C_NoNote bmV "ValueError.__new__" = true)
    {oc_dg : Value} {od_dg : Option Addr} {es_dg : Array DictEntry} {ep_dg : Nat} {sl_dg : Array (Option Value)} (dg_l : K.lookup cStatics = some ⟨oc_dg, od_dg, .dict es_dg ep_dg, sl_dg⟩) (dg_e : (es_dg.all fun e => match e.key with | .str _ _ => true | _ => false) = true) (dg_n : PySem.W.nsIn K cStatics "sys.int_max_str_digits" = some none)
    (o_pg_Frame : PySem.W.plainGet K C_Frame Str.empty = true)
    (o_hd_Frame : PySem.W.hasDictIn K C_Frame = true)
    (o_po_Frame : PySem.W.plainOver K C_Frame = true)
    (o_sa_Frame : PySem.W.findIn K (.ref C_Frame) "__setattr__" = some (some (.builtin "object.__setattr__")))
    (o_mk_Frame : PySem.W.makesIn K C_Frame = true)
    (o_kc_Frame : PySem.W.keepIn K (.ref C_Frame) = true)
    (o_n_Frame_turns : PySem.W.findIn K (.ref C_Frame) "turns" = some none)
    (o_n_Frame_bells : PySem.W.findIn K (.ref C_Frame) "bells" = some none)
    (o_n_Frame_late : PySem.W.findIn K (.ref C_Frame) "late" = some none)
    (o_n_Frame_frames : PySem.W.findIn K (.ref C_Frame) "frames" = some none)
    (o_pg_Desk : PySem.W.plainGet K C_Desk Str.empty = true)
    (o_hd_Desk : PySem.W.hasDictIn K C_Desk = true)
    (o_po_Desk : PySem.W.plainOver K C_Desk = true)
    (o_sa_Desk : PySem.W.findIn K (.ref C_Desk) "__setattr__" = some (some (.builtin "object.__setattr__")))
    (o_mk_Desk : PySem.W.makesIn K C_Desk = true)
    (o_kc_Desk : PySem.W.keepIn K (.ref C_Desk) = true)
    (o_n_Desk_turns : PySem.W.findIn K (.ref C_Desk) "turns" = some none)
    (o_n_Desk_bells : PySem.W.findIn K (.ref C_Desk) "bells" = some none)
    (o_n_Desk_late : PySem.W.findIn K (.ref C_Desk) "late" = some none)
    (o_n_Desk_frames : PySem.W.findIn K (.ref C_Desk) "frames" = some none)
    {fm_Frame_init : Addr} {odm_Frame_init anm_Frame_init : Option Addr} {slm_Frame_init : Array (Option Value)} {ocm_Frame_init kVm_Frame_init dcm_Frame_init pmm_Frame_init cdm_Frame_init ctm_Frame_init : Value}
    (o_a_Frame_Frame_init : PySem.W.findIn K (.ref C_Frame) "__init__" = some (some (.ref fm_Frame_init)))
    (o_l_Frame_init : K.lookup fm_Frame_init = some ⟨ocm_Frame_init, odm_Frame_init, .func (PySem.W.fnOf "__init__" "Frame.__init__" (defArgs st_Frame_init) (defBody st_Frame_init) (defScope st_Frame_init) .none kVm_Frame_init dcm_Frame_init pmm_Frame_init anm_Frame_init cdm_Frame_init ctm_Frame_init), slm_Frame_init⟩) (o_c_Frame_init : PySem.W.codeIn K cdm_Frame_init "Frame.__init__" = true) (o_k_Frame_init : PySem.W.keepIn K (.ref fm_Frame_init) = true) (o_f_Frame_init : PySem.W.isFn K (.ref fm_Frame_init) = true)
    {fm_Desk_init : Addr} {odm_Desk_init anm_Desk_init : Option Addr} {slm_Desk_init : Array (Option Value)} {ocm_Desk_init kVm_Desk_init dcm_Desk_init pmm_Desk_init cdm_Desk_init ctm_Desk_init : Value}
    (o_a_Desk_Desk_init : PySem.W.findIn K (.ref C_Desk) "__init__" = some (some (.ref fm_Desk_init)))
    (o_l_Desk_init : K.lookup fm_Desk_init = some ⟨ocm_Desk_init, odm_Desk_init, .func (PySem.W.fnOf "__init__" "Desk.__init__" (defArgs st_Desk_init) (defBody st_Desk_init) (defScope st_Desk_init) .none kVm_Desk_init dcm_Desk_init pmm_Desk_init anm_Desk_init cdm_Desk_init ctm_Desk_init), slm_Desk_init⟩) (o_c_Desk_init : PySem.W.codeIn K cdm_Desk_init "Desk.__init__" = true) (o_k_Desk_init : PySem.W.keepIn K (.ref fm_Desk_init) = true) (o_f_Desk_init : PySem.W.isFn K (.ref fm_Desk_init) = true)
    {fm_Desk_told : Addr} {odm_Desk_told anm_Desk_told : Option Addr} {slm_Desk_told : Array (Option Value)} {ocm_Desk_told kVm_Desk_told dcm_Desk_told pmm_Desk_told cdm_Desk_told ctm_Desk_told : Value}
    (o_a_Desk_Desk_told : PySem.W.findIn K (.ref C_Desk) "told" = some (some (.ref fm_Desk_told)))
    (o_l_Desk_told : K.lookup fm_Desk_told = some ⟨ocm_Desk_told, odm_Desk_told, .func (PySem.W.fnOf "told" "Desk.told" (defArgs st_Desk_told) (defBody st_Desk_told) (defScope st_Desk_told) .none kVm_Desk_told dcm_Desk_told pmm_Desk_told anm_Desk_told cdm_Desk_told ctm_Desk_told), slm_Desk_told⟩) (o_c_Desk_told : PySem.W.codeIn K cdm_Desk_told "Desk.told" = true) (o_k_Desk_told : PySem.W.keepIn K (.ref fm_Desk_told) = true) (o_f_Desk_told : PySem.W.isFn K (.ref fm_Desk_told) = true)
    {fm_Desk_keep : Addr} {odm_Desk_keep anm_Desk_keep : Option Addr} {slm_Desk_keep : Array (Option Value)} {ocm_Desk_keep kVm_Desk_keep dcm_Desk_keep pmm_Desk_keep cdm_Desk_keep ctm_Desk_keep : Value}
    (o_a_Desk_Desk_keep : PySem.W.findIn K (.ref C_Desk) "keep" = some (some (.ref fm_Desk_keep)))
    (o_l_Desk_keep : K.lookup fm_Desk_keep = some ⟨ocm_Desk_keep, odm_Desk_keep, .func (PySem.W.fnOf "keep" "Desk.keep" (defArgs st_Desk_keep) (defBody st_Desk_keep) (defScope st_Desk_keep) .none kVm_Desk_keep dcm_Desk_keep pmm_Desk_keep anm_Desk_keep cdm_Desk_keep ctm_Desk_keep), slm_Desk_keep⟩) (o_c_Desk_keep : PySem.W.codeIn K cdm_Desk_keep "Desk.keep" = true) (o_k_Desk_keep : PySem.W.keepIn K (.ref fm_Desk_keep) = true) (o_f_Desk_keep : PySem.W.isFn K (.ref fm_Desk_keep) = true)
    {fm_Desk_ring : Addr} {odm_Desk_ring anm_Desk_ring : Option Addr} {slm_Desk_ring : Array (Option Value)} {ocm_Desk_ring kVm_Desk_ring dcm_Desk_ring pmm_Desk_ring cdm_Desk_ring ctm_Desk_ring : Value}
    (o_a_Desk_Desk_ring : PySem.W.findIn K (.ref C_Desk) "ring" = some (some (.ref fm_Desk_ring)))
    (o_l_Desk_ring : K.lookup fm_Desk_ring = some ⟨ocm_Desk_ring, odm_Desk_ring, .func (PySem.W.fnOf "ring" "Desk.ring" (defArgs st_Desk_ring) (defBody st_Desk_ring) (defScope st_Desk_ring) .none kVm_Desk_ring dcm_Desk_ring pmm_Desk_ring anm_Desk_ring cdm_Desk_ring ctm_Desk_ring), slm_Desk_ring⟩) (o_c_Desk_ring : PySem.W.codeIn K cdm_Desk_ring "Desk.ring" = true) (o_k_Desk_ring : PySem.W.keepIn K (.ref fm_Desk_ring) = true) (o_f_Desk_ring : PySem.W.isFn K (.ref fm_Desk_ring) = true)
    {fm_Desk_listen : Addr} {odm_Desk_listen anm_Desk_listen : Option Addr} {slm_Desk_listen : Array (Option Value)} {ocm_Desk_listen kVm_Desk_listen dcm_Desk_listen pmm_Desk_listen cdm_Desk_listen ctm_Desk_listen : Value}
    (o_a_Desk_Desk_listen : PySem.W.findIn K (.ref C_Desk) "listen" = some (some (.ref fm_Desk_listen)))
    (o_l_Desk_listen : K.lookup fm_Desk_listen = some ⟨ocm_Desk_listen, odm_Desk_listen, .func (PySem.W.fnOf "listen" "Desk.listen" (defArgs st_Desk_listen) (defBody st_Desk_listen) (defScope st_Desk_listen) .none kVm_Desk_listen dcm_Desk_listen pmm_Desk_listen anm_Desk_listen cdm_Desk_listen ctm_Desk_listen), slm_Desk_listen⟩) (o_c_Desk_listen : PySem.W.codeIn K cdm_Desk_listen "Desk.listen" = true) (o_k_Desk_listen : PySem.W.keepIn K (.ref fm_Desk_listen) = true) (o_f_Desk_listen : PySem.W.isFn K (.ref fm_Desk_listen) = true)
    {fm_Desk_send_note : Addr} {odm_Desk_send_note anm_Desk_send_note : Option Addr} {slm_Desk_send_note : Array (Option Value)} {ocm_Desk_send_note kVm_Desk_send_note dcm_Desk_send_note pmm_Desk_send_note cdm_Desk_send_note ctm_Desk_send_note : Value}
    (o_a_Desk_Desk_send_note : PySem.W.findIn K (.ref C_Desk) "send_note" = some (some (.ref fm_Desk_send_note)))
    (o_l_Desk_send_note : K.lookup fm_Desk_send_note = some ⟨ocm_Desk_send_note, odm_Desk_send_note, .func (PySem.W.fnOf "send_note" "Desk.send_note" (defArgs st_Desk_send_note) (defBody st_Desk_send_note) (defScope st_Desk_send_note) .none kVm_Desk_send_note dcm_Desk_send_note pmm_Desk_send_note anm_Desk_send_note cdm_Desk_send_note ctm_Desk_send_note), slm_Desk_send_note⟩) (o_c_Desk_send_note : PySem.W.codeIn K cdm_Desk_send_note "Desk.send_note" = true) (o_k_Desk_send_note : PySem.W.keepIn K (.ref fm_Desk_send_note) = true) (o_f_Desk_send_note : PySem.W.isFn K (.ref fm_Desk_send_note) = true)
    {fm_Desk_kept : Addr} {odm_Desk_kept anm_Desk_kept : Option Addr} {slm_Desk_kept : Array (Option Value)} {ocm_Desk_kept kVm_Desk_kept dcm_Desk_kept pmm_Desk_kept cdm_Desk_kept ctm_Desk_kept : Value}
    (o_a_Desk_Desk_kept : PySem.W.findIn K (.ref C_Desk) "kept" = some (some (.ref fm_Desk_kept)))
    (o_l_Desk_kept : K.lookup fm_Desk_kept = some ⟨ocm_Desk_kept, odm_Desk_kept, .func (PySem.W.fnOf "kept" "Desk.kept" (defArgs st_Desk_kept) (defBody st_Desk_kept) (defScope st_Desk_kept) .none kVm_Desk_kept dcm_Desk_kept pmm_Desk_kept anm_Desk_kept cdm_Desk_kept ctm_Desk_kept), slm_Desk_kept⟩) (o_c_Desk_kept : PySem.W.codeIn K cdm_Desk_kept "Desk.kept" = true) (o_k_Desk_kept : PySem.W.keepIn K (.ref fm_Desk_kept) = true) (o_f_Desk_kept : PySem.W.isFn K (.ref fm_Desk_kept) = true)
    : ∃ fd : FuncData, (∀ (s : Shared) (v : Value), BindsTo s fd ⟨[v], []⟩ [("script", v)]) ∧ ∀ base : Heap, K.In base → base.Ns mainGlobals mg → FnOk l.prog w K mg base CX0 50 fa fd ["script"] (spLaw K) := by
  have e := hfa.symm.trans (PySem.W.mg_of X G a50)
  cases e
  have D_choose : Def K mg "choose" st_choose ["n", "k"] := ⟨f0, _, fun_mk l0 c0 k0, (fun_mk (st := st_choose) l0 c0 k0).binds (ps := ["n", "k"]) (fun _ _ _ _ _ _ us hl => binds_len2 hl fun _ _ => rfl), PySem.W.mg_of X G a0⟩
  have D_top_of : Def K mg "top_of" st_top_of ["k", "number"] := ⟨f1, _, fun_mk l1 c1 k1, (fun_mk (st := st_top_of) l1 c1 k1).binds (ps := ["k", "number"]) (fun _ _ _ _ _ _ us hl => binds_len2 hl fun _ _ => rfl), PySem.W.mg_of X G a1⟩
  have D_top_from : Def K mg "top_from" st_top_from ["start", "k", "number"] := ⟨f2, _, fun_mk l2 c2 k2, (fun_mk (st := st_top_from) l2 c2 k2).binds (ps := ["start", "k", "number"]) (fun _ _ _ _ _ _ us hl => binds_len3 hl fun _ _ _ => rfl), PySem.W.mg_of X G a2⟩
  have D_above_top : Def K mg "above_top" st_above_top ["k", "number"] := ⟨f3, _, fun_mk l3 c3 k3, (fun_mk (st := st_above_top) l3 c3 k3).binds (ps := ["k", "number"]) (fun _ _ _ _ _ _ us hl => binds_len2 hl fun _ _ => rfl), PySem.W.mg_of X G a3⟩
  have D_rounded_up : Def K mg "rounded_up" st_rounded_up ["number", "divisor"] := ⟨f4, _, fun_mk l4 c4 k4, (fun_mk (st := st_rounded_up) l4 c4 k4).binds (ps := ["number", "divisor"]) (fun _ _ _ _ _ _ us hl => binds_len2 hl fun _ _ => rfl), PySem.W.mg_of X G a4⟩
  have D_box_of : Def K mg "box_of" st_box_of ["row", "late"] := ⟨f5, _, fun_mk l5 c5 k5, (fun_mk (st := st_box_of) l5 c5 k5).binds (ps := ["row", "late"]) (fun _ _ _ _ _ _ us hl => binds_len2 hl fun _ _ => rfl), PySem.W.mg_of X G a5⟩
  have D_bell_row : Def K mg "bell_row" st_bell_row ["box", "late"] := ⟨f6, _, fun_mk l6 c6 k6, (fun_mk (st := st_bell_row) l6 c6 k6).binds (ps := ["box", "late"]) (fun _ _ _ _ _ _ us hl => binds_len2 hl fun _ _ => rfl), PySem.W.mg_of X G a6⟩
  have D_heard_box : Def K mg "heard_box" st_heard_box ["reading", "late"] := ⟨f7, _, fun_mk l7 c7 k7, (fun_mk (st := st_heard_box) l7 c7 k7).binds (ps := ["reading", "late"]) (fun _ _ _ _ _ _ us hl => binds_len2 hl fun _ _ => rfl), PySem.W.mg_of X G a7⟩
  have D_box_count : Def K mg "box_count" st_box_count ["turns", "bells", "late"] := ⟨f8, _, fun_mk l8 c8 k8, (fun_mk (st := st_box_count) l8 c8 k8).binds (ps := ["turns", "bells", "late"]) (fun _ _ _ _ _ _ us hl => binds_len3 hl fun _ _ _ => rfl), PySem.W.mg_of X G a8⟩
  have D_greatest_part : Def K mg "greatest_part" st_greatest_part ["turns", "bells", "late"] := ⟨f9, _, fun_mk l9 c9 k9, (fun_mk (st := st_greatest_part) l9 c9 k9).binds (ps := ["turns", "bells", "late"]) (fun _ _ _ _ _ _ us hl => binds_len3 hl fun _ _ _ => rfl), PySem.W.mg_of X G a9⟩
  have D_shortest_frame : Def K mg "shortest_frame" st_shortest_frame ["bells", "late", "many"] := ⟨f10, _, fun_mk l10 c10 k10, (fun_mk (st := st_shortest_frame) l10 c10 k10).binds (ps := ["bells", "late", "many"]) (fun _ _ _ _ _ _ us hl => binds_len3 hl fun _ _ _ => rfl), PySem.W.mg_of X G a10⟩
  have D_best_bells : Def K mg "best_bells" st_best_bells ["turns", "late", "most"] := ⟨f11, _, fun_mk l11 c11 k11, (fun_mk (st := st_best_bells) l11 c11 k11).binds (ps := ["turns", "late", "most"]) (fun _ _ _ _ _ _ us hl => binds_len3 hl fun _ _ _ => rfl), PySem.W.mg_of X G a11⟩
  have D_cheapest : Def K mg "cheapest" st_cheapest ["many", "late", "turn_cost", "bell_cost", "most"] := ⟨f12, _, fun_mk l12 c12 k12, (fun_mk (st := st_cheapest) l12 c12 k12).binds (ps := ["many", "late", "turn_cost", "bell_cost", "most"]) (fun _ _ _ _ _ _ us hl => binds_len5 hl fun _ _ _ _ _ => rfl), PySem.W.mg_of X G a12⟩
  have D_box_number : Def K mg "box_number" st_box_number ["box"] := ⟨f13, _, fun_mk l13 c13 k13, (fun_mk (st := st_box_number) l13 c13 k13).binds (ps := ["box"]) (fun _ _ _ _ _ _ us hl => binds_len1 hl fun _ => rfl), PySem.W.mg_of X G a13⟩
  have D_box_of_message : Def K mg "box_of_message" st_box_of_message ["message", "bells"] := ⟨f14, _, fun_mk l14 c14 k14, (fun_mk (st := st_box_of_message) l14 c14 k14).binds (ps := ["message", "bells"]) (fun _ _ _ _ _ _ us hl => binds_len2 hl fun _ _ => rfl), PySem.W.mg_of X G a14⟩
  have D_written : Def K mg "written" st_written ["message", "turns", "bells", "late"] := ⟨f15, _, fun_mk l15 c15 k15, (fun_mk (st := st_written) l15 c15 k15).binds (ps := ["message", "turns", "bells", "late"]) (fun _ _ _ _ _ _ us hl => binds_len4 hl fun _ _ _ _ => rfl), PySem.W.mg_of X G a15⟩
  have D_read : Def K mg "read" st_read ["reading", "turns", "bells", "late"] := ⟨f16, _, fun_mk l16 c16 k16, (fun_mk (st := st_read) l16 c16 k16).binds (ps := ["reading", "turns", "bells", "late"]) (fun _ _ _ _ _ _ us hl => binds_len4 hl fun _ _ _ _ => rfl), PySem.W.mg_of X G a16⟩
  have D_keyed_count : Def K mg "keyed_count" st_keyed_count ["turns", "bells", "late"] := ⟨f17, _, fun_mk l17 c17 k17, (fun_mk (st := st_keyed_count) l17 c17 k17).binds (ps := ["turns", "bells", "late"]) (fun _ _ _ _ _ _ us hl => binds_len3 hl fun _ _ _ => rfl), PySem.W.mg_of X G a17⟩
  have D_keyed : Def K mg "keyed" st_keyed ["message", "turns", "bells", "late"] := ⟨f18, _, fun_mk l18 c18 k18, (fun_mk (st := st_keyed) l18 c18 k18).binds (ps := ["message", "turns", "bells", "late"]) (fun _ _ _ _ _ _ us hl => binds_len4 hl fun _ _ _ _ => rfl), PySem.W.mg_of X G a18⟩
  have D_unkeyed : Def K mg "unkeyed" st_unkeyed ["reading", "turns", "bells", "late"] := ⟨f19, _, fun_mk l19 c19 k19, (fun_mk (st := st_unkeyed) l19 c19 k19).binds (ps := ["reading", "turns", "bells", "late"]) (fun _ _ _ _ _ _ us hl => binds_len4 hl fun _ _ _ _ => rfl), PySem.W.mg_of X G a19⟩
  have D_refuse_silent : Def K mg "refuse_silent" st_refuse_silent ["turns", "bells"] := ⟨f20, _, fun_mk l20 c20 k20, (fun_mk (st := st_refuse_silent) l20 c20 k20).binds (ps := ["turns", "bells"]) (fun _ _ _ _ _ _ us hl => binds_len2 hl fun _ _ => rfl), PySem.W.mg_of X G a20⟩
  have D_rung : Def K mg "rung" st_rung ["messages", "turns", "bells", "late"] := ⟨f21, _, fun_mk l21 c21 k21, (fun_mk (st := st_rung) l21 c21 k21).binds (ps := ["messages", "turns", "bells", "late"]) (fun _ _ _ _ _ _ us hl => binds_len4 hl fun _ _ _ _ => rfl), PySem.W.mg_of X G a21⟩
  have D_by_messages : Def K mg "by_messages" st_by_messages ["reading", "turns", "late"] := ⟨f22, _, fun_mk l22 c22 k22, (fun_mk (st := st_by_messages) l22 c22 k22).binds (ps := ["reading", "turns", "late"]) (fun _ _ _ _ _ _ us hl => binds_len3 hl fun _ _ _ => rfl), PySem.W.mg_of X G a22⟩
  have D_note_number : Def K mg "note_number" st_note_number ["note"] := ⟨f23, _, fun_mk l23 c23 k23, (fun_mk (st := st_note_number) l23 c23 k23).binds (ps := ["note"]) (fun _ _ _ _ _ _ us hl => binds_len1 hl fun _ => rfl), PySem.W.mg_of X G a23⟩
  have D_note_of : Def K mg "note_of" st_note_of ["number"] := ⟨f24, _, fun_mk l24 c24 k24, (fun_mk (st := st_note_of) l24 c24 k24).binds (ps := ["number"]) (fun _ _ _ _ _ _ us hl => binds_len1 hl fun _ => rfl), PySem.W.mg_of X G a24⟩
  have D_parts : Def K mg "parts" st_parts ["number", "base"] := ⟨f25, _, fun_mk l25 c25 k25, (fun_mk (st := st_parts) l25 c25 k25).binds (ps := ["number", "base"]) (fun _ _ _ _ _ _ us hl => binds_len2 hl fun _ _ => rfl), PySem.W.mg_of X G a25⟩
  have D_number_of_parts : Def K mg "number_of_parts" st_number_of_parts ["figures", "base"] := ⟨f26, _, fun_mk l26 c26 k26, (fun_mk (st := st_number_of_parts) l26 c26 k26).binds (ps := ["figures", "base"]) (fun _ _ _ _ _ _ us hl => binds_len2 hl fun _ _ => rfl), PySem.W.mg_of X G a26⟩
  have D_sent : Def K mg "sent" st_sent ["note", "turns", "bells", "late"] := ⟨f27, _, fun_mk l27 c27 k27, (fun_mk (st := st_sent) l27 c27 k27).binds (ps := ["note", "turns", "bells", "late"]) (fun _ _ _ _ _ _ us hl => binds_len4 hl fun _ _ _ _ => rfl), PySem.W.mg_of X G a27⟩
  have D_received : Def K mg "received" st_received ["reading", "turns", "bells", "late"] := ⟨f28, _, fun_mk l28 c28 k28, (fun_mk (st := st_received) l28 c28 k28).binds (ps := ["reading", "turns", "bells", "late"]) (fun _ _ _ _ _ _ us hl => binds_len4 hl fun _ _ _ _ => rfl), PySem.W.mg_of X G a28⟩
  have D_messages_ahead_of_end : Def K mg "messages_ahead_of_end" st_messages_ahead_of_end ["reading", "turns", "bells", "late"] := ⟨f29, _, fun_mk l29 c29 k29, (fun_mk (st := st_messages_ahead_of_end) l29 c29 k29).binds (ps := ["reading", "turns", "bells", "late"]) (fun _ _ _ _ _ _ us hl => binds_len4 hl fun _ _ _ _ => rfl), PySem.W.mg_of X G a29⟩
  have D_is_made_of : Def K mg "is_made_of" st_is_made_of ["word", "signs", "most"] := ⟨f30, _, fun_mk l30 c30 k30, (fun_mk (st := st_is_made_of) l30 c30 k30).binds (ps := ["word", "signs", "most"]) (fun _ _ _ _ _ _ us hl => binds_len3 hl fun _ _ _ => rfl), PySem.W.mg_of X G a30⟩
  have D_name_in : Def K mg "name_in" st_name_in ["word"] := ⟨f31, _, fun_mk l31 c31 k31, (fun_mk (st := st_name_in) l31 c31 k31).binds (ps := ["word"]) (fun _ _ _ _ _ _ us hl => binds_len1 hl fun _ => rfl), PySem.W.mg_of X G a31⟩
  have D_figures_in : Def K mg "figures_in" st_figures_in ["word", "most"] := ⟨f32, _, fun_mk l32 c32 k32, (fun_mk (st := st_figures_in) l32 c32 k32).binds (ps := ["word", "most"]) (fun _ _ _ _ _ _ us hl => binds_len2 hl fun _ _ => rfl), PySem.W.mg_of X G a32⟩
  have D_number_in : Def K mg "number_in" st_number_in ["word"] := ⟨f33, _, fun_mk l33 c33 k33, (fun_mk (st := st_number_in) l33 c33 k33).binds (ps := ["word"]) (fun _ _ _ _ _ _ us hl => binds_len1 hl fun _ => rfl), PySem.W.mg_of X G a33⟩
  have D_message_in : Def K mg "message_in" st_message_in ["word"] := ⟨f34, _, fun_mk l34 c34 k34, (fun_mk (st := st_message_in) l34 c34 k34).binds (ps := ["word"]) (fun _ _ _ _ _ _ us hl => binds_len1 hl fun _ => rfl), PySem.W.mg_of X G a34⟩
  have D_bells_in : Def K mg "bells_in" st_bells_in ["word"] := ⟨f35, _, fun_mk l35 c35 k35, (fun_mk (st := st_bells_in) l35 c35 k35).binds (ps := ["word"]) (fun _ _ _ _ _ _ us hl => binds_len1 hl fun _ => rfl), PySem.W.mg_of X G a35⟩
  have D_turns_in : Def K mg "turns_in" st_turns_in ["words"] := ⟨f36, _, fun_mk l36 c36 k36, (fun_mk (st := st_turns_in) l36 c36 k36).binds (ps := ["words"]) (fun _ _ _ _ _ _ us hl => binds_len1 hl fun _ => rfl), PySem.W.mg_of X G a36⟩
  have D_number_told : Def K mg "number_told" st_number_told ["number"] := ⟨f37, _, fun_mk l37 c37 k37, (fun_mk (st := st_number_told) l37 c37 k37).binds (ps := ["number"]) (fun _ _ _ _ _ _ us hl => binds_len1 hl fun _ => rfl), PySem.W.mg_of X G a37⟩
  have D_turns_told : Def K mg "turns_told" st_turns_told ["turns"] := ⟨f38, _, fun_mk l38 c38 k38, (fun_mk (st := st_turns_told) l38 c38 k38).binds (ps := ["turns"]) (fun _ _ _ _ _ _ us hl => binds_len1 hl fun _ => rfl), PySem.W.mg_of X G a38⟩
  have D_count_of : Def K mg "count_of" st_count_of ["frame"] := ⟨f39, _, fun_mk l39 c39 k39, (fun_mk (st := st_count_of) l39 c39 k39).binds (ps := ["frame"]) (fun _ _ _ _ _ _ us hl => binds_len1 hl fun _ => rfl), PySem.W.mg_of X G a39⟩
  have D_note_heard : Def K mg "note_heard" st_note_heard ["reading", "frame"] := ⟨f40, _, fun_mk l40 c40 k40, (fun_mk (st := st_note_heard) l40 c40 k40).binds (ps := ["reading", "frame"]) (fun _ _ _ _ _ _ us hl => binds_len2 hl fun _ _ => rfl), PySem.W.mg_of X G a40⟩
  have D_choice_told : Def K mg "choice_told" st_choice_told ["words"] := ⟨f41, _, fun_mk l41 c41 k41, (fun_mk (st := st_choice_told) l41 c41 k41).binds (ps := ["words"]) (fun _ _ _ _ _ _ us hl => binds_len1 hl fun _ => rfl), PySem.W.mg_of X G a41⟩
  have D_cheapest_told : Def K mg "cheapest_told" st_cheapest_told ["words"] := ⟨f42, _, fun_mk l42 c42 k42, (fun_mk (st := st_cheapest_told) l42 c42 k42).binds (ps := ["words"]) (fun _ _ _ _ _ _ us hl => binds_len1 hl fun _ => rfl), PySem.W.mg_of X G a42⟩
  have D__law_drawn : Def K mg "_law_drawn" st__law_drawn ["cell", "k"] := ⟨f43, _, fun_mk l43 c43 k43, (fun_mk (st := st__law_drawn) l43 c43 k43).binds (ps := ["cell", "k"]) (fun _ _ _ _ _ _ us hl => binds_len2 hl fun _ _ => rfl), PySem.W.mg_of X G a43⟩
  have D__law_great : Def K mg "_law_great" st__law_great ["cell", "k"] := ⟨f44, _, fun_mk l44 c44 k44, (fun_mk (st := st__law_great) l44 c44 k44).binds (ps := ["cell", "k"]) (fun _ _ _ _ _ _ us hl => binds_len2 hl fun _ _ => rfl), PySem.W.mg_of X G a44⟩
  have D__law_late : Def K mg "_law_late" st__law_late ["cell"] := ⟨f45, _, fun_mk l45 c45 k45, (fun_mk (st := st__law_late) l45 c45 k45).binds (ps := ["cell"]) (fun _ _ _ _ _ _ us hl => binds_len1 hl fun _ => rfl), PySem.W.mg_of X G a45⟩
  have D__law_many : Def K mg "_law_many" st__law_many ["cell"] := ⟨f46, _, fun_mk l46 c46 k46, (fun_mk (st := st__law_many) l46 c46 k46).binds (ps := ["cell"]) (fun _ _ _ _ _ _ us hl => binds_len1 hl fun _ => rfl), PySem.W.mg_of X G a46⟩
  have D__law_short : Def K mg "_law_short" st__law_short ["desk", "cell"] := ⟨f47, _, fun_mk l47 c47 k47, (fun_mk (st := st__law_short) l47 c47 k47).binds (ps := ["desk", "cell"]) (fun _ _ _ _ _ _ us hl => binds_len2 hl fun _ _ => rfl), PySem.W.mg_of X G a47⟩
  have D__law_best : Def K mg "_law_best" st__law_best ["desk", "cell"] := ⟨f48, _, fun_mk l48 c48 k48, (fun_mk (st := st__law_best) l48 c48 k48).binds (ps := ["desk", "cell"]) (fun _ _ _ _ _ _ us hl => binds_len2 hl fun _ _ => rfl), PySem.W.mg_of X G a48⟩
  have D__law_cheap : Def K mg "_law_cheap" st__law_cheap ["desk", "cell"] := ⟨f49, _, fun_mk l49 c49 k49, (fun_mk (st := st__law_cheap) l49 c49 k49).binds (ps := ["desk", "cell"]) (fun _ _ _ _ _ _ us hl => binds_len2 hl fun _ _ => rfl), PySem.W.mg_of X G a49⟩
  have O : Own K C_Frame C_Desk := ⟨⟨o_pg_Frame, o_hd_Frame, o_po_Frame, o_sa_Frame⟩, o_n_Frame_turns, o_n_Frame_bells, o_n_Frame_late, o_n_Frame_frames, ⟨o_pg_Desk, o_hd_Desk, o_po_Desk, o_sa_Desk⟩, o_n_Desk_turns, o_n_Desk_bells, o_n_Desk_late, o_n_Desk_frames, ⟨fm_Frame_init, ⟨_, fund_mk o_l_Frame_init o_c_Frame_init, (fun_mk (st := st_Frame_init) o_l_Frame_init o_c_Frame_init o_k_Frame_init).binds (ps := ["self", "turns", "bells", "late"]) (fun _ _ _ _ _ _ us hl => binds_len4 hl fun _ _ _ _ => rfl)⟩, ⟨o_mk_Frame, o_a_Frame_Frame_init, o_f_Frame_init, o_kc_Frame⟩⟩, ⟨fm_Desk_init, ⟨_, fund_mk o_l_Desk_init o_c_Desk_init, (fun_mk (st := st_Desk_init) o_l_Desk_init o_c_Desk_init o_k_Desk_init).binds (ps := ["self"]) (fun _ _ _ _ _ _ us hl => binds_len1 hl fun _ => rfl)⟩, ⟨o_mk_Desk, o_a_Desk_Desk_init, o_f_Desk_init, o_kc_Desk⟩⟩, ⟨fm_Desk_told, ⟨_, fund_mk o_l_Desk_told o_c_Desk_told, (fun_mk (st := st_Desk_told) o_l_Desk_told o_c_Desk_told o_k_Desk_told).binds (ps := ["self", "order"]) (fun _ _ _ _ _ _ us hl => binds_len2 hl fun _ _ => rfl)⟩, ⟨o_a_Desk_Desk_told, o_f_Desk_told, o_k_Desk_told⟩⟩, ⟨fm_Desk_keep, ⟨_, fund_mk o_l_Desk_keep o_c_Desk_keep, (fun_mk (st := st_Desk_keep) o_l_Desk_keep o_c_Desk_keep o_k_Desk_keep).binds (ps := ["self", "words"]) (fun _ _ _ _ _ _ us hl => binds_len2 hl fun _ _ => rfl)⟩, ⟨o_a_Desk_Desk_keep, o_f_Desk_keep, o_k_Desk_keep⟩⟩, ⟨fm_Desk_ring, ⟨_, fund_mk o_l_Desk_ring o_c_Desk_ring, (fun_mk (st := st_Desk_ring) o_l_Desk_ring o_c_Desk_ring o_k_Desk_ring).binds (ps := ["self", "words"]) (fun _ _ _ _ _ _ us hl => binds_len2 hl fun _ _ => rfl)⟩, ⟨o_a_Desk_Desk_ring, o_f_Desk_ring, o_k_Desk_ring⟩⟩, ⟨fm_Desk_listen, ⟨_, fund_mk o_l_Desk_listen o_c_Desk_listen, (fun_mk (st := st_Desk_listen) o_l_Desk_listen o_c_Desk_listen o_k_Desk_listen).binds (ps := ["self", "words"]) (fun _ _ _ _ _ _ us hl => binds_len2 hl fun _ _ => rfl)⟩, ⟨o_a_Desk_Desk_listen, o_f_Desk_listen, o_k_Desk_listen⟩⟩, ⟨fm_Desk_send_note, ⟨_, fund_mk o_l_Desk_send_note o_c_Desk_send_note, (fun_mk (st := st_Desk_send_note) o_l_Desk_send_note o_c_Desk_send_note o_k_Desk_send_note).binds (ps := ["self", "words"]) (fun _ _ _ _ _ _ us hl => binds_len2 hl fun _ _ => rfl)⟩, ⟨o_a_Desk_Desk_send_note, o_f_Desk_send_note, o_k_Desk_send_note⟩⟩, ⟨fm_Desk_kept, ⟨_, fund_mk o_l_Desk_kept o_c_Desk_kept, (fun_mk (st := st_Desk_kept) o_l_Desk_kept o_c_Desk_kept o_k_Desk_kept).binds (ps := ["self", "name"]) (fun _ _ _ _ _ _ us hl => binds_len2 hl fun _ _ => rfl)⟩, ⟨o_a_Desk_Desk_kept, o_f_Desk_kept, o_k_Desk_kept⟩⟩⟩
  have ND : L2.NoDig K := L2.nodig_of dg_l dg_e dg_n
  have T : Txt K mg := ⟨PySem.W.mg_none_of X G z_range, PySem.W.mg_none_of X G z_isinstance, PySem.W.mg_none_of X G z_int, PySem.W.mg_none_of X G z_bool, PySem.W.mg_none_of X G z_len, PySem.W.mg_none_of X G z_list, PySem.W.mg_none_of X G z_max, PySem.W.mg_none_of X G z_min, PySem.W.mg_none_of X G z_enumerate, PySem.W.mg_none_of X G z_sorted, PySem.W.mg_none_of X G z_sum, PySem.W.mg_none_of X G z_all, PySem.W.mg_none_of X G z_str, PySem.W.mg_none_of X G z_zip, PySem.W.mg_none_of X G z_ValueError⟩
  exact ⟨PySem.W.fnOf "law" "law" (defArgs st_law) (defBody st_law) (defScope st_law) .none kV50 dc50 pm50 an50 cd50 ct50, fun s v => .of_eq rfl, fun base _ _ => ok_law hP (fun_mk l50 c50 k50) T D_choose D_top_of D_top_from D_above_top D_rounded_up D_box_of D_bell_row D_heard_box D_box_count D_greatest_part D_shortest_frame D_best_bells D_cheapest D_box_number D_box_of_message D_written D_read D_keyed_count D_keyed D_unkeyed D_refuse_silent D_rung D_by_messages D_note_number D_note_of D_parts D_number_of_parts D_sent D_received D_messages_ahead_of_end D_is_made_of D_name_in D_figures_in D_number_in D_message_in D_bells_in D_turns_in D_number_told D_turns_told D_count_of D_note_heard D_choice_told D_cheapest_told D__law_drawn D__law_great D__law_late D__law_many D__law_short D__law_best D__law_cheap (PySem.W.mg_of X G m_BellError) (PySem.W.mg_of X G m_NoRow) (PySem.W.mg_of X G m_NoReading) (PySem.W.mg_of X G m_TooGreat) (PySem.W.mg_of X G m_NoOrder) (PySem.W.mg_of X G m_NoName) (PySem.W.mg_of X G m_NoNote) (PySem.W.mg_of X G m_Frame) (PySem.W.mg_of X G m_Desk) (PySem.W.mg_of X G m_LETTERS) (PySem.W.mg_of X G m_MOST_LETTERS) (PySem.W.mg_of X G m_FIGURES) (PySem.W.mg_of X G m_MOST_FIGURES) (PySem.W.mg_of X G m_MOST_FIGURES_OF_MESSAGE) (PySem.W.mg_of X G m_MOST_BELLS) x_BellError x_NoRow x_NoReading x_TooGreat x_NoOrder x_NoName x_NoNote O ND⟩
theorem walk {l : PySem.W.OpenLaw} {q : Program} {loose : List Str} {XP : (Str → Option Value) → Heap → Prop} {YP : World → Heap → Prop} {d : DefRec} {K : Params → PySem.W.Frag} (hn : l.most = some 63) (hdf : d.params.defaults = []) (hq : PyProof.Rows.importsNone q = true)
    (hY : ∀ (w : World) (h : Heap), YP w h → (K w.params).In h)
    (F : ∀ (w : World) (mg : Str → Option Value) (fa : Addr) (h : Heap), (K w.params).In h → h.Ns mainGlobals mg → mg d.name = some (.ref fa) →
      ∃ fd : FuncData, (∀ (s : Shared) (u : Value), BindsTo s fd ⟨[u], []⟩ [("script", u)]) ∧ ∀ base : Heap, (K w.params).In base → base.Ns mainGlobals mg → FnOk l.prog w (K w.params) mg base CX0 50 fa fd ["script"] (spLaw (K w.params))) :
    PySem.W.WalkO q loose XP YP l.row.toRowW d [] (fun f vs => PySem.call f vs) :=
  L2.walk_of (n := 63) (k := 50) (x := "script") (CX := fun _ => CX0) (sp := fun w => spLaw (K w.params)) hn (by decide) hdf hq ⟨rfl, by decide, by decide⟩ hY F (fun _ _ a ns hl hbt _ hS => ⟨a, ns, rfl, hS, hl, fun _ => rfl⟩) fun _ _ _ _ _ z => z
end Bw
namespace Op
open PySem PySem.W PyProof.Rows L2
noncomputable abbrev p : Program := PySem.Challenge.pw_bellwrite_k96_frames_at_the_desk
noncomputable def t (i : Nat) : Stmt := p.main.body.getD i (.Pass ⟨0, 0, 0, 0⟩)
noncomputable def u (i j : Nat) : Stmt := inClass (t i) j
noncomputable abbrev fd (s : Stmt) (nm qn : Str) (g : Addr) (cl : List (Str × Addr)) (d kd dc pm : Value) (an : Option Addr) (cd ct : Value) (bi : Addr) : FuncData := ⟨nm, qn, defArgs s, .stmts (defBody s), defScope s, g, cl, d, kd, dc, pm, an, cd, ct, bi⟩
noncomputable abbrev e (P : Params) (s : Str) (k : Tok) (v : Value) : DictEntry := ⟨PyData.keyHash P s, .str s k, v⟩
abbrev n := BT.node
abbrev z := BT.nil
noncomputable def lf : Life := ⟨[], [], [], 0, [], [], false, #[], [], 0, false, false, false, 0, [2000, 10, 10], false, 0, true, [], [], 0, false⟩
noncomputable def o1 (P : Params) : Obj := ⟨(.type "code"), none, (.fields #[(.str "<module>" 182), (.str "<module>" 183), (.str "/claim/cut.py" 184), (.int 1 0), (.int 0 0), (.int 0 0), (.int 0 0), (.int 0 0), (.ref 11), (.bool false), (.int 181 0), (.ref 12), .none, .none, .none, .none, (.int 185 0), (.int 1 0), (.str "/claim/cut.py" 186)]), #[]⟩
noncomputable def o2 (P : Params) : Obj := ⟨(.type "frame"), none, .plain, #[(some (.ref 13)), (some (.ref 3)), (some (.ref 3)), none, (some (.str "__main__" 164)), none, (some (.ref 0))]⟩
noncomputable def o3 (P : Params) : Obj := ⟨(.type "dict"), none, (.dict #[e P "__name__" 165 (.str "bellwrite.errors" 239), e P "__doc__" 166 .none, e P "__package__" 167 .none, e P "__loader__" 168 (.builtin "__main__.__loader__#opaque"), e P "__spec__" 169 .none, e P "__annotations__" 170 (.ref 6), e P "__builtins__" 171 (.ref 4), e P "__file__" 173 (.str "/claim/cut.py" 172), e P "__cached__" 174 .none, e P "choose" 198 (.ref 21), e P "top_of" 206 (.ref 28), e P "top_from" 219 (.ref 35), e P "above_top" 230 (.ref 42), e P "rounded_up" 238 (.ref 49), e P "BellError" 258 (.ref 59), e P "NoRow" 274 (.ref 72), e P "NoReading" 290 (.ref 84), e P "TooGreat" 306 (.ref 96), e P "NoNote" 322 (.ref 108), e P "NoOrder" 338 (.ref 120)] 20), #[]⟩
noncomputable def o4 (P : Params) : Obj := ⟨.none, none, (.fields #[(.int 2 0), (.int 0 0), (.ref 20), (.int 9 0), (.int 0 0), (.ref 27), (.int 11 0), (.int 0 0), (.ref 34), (.int 20 0), (.int 0 0), (.ref 41), (.int 26 0), (.int 0 0), (.ref 48), (.int 29 0), (.int 0 0), (.ref 55), (.int 31 0), (.int 0 0), (.ref 68), (.int 33 0), (.int 0 0), (.ref 80), (.int 35 0), (.int 0 0), (.ref 92), (.int 37 0), (.int 0 0), (.ref 104), (.int 39 0), (.int 0 0), (.ref 116)]), #[]⟩
noncomputable def o5 (P : Params) : Obj := ⟨(.type "tuple"), none, (.seq #[(.str "n" 192), (.str "k" 193), (.str "ways" 194), (.str "taken" 195)] 0), #[]⟩
noncomputable def o6 (P : Params) : Obj := ⟨.none, none, (.func (fd (t 1) "choose" "choose" 0 [] .none .none .none .none none .none .none 0)), #[]⟩
noncomputable def o7 (P : Params) : Obj := ⟨(.type "code"), none, (.fields #[(.str "choose" 189), (.str "choose" 190), (.str "/claim/cut.py" 191), (.int 2 0), (.int 2 0), (.int 0 0), (.int 0 0), (.int 3 0), (.ref 15), (.bool true), (.int 181 0), (.ref 16), .none, (.ref 17), (.ref 18), (.ref 19), (.int 196 0), (.int 2 0), (.str "/claim/cut.py" 197)]), #[]⟩
noncomputable def o8 (P : Params) : Obj := ⟨(.type "function"), none, (.func (fd (t 1) "choose" "choose" 3 [] .none .none .none (.str "bellwrite.choices" 187) none (.ref 20) .none 0)), #[]⟩
noncomputable def o9 (P : Params) : Obj := ⟨(.type "tuple"), none, (.seq #[(.str "k" 202), (.str "number" 203)] 0), #[]⟩
noncomputable def o10 (P : Params) : Obj := ⟨.none, none, (.func (fd (t 2) "top_of" "top_of" 0 [] .none .none .none .none none .none .none 0)), #[]⟩
noncomputable def o11 (P : Params) : Obj := ⟨(.type "code"), none, (.fields #[(.str "top_of" 199), (.str "top_of" 200), (.str "/claim/cut.py" 201), (.int 9 0), (.int 2 0), (.int 0 0), (.int 0 0), (.int 3 0), (.ref 22), (.bool true), (.int 181 0), (.ref 23), .none, (.ref 24), (.ref 25), (.ref 26), (.int 204 0), (.int 9 0), (.str "/claim/cut.py" 205)]), #[]⟩
noncomputable def o12 (P : Params) : Obj := ⟨(.type "function"), none, (.func (fd (t 2) "top_of" "top_of" 3 [] .none .none .none (.str "bellwrite.choices" 187) none (.ref 27) .none 0)), #[]⟩
noncomputable def o13 (P : Params) : Obj := ⟨(.type "tuple"), none, (.seq #[(.str "start" 210), (.str "k" 211), (.str "number" 212), (.str "top" 213), (.str "ways" 214), (.str "most_off" 215), (.str "step" 216)] 0), #[]⟩
noncomputable def o14 (P : Params) : Obj := ⟨.none, none, (.func (fd (t 3) "top_from" "top_from" 0 [] .none .none .none .none none .none .none 0)), #[]⟩
noncomputable def o15 (P : Params) : Obj := ⟨(.type "code"), none, (.fields #[(.str "top_from" 207), (.str "top_from" 208), (.str "/claim/cut.py" 209), (.int 11 0), (.int 3 0), (.int 0 0), (.int 0 0), (.int 3 0), (.ref 29), (.bool true), (.int 181 0), (.ref 30), .none, (.ref 31), (.ref 32), (.ref 33), (.int 217 0), (.int 11 0), (.str "/claim/cut.py" 218)]), #[]⟩
noncomputable def o16 (P : Params) : Obj := ⟨(.type "function"), none, (.func (fd (t 3) "top_from" "top_from" 3 [] .none .none .none (.str "bellwrite.choices" 187) none (.ref 34) .none 0)), #[]⟩
noncomputable def o17 (P : Params) : Obj := ⟨(.type "tuple"), none, (.seq #[(.str "k" 223), (.str "number" 224), (.str "product" 225), (.str "factor" 226), (.str "figures" 227)] 0), #[]⟩
noncomputable def o18 (P : Params) : Obj := ⟨.none, none, (.func (fd (t 4) "above_top" "above_top" 0 [] .none .none .none .none none .none .none 0)), #[]⟩
noncomputable def o19 (P : Params) : Obj := ⟨(.type "code"), none, (.fields #[(.str "above_top" 220), (.str "above_top" 221), (.str "/claim/cut.py" 222), (.int 20 0), (.int 2 0), (.int 0 0), (.int 0 0), (.int 3 0), (.ref 36), (.bool true), (.int 181 0), (.ref 37), .none, (.ref 38), (.ref 39), (.ref 40), (.int 228 0), (.int 20 0), (.str "/claim/cut.py" 229)]), #[]⟩
noncomputable def o20 (P : Params) : Obj := ⟨(.type "function"), none, (.func (fd (t 4) "above_top" "above_top" 3 [] .none .none .none (.str "bellwrite.choices" 187) none (.ref 41) .none 0)), #[]⟩
noncomputable def o21 (P : Params) : Obj := ⟨(.type "tuple"), none, (.seq #[(.str "number" 234), (.str "divisor" 235)] 0), #[]⟩
noncomputable def o22 (P : Params) : Obj := ⟨.none, none, (.func (fd (t 5) "rounded_up" "rounded_up" 0 [] .none .none .none .none none .none .none 0)), #[]⟩
noncomputable def o23 (P : Params) : Obj := ⟨(.type "code"), none, (.fields #[(.str "rounded_up" 231), (.str "rounded_up" 232), (.str "/claim/cut.py" 233), (.int 26 0), (.int 2 0), (.int 0 0), (.int 0 0), (.int 3 0), (.ref 43), (.bool true), (.int 181 0), (.ref 44), .none, (.ref 45), (.ref 46), (.ref 47), (.int 236 0), (.int 26 0), (.str "/claim/cut.py" 237)]), #[]⟩
noncomputable def o24 (P : Params) : Obj := ⟨(.type "function"), none, (.func (fd (t 5) "rounded_up" "rounded_up" 3 [] .none .none .none (.str "bellwrite.choices" 187) none (.ref 48) .none 0)), #[]⟩
noncomputable def o25 (P : Params) : Obj := ⟨(.type "tuple"), none, (.seq #[(.type "ValueError")] 0), #[]⟩
noncomputable def o26 (P : Params) : Obj := ⟨(.type "builtin_function_or_method"), none, (.fields #[(.builtin "type.__prepare__"), (.type "type")]), #[]⟩
noncomputable def o27 (P : Params) : Obj := ⟨(.type "dict"), none, (.dict #[e P "__module__" 248 (.str "bellwrite.errors" 239), e P "__qualname__" 250 (.str "BellError" 249), e P "__firstlineno__" 252 (.int 29 251), e P "__static_attributes__" 253 (.ref 57)] 4), #[]⟩
noncomputable def o28 (P : Params) : Obj := ⟨(.type "code"), none, (.fields #[(.str "BellError" 243), (.str "BellError" 244), (.str "/claim/cut.py" 245), (.int 29 0), (.int 0 0), (.int 0 0), (.int 0 0), (.int 0 0), (.ref 53), (.bool false), (.int 181 0), (.ref 54), .none, .none, .none, .none, (.int 246 0), (.int 29 0), (.str "/claim/cut.py" 247)]), #[]⟩
noncomputable def o29 (P : Params) : Obj := ⟨(.type "frame"), none, .plain, #[(some (.ref 55)), (some (.ref 3)), (some (.ref 52)), none, (some (.str "bellwrite.errors" 239)), none, (some (.ref 0))]⟩
noncomputable def o30 (P : Params) : Obj := ⟨(.type "dict"), none, (.dict #[e P "__module__" 248 (.str "bellwrite.errors" 239), e P "__firstlineno__" 252 (.int 29 251), e P "__static_attributes__" 253 (.ref 57), e P "__weakref__" 255 (.ref 60), e P "__doc__" 256 .none] 3), #[]⟩
noncomputable def o31 (P : Params) : Obj := ⟨(.type "type"), none, (.cls ⟨"BellError", [(.type "ValueError")], [(.ref 59), (.type "ValueError"), (.type "Exception"), (.type "BaseException"), (.type "object")], 58, "BellError", true, [], [(.ref 72), (.ref 84), (.ref 96), (.ref 108), (.ref 120)], false, none, false⟩), #[(some (.ref 50)), none, (some (.str "BellError" 241)), (some (.str "BellError" 249)), (some (.builtin "ValueError.__new__")), (some (.bool true))]⟩
noncomputable def o32 (P : Params) : Obj := ⟨(.type "getset_descriptor"), none, (.fields #[(.str "__weakref__" 254), (.ref 59), (.builtin "ExceptionGroup.__weakref__"), .none]), #[]⟩
noncomputable def o33 (P : Params) : Obj := ⟨(.type "super"), none, (.fields #[(.ref 59), (.ref 59), (.ref 59)]), #[]⟩
noncomputable def o34 (P : Params) : Obj := ⟨(.type "builtin_function_or_method"), none, (.fields #[(.builtin "object.__init_subclass__"), (.ref 59)]), #[]⟩
noncomputable def o35 (P : Params) : Obj := ⟨(.type "tuple"), none, (.seq #[(.ref 59)] 0), #[]⟩
noncomputable def o36 (P : Params) : Obj := ⟨(.type "dict"), none, (.dict #[e P "__module__" 266 (.str "bellwrite.errors" 239), e P "__qualname__" 268 (.str "NoRow" 267), e P "__firstlineno__" 270 (.int 31 269), e P "__static_attributes__" 271 (.ref 70)] 4), #[]⟩
noncomputable def o37 (P : Params) : Obj := ⟨(.type "code"), none, (.fields #[(.str "NoRow" 261), (.str "NoRow" 262), (.str "/claim/cut.py" 263), (.int 31 0), (.int 0 0), (.int 0 0), (.int 0 0), (.int 0 0), (.ref 66), (.bool false), (.int 181 0), (.ref 67), .none, .none, .none, .none, (.int 264 0), (.int 31 0), (.str "/claim/cut.py" 265)]), #[]⟩
noncomputable def o38 (P : Params) : Obj := ⟨(.type "frame"), none, .plain, #[(some (.ref 68)), (some (.ref 3)), (some (.ref 65)), none, (some (.str "bellwrite.errors" 239)), none, (some (.ref 0))]⟩
noncomputable def o39 (P : Params) : Obj := ⟨(.type "dict"), none, (.dict #[e P "__module__" 266 (.str "bellwrite.errors" 239), e P "__firstlineno__" 270 (.int 31 269), e P "__static_attributes__" 271 (.ref 70), e P "__doc__" 272 .none] 2), #[]⟩
noncomputable def o40 (P : Params) : Obj := ⟨(.type "type"), none, (.cls ⟨"NoRow", [(.ref 59)], [(.ref 72), (.ref 59), (.type "ValueError"), (.type "Exception"), (.type "BaseException"), (.type "object")], 71, "NoRow", true, [], [], false, none, false⟩), #[(some (.ref 63)), none, (some (.str "NoRow" 259)), (some (.str "NoRow" 267)), (some (.builtin "ValueError.__new__")), (some (.bool true))]⟩
noncomputable def o41 (P : Params) : Obj := ⟨(.type "super"), none, (.fields #[(.ref 72), (.ref 72), (.ref 72)]), #[]⟩
noncomputable def o42 (P : Params) : Obj := ⟨(.type "builtin_function_or_method"), none, (.fields #[(.builtin "object.__init_subclass__"), (.ref 72)]), #[]⟩
noncomputable def o43 (P : Params) : Obj := ⟨(.type "dict"), none, (.dict #[e P "__module__" 282 (.str "bellwrite.errors" 239), e P "__qualname__" 284 (.str "NoReading" 283), e P "__firstlineno__" 286 (.int 33 285), e P "__static_attributes__" 287 (.ref 82)] 4), #[]⟩
noncomputable def o44 (P : Params) : Obj := ⟨(.type "code"), none, (.fields #[(.str "NoReading" 277), (.str "NoReading" 278), (.str "/claim/cut.py" 279), (.int 33 0), (.int 0 0), (.int 0 0), (.int 0 0), (.int 0 0), (.ref 78), (.bool false), (.int 181 0), (.ref 79), .none, .none, .none, .none, (.int 280 0), (.int 33 0), (.str "/claim/cut.py" 281)]), #[]⟩
noncomputable def o45 (P : Params) : Obj := ⟨(.type "frame"), none, .plain, #[(some (.ref 80)), (some (.ref 3)), (some (.ref 77)), none, (some (.str "bellwrite.errors" 239)), none, (some (.ref 0))]⟩
noncomputable def o46 (P : Params) : Obj := ⟨(.type "dict"), none, (.dict #[e P "__module__" 282 (.str "bellwrite.errors" 239), e P "__firstlineno__" 286 (.int 33 285), e P "__static_attributes__" 287 (.ref 82), e P "__doc__" 288 .none] 2), #[]⟩
noncomputable def o47 (P : Params) : Obj := ⟨(.type "type"), none, (.cls ⟨"NoReading", [(.ref 59)], [(.ref 84), (.ref 59), (.type "ValueError"), (.type "Exception"), (.type "BaseException"), (.type "object")], 83, "NoReading", true, [], [], false, none, false⟩), #[(some (.ref 75)), none, (some (.str "NoReading" 275)), (some (.str "NoReading" 283)), (some (.builtin "ValueError.__new__")), (some (.bool true))]⟩
noncomputable def o48 (P : Params) : Obj := ⟨(.type "super"), none, (.fields #[(.ref 84), (.ref 84), (.ref 84)]), #[]⟩
noncomputable def o49 (P : Params) : Obj := ⟨(.type "builtin_function_or_method"), none, (.fields #[(.builtin "object.__init_subclass__"), (.ref 84)]), #[]⟩
noncomputable def o50 (P : Params) : Obj := ⟨(.type "dict"), none, (.dict #[e P "__module__" 298 (.str "bellwrite.errors" 239), e P "__qualname__" 300 (.str "TooGreat" 299), e P "__firstlineno__" 302 (.int 35 301), e P "__static_attributes__" 303 (.ref 94)] 4), #[]⟩
noncomputable def o51 (P : Params) : Obj := ⟨(.type "code"), none, (.fields #[(.str "TooGreat" 293), (.str "TooGreat" 294), (.str "/claim/cut.py" 295), (.int 35 0), (.int 0 0), (.int 0 0), (.int 0 0), (.int 0 0), (.ref 90), (.bool false), (.int 181 0), (.ref 91), .none, .none, .none, .none, (.int 296 0), (.int 35 0), (.str "/claim/cut.py" 297)]), #[]⟩
noncomputable def o52 (P : Params) : Obj := ⟨(.type "frame"), none, .plain, #[(some (.ref 92)), (some (.ref 3)), (some (.ref 89)), none, (some (.str "bellwrite.errors" 239)), none, (some (.ref 0))]⟩
noncomputable def o53 (P : Params) : Obj := ⟨(.type "dict"), none, (.dict #[e P "__module__" 298 (.str "bellwrite.errors" 239), e P "__firstlineno__" 302 (.int 35 301), e P "__static_attributes__" 303 (.ref 94), e P "__doc__" 304 .none] 2), #[]⟩
noncomputable def o54 (P : Params) : Obj := ⟨(.type "type"), none, (.cls ⟨"TooGreat", [(.ref 59)], [(.ref 96), (.ref 59), (.type "ValueError"), (.type "Exception"), (.type "BaseException"), (.type "object")], 95, "TooGreat", true, [], [], false, none, false⟩), #[(some (.ref 87)), none, (some (.str "TooGreat" 291)), (some (.str "TooGreat" 299)), (some (.builtin "ValueError.__new__")), (some (.bool true))]⟩
noncomputable def o55 (P : Params) : Obj := ⟨(.type "super"), none, (.fields #[(.ref 96), (.ref 96), (.ref 96)]), #[]⟩
noncomputable def o56 (P : Params) : Obj := ⟨(.type "builtin_function_or_method"), none, (.fields #[(.builtin "object.__init_subclass__"), (.ref 96)]), #[]⟩
noncomputable def o57 (P : Params) : Obj := ⟨(.type "dict"), none, (.dict #[e P "__module__" 314 (.str "bellwrite.errors" 239), e P "__qualname__" 316 (.str "NoNote" 315), e P "__firstlineno__" 318 (.int 37 317), e P "__static_attributes__" 319 (.ref 106)] 4), #[]⟩
noncomputable def o58 (P : Params) : Obj := ⟨(.type "code"), none, (.fields #[(.str "NoNote" 309), (.str "NoNote" 310), (.str "/claim/cut.py" 311), (.int 37 0), (.int 0 0), (.int 0 0), (.int 0 0), (.int 0 0), (.ref 102), (.bool false), (.int 181 0), (.ref 103), .none, .none, .none, .none, (.int 312 0), (.int 37 0), (.str "/claim/cut.py" 313)]), #[]⟩
noncomputable def o59 (P : Params) : Obj := ⟨(.type "frame"), none, .plain, #[(some (.ref 104)), (some (.ref 3)), (some (.ref 101)), none, (some (.str "bellwrite.errors" 239)), none, (some (.ref 0))]⟩
noncomputable def o60 (P : Params) : Obj := ⟨(.type "dict"), none, (.dict #[e P "__module__" 314 (.str "bellwrite.errors" 239), e P "__firstlineno__" 318 (.int 37 317), e P "__static_attributes__" 319 (.ref 106), e P "__doc__" 320 .none] 2), #[]⟩
noncomputable def o61 (P : Params) : Obj := ⟨(.type "type"), none, (.cls ⟨"NoNote", [(.ref 59)], [(.ref 108), (.ref 59), (.type "ValueError"), (.type "Exception"), (.type "BaseException"), (.type "object")], 107, "NoNote", true, [], [], false, none, false⟩), #[(some (.ref 99)), none, (some (.str "NoNote" 307)), (some (.str "NoNote" 315)), (some (.builtin "ValueError.__new__")), (some (.bool true))]⟩
noncomputable def o62 (P : Params) : Obj := ⟨(.type "super"), none, (.fields #[(.ref 108), (.ref 108), (.ref 108)]), #[]⟩
noncomputable def o63 (P : Params) : Obj := ⟨(.type "builtin_function_or_method"), none, (.fields #[(.builtin "object.__init_subclass__"), (.ref 108)]), #[]⟩
noncomputable def o64 (P : Params) : Obj := ⟨(.type "dict"), none, (.dict #[e P "__module__" 330 (.str "bellwrite.errors" 239), e P "__qualname__" 332 (.str "NoOrder" 331), e P "__firstlineno__" 334 (.int 39 333), e P "__static_attributes__" 335 (.ref 118)] 4), #[]⟩
noncomputable def o65 (P : Params) : Obj := ⟨(.type "code"), none, (.fields #[(.str "NoOrder" 325), (.str "NoOrder" 326), (.str "/claim/cut.py" 327), (.int 39 0), (.int 0 0), (.int 0 0), (.int 0 0), (.int 0 0), (.ref 114), (.bool false), (.int 181 0), (.ref 115), .none, .none, .none, .none, (.int 328 0), (.int 39 0), (.str "/claim/cut.py" 329)]), #[]⟩
noncomputable def o66 (P : Params) : Obj := ⟨(.type "frame"), none, .plain, #[(some (.ref 116)), (some (.ref 3)), (some (.ref 113)), none, (some (.str "bellwrite.errors" 239)), none, (some (.ref 0))]⟩
noncomputable def o67 (P : Params) : Obj := ⟨(.type "dict"), none, (.dict #[e P "__module__" 330 (.str "bellwrite.errors" 239), e P "__firstlineno__" 334 (.int 39 333), e P "__static_attributes__" 335 (.ref 118), e P "__doc__" 336 .none] 2), #[]⟩
noncomputable def o68 (P : Params) : Obj := ⟨(.type "type"), none, (.cls ⟨"NoOrder", [(.ref 59)], [(.ref 120), (.ref 59), (.type "ValueError"), (.type "Exception"), (.type "BaseException"), (.type "object")], 119, "NoOrder", true, [], [], false, none, false⟩), #[(some (.ref 111)), none, (some (.str "NoOrder" 323)), (some (.str "NoOrder" 331)), (some (.builtin "ValueError.__new__")), (some (.bool true))]⟩
noncomputable def o69 (P : Params) : Obj := ⟨(.type "super"), none, (.fields #[(.ref 120), (.ref 120), (.ref 120)]), #[]⟩
noncomputable def o70 (P : Params) : Obj := ⟨(.type "builtin_function_or_method"), none, (.fields #[(.builtin "object.__init_subclass__"), (.ref 120)]), #[]⟩
noncomputable def o71 (P : Params) : Obj := ⟨(.type "dict"), none, (.dict #[e P "__name__" 165 (.str "bellwrite.desk" 676), e P "__doc__" 166 .none, e P "__package__" 167 .none, e P "__loader__" 168 (.builtin "__main__.__loader__#opaque"), e P "__spec__" 169 .none, e P "__annotations__" 170 (.ref 6), e P "__builtins__" 171 (.ref 4), e P "__file__" 173 (.str "/claim/cut.py" 172), e P "__cached__" 174 .none, e P "choose" 198 (.ref 21), e P "top_of" 206 (.ref 28), e P "top_from" 219 (.ref 35), e P "above_top" 230 (.ref 42), e P "rounded_up" 238 (.ref 49), e P "BellError" 258 (.ref 59), e P "NoRow" 274 (.ref 72), e P "NoReading" 290 (.ref 84), e P "TooGreat" 306 (.ref 96), e P "NoNote" 322 (.ref 108), e P "NoOrder" 338 (.ref 120), e P "NoName" 354 (.ref 132), e P "box_of" 362 (.ref 139), e P "bell_row" 368 (.ref 144), e P "heard_box" 379 (.ref 151), e P "box_count" 388 (.ref 158), e P "greatest_part" 397 (.ref 165), e P "shortest_frame" 409 (.ref 172), e P "best_bells" 422 (.ref 179), e P "cheapest" 439 (.ref 186), e P "box_number" 447 (.ref 191), e P "box_of_message" 459 (.ref 198), e P "written" 469 (.ref 205), e P "read" 480 (.ref 212), e P "keyed_count" 491 (.ref 219), e P "keyed" 497 (.ref 224), e P "unkeyed" 503 (.ref 229), e P "refuse_silent" 513 (.ref 236), e P "rung" 519 (.ref 241), e P "by_messages" 531 (.ref 248), e P "SIGNS" 535 (.str "abcdefghijklmnopqrstuvwxyz " 534), e P "MOST_SIGNS" 537 (.int 60 536), e P "LEAST_COUNT" 539 (.int 3 538), e P "note_number" 549 (.ref 255), e P "note_of" 558 (.ref 262), e P "parts" 568 (.ref 269), e P "number_of_parts" 574 (.ref 274), e P "sent" 580 (.ref 279), e P "received" 586 (.ref 284), e P "messages_ahead_of_end" 599 (.ref 291), e P "LETTERS" 603 (.str "abcdefghijklmnopqrstuvwxyz" 602), e P "MOST_LETTERS" 605 (.int 8 604), e P "FIGURES" 607 (.str "0123456789" 606), e P "MOST_FIGURES" 609 (.int 60 608), e P "MOST_FIGURES_OF_MESSAGE" 611 (.int 3000 610), e P "MOST_BELLS" 613 (.int 60 612), e P "is_made_of" 619 (.ref 296), e P "name_in" 626 (.ref 303), e P "figures_in" 634 (.ref 310), e P "number_in" 641 (.ref 317), e P "message_in" 648 (.ref 324), e P "bells_in" 656 (.ref 331), e P "turns_in" 662 (.ref 336), e P "number_told" 669 (.ref 343), e P "turns_told" 675 (.ref 348)] 64), #[]⟩
noncomputable def o72 (P : Params) : Obj := ⟨.none, none, (.fields #[(.int 2 0), (.int 0 0), (.ref 20), (.int 9 0), (.int 0 0), (.ref 27), (.int 11 0), (.int 0 0), (.ref 34), (.int 20 0), (.int 0 0), (.ref 41), (.int 26 0), (.int 0 0), (.ref 48), (.int 29 0), (.int 0 0), (.ref 55), (.int 31 0), (.int 0 0), (.ref 68), (.int 33 0), (.int 0 0), (.ref 80), (.int 35 0), (.int 0 0), (.ref 92), (.int 37 0), (.int 0 0), (.ref 104), (.int 39 0), (.int 0 0), (.ref 116), (.int 41 0), (.int 0 0), (.ref 128), (.int 44 0), (.int 0 0), (.ref 138), (.int 46 0), (.int 0 0), (.ref 143), (.int 48 0), (.int 0 0), (.ref 150), (.int 56 0), (.int 0 0), (.ref 157), (.int 60 0), (.int 0 0), (.ref 164), (.int 63 0), (.int 0 0), (.ref 171), (.int 70 0), (.int 0 0), (.ref 178), (.int 80 0), (.int 0 0), (.ref 185), (.int 90 0), (.int 0 0), (.ref 190), (.int 92 0), (.int 0 0), (.ref 197), (.int 103 0), (.int 0 0), (.ref 204), (.int 107 0), (.int 0 0), (.ref 211), (.int 115 0), (.int 0 0), (.ref 218), (.int 119 0), (.int 0 0), (.ref 223), (.int 124 0), (.int 0 0), (.ref 228), (.int 131 0), (.int 0 0), (.ref 235), (.int 134 0), (.int 0 0), (.ref 240), (.int 141 0), (.int 0 0), (.ref 247), (.int 151 0), (.int 0 0), (.ref 254), (.int 161 0), (.int 0 0), (.ref 261), (.int 173 0), (.int 0 0), (.ref 268), (.int 180 0), (.int 0 0), (.ref 273), (.int 189 0), (.int 0 0), (.ref 278), (.int 197 0), (.int 0 0), (.ref 283), (.int 204 0), (.int 0 0), (.ref 290), (.int 219 0), (.int 0 0), (.ref 295), (.int 221 0), (.int 0 0), (.ref 302), (.int 225 0), (.int 0 0), (.ref 309), (.int 229 0), (.int 0 0), (.ref 316), (.int 231 0), (.int 0 0), (.ref 323), (.int 233 0), (.int 0 0), (.ref 330), (.int 238 0), (.int 0 0), (.ref 335), (.int 246 0), (.int 0 0), (.ref 342), (.int 248 0), (.int 0 0), (.ref 347)]), #[]⟩
noncomputable def o73 (P : Params) : Obj := ⟨(.type "type"), none, (.cls ⟨"BellError", [(.type "ValueError")], [(.ref 59), (.type "ValueError"), (.type "Exception"), (.type "BaseException"), (.type "object")], 58, "BellError", true, [], [(.ref 72), (.ref 84), (.ref 96), (.ref 108), (.ref 120), (.ref 132)], false, none, false⟩), #[(some (.ref 50)), none, (some (.str "BellError" 241)), (some (.str "BellError" 249)), (some (.builtin "ValueError.__new__")), (some (.bool true))]⟩
noncomputable def o74 (P : Params) : Obj := ⟨(.type "dict"), none, (.dict #[e P "__module__" 346 (.str "bellwrite.errors" 239), e P "__qualname__" 348 (.str "NoName" 347), e P "__firstlineno__" 350 (.int 41 349), e P "__static_attributes__" 351 (.ref 130)] 4), #[]⟩
noncomputable def o75 (P : Params) : Obj := ⟨(.type "code"), none, (.fields #[(.str "NoName" 341), (.str "NoName" 342), (.str "/claim/cut.py" 343), (.int 41 0), (.int 0 0), (.int 0 0), (.int 0 0), (.int 0 0), (.ref 126), (.bool false), (.int 181 0), (.ref 127), .none, .none, .none, .none, (.int 344 0), (.int 41 0), (.str "/claim/cut.py" 345)]), #[]⟩
noncomputable def o76 (P : Params) : Obj := ⟨(.type "frame"), none, .plain, #[(some (.ref 128)), (some (.ref 3)), (some (.ref 125)), none, (some (.str "bellwrite.errors" 239)), none, (some (.ref 0))]⟩
noncomputable def o77 (P : Params) : Obj := ⟨(.type "dict"), none, (.dict #[e P "__module__" 346 (.str "bellwrite.errors" 239), e P "__firstlineno__" 350 (.int 41 349), e P "__static_attributes__" 351 (.ref 130), e P "__doc__" 352 .none] 2), #[]⟩
noncomputable def o78 (P : Params) : Obj := ⟨(.type "type"), none, (.cls ⟨"NoName", [(.ref 59)], [(.ref 132), (.ref 59), (.type "ValueError"), (.type "Exception"), (.type "BaseException"), (.type "object")], 131, "NoName", true, [], [], false, none, false⟩), #[(some (.ref 123)), none, (some (.str "NoName" 339)), (some (.str "NoName" 347)), (some (.builtin "ValueError.__new__")), (some (.bool true))]⟩
noncomputable def o79 (P : Params) : Obj := ⟨(.type "super"), none, (.fields #[(.ref 132), (.ref 132), (.ref 132)]), #[]⟩
noncomputable def o80 (P : Params) : Obj := ⟨(.type "builtin_function_or_method"), none, (.fields #[(.builtin "object.__init_subclass__"), (.ref 132)]), #[]⟩
noncomputable def o81 (P : Params) : Obj := ⟨.none, none, (.func (fd (t 15) "box_of" "box_of" 0 [] .none .none .none .none none .none .none 0)), #[]⟩
noncomputable def o82 (P : Params) : Obj := ⟨(.type "code"), none, (.fields #[(.str "box_of" 357), (.str "box_of" 358), (.str "/claim/cut.py" 359), (.int 44 0), (.int 2 0), (.int 0 0), (.int 0 0), (.int 3 0), (.ref 135), (.bool true), (.int 181 0), (.ref 136), .none, .none, .none, (.ref 137), (.int 360 0), (.int 44 0), (.str "/claim/cut.py" 361)]), #[]⟩
noncomputable def o83 (P : Params) : Obj := ⟨(.type "function"), none, (.func (fd (t 15) "box_of" "box_of" 3 [] .none .none .none (.str "bellwrite.boxes" 355) none (.ref 138) .none 0)), #[]⟩
noncomputable def o84 (P : Params) : Obj := ⟨.none, none, (.func (fd (t 16) "bell_row" "bell_row" 0 [] .none .none .none .none none .none .none 0)), #[]⟩
noncomputable def o85 (P : Params) : Obj := ⟨(.type "code"), none, (.fields #[(.str "bell_row" 363), (.str "bell_row" 364), (.str "/claim/cut.py" 365), (.int 46 0), (.int 2 0), (.int 0 0), (.int 0 0), (.int 3 0), (.ref 140), (.bool true), (.int 181 0), (.ref 141), .none, .none, .none, (.ref 142), (.int 366 0), (.int 46 0), (.str "/claim/cut.py" 367)]), #[]⟩
noncomputable def o86 (P : Params) : Obj := ⟨(.type "function"), none, (.func (fd (t 16) "bell_row" "bell_row" 3 [] .none .none .none (.str "bellwrite.boxes" 355) none (.ref 143) .none 0)), #[]⟩
noncomputable def o87 (P : Params) : Obj := ⟨(.type "tuple"), none, (.seq #[(.str "reading" 372), (.str "late" 373), (.str "box" 374), (.str "before" 375), (.str "part" 376)] 0), #[]⟩
noncomputable def o88 (P : Params) : Obj := ⟨.none, none, (.func (fd (t 17) "heard_box" "heard_box" 0 [] .none .none .none .none none .none .none 0)), #[]⟩
noncomputable def o89 (P : Params) : Obj := ⟨(.type "code"), none, (.fields #[(.str "heard_box" 369), (.str "heard_box" 370), (.str "/claim/cut.py" 371), (.int 48 0), (.int 2 0), (.int 0 0), (.int 0 0), (.int 3 0), (.ref 145), (.bool true), (.int 181 0), (.ref 146), .none, (.ref 147), (.ref 148), (.ref 149), (.int 377 0), (.int 48 0), (.str "/claim/cut.py" 378)]), #[]⟩
noncomputable def o90 (P : Params) : Obj := ⟨(.type "function"), none, (.func (fd (t 17) "heard_box" "heard_box" 3 [] .none .none .none (.str "bellwrite.boxes" 355) none (.ref 150) .none 0)), #[]⟩
noncomputable def o91 (P : Params) : Obj := ⟨(.type "tuple"), none, (.seq #[(.str "turns" 383), (.str "bells" 384), (.str "late" 385)] 0), #[]⟩
noncomputable def o92 (P : Params) : Obj := ⟨.none, none, (.func (fd (t 18) "box_count" "box_count" 0 [] .none .none .none .none none .none .none 0)), #[]⟩
noncomputable def o93 (P : Params) : Obj := ⟨(.type "code"), none, (.fields #[(.str "box_count" 380), (.str "box_count" 381), (.str "/claim/cut.py" 382), (.int 56 0), (.int 3 0), (.int 0 0), (.int 0 0), (.int 3 0), (.ref 152), (.bool true), (.int 181 0), (.ref 153), .none, (.ref 154), (.ref 155), (.ref 156), (.int 386 0), (.int 56 0), (.str "/claim/cut.py" 387)]), #[]⟩
noncomputable def o94 (P : Params) : Obj := ⟨(.type "function"), none, (.func (fd (t 18) "box_count" "box_count" 3 [] .none .none .none (.str "bellwrite.boxes" 355) none (.ref 157) .none 0)), #[]⟩
noncomputable def o95 (P : Params) : Obj := ⟨(.type "tuple"), none, (.seq #[(.str "turns" 392), (.str "bells" 393), (.str "late" 394)] 0), #[]⟩
noncomputable def o96 (P : Params) : Obj := ⟨.none, none, (.func (fd (t 19) "greatest_part" "greatest_part" 0 [] .none .none .none .none none .none .none 0)), #[]⟩
noncomputable def o97 (P : Params) : Obj := ⟨(.type "code"), none, (.fields #[(.str "greatest_part" 389), (.str "greatest_part" 390), (.str "/claim/cut.py" 391), (.int 60 0), (.int 3 0), (.int 0 0), (.int 0 0), (.int 3 0), (.ref 159), (.bool true), (.int 181 0), (.ref 160), .none, (.ref 161), (.ref 162), (.ref 163), (.int 395 0), (.int 60 0), (.str "/claim/cut.py" 396)]), #[]⟩
noncomputable def o98 (P : Params) : Obj := ⟨(.type "function"), none, (.func (fd (t 19) "greatest_part" "greatest_part" 3 [] .none .none .none (.str "bellwrite.boxes" 355) none (.ref 164) .none 0)), #[]⟩
noncomputable def o99 (P : Params) : Obj := ⟨(.type "tuple"), none, (.seq #[(.str "bells" 403), (.str "late" 404), (.str "many" 405), (.str "greatest" 406)] 0), #[]⟩
noncomputable def o100 (P : Params) : Obj := ⟨.none, none, (.func (fd (t 21) "shortest_frame" "shortest_frame" 0 [] .none .none .none .none none .none .none 0)), #[]⟩
noncomputable def o101 (P : Params) : Obj := ⟨(.type "code"), none, (.fields #[(.str "shortest_frame" 400), (.str "shortest_frame" 401), (.str "/claim/cut.py" 402), (.int 63 0), (.int 3 0), (.int 0 0), (.int 0 0), (.int 3 0), (.ref 166), (.bool true), (.int 181 0), (.ref 167), .none, (.ref 168), (.ref 169), (.ref 170), (.int 407 0), (.int 63 0), (.str "/claim/cut.py" 408)]), #[]⟩
noncomputable def o102 (P : Params) : Obj := ⟨(.type "function"), none, (.func (fd (t 21) "shortest_frame" "shortest_frame" 3 [] .none .none .none (.str "bellwrite.frames" 398) none (.ref 171) .none 0)), #[]⟩
noncomputable def o103 (P : Params) : Obj := ⟨(.type "tuple"), none, (.seq #[(.str "turns" 413), (.str "late" 414), (.str "most" 415), (.str "best" 416), (.str "greatest" 417), (.str "bells" 418), (.str "many" 419)] 0), #[]⟩
noncomputable def o104 (P : Params) : Obj := ⟨.none, none, (.func (fd (t 22) "best_bells" "best_bells" 0 [] .none .none .none .none none .none .none 0)), #[]⟩
noncomputable def o105 (P : Params) : Obj := ⟨(.type "code"), none, (.fields #[(.str "best_bells" 410), (.str "best_bells" 411), (.str "/claim/cut.py" 412), (.int 70 0), (.int 3 0), (.int 0 0), (.int 0 0), (.int 3 0), (.ref 173), (.bool true), (.int 181 0), (.ref 174), .none, (.ref 175), (.ref 176), (.ref 177), (.int 420 0), (.int 70 0), (.str "/claim/cut.py" 421)]), #[]⟩
noncomputable def o106 (P : Params) : Obj := ⟨(.type "function"), none, (.func (fd (t 22) "best_bells" "best_bells" 3 [] .none .none .none (.str "bellwrite.frames" 398) none (.ref 178) .none 0)), #[]⟩
noncomputable def o107 (P : Params) : Obj := ⟨(.type "tuple"), none, (.seq #[(.str "many" 428), (.str "late" 429), (.str "turn_cost" 430), (.str "bell_cost" 431), (.str "most" 432), (.str "best" 433), (.str "bells" 434), (.str "turns" 435), (.str "cost" 436)] 0), #[]⟩
noncomputable def o108 (P : Params) : Obj := ⟨.none, none, (.func (fd (t 24) "cheapest" "cheapest" 0 [] .none .none .none .none none .none .none 0)), #[]⟩
noncomputable def o109 (P : Params) : Obj := ⟨(.type "code"), none, (.fields #[(.str "cheapest" 425), (.str "cheapest" 426), (.str "/claim/cut.py" 427), (.int 80 0), (.int 5 0), (.int 0 0), (.int 0 0), (.int 3 0), (.ref 180), (.bool true), (.int 181 0), (.ref 181), .none, (.ref 182), (.ref 183), (.ref 184), (.int 437 0), (.int 80 0), (.str "/claim/cut.py" 438)]), #[]⟩
noncomputable def o110 (P : Params) : Obj := ⟨(.type "function"), none, (.func (fd (t 24) "cheapest" "cheapest" 3 [] .none .none .none (.str "bellwrite.costs" 423) none (.ref 185) .none 0)), #[]⟩
noncomputable def o111 (P : Params) : Obj := ⟨.none, none, (.func (fd (t 26) "box_number" "box_number" 0 [] .none .none .none .none none .none .none 0)), #[]⟩
noncomputable def o112 (P : Params) : Obj := ⟨(.type "code"), none, (.fields #[(.str "box_number" 442), (.str "box_number" 443), (.str "/claim/cut.py" 444), (.int 90 0), (.int 1 0), (.int 0 0), (.int 0 0), (.int 3 0), (.ref 187), (.bool true), (.int 181 0), (.ref 188), .none, .none, .none, (.ref 189), (.int 445 0), (.int 90 0), (.str "/claim/cut.py" 446)]), #[]⟩
noncomputable def o113 (P : Params) : Obj := ⟨(.type "function"), none, (.func (fd (t 26) "box_number" "box_number" 3 [] .none .none .none (.str "bellwrite.messages" 440) none (.ref 190) .none 0)), #[]⟩
noncomputable def o114 (P : Params) : Obj := ⟨(.type "tuple"), none, (.seq #[(.str "message" 451), (.str "bells" 452), (.str "box" 453), (.str "left" 454), (.str "top" 455), (.str "place" 456)] 0), #[]⟩
noncomputable def o115 (P : Params) : Obj := ⟨.none, none, (.func (fd (t 27) "box_of_message" "box_of_message" 0 [] .none .none .none .none none .none .none 0)), #[]⟩
noncomputable def o116 (P : Params) : Obj := ⟨(.type "code"), none, (.fields #[(.str "box_of_message" 448), (.str "box_of_message" 449), (.str "/claim/cut.py" 450), (.int 92 0), (.int 2 0), (.int 0 0), (.int 0 0), (.int 3 0), (.ref 192), (.bool true), (.int 181 0), (.ref 193), .none, (.ref 194), (.ref 195), (.ref 196), (.int 457 0), (.int 92 0), (.str "/claim/cut.py" 458)]), #[]⟩
noncomputable def o117 (P : Params) : Obj := ⟨(.type "function"), none, (.func (fd (t 27) "box_of_message" "box_of_message" 3 [] .none .none .none (.str "bellwrite.messages" 440) none (.ref 197) .none 0)), #[]⟩
noncomputable def o118 (P : Params) : Obj := ⟨(.type "tuple"), none, (.seq #[(.str "message" 463), (.str "turns" 464), (.str "bells" 465), (.str "late" 466)] 0), #[]⟩
noncomputable def o119 (P : Params) : Obj := ⟨.none, none, (.func (fd (t 28) "written" "written" 0 [] .none .none .none .none none .none .none 0)), #[]⟩
noncomputable def o120 (P : Params) : Obj := ⟨(.type "code"), none, (.fields #[(.str "written" 460), (.str "written" 461), (.str "/claim/cut.py" 462), (.int 103 0), (.int 4 0), (.int 0 0), (.int 0 0), (.int 3 0), (.ref 199), (.bool true), (.int 181 0), (.ref 200), .none, (.ref 201), (.ref 202), (.ref 203), (.int 467 0), (.int 103 0), (.str "/claim/cut.py" 468)]), #[]⟩
noncomputable def o121 (P : Params) : Obj := ⟨(.type "function"), none, (.func (fd (t 28) "written" "written" 3 [] .none .none .none (.str "bellwrite.messages" 440) none (.ref 204) .none 0)), #[]⟩
noncomputable def o122 (P : Params) : Obj := ⟨(.type "tuple"), none, (.seq #[(.str "reading" 473), (.str "turns" 474), (.str "bells" 475), (.str "late" 476), (.str "message" 477)] 0), #[]⟩
noncomputable def o123 (P : Params) : Obj := ⟨.none, none, (.func (fd (t 29) "read" "read" 0 [] .none .none .none .none none .none .none 0)), #[]⟩
noncomputable def o124 (P : Params) : Obj := ⟨(.type "code"), none, (.fields #[(.str "read" 470), (.str "read" 471), (.str "/claim/cut.py" 472), (.int 107 0), (.int 4 0), (.int 0 0), (.int 0 0), (.int 3 0), (.ref 206), (.bool true), (.int 181 0), (.ref 207), .none, (.ref 208), (.ref 209), (.ref 210), (.int 478 0), (.int 107 0), (.str "/claim/cut.py" 479)]), #[]⟩
noncomputable def o125 (P : Params) : Obj := ⟨(.type "function"), none, (.func (fd (t 29) "read" "read" 3 [] .none .none .none (.str "bellwrite.messages" 440) none (.ref 211) .none 0)), #[]⟩
noncomputable def o126 (P : Params) : Obj := ⟨(.type "tuple"), none, (.seq #[(.str "turns" 486), (.str "bells" 487), (.str "late" 488)] 0), #[]⟩
noncomputable def o127 (P : Params) : Obj := ⟨.none, none, (.func (fd (t 31) "keyed_count" "keyed_count" 0 [] .none .none .none .none none .none .none 0)), #[]⟩
noncomputable def o128 (P : Params) : Obj := ⟨(.type "code"), none, (.fields #[(.str "keyed_count" 483), (.str "keyed_count" 484), (.str "/claim/cut.py" 485), (.int 115 0), (.int 3 0), (.int 0 0), (.int 0 0), (.int 3 0), (.ref 213), (.bool true), (.int 181 0), (.ref 214), .none, (.ref 215), (.ref 216), (.ref 217), (.int 489 0), (.int 115 0), (.str "/claim/cut.py" 490)]), #[]⟩
noncomputable def o129 (P : Params) : Obj := ⟨(.type "function"), none, (.func (fd (t 31) "keyed_count" "keyed_count" 3 [] .none .none .none (.str "bellwrite.lags" 481) none (.ref 218) .none 0)), #[]⟩
noncomputable def o130 (P : Params) : Obj := ⟨.none, none, (.func (fd (t 32) "keyed" "keyed" 0 [] .none .none .none .none none .none .none 0)), #[]⟩
noncomputable def o131 (P : Params) : Obj := ⟨(.type "code"), none, (.fields #[(.str "keyed" 492), (.str "keyed" 493), (.str "/claim/cut.py" 494), (.int 119 0), (.int 4 0), (.int 0 0), (.int 0 0), (.int 3 0), (.ref 220), (.bool true), (.int 181 0), (.ref 221), .none, .none, .none, (.ref 222), (.int 495 0), (.int 119 0), (.str "/claim/cut.py" 496)]), #[]⟩
noncomputable def o132 (P : Params) : Obj := ⟨(.type "function"), none, (.func (fd (t 32) "keyed" "keyed" 3 [] .none .none .none (.str "bellwrite.lags" 481) none (.ref 223) .none 0)), #[]⟩
noncomputable def o133 (P : Params) : Obj := ⟨.none, none, (.func (fd (t 33) "unkeyed" "unkeyed" 0 [] .none .none .none .none none .none .none 0)), #[]⟩
noncomputable def o134 (P : Params) : Obj := ⟨(.type "code"), none, (.fields #[(.str "unkeyed" 498), (.str "unkeyed" 499), (.str "/claim/cut.py" 500), (.int 124 0), (.int 4 0), (.int 0 0), (.int 0 0), (.int 3 0), (.ref 225), (.bool true), (.int 181 0), (.ref 226), .none, .none, .none, (.ref 227), (.int 501 0), (.int 124 0), (.str "/claim/cut.py" 502)]), #[]⟩
noncomputable def o135 (P : Params) : Obj := ⟨(.type "function"), none, (.func (fd (t 33) "unkeyed" "unkeyed" 3 [] .none .none .none (.str "bellwrite.lags" 481) none (.ref 228) .none 0)), #[]⟩
noncomputable def o136 (P : Params) : Obj := ⟨(.type "tuple"), none, (.seq #[(.str "turns" 509), (.str "bells" 510)] 0), #[]⟩
noncomputable def o137 (P : Params) : Obj := ⟨.none, none, (.func (fd (t 35) "refuse_silent" "refuse_silent" 0 [] .none .none .none .none none .none .none 0)), #[]⟩
noncomputable def o138 (P : Params) : Obj := ⟨(.type "code"), none, (.fields #[(.str "refuse_silent" 506), (.str "refuse_silent" 507), (.str "/claim/cut.py" 508), (.int 131 0), (.int 2 0), (.int 0 0), (.int 0 0), (.int 3 0), (.ref 230), (.bool true), (.int 181 0), (.ref 231), .none, (.ref 232), (.ref 233), (.ref 234), (.int 511 0), (.int 131 0), (.str "/claim/cut.py" 512)]), #[]⟩
noncomputable def o139 (P : Params) : Obj := ⟨(.type "function"), none, (.func (fd (t 35) "refuse_silent" "refuse_silent" 3 [] .none .none .none (.str "bellwrite.talks" 504) none (.ref 235) .none 0)), #[]⟩
noncomputable def o140 (P : Params) : Obj := ⟨.none, none, (.func (fd (t 36) "rung" "rung" 0 [] .none .none .none .none none .none .none 0)), #[]⟩
noncomputable def o141 (P : Params) : Obj := ⟨(.type "code"), none, (.fields #[(.str "rung" 514), (.str "rung" 515), (.str "/claim/cut.py" 516), (.int 134 0), (.int 4 0), (.int 0 0), (.int 0 0), (.int 3 0), (.ref 237), (.bool true), (.int 181 0), (.ref 238), .none, .none, .none, (.ref 239), (.int 517 0), (.int 134 0), (.str "/claim/cut.py" 518)]), #[]⟩
noncomputable def o142 (P : Params) : Obj := ⟨(.type "function"), none, (.func (fd (t 36) "rung" "rung" 3 [] .none .none .none (.str "bellwrite.talks" 504) none (.ref 240) .none 0)), #[]⟩
noncomputable def o143 (P : Params) : Obj := ⟨(.type "tuple"), none, (.seq #[(.str "reading" 523), (.str "turns" 524), (.str "late" 525), (.str "length" 526), (.str "heard_of" 527), (.str "turn" 528)] 0), #[]⟩
noncomputable def o144 (P : Params) : Obj := ⟨.none, none, (.func (fd (t 37) "by_messages" "by_messages" 0 [] .none .none .none .none none .none .none 0)), #[]⟩
noncomputable def o145 (P : Params) : Obj := ⟨(.type "code"), none, (.fields #[(.str "by_messages" 520), (.str "by_messages" 521), (.str "/claim/cut.py" 522), (.int 141 0), (.int 3 0), (.int 0 0), (.int 0 0), (.int 3 0), (.ref 242), (.bool true), (.int 181 0), (.ref 243), .none, (.ref 244), (.ref 245), (.ref 246), (.int 529 0), (.int 141 0), (.str "/claim/cut.py" 530)]), #[]⟩
noncomputable def o146 (P : Params) : Obj := ⟨(.type "function"), none, (.func (fd (t 37) "by_messages" "by_messages" 3 [] .none .none .none (.str "bellwrite.talks" 504) none (.ref 247) .none 0)), #[]⟩
noncomputable def o147 (P : Params) : Obj := ⟨(.type "tuple"), none, (.seq #[(.str "note" 543), (.str "number" 544), (.str "sign" 545), (.str "place" 546)] 0), #[]⟩
noncomputable def o148 (P : Params) : Obj := ⟨.none, none, (.func (fd (t 42) "note_number" "note_number" 0 [] .none .none .none .none none .none .none 0)), #[]⟩
noncomputable def o149 (P : Params) : Obj := ⟨(.type "code"), none, (.fields #[(.str "note_number" 540), (.str "note_number" 541), (.str "/claim/cut.py" 542), (.int 151 0), (.int 1 0), (.int 0 0), (.int 0 0), (.int 3 0), (.ref 249), (.bool true), (.int 181 0), (.ref 250), .none, (.ref 251), (.ref 252), (.ref 253), (.int 547 0), (.int 151 0), (.str "/claim/cut.py" 548)]), #[]⟩
noncomputable def o150 (P : Params) : Obj := ⟨(.type "function"), none, (.func (fd (t 42) "note_number" "note_number" 3 [] .none .none .none (.str "bellwrite.notes" 532) none (.ref 254) .none 0)), #[]⟩
noncomputable def o151 (P : Params) : Obj := ⟨(.type "tuple"), none, (.seq #[(.str "number" 553), (.str "signs" 554), (.str "left" 555)] 0), #[]⟩
noncomputable def o152 (P : Params) : Obj := ⟨.none, none, (.func (fd (t 43) "note_of" "note_of" 0 [] .none .none .none .none none .none .none 0)), #[]⟩
noncomputable def o153 (P : Params) : Obj := ⟨(.type "code"), none, (.fields #[(.str "note_of" 550), (.str "note_of" 551), (.str "/claim/cut.py" 552), (.int 161 0), (.int 1 0), (.int 0 0), (.int 0 0), (.int 3 0), (.ref 256), (.bool true), (.int 181 0), (.ref 257), .none, (.ref 258), (.ref 259), (.ref 260), (.int 556 0), (.int 161 0), (.str "/claim/cut.py" 557)]), #[]⟩
noncomputable def o154 (P : Params) : Obj := ⟨(.type "function"), none, (.func (fd (t 43) "note_of" "note_of" 3 [] .none .none .none (.str "bellwrite.notes" 532) none (.ref 261) .none 0)), #[]⟩
noncomputable def o155 (P : Params) : Obj := ⟨(.type "tuple"), none, (.seq #[(.str "number" 562), (.str "base" 563), (.str "figures" 564), (.str "left" 565)] 0), #[]⟩
noncomputable def o156 (P : Params) : Obj := ⟨.none, none, (.func (fd (t 44) "parts" "parts" 0 [] .none .none .none .none none .none .none 0)), #[]⟩
noncomputable def o157 (P : Params) : Obj := ⟨(.type "code"), none, (.fields #[(.str "parts" 559), (.str "parts" 560), (.str "/claim/cut.py" 561), (.int 173 0), (.int 2 0), (.int 0 0), (.int 0 0), (.int 3 0), (.ref 263), (.bool true), (.int 181 0), (.ref 264), .none, (.ref 265), (.ref 266), (.ref 267), (.int 566 0), (.int 173 0), (.str "/claim/cut.py" 567)]), #[]⟩
noncomputable def o158 (P : Params) : Obj := ⟨(.type "function"), none, (.func (fd (t 44) "parts" "parts" 3 [] .none .none .none (.str "bellwrite.notes" 532) none (.ref 268) .none 0)), #[]⟩
noncomputable def o159 (P : Params) : Obj := ⟨.none, none, (.func (fd (t 45) "number_of_parts" "number_of_parts" 0 [] .none .none .none .none none .none .none 0)), #[]⟩
noncomputable def o160 (P : Params) : Obj := ⟨(.type "code"), none, (.fields #[(.str "number_of_parts" 569), (.str "number_of_parts" 570), (.str "/claim/cut.py" 571), (.int 180 0), (.int 2 0), (.int 0 0), (.int 0 0), (.int 3 0), (.ref 270), (.bool true), (.int 181 0), (.ref 271), .none, .none, .none, (.ref 272), (.int 572 0), (.int 180 0), (.str "/claim/cut.py" 573)]), #[]⟩
noncomputable def o161 (P : Params) : Obj := ⟨(.type "function"), none, (.func (fd (t 45) "number_of_parts" "number_of_parts" 3 [] .none .none .none (.str "bellwrite.notes" 532) none (.ref 273) .none 0)), #[]⟩
noncomputable def o162 (P : Params) : Obj := ⟨.none, none, (.func (fd (t 46) "sent" "sent" 0 [] .none .none .none .none none .none .none 0)), #[]⟩
noncomputable def o163 (P : Params) : Obj := ⟨(.type "code"), none, (.fields #[(.str "sent" 575), (.str "sent" 576), (.str "/claim/cut.py" 577), (.int 189 0), (.int 4 0), (.int 0 0), (.int 0 0), (.int 3 0), (.ref 275), (.bool true), (.int 181 0), (.ref 276), .none, .none, .none, (.ref 277), (.int 578 0), (.int 189 0), (.str "/claim/cut.py" 579)]), #[]⟩
noncomputable def o164 (P : Params) : Obj := ⟨(.type "function"), none, (.func (fd (t 46) "sent" "sent" 3 [] .none .none .none (.str "bellwrite.notes" 532) none (.ref 278) .none 0)), #[]⟩
noncomputable def o165 (P : Params) : Obj := ⟨.none, none, (.func (fd (t 47) "received" "received" 0 [] .none .none .none .none none .none .none 0)), #[]⟩
noncomputable def o166 (P : Params) : Obj := ⟨(.type "code"), none, (.fields #[(.str "received" 581), (.str "received" 582), (.str "/claim/cut.py" 583), (.int 197 0), (.int 4 0), (.int 0 0), (.int 0 0), (.int 3 0), (.ref 280), (.bool true), (.int 181 0), (.ref 281), .none, .none, .none, (.ref 282), (.int 584 0), (.int 197 0), (.str "/claim/cut.py" 585)]), #[]⟩
noncomputable def o167 (P : Params) : Obj := ⟨(.type "function"), none, (.func (fd (t 47) "received" "received" 3 [] .none .none .none (.str "bellwrite.notes" 532) none (.ref 283) .none 0)), #[]⟩
noncomputable def o168 (P : Params) : Obj := ⟨(.type "tuple"), none, (.seq #[(.str "reading" 590), (.str "turns" 591), (.str "bells" 592), (.str "late" 593), (.str "heard_of" 594), (.str "messages" 595), (.str "message" 596)] 0), #[]⟩
noncomputable def o169 (P : Params) : Obj := ⟨.none, none, (.func (fd (t 48) "messages_ahead_of_end" "messages_ahead_of_end" 0 [] .none .none .none .none none .none .none 0)), #[]⟩
noncomputable def o170 (P : Params) : Obj := ⟨(.type "code"), none, (.fields #[(.str "messages_ahead_of_end" 587), (.str "messages_ahead_of_end" 588), (.str "/claim/cut.py" 589), (.int 204 0), (.int 4 0), (.int 0 0), (.int 0 0), (.int 3 0), (.ref 285), (.bool true), (.int 181 0), (.ref 286), .none, (.ref 287), (.ref 288), (.ref 289), (.int 597 0), (.int 204 0), (.str "/claim/cut.py" 598)]), #[]⟩
noncomputable def o171 (P : Params) : Obj := ⟨(.type "function"), none, (.func (fd (t 48) "messages_ahead_of_end" "messages_ahead_of_end" 3 [] .none .none .none (.str "bellwrite.notes" 532) none (.ref 290) .none 0)), #[]⟩
noncomputable def o172 (P : Params) : Obj := ⟨.none, none, (.func (fd (t 56) "is_made_of" "is_made_of" 0 [] .none .none .none .none none .none .none 0)), #[]⟩
noncomputable def o173 (P : Params) : Obj := ⟨(.type "code"), none, (.fields #[(.str "is_made_of" 614), (.str "is_made_of" 615), (.str "/claim/cut.py" 616), (.int 219 0), (.int 3 0), (.int 0 0), (.int 0 0), (.int 3 0), (.ref 292), (.bool true), (.int 181 0), (.ref 293), .none, .none, .none, (.ref 294), (.int 617 0), (.int 219 0), (.str "/claim/cut.py" 618)]), #[]⟩
noncomputable def o174 (P : Params) : Obj := ⟨(.type "function"), none, (.func (fd (t 56) "is_made_of" "is_made_of" 3 [] .none .none .none (.str "bellwrite.words" 600) none (.ref 295) .none 0)), #[]⟩
noncomputable def o175 (P : Params) : Obj := ⟨(.type "tuple"), none, (.seq #[(.str "word" 623)] 0), #[]⟩
noncomputable def o176 (P : Params) : Obj := ⟨.none, none, (.func (fd (t 57) "name_in" "name_in" 0 [] .none .none .none .none none .none .none 0)), #[]⟩
noncomputable def o177 (P : Params) : Obj := ⟨(.type "code"), none, (.fields #[(.str "name_in" 620), (.str "name_in" 621), (.str "/claim/cut.py" 622), (.int 221 0), (.int 1 0), (.int 0 0), (.int 0 0), (.int 3 0), (.ref 297), (.bool true), (.int 181 0), (.ref 298), .none, (.ref 299), (.ref 300), (.ref 301), (.int 624 0), (.int 221 0), (.str "/claim/cut.py" 625)]), #[]⟩
noncomputable def o178 (P : Params) : Obj := ⟨(.type "function"), none, (.func (fd (t 57) "name_in" "name_in" 3 [] .none .none .none (.str "bellwrite.words" 600) none (.ref 302) .none 0)), #[]⟩
noncomputable def o179 (P : Params) : Obj := ⟨(.type "tuple"), none, (.seq #[(.str "word" 630), (.str "most" 631)] 0), #[]⟩
noncomputable def o180 (P : Params) : Obj := ⟨.none, none, (.func (fd (t 58) "figures_in" "figures_in" 0 [] .none .none .none .none none .none .none 0)), #[]⟩
noncomputable def o181 (P : Params) : Obj := ⟨(.type "code"), none, (.fields #[(.str "figures_in" 627), (.str "figures_in" 628), (.str "/claim/cut.py" 629), (.int 225 0), (.int 2 0), (.int 0 0), (.int 0 0), (.int 3 0), (.ref 304), (.bool true), (.int 181 0), (.ref 305), .none, (.ref 306), (.ref 307), (.ref 308), (.int 632 0), (.int 225 0), (.str "/claim/cut.py" 633)]), #[]⟩
noncomputable def o182 (P : Params) : Obj := ⟨(.type "function"), none, (.func (fd (t 58) "figures_in" "figures_in" 3 [] .none .none .none (.str "bellwrite.words" 600) none (.ref 309) .none 0)), #[]⟩
noncomputable def o183 (P : Params) : Obj := ⟨(.type "tuple"), none, (.seq #[(.str "word" 638)] 0), #[]⟩
noncomputable def o184 (P : Params) : Obj := ⟨.none, none, (.func (fd (t 59) "number_in" "number_in" 0 [] .none .none .none .none none .none .none 0)), #[]⟩
noncomputable def o185 (P : Params) : Obj := ⟨(.type "code"), none, (.fields #[(.str "number_in" 635), (.str "number_in" 636), (.str "/claim/cut.py" 637), (.int 229 0), (.int 1 0), (.int 0 0), (.int 0 0), (.int 3 0), (.ref 311), (.bool true), (.int 181 0), (.ref 312), .none, (.ref 313), (.ref 314), (.ref 315), (.int 639 0), (.int 229 0), (.str "/claim/cut.py" 640)]), #[]⟩
noncomputable def o186 (P : Params) : Obj := ⟨(.type "function"), none, (.func (fd (t 59) "number_in" "number_in" 3 [] .none .none .none (.str "bellwrite.words" 600) none (.ref 316) .none 0)), #[]⟩
noncomputable def o187 (P : Params) : Obj := ⟨(.type "tuple"), none, (.seq #[(.str "word" 645)] 0), #[]⟩
noncomputable def o188 (P : Params) : Obj := ⟨.none, none, (.func (fd (t 60) "message_in" "message_in" 0 [] .none .none .none .none none .none .none 0)), #[]⟩
noncomputable def o189 (P : Params) : Obj := ⟨(.type "code"), none, (.fields #[(.str "message_in" 642), (.str "message_in" 643), (.str "/claim/cut.py" 644), (.int 231 0), (.int 1 0), (.int 0 0), (.int 0 0), (.int 3 0), (.ref 318), (.bool true), (.int 181 0), (.ref 319), .none, (.ref 320), (.ref 321), (.ref 322), (.int 646 0), (.int 231 0), (.str "/claim/cut.py" 647)]), #[]⟩
noncomputable def o190 (P : Params) : Obj := ⟨(.type "function"), none, (.func (fd (t 60) "message_in" "message_in" 3 [] .none .none .none (.str "bellwrite.words" 600) none (.ref 323) .none 0)), #[]⟩
noncomputable def o191 (P : Params) : Obj := ⟨(.type "tuple"), none, (.seq #[(.str "word" 652), (.str "bells" 653)] 0), #[]⟩
noncomputable def o192 (P : Params) : Obj := ⟨.none, none, (.func (fd (t 61) "bells_in" "bells_in" 0 [] .none .none .none .none none .none .none 0)), #[]⟩
noncomputable def o193 (P : Params) : Obj := ⟨(.type "code"), none, (.fields #[(.str "bells_in" 649), (.str "bells_in" 650), (.str "/claim/cut.py" 651), (.int 233 0), (.int 1 0), (.int 0 0), (.int 0 0), (.int 3 0), (.ref 325), (.bool true), (.int 181 0), (.ref 326), .none, (.ref 327), (.ref 328), (.ref 329), (.int 654 0), (.int 233 0), (.str "/claim/cut.py" 655)]), #[]⟩
noncomputable def o194 (P : Params) : Obj := ⟨(.type "function"), none, (.func (fd (t 61) "bells_in" "bells_in" 3 [] .none .none .none (.str "bellwrite.words" 600) none (.ref 330) .none 0)), #[]⟩
noncomputable def o195 (P : Params) : Obj := ⟨.none, none, (.func (fd (t 62) "turns_in" "turns_in" 0 [] .none .none .none .none none .none .none 0)), #[]⟩
noncomputable def o196 (P : Params) : Obj := ⟨(.type "code"), none, (.fields #[(.str "turns_in" 657), (.str "turns_in" 658), (.str "/claim/cut.py" 659), (.int 238 0), (.int 1 0), (.int 0 0), (.int 0 0), (.int 3 0), (.ref 332), (.bool true), (.int 181 0), (.ref 333), .none, .none, .none, (.ref 334), (.int 660 0), (.int 238 0), (.str "/claim/cut.py" 661)]), #[]⟩
noncomputable def o197 (P : Params) : Obj := ⟨(.type "function"), none, (.func (fd (t 62) "turns_in" "turns_in" 3 [] .none .none .none (.str "bellwrite.words" 600) none (.ref 335) .none 0)), #[]⟩
noncomputable def o198 (P : Params) : Obj := ⟨(.type "tuple"), none, (.seq #[(.str "number" 666)] 0), #[]⟩
noncomputable def o199 (P : Params) : Obj := ⟨.none, none, (.func (fd (t 63) "number_told" "number_told" 0 [] .none .none .none .none none .none .none 0)), #[]⟩
noncomputable def o200 (P : Params) : Obj := ⟨(.type "code"), none, (.fields #[(.str "number_told" 663), (.str "number_told" 664), (.str "/claim/cut.py" 665), (.int 246 0), (.int 1 0), (.int 0 0), (.int 0 0), (.int 3 0), (.ref 337), (.bool true), (.int 181 0), (.ref 338), .none, (.ref 339), (.ref 340), (.ref 341), (.int 667 0), (.int 246 0), (.str "/claim/cut.py" 668)]), #[]⟩
noncomputable def o201 (P : Params) : Obj := ⟨(.type "function"), none, (.func (fd (t 63) "number_told" "number_told" 3 [] .none .none .none (.str "bellwrite.words" 600) none (.ref 342) .none 0)), #[]⟩
noncomputable def o202 (P : Params) : Obj := ⟨.none, none, (.func (fd (t 64) "turns_told" "turns_told" 0 [] .none .none .none .none none .none .none 0)), #[]⟩
noncomputable def o203 (P : Params) : Obj := ⟨(.type "code"), none, (.fields #[(.str "turns_told" 670), (.str "turns_told" 671), (.str "/claim/cut.py" 672), (.int 248 0), (.int 1 0), (.int 0 0), (.int 0 0), (.int 3 0), (.ref 344), (.bool true), (.int 181 0), (.ref 345), .none, .none, .none, (.ref 346), (.int 673 0), (.int 248 0), (.str "/claim/cut.py" 674)]), #[]⟩
noncomputable def o204 (P : Params) : Obj := ⟨(.type "function"), none, (.func (fd (t 64) "turns_told" "turns_told" 3 [] .none .none .none (.str "bellwrite.words" 600) none (.ref 347) .none 0)), #[]⟩
noncomputable def o205 (P : Params) : Obj := ⟨(.type "dict"), none, (.dict #[e P "__name__" 165 (.str "law_bellwrite_k96_frames_at_the_desk" 833), e P "__doc__" 166 .none, e P "__package__" 167 .none, e P "__loader__" 168 (.builtin "__main__.__loader__#opaque"), e P "__spec__" 169 .none, e P "__annotations__" 170 (.ref 6), e P "__builtins__" 171 (.ref 4), e P "__file__" 173 (.str "/claim/cut.py" 172), e P "__cached__" 174 .none, e P "choose" 198 (.ref 21), e P "top_of" 206 (.ref 28), e P "top_from" 219 (.ref 35), e P "above_top" 230 (.ref 42), e P "rounded_up" 238 (.ref 49), e P "BellError" 258 (.ref 59), e P "NoRow" 274 (.ref 72), e P "NoReading" 290 (.ref 84), e P "TooGreat" 306 (.ref 96), e P "NoNote" 322 (.ref 108), e P "NoOrder" 338 (.ref 120), e P "NoName" 354 (.ref 132), e P "box_of" 362 (.ref 139), e P "bell_row" 368 (.ref 144), e P "heard_box" 379 (.ref 151), e P "box_count" 388 (.ref 158), e P "greatest_part" 397 (.ref 165), e P "shortest_frame" 409 (.ref 172), e P "best_bells" 422 (.ref 179), e P "cheapest" 439 (.ref 186), e P "box_number" 447 (.ref 191), e P "box_of_message" 459 (.ref 198), e P "written" 469 (.ref 205), e P "read" 480 (.ref 212), e P "keyed_count" 491 (.ref 219), e P "keyed" 497 (.ref 224), e P "unkeyed" 503 (.ref 229), e P "refuse_silent" 513 (.ref 236), e P "rung" 519 (.ref 241), e P "by_messages" 531 (.ref 248), e P "SIGNS" 535 (.str "abcdefghijklmnopqrstuvwxyz " 534), e P "MOST_SIGNS" 537 (.int 60 536), e P "LEAST_COUNT" 539 (.int 3 538), e P "note_number" 549 (.ref 255), e P "note_of" 558 (.ref 262), e P "parts" 568 (.ref 269), e P "number_of_parts" 574 (.ref 274), e P "sent" 580 (.ref 279), e P "received" 586 (.ref 284), e P "messages_ahead_of_end" 599 (.ref 291), e P "LETTERS" 603 (.str "abcdefghijklmnopqrstuvwxyz" 602), e P "MOST_LETTERS" 605 (.int 8 604), e P "FIGURES" 607 (.str "0123456789" 606), e P "MOST_FIGURES" 609 (.int 60 608), e P "MOST_FIGURES_OF_MESSAGE" 611 (.int 3000 610), e P "MOST_BELLS" 613 (.int 60 612), e P "is_made_of" 619 (.ref 296), e P "name_in" 626 (.ref 303), e P "figures_in" 634 (.ref 310), e P "number_in" 641 (.ref 317), e P "message_in" 648 (.ref 324), e P "bells_in" 656 (.ref 331), e P "turns_in" 662 (.ref 336), e P "number_told" 669 (.ref 343), e P "turns_told" 675 (.ref 348), e P "Frame" 710 (.ref 365), e P "Desk" 797 (.ref 428), e P "count_of" 804 (.ref 439), e P "note_heard" 812 (.ref 446), e P "choice_told" 819 (.ref 453), e P "cheapest_told" 832 (.ref 460), e P "_law_drawn" 843 (.ref 467), e P "_law_great" 851 (.ref 474), e P "_law_late" 858 (.ref 481), e P "_law_many" 866 (.ref 488), e P "_law_short" 880 (.ref 495), e P "_law_best" 893 (.ref 502), e P "_law_cheap" 909 (.ref 509), e P "law" 920 (.ref 516)] 78), #[]⟩
noncomputable def o206 (P : Params) : Obj := ⟨.none, none, (.fields #[(.int 2 0), (.int 0 0), (.ref 20), (.int 9 0), (.int 0 0), (.ref 27), (.int 11 0), (.int 0 0), (.ref 34), (.int 20 0), (.int 0 0), (.ref 41), (.int 26 0), (.int 0 0), (.ref 48), (.int 29 0), (.int 0 0), (.ref 55), (.int 31 0), (.int 0 0), (.ref 68), (.int 33 0), (.int 0 0), (.ref 80), (.int 35 0), (.int 0 0), (.ref 92), (.int 37 0), (.int 0 0), (.ref 104), (.int 39 0), (.int 0 0), (.ref 116), (.int 41 0), (.int 0 0), (.ref 128), (.int 44 0), (.int 0 0), (.ref 138), (.int 46 0), (.int 0 0), (.ref 143), (.int 48 0), (.int 0 0), (.ref 150), (.int 56 0), (.int 0 0), (.ref 157), (.int 60 0), (.int 0 0), (.ref 164), (.int 63 0), (.int 0 0), (.ref 171), (.int 70 0), (.int 0 0), (.ref 178), (.int 80 0), (.int 0 0), (.ref 185), (.int 90 0), (.int 0 0), (.ref 190), (.int 92 0), (.int 0 0), (.ref 197), (.int 103 0), (.int 0 0), (.ref 204), (.int 107 0), (.int 0 0), (.ref 211), (.int 115 0), (.int 0 0), (.ref 218), (.int 119 0), (.int 0 0), (.ref 223), (.int 124 0), (.int 0 0), (.ref 228), (.int 131 0), (.int 0 0), (.ref 235), (.int 134 0), (.int 0 0), (.ref 240), (.int 141 0), (.int 0 0), (.ref 247), (.int 151 0), (.int 0 0), (.ref 254), (.int 161 0), (.int 0 0), (.ref 261), (.int 173 0), (.int 0 0), (.ref 268), (.int 180 0), (.int 0 0), (.ref 273), (.int 189 0), (.int 0 0), (.ref 278), (.int 197 0), (.int 0 0), (.ref 283), (.int 204 0), (.int 0 0), (.ref 290), (.int 219 0), (.int 0 0), (.ref 295), (.int 221 0), (.int 0 0), (.ref 302), (.int 225 0), (.int 0 0), (.ref 309), (.int 229 0), (.int 0 0), (.ref 316), (.int 231 0), (.int 0 0), (.ref 323), (.int 233 0), (.int 0 0), (.ref 330), (.int 238 0), (.int 0 0), (.ref 335), (.int 246 0), (.int 0 0), (.ref 342), (.int 248 0), (.int 0 0), (.ref 347), (.int 251 0), (.int 0 0), (.ref 354), (.int 257 0), (.int 0 0), (.ref 375), (.int 309 0), (.int 0 0), (.ref 438), (.int 311 0), (.int 0 0), (.ref 445), (.int 315 0), (.int 0 0), (.ref 452), (.int 323 0), (.int 0 0), (.ref 459), (.int 334 0), (.int 0 0), (.ref 466), (.int 338 0), (.int 0 0), (.ref 473), (.int 340 0), (.int 0 0), (.ref 480), (.int 342 0), (.int 0 0), (.ref 487), (.int 345 0), (.int 0 0), (.ref 494), (.int 358 0), (.int 0 0), (.ref 501), (.int 365 0), (.int 0 0), (.ref 508), (.int 383 0), (.int 0 0), (.ref 515)]), #[]⟩
noncomputable def o207 (P : Params) : Obj := ⟨(.type "dict"), none, (.dict #[e P "__module__" 685 (.str "bellwrite.desk" 676), e P "__qualname__" 687 (.str "Frame" 686), e P "__firstlineno__" 689 (.int 251 688), e P "__init__" 699 (.ref 362), e P "__static_attributes__" 703 (.ref 363)] 5), #[]⟩
noncomputable def o208 (P : Params) : Obj := ⟨.none, none, (.fields #[(.int 253 0), (.int 4 0), (.ref 361)]), #[]⟩
noncomputable def o209 (P : Params) : Obj := ⟨(.type "code"), none, (.fields #[(.str "Frame" 680), (.str "Frame" 681), (.str "/claim/cut.py" 682), (.int 251 0), (.int 0 0), (.int 0 0), (.int 0 0), (.int 0 0), (.ref 352), (.bool false), (.int 181 0), (.ref 353), .none, .none, .none, .none, (.int 683 0), (.int 251 0), (.str "/claim/cut.py" 684)]), #[]⟩
noncomputable def o210 (P : Params) : Obj := ⟨(.type "frame"), none, .plain, #[(some (.ref 354)), (some (.ref 3)), (some (.ref 351)), none, (some (.str "bellwrite.desk" 676)), none, (some (.ref 0))]⟩
noncomputable def o211 (P : Params) : Obj := ⟨(.type "tuple"), none, (.seq #[(.str "self" 693), (.str "turns" 694), (.str "bells" 695), (.str "late" 696)] 0), #[]⟩
noncomputable def o212 (P : Params) : Obj := ⟨.none, none, (.func (fd (u 66 0) "__init__" "Frame.__init__" 0 [] .none .none .none .none none .none .none 0)), #[]⟩
noncomputable def o213 (P : Params) : Obj := ⟨(.type "code"), none, (.fields #[(.str "__init__" 690), (.str "Frame.__init__" 691), (.str "/claim/cut.py" 692), (.int 253 0), (.int 4 0), (.int 0 0), (.int 0 0), (.int 3 0), (.ref 356), (.bool true), (.int 181 0), (.ref 357), .none, (.ref 358), (.ref 359), (.ref 360), (.int 697 0), (.int 253 0), (.str "/claim/cut.py" 698)]), #[]⟩
noncomputable def o214 (P : Params) : Obj := ⟨(.type "function"), none, (.func (fd (u 66 0) "__init__" "Frame.__init__" 3 [] .none .none .none (.str "bellwrite.desk" 676) none (.ref 361) .none 0)), #[]⟩
noncomputable def o215 (P : Params) : Obj := ⟨(.type "tuple"), none, (.seq #[(.str "bells" 700), (.str "late" 701), (.str "turns" 702)] 0), #[]⟩
noncomputable def o216 (P : Params) : Obj := ⟨(.type "dict"), none, (.dict #[e P "__module__" 685 (.str "bellwrite.desk" 676), e P "__firstlineno__" 689 (.int 251 688), e P "__init__" 699 (.ref 362), e P "__static_attributes__" 703 (.ref 363), e P "__dict__" 705 (.ref 366), e P "__weakref__" 707 (.ref 367), e P "__doc__" 708 .none] 4), #[]⟩
noncomputable def o217 (P : Params) : Obj := ⟨(.type "type"), none, (.cls ⟨"Frame", [(.type "object")], [(.ref 365), (.type "object")], 364, "Frame", true, [], [], false, none, false⟩), #[none, none, (some (.str "Frame" 678)), (some (.str "Frame" 686)), (some (.builtin "object.__new__")), (some (.bool true))]⟩
noncomputable def o218 (P : Params) : Obj := ⟨(.type "getset_descriptor"), none, (.fields #[(.str "__dict__" 704), (.ref 365), (.builtin "function.__dict__"), (.builtin "function.__dict__#set")]), #[]⟩
noncomputable def o219 (P : Params) : Obj := ⟨(.type "getset_descriptor"), none, (.fields #[(.str "__weakref__" 706), (.ref 365), (.builtin "ExceptionGroup.__weakref__"), .none]), #[]⟩
noncomputable def o220 (P : Params) : Obj := ⟨(.type "super"), none, (.fields #[(.ref 365), (.ref 365), (.ref 365)]), #[]⟩
noncomputable def o221 (P : Params) : Obj := ⟨(.type "builtin_function_or_method"), none, (.fields #[(.builtin "object.__init_subclass__"), (.ref 365)]), #[]⟩
noncomputable def o222 (P : Params) : Obj := ⟨(.type "dict"), none, (.dict #[e P "__module__" 718 (.str "bellwrite.desk" 676), e P "__qualname__" 720 (.str "Desk" 719), e P "__firstlineno__" 722 (.int 257 721), e P "__init__" 729 (.ref 383), e P "told" 738 (.ref 390), e P "keep" 749 (.ref 397), e P "ring" 760 (.ref 404), e P "listen" 771 (.ref 411), e P "send_note" 780 (.ref 418), e P "kept" 788 (.ref 425), e P "__static_attributes__" 790 (.ref 426)] 11), #[]⟩
noncomputable def o223 (P : Params) : Obj := ⟨.none, none, (.fields #[(.int 259 0), (.int 4 0), (.ref 382), (.int 262 0), (.int 4 0), (.ref 389), (.int 276 0), (.int 4 0), (.ref 396), (.int 283 0), (.int 4 0), (.ref 403), (.int 291 0), (.int 4 0), (.ref 410), (.int 301 0), (.int 4 0), (.ref 417), (.int 305 0), (.int 4 0), (.ref 424)]), #[]⟩
noncomputable def o224 (P : Params) : Obj := ⟨(.type "code"), none, (.fields #[(.str "Desk" 713), (.str "Desk" 714), (.str "/claim/cut.py" 715), (.int 257 0), (.int 0 0), (.int 0 0), (.int 0 0), (.int 0 0), (.ref 373), (.bool false), (.int 181 0), (.ref 374), .none, .none, .none, .none, (.int 716 0), (.int 257 0), (.str "/claim/cut.py" 717)]), #[]⟩
noncomputable def o225 (P : Params) : Obj := ⟨(.type "frame"), none, .plain, #[(some (.ref 375)), (some (.ref 3)), (some (.ref 372)), none, (some (.str "bellwrite.desk" 676)), none, (some (.ref 0))]⟩
noncomputable def o226 (P : Params) : Obj := ⟨(.type "tuple"), none, (.seq #[(.str "self" 726)] 0), #[]⟩
noncomputable def o227 (P : Params) : Obj := ⟨.none, none, (.func (fd (u 67 0) "__init__" "Desk.__init__" 0 [] .none .none .none .none none .none .none 0)), #[]⟩
noncomputable def o228 (P : Params) : Obj := ⟨(.type "code"), none, (.fields #[(.str "__init__" 723), (.str "Desk.__init__" 724), (.str "/claim/cut.py" 725), (.int 259 0), (.int 1 0), (.int 0 0), (.int 0 0), (.int 3 0), (.ref 377), (.bool true), (.int 181 0), (.ref 378), .none, (.ref 379), (.ref 380), (.ref 381), (.int 727 0), (.int 259 0), (.str "/claim/cut.py" 728)]), #[]⟩
noncomputable def o229 (P : Params) : Obj := ⟨(.type "function"), none, (.func (fd (u 67 0) "__init__" "Desk.__init__" 3 [] .none .none .none (.str "bellwrite.desk" 676) none (.ref 382) .none 0)), #[]⟩
noncomputable def o230 (P : Params) : Obj := ⟨(.type "tuple"), none, (.seq #[(.str "self" 733), (.str "order" 734), (.str "words" 735)] 0), #[]⟩
noncomputable def o231 (P : Params) : Obj := ⟨.none, none, (.func (fd (u 67 1) "told" "Desk.told" 0 [] .none .none .none .none none .none .none 0)), #[]⟩
noncomputable def o232 (P : Params) : Obj := ⟨(.type "code"), none, (.fields #[(.str "told" 730), (.str "Desk.told" 731), (.str "/claim/cut.py" 732), (.int 262 0), (.int 2 0), (.int 0 0), (.int 0 0), (.int 3 0), (.ref 384), (.bool true), (.int 181 0), (.ref 385), .none, (.ref 386), (.ref 387), (.ref 388), (.int 736 0), (.int 262 0), (.str "/claim/cut.py" 737)]), #[]⟩
noncomputable def o233 (P : Params) : Obj := ⟨(.type "function"), none, (.func (fd (u 67 1) "told" "Desk.told" 3 [] .none .none .none (.str "bellwrite.desk" 676) none (.ref 389) .none 0)), #[]⟩
noncomputable def o234 (P : Params) : Obj := ⟨(.type "tuple"), none, (.seq #[(.str "self" 742), (.str "words" 743), (.str "name" 744), (.str "frame" 745), (.str "count" 746)] 0), #[]⟩
noncomputable def o235 (P : Params) : Obj := ⟨.none, none, (.func (fd (u 67 2) "keep" "Desk.keep" 0 [] .none .none .none .none none .none .none 0)), #[]⟩
noncomputable def o236 (P : Params) : Obj := ⟨(.type "code"), none, (.fields #[(.str "keep" 739), (.str "Desk.keep" 740), (.str "/claim/cut.py" 741), (.int 276 0), (.int 2 0), (.int 0 0), (.int 0 0), (.int 3 0), (.ref 391), (.bool true), (.int 181 0), (.ref 392), .none, (.ref 393), (.ref 394), (.ref 395), (.int 747 0), (.int 276 0), (.str "/claim/cut.py" 748)]), #[]⟩
noncomputable def o237 (P : Params) : Obj := ⟨(.type "function"), none, (.func (fd (u 67 2) "keep" "Desk.keep" 3 [] .none .none .none (.str "bellwrite.desk" 676) none (.ref 396) .none 0)), #[]⟩
noncomputable def o238 (P : Params) : Obj := ⟨(.type "tuple"), none, (.seq #[(.str "self" 753), (.str "words" 754), (.str "name" 755), (.str "message" 756), (.str "frame" 757)] 0), #[]⟩
noncomputable def o239 (P : Params) : Obj := ⟨.none, none, (.func (fd (u 67 3) "ring" "Desk.ring" 0 [] .none .none .none .none none .none .none 0)), #[]⟩
noncomputable def o240 (P : Params) : Obj := ⟨(.type "code"), none, (.fields #[(.str "ring" 750), (.str "Desk.ring" 751), (.str "/claim/cut.py" 752), (.int 283 0), (.int 2 0), (.int 0 0), (.int 0 0), (.int 3 0), (.ref 398), (.bool true), (.int 181 0), (.ref 399), .none, (.ref 400), (.ref 401), (.ref 402), (.int 758 0), (.int 283 0), (.str "/claim/cut.py" 759)]), #[]⟩
noncomputable def o241 (P : Params) : Obj := ⟨(.type "function"), none, (.func (fd (u 67 3) "ring" "Desk.ring" 3 [] .none .none .none (.str "bellwrite.desk" 676) none (.ref 403) .none 0)), #[]⟩
noncomputable def o242 (P : Params) : Obj := ⟨(.type "tuple"), none, (.seq #[(.str "self" 764), (.str "words" 765), (.str "name" 766), (.str "reading" 767), (.str "frame" 768)] 0), #[]⟩
noncomputable def o243 (P : Params) : Obj := ⟨.none, none, (.func (fd (u 67 4) "listen" "Desk.listen" 0 [] .none .none .none .none none .none .none 0)), #[]⟩
noncomputable def o244 (P : Params) : Obj := ⟨(.type "code"), none, (.fields #[(.str "listen" 761), (.str "Desk.listen" 762), (.str "/claim/cut.py" 763), (.int 291 0), (.int 2 0), (.int 0 0), (.int 0 0), (.int 3 0), (.ref 405), (.bool true), (.int 181 0), (.ref 406), .none, (.ref 407), (.ref 408), (.ref 409), (.int 769 0), (.int 291 0), (.str "/claim/cut.py" 770)]), #[]⟩
noncomputable def o245 (P : Params) : Obj := ⟨(.type "function"), none, (.func (fd (u 67 4) "listen" "Desk.listen" 3 [] .none .none .none (.str "bellwrite.desk" 676) none (.ref 410) .none 0)), #[]⟩
noncomputable def o246 (P : Params) : Obj := ⟨(.type "tuple"), none, (.seq #[(.str "self" 775), (.str "words" 776), (.str "frame" 777)] 0), #[]⟩
noncomputable def o247 (P : Params) : Obj := ⟨.none, none, (.func (fd (u 67 5) "send_note" "Desk.send_note" 0 [] .none .none .none .none none .none .none 0)), #[]⟩
noncomputable def o248 (P : Params) : Obj := ⟨(.type "code"), none, (.fields #[(.str "send_note" 772), (.str "Desk.send_note" 773), (.str "/claim/cut.py" 774), (.int 301 0), (.int 2 0), (.int 0 0), (.int 0 0), (.int 3 0), (.ref 412), (.bool true), (.int 181 0), (.ref 413), .none, (.ref 414), (.ref 415), (.ref 416), (.int 778 0), (.int 301 0), (.str "/claim/cut.py" 779)]), #[]⟩
noncomputable def o249 (P : Params) : Obj := ⟨(.type "function"), none, (.func (fd (u 67 5) "send_note" "Desk.send_note" 3 [] .none .none .none (.str "bellwrite.desk" 676) none (.ref 417) .none 0)), #[]⟩
noncomputable def o250 (P : Params) : Obj := ⟨(.type "tuple"), none, (.seq #[(.str "self" 784), (.str "name" 785)] 0), #[]⟩
noncomputable def o251 (P : Params) : Obj := ⟨.none, none, (.func (fd (u 67 6) "kept" "Desk.kept" 0 [] .none .none .none .none none .none .none 0)), #[]⟩
noncomputable def o252 (P : Params) : Obj := ⟨(.type "code"), none, (.fields #[(.str "kept" 781), (.str "Desk.kept" 782), (.str "/claim/cut.py" 783), (.int 305 0), (.int 2 0), (.int 0 0), (.int 0 0), (.int 3 0), (.ref 419), (.bool true), (.int 181 0), (.ref 420), .none, (.ref 421), (.ref 422), (.ref 423), (.int 786 0), (.int 305 0), (.str "/claim/cut.py" 787)]), #[]⟩
noncomputable def o253 (P : Params) : Obj := ⟨(.type "function"), none, (.func (fd (u 67 6) "kept" "Desk.kept" 3 [] .none .none .none (.str "bellwrite.desk" 676) none (.ref 424) .none 0)), #[]⟩
noncomputable def o254 (P : Params) : Obj := ⟨(.type "tuple"), none, (.seq #[(.str "frames" 789)] 0), #[]⟩
noncomputable def o255 (P : Params) : Obj := ⟨(.type "dict"), none, (.dict #[e P "__module__" 718 (.str "bellwrite.desk" 676), e P "__firstlineno__" 722 (.int 257 721), e P "__init__" 729 (.ref 383), e P "told" 738 (.ref 390), e P "keep" 749 (.ref 397), e P "ring" 760 (.ref 404), e P "listen" 771 (.ref 411), e P "send_note" 780 (.ref 418), e P "kept" 788 (.ref 425), e P "__static_attributes__" 790 (.ref 426), e P "__dict__" 792 (.ref 429), e P "__weakref__" 794 (.ref 430), e P "__doc__" 795 .none] 4), #[]⟩
noncomputable def o256 (P : Params) : Obj := ⟨(.type "type"), none, (.cls ⟨"Desk", [(.type "object")], [(.ref 428), (.type "object")], 427, "Desk", true, [], [], false, none, false⟩), #[none, none, (some (.str "Desk" 711)), (some (.str "Desk" 719)), (some (.builtin "object.__new__")), (some (.bool true))]⟩
noncomputable def o257 (P : Params) : Obj := ⟨(.type "getset_descriptor"), none, (.fields #[(.str "__dict__" 791), (.ref 428), (.builtin "function.__dict__"), (.builtin "function.__dict__#set")]), #[]⟩
noncomputable def o258 (P : Params) : Obj := ⟨(.type "getset_descriptor"), none, (.fields #[(.str "__weakref__" 793), (.ref 428), (.builtin "ExceptionGroup.__weakref__"), .none]), #[]⟩
noncomputable def o259 (P : Params) : Obj := ⟨(.type "super"), none, (.fields #[(.ref 428), (.ref 428), (.ref 428)]), #[]⟩
noncomputable def o260 (P : Params) : Obj := ⟨(.type "builtin_function_or_method"), none, (.fields #[(.builtin "object.__init_subclass__"), (.ref 428)]), #[]⟩
noncomputable def o261 (P : Params) : Obj := ⟨(.type "tuple"), none, (.seq #[(.str "frame" 801)] 0), #[]⟩
noncomputable def o262 (P : Params) : Obj := ⟨.none, none, (.func (fd (t 68) "count_of" "count_of" 0 [] .none .none .none .none none .none .none 0)), #[]⟩
noncomputable def o263 (P : Params) : Obj := ⟨(.type "code"), none, (.fields #[(.str "count_of" 798), (.str "count_of" 799), (.str "/claim/cut.py" 800), (.int 309 0), (.int 1 0), (.int 0 0), (.int 0 0), (.int 3 0), (.ref 433), (.bool true), (.int 181 0), (.ref 434), .none, (.ref 435), (.ref 436), (.ref 437), (.int 802 0), (.int 309 0), (.str "/claim/cut.py" 803)]), #[]⟩
noncomputable def o264 (P : Params) : Obj := ⟨(.type "function"), none, (.func (fd (t 68) "count_of" "count_of" 3 [] .none .none .none (.str "bellwrite.desk" 676) none (.ref 438) .none 0)), #[]⟩
noncomputable def o265 (P : Params) : Obj := ⟨(.type "tuple"), none, (.seq #[(.str "reading" 808), (.str "frame" 809)] 0), #[]⟩
noncomputable def o266 (P : Params) : Obj := ⟨.none, none, (.func (fd (t 69) "note_heard" "note_heard" 0 [] .none .none .none .none none .none .none 0)), #[]⟩
noncomputable def o267 (P : Params) : Obj := ⟨(.type "code"), none, (.fields #[(.str "note_heard" 805), (.str "note_heard" 806), (.str "/claim/cut.py" 807), (.int 311 0), (.int 2 0), (.int 0 0), (.int 0 0), (.int 3 0), (.ref 440), (.bool true), (.int 181 0), (.ref 441), .none, (.ref 442), (.ref 443), (.ref 444), (.int 810 0), (.int 311 0), (.str "/claim/cut.py" 811)]), #[]⟩
noncomputable def o268 (P : Params) : Obj := ⟨(.type "function"), none, (.func (fd (t 69) "note_heard" "note_heard" 3 [] .none .none .none (.str "bellwrite.desk" 676) none (.ref 445) .none 0)), #[]⟩
noncomputable def o269 (P : Params) : Obj := ⟨(.type "tuple"), none, (.seq #[(.str "words" 816)] 0), #[]⟩
noncomputable def o270 (P : Params) : Obj := ⟨.none, none, (.func (fd (t 70) "choice_told" "choice_told" 0 [] .none .none .none .none none .none .none 0)), #[]⟩
noncomputable def o271 (P : Params) : Obj := ⟨(.type "code"), none, (.fields #[(.str "choice_told" 813), (.str "choice_told" 814), (.str "/claim/cut.py" 815), (.int 315 0), (.int 1 0), (.int 0 0), (.int 0 0), (.int 3 0), (.ref 447), (.bool true), (.int 181 0), (.ref 448), .none, (.ref 449), (.ref 450), (.ref 451), (.int 817 0), (.int 315 0), (.str "/claim/cut.py" 818)]), #[]⟩
noncomputable def o272 (P : Params) : Obj := ⟨(.type "function"), none, (.func (fd (t 70) "choice_told" "choice_told" 3 [] .none .none .none (.str "bellwrite.desk" 676) none (.ref 452) .none 0)), #[]⟩
noncomputable def o273 (P : Params) : Obj := ⟨(.type "tuple"), none, (.seq #[(.str "words" 823), (.str "many" 824), (.str "late" 825), (.str "found" 826), (.str "cost" 827), (.str "turns" 828), (.str "bells" 829)] 0), #[]⟩
noncomputable def o274 (P : Params) : Obj := ⟨.none, none, (.func (fd (t 71) "cheapest_told" "cheapest_told" 0 [] .none .none .none .none none .none .none 0)), #[]⟩
noncomputable def o275 (P : Params) : Obj := ⟨(.type "code"), none, (.fields #[(.str "cheapest_told" 820), (.str "cheapest_told" 821), (.str "/claim/cut.py" 822), (.int 323 0), (.int 1 0), (.int 0 0), (.int 0 0), (.int 3 0), (.ref 454), (.bool true), (.int 181 0), (.ref 455), .none, (.ref 456), (.ref 457), (.ref 458), (.int 830 0), (.int 323 0), (.str "/claim/cut.py" 831)]), #[]⟩
noncomputable def o276 (P : Params) : Obj := ⟨(.type "function"), none, (.func (fd (t 71) "cheapest_told" "cheapest_told" 3 [] .none .none .none (.str "bellwrite.desk" 676) none (.ref 459) .none 0)), #[]⟩
noncomputable def o277 (P : Params) : Obj := ⟨(.type "tuple"), none, (.seq #[(.str "cell" 838), (.str "k" 839), (.str "number" 840)] 0), #[]⟩
noncomputable def o278 (P : Params) : Obj := ⟨.none, none, (.func (fd (t 73) "_law_drawn" "_law_drawn" 0 [] .none .none .none .none none .none .none 0)), #[]⟩
noncomputable def o279 (P : Params) : Obj := ⟨(.type "code"), none, (.fields #[(.str "_law_drawn" 835), (.str "_law_drawn" 836), (.str "/claim/cut.py" 837), (.int 334 0), (.int 2 0), (.int 0 0), (.int 0 0), (.int 3 0), (.ref 461), (.bool true), (.int 181 0), (.ref 462), .none, (.ref 463), (.ref 464), (.ref 465), (.int 841 0), (.int 334 0), (.str "/claim/cut.py" 842)]), #[]⟩
noncomputable def o280 (P : Params) : Obj := ⟨(.type "function"), none, (.func (fd (t 73) "_law_drawn" "_law_drawn" 3 [] .none .none .none (.str "law_bellwrite_k96_frames_at_the_desk" 833) none (.ref 466) .none 0)), #[]⟩
noncomputable def o281 (P : Params) : Obj := ⟨(.type "tuple"), none, (.seq #[(.str "cell" 847), (.str "k" 848)] 0), #[]⟩
noncomputable def o282 (P : Params) : Obj := ⟨.none, none, (.func (fd (t 74) "_law_great" "_law_great" 0 [] .none .none .none .none none .none .none 0)), #[]⟩
noncomputable def o283 (P : Params) : Obj := ⟨(.type "code"), none, (.fields #[(.str "_law_great" 844), (.str "_law_great" 845), (.str "/claim/cut.py" 846), (.int 338 0), (.int 2 0), (.int 0 0), (.int 0 0), (.int 3 0), (.ref 468), (.bool true), (.int 181 0), (.ref 469), .none, (.ref 470), (.ref 471), (.ref 472), (.int 849 0), (.int 338 0), (.str "/claim/cut.py" 850)]), #[]⟩
noncomputable def o284 (P : Params) : Obj := ⟨(.type "function"), none, (.func (fd (t 74) "_law_great" "_law_great" 3 [] .none .none .none (.str "law_bellwrite_k96_frames_at_the_desk" 833) none (.ref 473) .none 0)), #[]⟩
noncomputable def o285 (P : Params) : Obj := ⟨(.type "tuple"), none, (.seq #[(.str "cell" 855)] 0), #[]⟩
noncomputable def o286 (P : Params) : Obj := ⟨.none, none, (.func (fd (t 75) "_law_late" "_law_late" 0 [] .none .none .none .none none .none .none 0)), #[]⟩
noncomputable def o287 (P : Params) : Obj := ⟨(.type "code"), none, (.fields #[(.str "_law_late" 852), (.str "_law_late" 853), (.str "/claim/cut.py" 854), (.int 340 0), (.int 1 0), (.int 0 0), (.int 0 0), (.int 3 0), (.ref 475), (.bool true), (.int 181 0), (.ref 476), .none, (.ref 477), (.ref 478), (.ref 479), (.int 856 0), (.int 340 0), (.str "/claim/cut.py" 857)]), #[]⟩
noncomputable def o288 (P : Params) : Obj := ⟨(.type "function"), none, (.func (fd (t 75) "_law_late" "_law_late" 3 [] .none .none .none (.str "law_bellwrite_k96_frames_at_the_desk" 833) none (.ref 480) .none 0)), #[]⟩
noncomputable def o289 (P : Params) : Obj := ⟨(.type "tuple"), none, (.seq #[(.str "cell" 862), (.str "number" 863)] 0), #[]⟩
noncomputable def o290 (P : Params) : Obj := ⟨.none, none, (.func (fd (t 76) "_law_many" "_law_many" 0 [] .none .none .none .none none .none .none 0)), #[]⟩
noncomputable def o291 (P : Params) : Obj := ⟨(.type "code"), none, (.fields #[(.str "_law_many" 859), (.str "_law_many" 860), (.str "/claim/cut.py" 861), (.int 342 0), (.int 1 0), (.int 0 0), (.int 0 0), (.int 3 0), (.ref 482), (.bool true), (.int 181 0), (.ref 483), .none, (.ref 484), (.ref 485), (.ref 486), (.int 864 0), (.int 342 0), (.str "/claim/cut.py" 865)]), #[]⟩
noncomputable def o292 (P : Params) : Obj := ⟨(.type "function"), none, (.func (fd (t 76) "_law_many" "_law_many" 3 [] .none .none .none (.str "law_bellwrite_k96_frames_at_the_desk" 833) none (.ref 487) .none 0)), #[]⟩
noncomputable def o293 (P : Params) : Obj := ⟨(.type "tuple"), none, (.seq #[(.str "desk" 870), (.str "cell" 871), (.str "bells" 872), (.str "late" 873), (.str "many" 874), (.str "found" 875), (.str "due" 876), (.str "words" 877)] 0), #[]⟩
noncomputable def o294 (P : Params) : Obj := ⟨.none, none, (.func (fd (t 77) "_law_short" "_law_short" 0 [] .none .none .none .none none .none .none 0)), #[]⟩
noncomputable def o295 (P : Params) : Obj := ⟨(.type "code"), none, (.fields #[(.str "_law_short" 867), (.str "_law_short" 868), (.str "/claim/cut.py" 869), (.int 345 0), (.int 2 0), (.int 0 0), (.int 0 0), (.int 3 0), (.ref 489), (.bool true), (.int 181 0), (.ref 490), .none, (.ref 491), (.ref 492), (.ref 493), (.int 878 0), (.int 345 0), (.str "/claim/cut.py" 879)]), #[]⟩
noncomputable def o296 (P : Params) : Obj := ⟨(.type "function"), none, (.func (fd (t 77) "_law_short" "_law_short" 3 [] .none .none .none (.str "law_bellwrite_k96_frames_at_the_desk" 833) none (.ref 494) .none 0)), #[]⟩
noncomputable def o297 (P : Params) : Obj := ⟨(.type "tuple"), none, (.seq #[(.str "desk" 884), (.str "cell" 885), (.str "turns" 886), (.str "most" 887), (.str "late" 888), (.str "due" 889), (.str "words" 890)] 0), #[]⟩
noncomputable def o298 (P : Params) : Obj := ⟨.none, none, (.func (fd (t 78) "_law_best" "_law_best" 0 [] .none .none .none .none none .none .none 0)), #[]⟩
noncomputable def o299 (P : Params) : Obj := ⟨(.type "code"), none, (.fields #[(.str "_law_best" 881), (.str "_law_best" 882), (.str "/claim/cut.py" 883), (.int 358 0), (.int 2 0), (.int 0 0), (.int 0 0), (.int 3 0), (.ref 496), (.bool true), (.int 181 0), (.ref 497), .none, (.ref 498), (.ref 499), (.ref 500), (.int 891 0), (.int 358 0), (.str "/claim/cut.py" 892)]), #[]⟩
noncomputable def o300 (P : Params) : Obj := ⟨(.type "function"), none, (.func (fd (t 78) "_law_best" "_law_best" 3 [] .none .none .none (.str "law_bellwrite_k96_frames_at_the_desk" 833) none (.ref 501) .none 0)), #[]⟩
noncomputable def o301 (P : Params) : Obj := ⟨(.type "tuple"), none, (.seq #[(.str "desk" 897), (.str "cell" 898), (.str "many" 899), (.str "late" 900), (.str "costs" 901), (.str "k" 902), (.str "most" 903), (.str "found" 904), (.str "due" 905), (.str "words" 906)] 0), #[]⟩
noncomputable def o302 (P : Params) : Obj := ⟨.none, none, (.func (fd (t 79) "_law_cheap" "_law_cheap" 0 [] .none .none .none .none none .none .none 0)), #[]⟩
noncomputable def o303 (P : Params) : Obj := ⟨(.type "code"), none, (.fields #[(.str "_law_cheap" 894), (.str "_law_cheap" 895), (.str "/claim/cut.py" 896), (.int 365 0), (.int 2 0), (.int 0 0), (.int 0 0), (.int 3 0), (.ref 503), (.bool true), (.int 181 0), (.ref 504), .none, (.ref 505), (.ref 506), (.ref 507), (.int 907 0), (.int 365 0), (.str "/claim/cut.py" 908)]), #[]⟩
noncomputable def o304 (P : Params) : Obj := ⟨(.type "function"), none, (.func (fd (t 79) "_law_cheap" "_law_cheap" 3 [] .none .none .none (.str "law_bellwrite_k96_frames_at_the_desk" 833) none (.ref 508) .none 0)), #[]⟩
noncomputable def o305 (P : Params) : Obj := ⟨(.type "tuple"), none, (.seq #[(.str "script" 913), (.str "desk" 914), (.str "cell" 915), (.str "way" 916), (.str "good" 917)] 0), #[]⟩
noncomputable def o306 (P : Params) : Obj := ⟨.none, none, (.func (fd (t 80) "law" "law" 0 [] .none .none .none .none none .none .none 0)), #[]⟩
noncomputable def o307 (P : Params) : Obj := ⟨(.type "code"), none, (.fields #[(.str "law" 910), (.str "law" 911), (.str "/claim/cut.py" 912), (.int 383 0), (.int 1 0), (.int 0 0), (.int 0 0), (.int 3 0), (.ref 510), (.bool true), (.int 181 0), (.ref 511), .none, (.ref 512), (.ref 513), (.ref 514), (.int 918 0), (.int 383 0), (.str "/claim/cut.py" 919)]), #[]⟩
noncomputable def o308 (P : Params) : Obj := ⟨(.type "function"), none, (.func (fd (t 80) "law" "law" 3 [] .none .none .none (.str "law_bellwrite_k96_frames_at_the_desk" 833) none (.ref 515) .none 0)), #[]⟩
noncomputable def hA (P : Params) : Heap := ⟨#[boot_o_0 P, boot_o_1 P, boot_o_2 P, boot_o_3 P, boot_o_4 P, boot_o_5 P, boot_o_6 P, boot_o_7 P, boot_o_8 P, boot_o_9 P, boot_o_10 P, boot_o_7 P, boot_o_8 P, o1 P, o2 P], lf⟩
noncomputable def tr0 (P : Params) : BT := (n (boot_o_0 P) (n (boot_o_1 P) (n (boot_o_3 P) (n (boot_o_7 P) z z) (n (boot_o_7 P) z z)) (n (boot_o_5 P) (n (boot_o_9 P) z z) (n (o1 P) z z))) (n (boot_o_2 P) (n (boot_o_4 P) (n (boot_o_8 P) z z) (n (boot_o_8 P) z z)) (n (boot_o_6 P) (n (boot_o_10 P) z z) (n (o2 P) z z))))
noncomputable def tr1 (P : Params) : BT := (n (boot_o_0 P) (n (boot_o_1 P) (n (o3 P) (n (boot_o_7 P) (n (boot_o_7 P) (n (o13 P) (n (o35 P) z z) (n (o53 P) z z)) (n (o22 P) (n (boot_o_8 P) z z) (n (o35 P) z z))) (n (boot_o_8 P) (n (boot_o_7 P) (n (o39 P) z z) (n (boot_o_8 P) z z)) (n (o28 P) (n (o35 P) z z) (n (o67 P) z z)))) (n (boot_o_7 P) (n (o6 P) (n (o16 P) (n (boot_o_8 P) z z) (n (o35 P) z z)) (n (o26 P) (n (o46 P) z z) (n (boot_o_8 P) z z))) (n (o11 P) (n (boot_o_7 P) (n (o35 P) z z) (n (o60 P) z z)) (n (o31 P) (n (boot_o_8 P) z z) z)))) (n (boot_o_5 P) (n (boot_o_9 P) (n (o5 P) (n (o14 P) (n (o36 P) z z) (n (o55 P) z z)) (n (o24 P) (n (o45 P) z z) (n (o64 P) z z))) (n (boot_o_7 P) (n (o19 P) (n (o41 P) z z) (n (o59 P) z z)) (n (boot_o_7 P) (n (o50 P) z z) (n (o69 P) z z)))) (n (o1 P) (n (o8 P) (n (boot_o_8 P) (n (o38 P) z z) (n (o57 P) z z)) (n (boot_o_7 P) (n (o48 P) z z) (n (o66 P) z z))) (n (boot_o_7 P) (n (o21 P) (n (o43 P) z z) (n (o62 P) z z)) (n (o33 P) (n (o52 P) z z) z))))) (n (boot_o_2 P) (n (boot_o_4 P) (n (boot_o_8 P) (n (boot_o_8 P) (n (boot_o_7 P) (n (o26 P) z z) (n (o54 P) z z)) (n (o23 P) (n (o44 P) z z) (n (o26 P) z z))) (n (o9 P) (n (o18 P) (n (o40 P) z z) (n (o58 P) z z)) (n (o29 P) (n (o26 P) z z) (n (o68 P) z z)))) (n (o4 P) (n (o7 P) (n (boot_o_7 P) (n (o37 P) z z) (n (o26 P) z z)) (n (o27 P) (n (o47 P) z z) (n (o65 P) z z))) (n (o12 P) (n (boot_o_8 P) (n (o26 P) z z) (n (o61 P) z z)) (n (o32 P) (n (o51 P) z z) z)))) (n (boot_o_6 P) (n (boot_o_10 P) (n (boot_o_7 P) (n (o15 P) (n (boot_o_7 P) z z) (n (o56 P) z z)) (n (o25 P) (n (boot_o_7 P) z z) (n (boot_o_7 P) z z))) (n (o10 P) (n (o20 P) (n (o42 P) z z) (n (boot_o_7 P) z z)) (n (o30 P) (n (boot_o_7 P) z z) (n (o70 P) z z)))) (n (o2 P) (n (boot_o_7 P) (n (o17 P) (n (boot_o_7 P) z z) (n (boot_o_7 P) z z)) (n (boot_o_8 P) (n (o49 P) z z) (n (boot_o_7 P) z z))) (n (boot_o_8 P) (n (boot_o_7 P) (n (boot_o_7 P) z z) (n (o63 P) z z)) (n (o34 P) (n (boot_o_7 P) z z) z))))))
noncomputable def tr2 (P : Params) : BT := (n (boot_o_0 P) (n (boot_o_1 P) (n (o71 P) (n (boot_o_7 P) (n (boot_o_7 P) (n (o13 P) (n (o35 P) (n (boot_o_8 P) (n (o150 P) z z) z) (n (o113 P) (n (boot_o_8 P) z z) z)) (n (o53 P) (n (boot_o_7 P) (n (o168 P) z z) z) (n (o131 P) z z))) (n (o22 P) (n (boot_o_8 P) (n (o85 P) (n (boot_o_8 P) z z) z) (n (boot_o_8 P) (n (o196 P) z z) z)) (n (o35 P) (n (o103 P) (n (o178 P) z z) z) (n (o140 P) z z)))) (n (boot_o_8 P) (n (boot_o_7 P) (n (o39 P) (n (boot_o_7 P) (n (boot_o_7 P) z z) z) (n (boot_o_7 P) (n (o191 P) z z) z)) (n (boot_o_8 P) (n (boot_o_8 P) (n (o173 P) z z) z) (n (boot_o_8 P) z z))) (n (o28 P) (n (o35 P) (n (o90 P) (n (o164 P) z z) z) (n (o126 P) (n (o201 P) z z) z)) (n (o67 P) (n (boot_o_7 P) (n (boot_o_7 P) z z) z) (n (o145 P) z z))))) (n (boot_o_7 P) (n (o6 P) (n (o16 P) (n (boot_o_8 P) (n (o77 P) (n (boot_o_7 P) z z) z) (n (boot_o_7 P) (n (o189 P) z z) z)) (n (o35 P) (n (o96 P) (n (o171 P) z z) z) (n (o133 P) z z))) (n (o26 P) (n (o46 P) (n (o87 P) (n (boot_o_7 P) z z) z) (n (o124 P) (n (o198 P) z z) z)) (n (boot_o_8 P) (n (o106 P) (n (boot_o_7 P) z z) z) (n (boot_o_8 P) z z)))) (n (o11 P) (n (boot_o_7 P) (n (o35 P) (n (o83 P) (n (o156 P) z z) z) (n (o119 P) (n (o194 P) z z) z)) (n (o60 P) (n (o101 P) (n (o175 P) z z) z) (n (o138 P) z z))) (n (o73 P) (n (boot_o_8 P) (n (boot_o_7 P) (n (o166 P) z z) z) (n (o129 P) (n (o203 P) z z) z)) (n (o35 P) (n (boot_o_7 P) (n (o184 P) z z) z) (n (o147 P) z z)))))) (n (boot_o_5 P) (n (boot_o_9 P) (n (o5 P) (n (o14 P) (n (o36 P) (n (o76 P) (n (boot_o_8 P) z z) z) (n (boot_o_8 P) (n (boot_o_7 P) z z) z)) (n (o55 P) (n (o95 P) (n (o169 P) z z) z) (n (boot_o_7 P) z z))) (n (o24 P) (n (o45 P) (n (boot_o_7 P) (n (o160 P) z z) z) (n (boot_o_7 P) (n (boot_o_7 P) z z) z)) (n (o64 P) (n (o104 P) (n (boot_o_8 P) z z) z) (n (o142 P) z z)))) (n (boot_o_7 P) (n (o19 P) (n (o41 P) (n (o81 P) (n (o155 P) z z) z) (n (o118 P) (n (o192 P) z z) z)) (n (o59 P) (n (boot_o_7 P) (n (boot_o_7 P) z z) z) (n (boot_o_7 P) z z))) (n (boot_o_7 P) (n (o50 P) (n (boot_o_8 P) (n (boot_o_8 P) z z) z) (n (o127 P) (n (boot_o_8 P) z z) z)) (n (o69 P) (n (o109 P) (n (o183 P) z z) z) (n (boot_o_7 P) z z))))) (n (o1 P) (n (o8 P) (n (boot_o_8 P) (n (o38 P) (n (o79 P) (n (o153 P) z z) z) (n (o116 P) (n (boot_o_7 P) z z) z)) (n (o57 P) (n (o98 P) (n (boot_o_8 P) z z) z) (n (o135 P) z z))) (n (boot_o_7 P) (n (o48 P) (n (o88 P) (n (o162 P) z z) z) (n (boot_o_7 P) (n (o199 P) z z) z)) (n (o66 P) (n (boot_o_8 P) (n (o181 P) z z) z) (n (boot_o_7 P) z z)))) (n (boot_o_7 P) (n (o21 P) (n (o43 P) (n (boot_o_8 P) (n (o158 P) z z) z) (n (o121 P) (n (boot_o_8 P) z z) z)) (n (o62 P) (n (boot_o_7 P) (n (o176 P) z z) z) (n (boot_o_7 P) z z))) (n (o33 P) (n (o52 P) (n (o93 P) (n (boot_o_7 P) z z) z) (n (boot_o_8 P) z z)) (n (o74 P) (n (o111 P) (n (o186 P) z z) z) (n (o148 P) z z))))))) (n (boot_o_2 P) (n (boot_o_4 P) (n (boot_o_8 P) (n (boot_o_8 P) (n (boot_o_7 P) (n (o26 P) (n (o75 P) (n (boot_o_7 P) z z) z) (n (boot_o_7 P) (n (o187 P) z z) z)) (n (o54 P) (n (boot_o_8 P) (n (boot_o_7 P) z z) z) (n (o132 P) z z))) (n (o23 P) (n (o44 P) (n (o86 P) (n (o159 P) z z) z) (n (o122 P) (n (o197 P) z z) z)) (n (o26 P) (n (boot_o_7 P) (n (boot_o_7 P) z z) z) (n (o141 P) z z)))) (n (o9 P) (n (o18 P) (n (o40 P) (n (boot_o_8 P) (n (boot_o_8 P) z z) z) (n (boot_o_8 P) (n (boot_o_7 P) z z) z)) (n (o58 P) (n (o99 P) (n (o174 P) z z) z) (n (o136 P) z z))) (n (o29 P) (n (o26 P) (n (boot_o_7 P) (n (boot_o_7 P) z z) z) (n (boot_o_7 P) (n (boot_o_7 P) z z) z)) (n (o68 P) (n (o108 P) (n (boot_o_8 P) z z) z) (n (o146 P) z z))))) (n (o72 P) (n (o7 P) (n (boot_o_7 P) (n (o37 P) (n (o78 P) (n (o152 P) z z) z) (n (o115 P) (n (o190 P) z z) z)) (n (o26 P) (n (o97 P) (n (boot_o_7 P) z z) z) (n (o134 P) z z))) (n (o27 P) (n (o47 P) (n (boot_o_7 P) (n (boot_o_8 P) z z) z) (n (o125 P) (n (boot_o_7 P) z z) z)) (n (o65 P) (n (boot_o_7 P) (n (o180 P) z z) z) (n (o143 P) z z)))) (n (o12 P) (n (boot_o_8 P) (n (o26 P) (n (boot_o_7 P) (n (o157 P) z z) z) (n (o120 P) (n (boot_o_7 P) z z) z)) (n (o61 P) (n (o102 P) (n (boot_o_7 P) z z) z) (n (o139 P) z z))) (n (o32 P) (n (o51 P) (n (o92 P) (n (o167 P) z z) z) (n (boot_o_7 P) (n (o204 P) z z) z)) (n (o26 P) (n (boot_o_8 P) (n (o185 P) z z) z) (n (boot_o_7 P) z z)))))) (n (boot_o_6 P) (n (boot_o_10 P) (n (boot_o_7 P) (n (o15 P) (n (boot_o_7 P) (n (boot_o_7 P) (n (o151 P) z z) z) (n (o114 P) (n (o188 P) z z) z)) (n (o56 P) (n (boot_o_7 P) (n (o170 P) z z) z) (n (boot_o_8 P) z z))) (n (o25 P) (n (boot_o_7 P) (n (boot_o_8 P) (n (o161 P) z z) z) (n (o123 P) (n (boot_o_8 P) z z) z)) (n (boot_o_7 P) (n (o105 P) (n (o179 P) z z) z) (n (boot_o_7 P) z z)))) (n (o10 P) (n (o20 P) (n (o42 P) (n (o82 P) (n (boot_o_7 P) z z) z) (n (boot_o_7 P) (n (o193 P) z z) z)) (n (boot_o_7 P) (n (o100 P) (n (boot_o_8 P) z z) z) (n (o137 P) z z))) (n (o30 P) (n (boot_o_7 P) (n (o91 P) (n (o165 P) z z) z) (n (o128 P) (n (o202 P) z z) z)) (n (o70 P) (n (o110 P) (n (boot_o_7 P) z z) z) (n (boot_o_8 P) z z))))) (n (o2 P) (n (boot_o_7 P) (n (o17 P) (n (boot_o_7 P) (n (o80 P) (n (o154 P) z z) z) (n (o117 P) (n (boot_o_8 P) z z) z)) (n (boot_o_7 P) (n (boot_o_7 P) (n (o172 P) z z) z) (n (boot_o_7 P) z z))) (n (boot_o_8 P) (n (o49 P) (n (o89 P) (n (o163 P) z z) z) (n (boot_o_8 P) (n (o200 P) z z) z)) (n (boot_o_7 P) (n (o107 P) (n (o182 P) z z) z) (n (o144 P) z z)))) (n (boot_o_8 P) (n (boot_o_7 P) (n (boot_o_7 P) (n (o84 P) (n (boot_o_7 P) z z) z) (n (boot_o_7 P) (n (o195 P) z z) z)) (n (o63 P) (n (boot_o_8 P) (n (o177 P) z z) z) (n (boot_o_8 P) z z))) (n (o34 P) (n (boot_o_7 P) (n (o94 P) (n (boot_o_8 P) z z) z) (n (o130 P) z z)) (n (boot_o_7 P) (n (o112 P) (n (boot_o_7 P) z z) z) (n (o149 P) z z))))))))
noncomputable def tr3 (P : Params) : BT := (n (boot_o_0 P) (n (boot_o_1 P) (n (o205 P) (n (boot_o_7 P) (n (boot_o_7 P) (n (o13 P) (n (o35 P) (n (boot_o_8 P) (n (o150 P) (n (boot_o_8 P) z z) z) (n (o229 P) z z)) (n (o113 P) (n (boot_o_8 P) z z) (n (boot_o_7 P) z z))) (n (o53 P) (n (boot_o_7 P) (n (o168 P) z z) (n (boot_o_7 P) z z)) (n (o131 P) (n (o207 P) z z) (n (o286 P) z z)))) (n (o22 P) (n (boot_o_8 P) (n (o85 P) (n (boot_o_8 P) z z) (n (boot_o_8 P) z z)) (n (boot_o_8 P) (n (o196 P) z z) (n (o277 P) z z))) (n (o35 P) (n (o103 P) (n (o178 P) z z) (n (o259 P) z z)) (n (o140 P) (n (o219 P) z z) (n (o296 P) z z))))) (n (boot_o_8 P) (n (boot_o_7 P) (n (o39 P) (n (boot_o_7 P) (n (boot_o_7 P) z z) (n (boot_o_7 P) z z)) (n (boot_o_7 P) (n (o191 P) z z) (n (boot_o_8 P) z z))) (n (boot_o_8 P) (n (boot_o_8 P) (n (o173 P) z z) (n (o251 P) z z)) (n (boot_o_8 P) (n (boot_o_7 P) z z) (n (o291 P) z z)))) (n (o28 P) (n (o35 P) (n (o90 P) (n (o164 P) z z) (n (o242 P) z z)) (n (o126 P) (n (o201 P) z z) (n (boot_o_7 P) z z))) (n (o67 P) (n (boot_o_7 P) (n (boot_o_7 P) z z) (n (o264 P) z z)) (n (o145 P) (n (o224 P) z z) (n (boot_o_7 P) z z)))))) (n (boot_o_7 P) (n (o6 P) (n (o16 P) (n (boot_o_8 P) (n (o77 P) (n (boot_o_7 P) (n (o307 P) z z) z) (n (boot_o_7 P) z z)) (n (boot_o_7 P) (n (o189 P) z z) (n (o270 P) z z))) (n (o35 P) (n (o96 P) (n (o171 P) z z) (n (boot_o_7 P) z z)) (n (o133 P) (n (o210 P) z z) (n (boot_o_8 P) z z)))) (n (o26 P) (n (o46 P) (n (o87 P) (n (boot_o_7 P) z z) (n (o240 P) z z)) (n (o124 P) (n (o198 P) z z) (n (o280 P) z z))) (n (boot_o_8 P) (n (o106 P) (n (boot_o_7 P) z z) (n (o261 P) z z)) (n (boot_o_8 P) (n (o26 P) z z) (n (boot_o_7 P) z z))))) (n (o11 P) (n (boot_o_7 P) (n (o35 P) (n (o83 P) (n (o156 P) z z) (n (o235 P) z z)) (n (o119 P) (n (o194 P) z z) (n (o275 P) z z))) (n (o60 P) (n (o101 P) (n (o175 P) z z) (n (o255 P) z z)) (n (o138 P) (n (o215 P) z z) (n (o293 P) z z)))) (n (o73 P) (n (boot_o_8 P) (n (boot_o_7 P) (n (o166 P) z z) (n (o245 P) z z)) (n (o129 P) (n (o203 P) z z) (n (boot_o_7 P) z z))) (n (o35 P) (n (boot_o_7 P) (n (o184 P) z z) (n (boot_o_7 P) z z)) (n (o147 P) (n (o226 P) z z) (n (o302 P) z z))))))) (n (boot_o_5 P) (n (boot_o_9 P) (n (o5 P) (n (o14 P) (n (o36 P) (n (o76 P) (n (boot_o_8 P) (n (boot_o_7 P) z z) z) (n (boot_o_8 P) z z)) (n (boot_o_8 P) (n (boot_o_7 P) z z) (n (o269 P) z z))) (n (o55 P) (n (o95 P) (n (o169 P) z z) (n (o248 P) z z)) (n (boot_o_7 P) (n (o208 P) z z) (n (o288 P) z z)))) (n (o24 P) (n (o45 P) (n (boot_o_7 P) (n (o160 P) z z) (n (boot_o_7 P) z z)) (n (boot_o_7 P) (n (boot_o_7 P) z z) (n (o278 P) z z))) (n (o64 P) (n (o104 P) (n (boot_o_8 P) z z) (n (boot_o_7 P) z z)) (n (o142 P) (n (o221 P) z z) (n (boot_o_8 P) z z))))) (n (boot_o_7 P) (n (o19 P) (n (o41 P) (n (o81 P) (n (o155 P) z z) (n (o234 P) z z)) (n (o118 P) (n (o192 P) z z) (n (boot_o_7 P) z z))) (n (o59 P) (n (boot_o_7 P) (n (boot_o_7 P) z z) (n (o253 P) z z)) (n (boot_o_7 P) (n (o213 P) z z) (n (boot_o_7 P) z z)))) (n (boot_o_7 P) (n (o50 P) (n (boot_o_8 P) (n (boot_o_8 P) z z) (n (o243 P) z z)) (n (o127 P) (n (boot_o_8 P) z z) (n (o283 P) z z))) (n (o69 P) (n (o109 P) (n (o183 P) z z) (n (boot_o_8 P) z z)) (n (boot_o_7 P) (n (boot_o_7 P) z z) (n (o301 P) z z)))))) (n (o1 P) (n (o8 P) (n (boot_o_8 P) (n (o38 P) (n (o79 P) (n (o153 P) z z) (n (o232 P) z z)) (n (o116 P) (n (boot_o_7 P) z z) (n (o272 P) z z))) (n (o57 P) (n (o98 P) (n (boot_o_8 P) z z) (n (o250 P) z z)) (n (o135 P) (n (boot_o_8 P) z z) (n (boot_o_7 P) z z)))) (n (boot_o_7 P) (n (o48 P) (n (o88 P) (n (o162 P) z z) (n (boot_o_7 P) z z)) (n (boot_o_7 P) (n (o199 P) z z) (n (boot_o_8 P) z z))) (n (o66 P) (n (boot_o_8 P) (n (o181 P) z z) (n (o262 P) z z)) (n (boot_o_7 P) (n (boot_o_7 P) z z) (n (o299 P) z z))))) (n (boot_o_7 P) (n (o21 P) (n (o43 P) (n (boot_o_8 P) (n (o158 P) z z) (n (o237 P) z z)) (n (o121 P) (n (boot_o_8 P) z z) (n (boot_o_7 P) z z))) (n (o62 P) (n (boot_o_7 P) (n (o176 P) z z) (n (o257 P) z z)) (n (boot_o_7 P) (n (o217 P) z z) (n (o294 P) z z)))) (n (o33 P) (n (o52 P) (n (o93 P) (n (boot_o_7 P) z z) (n (boot_o_8 P) z z)) (n (boot_o_8 P) (n (boot_o_7 P) z z) (n (o285 P) z z))) (n (o74 P) (n (o111 P) (n (o186 P) z z) (n (o267 P) z z)) (n (o148 P) (n (o227 P) z z) (n (o304 P) z z)))))))) (n (boot_o_2 P) (n (boot_o_4 P) (n (boot_o_8 P) (n (boot_o_8 P) (n (boot_o_7 P) (n (o26 P) (n (o75 P) (n (boot_o_7 P) (n (o305 P) z z) z) (n (boot_o_7 P) z z)) (n (boot_o_7 P) (n (o187 P) z z) (n (boot_o_8 P) z z))) (n (o54 P) (n (boot_o_8 P) (n (boot_o_7 P) z z) (n (o247 P) z z)) (n (o132 P) (n (boot_o_7 P) z z) (n (o287 P) z z)))) (n (o23 P) (n (o44 P) (n (o86 P) (n (o159 P) z z) (n (o238 P) z z)) (n (o122 P) (n (o197 P) z z) (n (boot_o_7 P) z z))) (n (o26 P) (n (boot_o_7 P) (n (boot_o_7 P) z z) (n (o260 P) z z)) (n (o141 P) (n (o220 P) z z) (n (boot_o_7 P) z z))))) (n (o9 P) (n (o18 P) (n (o40 P) (n (boot_o_8 P) (n (boot_o_8 P) z z) (n (boot_o_8 P) z z)) (n (boot_o_8 P) (n (boot_o_7 P) z z) (n (o273 P) z z))) (n (o58 P) (n (o99 P) (n (o174 P) z z) (n (o252 P) z z)) (n (o136 P) (n (o212 P) z z) (n (o292 P) z z)))) (n (o29 P) (n (o26 P) (n (boot_o_7 P) (n (boot_o_7 P) z z) (n (boot_o_7 P) z z)) (n (boot_o_7 P) (n (boot_o_7 P) z z) (n (o282 P) z z))) (n (o68 P) (n (o108 P) (n (boot_o_8 P) z z) (n (boot_o_7 P) z z)) (n (o146 P) (n (o225 P) z z) (n (boot_o_8 P) z z)))))) (n (o206 P) (n (o7 P) (n (boot_o_7 P) (n (o37 P) (n (o78 P) (n (o152 P) (n (o308 P) z z) z) (n (o231 P) z z)) (n (o115 P) (n (o190 P) z z) (n (o271 P) z z))) (n (o26 P) (n (o97 P) (n (boot_o_7 P) z z) (n (boot_o_8 P) z z)) (n (o134 P) (n (boot_o_7 P) z z) (n (o289 P) z z)))) (n (o27 P) (n (o47 P) (n (boot_o_7 P) (n (boot_o_8 P) z z) (n (o241 P) z z)) (n (o125 P) (n (boot_o_7 P) z z) (n (boot_o_7 P) z z))) (n (o65 P) (n (boot_o_7 P) (n (o180 P) z z) (n (boot_o_7 P) z z)) (n (o143 P) (n (o222 P) z z) (n (o298 P) z z))))) (n (o12 P) (n (boot_o_8 P) (n (o26 P) (n (boot_o_7 P) (n (o157 P) z z) (n (o236 P) z z)) (n (o120 P) (n (boot_o_7 P) z z) (n (o276 P) z z))) (n (o61 P) (n (o102 P) (n (boot_o_7 P) z z) (n (o256 P) z z)) (n (o139 P) (n (o216 P) z z) (n (boot_o_7 P) z z)))) (n (o32 P) (n (o51 P) (n (o92 P) (n (o167 P) z z) (n (boot_o_7 P) z z)) (n (boot_o_7 P) (n (o204 P) z z) (n (boot_o_8 P) z z))) (n (o26 P) (n (boot_o_8 P) (n (o185 P) z z) (n (o266 P) z z)) (n (boot_o_7 P) (n (boot_o_7 P) z z) (n (o303 P) z z))))))) (n (boot_o_6 P) (n (boot_o_10 P) (n (boot_o_7 P) (n (o15 P) (n (boot_o_7 P) (n (boot_o_7 P) (n (o151 P) (n (o306 P) z z) z) (n (o230 P) z z)) (n (o114 P) (n (o188 P) z z) (n (boot_o_7 P) z z))) (n (o56 P) (n (boot_o_7 P) (n (o170 P) z z) (n (o249 P) z z)) (n (boot_o_8 P) (n (o209 P) z z) (n (boot_o_7 P) z z)))) (n (o25 P) (n (boot_o_7 P) (n (boot_o_8 P) (n (o161 P) z z) (n (o239 P) z z)) (n (o123 P) (n (boot_o_8 P) z z) (n (o279 P) z z))) (n (boot_o_7 P) (n (o105 P) (n (o179 P) z z) (n (boot_o_8 P) z z)) (n (boot_o_7 P) (n (boot_o_7 P) z z) (n (o297 P) z z))))) (n (o10 P) (n (o20 P) (n (o42 P) (n (o82 P) (n (boot_o_7 P) z z) (n (boot_o_7 P) z z)) (n (boot_o_7 P) (n (o193 P) z z) (n (o274 P) z z))) (n (boot_o_7 P) (n (o100 P) (n (boot_o_8 P) z z) (n (o254 P) z z)) (n (o137 P) (n (o214 P) z z) (n (boot_o_8 P) z z)))) (n (o30 P) (n (boot_o_7 P) (n (o91 P) (n (o165 P) z z) (n (o244 P) z z)) (n (o128 P) (n (o202 P) z z) (n (o284 P) z z))) (n (o70 P) (n (o110 P) (n (boot_o_7 P) z z) (n (o265 P) z z)) (n (boot_o_8 P) (n (boot_o_8 P) z z) (n (boot_o_7 P) z z)))))) (n (o2 P) (n (boot_o_7 P) (n (o17 P) (n (boot_o_7 P) (n (o80 P) (n (o154 P) z z) (n (o233 P) z z)) (n (o117 P) (n (boot_o_8 P) z z) (n (boot_o_7 P) z z))) (n (boot_o_7 P) (n (boot_o_7 P) (n (o172 P) z z) (n (boot_o_7 P) z z)) (n (boot_o_7 P) (n (o211 P) z z) (n (o290 P) z z)))) (n (boot_o_8 P) (n (o49 P) (n (o89 P) (n (o163 P) z z) (n (boot_o_8 P) z z)) (n (boot_o_8 P) (n (o200 P) z z) (n (o281 P) z z))) (n (boot_o_7 P) (n (o107 P) (n (o182 P) z z) (n (o263 P) z z)) (n (o144 P) (n (o223 P) z z) (n (o300 P) z z))))) (n (boot_o_8 P) (n (boot_o_7 P) (n (boot_o_7 P) (n (o84 P) (n (boot_o_7 P) z z) (n (boot_o_7 P) z z)) (n (boot_o_7 P) (n (o195 P) z z) (n (boot_o_8 P) z z))) (n (o63 P) (n (boot_o_8 P) (n (o177 P) z z) (n (o258 P) z z)) (n (boot_o_8 P) (n (o218 P) z z) (n (o295 P) z z)))) (n (o34 P) (n (boot_o_7 P) (n (o94 P) (n (boot_o_8 P) z z) (n (o246 P) z z)) (n (o130 P) (n (o26 P) z z) (n (boot_o_7 P) z z))) (n (boot_o_7 P) (n (o112 P) (n (boot_o_7 P) z z) (n (o268 P) z z)) (n (o149 P) (n (o228 P) z z) (n (boot_o_7 P) z z)))))))))
noncomputable def hF (P : Params) : Heap := ⟨#[boot_o_0 P, boot_o_1 P, boot_o_2 P, o205 P, boot_o_4 P, boot_o_5 P, boot_o_6 P, boot_o_7 P, boot_o_8 P, boot_o_9 P, boot_o_10 P, boot_o_7 P, o206 P, o1 P, o2 P, boot_o_7 P, boot_o_8 P, o5 P, boot_o_7 P, o6 P, o7 P, o8 P, boot_o_7 P, boot_o_8 P, o9 P, boot_o_7 P, o10 P, o11 P, o12 P, boot_o_7 P, boot_o_8 P, o13 P, boot_o_7 P, o14 P, o15 P, o16 P, boot_o_7 P, boot_o_8 P, o17 P, boot_o_7 P, o18 P, o19 P, o20 P, boot_o_7 P, boot_o_8 P, o21 P, boot_o_7 P, o22 P, o23 P, o24 P, o25 P, o26 P, o27 P, boot_o_7 P, boot_o_8 P, o28 P, o29 P, boot_o_7 P, o30 P, o73 P, o32 P, o33 P, o34 P, o35 P, o26 P, o36 P, boot_o_7 P, boot_o_8 P, o37 P, o38 P, boot_o_7 P, o39 P, o40 P, o41 P, o42 P, o35 P, o26 P, o43 P, boot_o_7 P, boot_o_8 P, o44 P, o45 P, boot_o_7 P, o46 P, o47 P, o48 P, o49 P, o35 P, o26 P, o50 P, boot_o_7 P, boot_o_8 P, o51 P, o52 P, boot_o_7 P, o53 P, o54 P, o55 P, o56 P, o35 P, o26 P, o57 P, boot_o_7 P, boot_o_8 P, o58 P, o59 P, boot_o_7 P, o60 P, o61 P, o62 P, o63 P, o35 P, o26 P, o64 P, boot_o_7 P, boot_o_8 P, o65 P, o66 P, boot_o_7 P, o67 P, o68 P, o69 P, o70 P, o35 P, o26 P, o74 P, boot_o_7 P, boot_o_8 P, o75 P, o76 P, boot_o_7 P, o77 P, o78 P, o79 P, o80 P, boot_o_7 P, boot_o_8 P, o81 P, o82 P, o83 P, boot_o_7 P, boot_o_8 P, o84 P, o85 P, o86 P, boot_o_7 P, boot_o_8 P, o87 P, boot_o_7 P, o88 P, o89 P, o90 P, boot_o_7 P, boot_o_8 P, o91 P, boot_o_7 P, o92 P, o93 P, o94 P, boot_o_7 P, boot_o_8 P, o95 P, boot_o_7 P, o96 P, o97 P, o98 P, boot_o_7 P, boot_o_8 P, o99 P, boot_o_7 P, o100 P, o101 P, o102 P, boot_o_7 P, boot_o_8 P, o103 P, boot_o_7 P, o104 P, o105 P, o106 P, boot_o_7 P, boot_o_8 P, o107 P, boot_o_7 P, o108 P, o109 P, o110 P, boot_o_7 P, boot_o_8 P, o111 P, o112 P, o113 P, boot_o_7 P, boot_o_8 P, o114 P, boot_o_7 P, o115 P, o116 P, o117 P, boot_o_7 P, boot_o_8 P, o118 P, boot_o_7 P, o119 P, o120 P, o121 P, boot_o_7 P, boot_o_8 P, o122 P, boot_o_7 P, o123 P, o124 P, o125 P, boot_o_7 P, boot_o_8 P, o126 P, boot_o_7 P, o127 P, o128 P, o129 P, boot_o_7 P, boot_o_8 P, o130 P, o131 P, o132 P, boot_o_7 P, boot_o_8 P, o133 P, o134 P, o135 P, boot_o_7 P, boot_o_8 P, o136 P, boot_o_7 P, o137 P, o138 P, o139 P, boot_o_7 P, boot_o_8 P, o140 P, o141 P, o142 P, boot_o_7 P, boot_o_8 P, o143 P, boot_o_7 P, o144 P, o145 P, o146 P, boot_o_7 P, boot_o_8 P, o147 P, boot_o_7 P, o148 P, o149 P, o150 P, boot_o_7 P, boot_o_8 P, o151 P, boot_o_7 P, o152 P, o153 P, o154 P, boot_o_7 P, boot_o_8 P, o155 P, boot_o_7 P, o156 P, o157 P, o158 P, boot_o_7 P, boot_o_8 P, o159 P, o160 P, o161 P, boot_o_7 P, boot_o_8 P, o162 P, o163 P, o164 P, boot_o_7 P, boot_o_8 P, o165 P, o166 P, o167 P, boot_o_7 P, boot_o_8 P, o168 P, boot_o_7 P, o169 P, o170 P, o171 P, boot_o_7 P, boot_o_8 P, o172 P, o173 P, o174 P, boot_o_7 P, boot_o_8 P, o175 P, boot_o_7 P, o176 P, o177 P, o178 P, boot_o_7 P, boot_o_8 P, o179 P, boot_o_7 P, o180 P, o181 P, o182 P, boot_o_7 P, boot_o_8 P, o183 P, boot_o_7 P, o184 P, o185 P, o186 P, boot_o_7 P, boot_o_8 P, o187 P, boot_o_7 P, o188 P, o189 P, o190 P, boot_o_7 P, boot_o_8 P, o191 P, boot_o_7 P, o192 P, o193 P, o194 P, boot_o_7 P, boot_o_8 P, o195 P, o196 P, o197 P, boot_o_7 P, boot_o_8 P, o198 P, boot_o_7 P, o199 P, o200 P, o201 P, boot_o_7 P, boot_o_8 P, o202 P, o203 P, o204 P, boot_o_7 P, o26 P, o207 P, boot_o_7 P, o208 P, o209 P, o210 P, boot_o_7 P, boot_o_8 P, o211 P, boot_o_7 P, o212 P, o213 P, o214 P, o215 P, o216 P, o217 P, o218 P, o219 P, o220 P, o221 P, boot_o_7 P, o26 P, o222 P, boot_o_7 P, o223 P, o224 P, o225 P, boot_o_7 P, boot_o_8 P, o226 P, boot_o_7 P, o227 P, o228 P, o229 P, boot_o_7 P, boot_o_8 P, o230 P, boot_o_7 P, o231 P, o232 P, o233 P, boot_o_7 P, boot_o_8 P, o234 P, boot_o_7 P, o235 P, o236 P, o237 P, boot_o_7 P, boot_o_8 P, o238 P, boot_o_7 P, o239 P, o240 P, o241 P, boot_o_7 P, boot_o_8 P, o242 P, boot_o_7 P, o243 P, o244 P, o245 P, boot_o_7 P, boot_o_8 P, o246 P, boot_o_7 P, o247 P, o248 P, o249 P, boot_o_7 P, boot_o_8 P, o250 P, boot_o_7 P, o251 P, o252 P, o253 P, o254 P, o255 P, o256 P, o257 P, o258 P, o259 P, o260 P, boot_o_7 P, boot_o_8 P, o261 P, boot_o_7 P, o262 P, o263 P, o264 P, boot_o_7 P, boot_o_8 P, o265 P, boot_o_7 P, o266 P, o267 P, o268 P, boot_o_7 P, boot_o_8 P, o269 P, boot_o_7 P, o270 P, o271 P, o272 P, boot_o_7 P, boot_o_8 P, o273 P, boot_o_7 P, o274 P, o275 P, o276 P, boot_o_7 P, boot_o_8 P, o277 P, boot_o_7 P, o278 P, o279 P, o280 P, boot_o_7 P, boot_o_8 P, o281 P, boot_o_7 P, o282 P, o283 P, o284 P, boot_o_7 P, boot_o_8 P, o285 P, boot_o_7 P, o286 P, o287 P, o288 P, boot_o_7 P, boot_o_8 P, o289 P, boot_o_7 P, o290 P, o291 P, o292 P, boot_o_7 P, boot_o_8 P, o293 P, boot_o_7 P, o294 P, o295 P, o296 P, boot_o_7 P, boot_o_8 P, o297 P, boot_o_7 P, o298 P, o299 P, o300 P, boot_o_7 P, boot_o_8 P, o301 P, boot_o_7 P, o302 P, o303 P, o304 P, boot_o_7 P, boot_o_8 P, o305 P, boot_o_7 P, o306 P, o307 P, o308 P], lf⟩
noncomputable def view : Program := { p with main := { p.main with body := [t 1, t 2, t 3, t 4, t 5, t 7, t 8, t 9, t 10, t 11, t 12, t 13, t 15, t 16, t 17, t 18, t 19, t 21, t 22, t 24, t 26, t 27, t 28, t 29, t 31, t 32, t 33, t 35, t 36, t 37, t 39, t 40, t 41, t 42, t 43, t 44, t 45, t 46, t 47, t 48, t 50, t 51, t 52, t 53, t 54, t 55, t 56, t 57, t 58, t 59, t 60, t 61, t 62, t 63, t 64, t 66, t 67, t 68, t 69, t 70, t 71, t 73, t 74, t 75, t 76, t 77, t 78, t 79, t 80] } }
noncomputable abbrev env : Env := { scope := p.main.scope, locals := mainNs, globals := mainNs, cells := [], code := (.ref 13), frame := some 14 }
noncomputable abbrev cE : Code := .body (behindTheImports p) env
noncomputable abbrev fq : Pos := ⟨0, 0, 0, 0⟩
noncomputable abbrev an : Option Value := (some (.ref 6))
noncomputable abbrev s0 (w : World) (os : OsState) : Shared := ⟨boot_heap w.params, #[], boot_drawn, boot_toks, os⟩
noncomputable abbrev S (w : World) (os : OsState) : Shared := ⟨hF w.params, #[], ⟨0, 0, 0, 0⟩, 921, os⟩
theorem pre (w : World) (os : OsState) : topGo treeTable p w 11 an 12 (s0 w os) (topStub p) = some ((⟨hA w.params, #[], ⟨0, 0, 0, 0⟩, 187, os⟩ : Shared), ⟨denote treeTable cE, cE, ⟨0, 0, 0, 0⟩, [topFrame fq]⟩) := by
  rewrite [PySem.W.Fast.te15667345088766844465, PySem.W.Fast.te14364793385576792824, PySem.W.Fast.te11892475500146522536]
  kernel_rfl
theorem block (w : World) (os : OsState) : segRun treeTable p w 11 an 1 1 (⟨hA w.params, #[], ⟨0, 0, 0, 0⟩, 187, os⟩ : Shared) (blockOf (behindTheImports p) env cE ⟨0, 0, 0, 0⟩ [topFrame fq]) = some (.next, (⟨tr0 w.params, 15, lf, #[], ⟨0, 0, 0, 0⟩, 187, os⟩ : SharedT).abs, cE, ⟨0, 0, 0, 0⟩) := by
  rewrite [PySem.W.Fast.te14374325043358763698, PySem.W.Fast.te14364793385576792824]
  kernel_rfl
noncomputable def sts1 : List Stmt := [t 0, t 1, t 2, t 3, t 4, t 5, t 6, t 7, t 8, t 9, t 10, t 11, t 12]
theorem run1 (w : World) (os : OsState) : segRunT treeTable p w 11 an 1 1430 (⟨tr0 w.params, 15, lf, #[], ⟨0, 0, 0, 0⟩, 187, os⟩ : SharedT) (piecesOf sts1 env cE ⟨0, 0, 0, 0⟩ [topFrame fq]) = some (.next, (⟨tr1 w.params, 123, lf, #[], ⟨0, 0, 0, 0⟩, 339, os⟩ : SharedT), cE, ⟨39, 0, 40, 8⟩) := by
  rewrite [PySem.W.Fast.te10110043849684766642, PySem.W.Fast.te14364793385576792824]
  kernel_rfl
noncomputable def sts2 : List Stmt := [t 13, t 14, t 15, t 16, t 17, t 18, t 19, t 20, t 21, t 22, t 23, t 24, t 25, t 26, t 27, t 28, t 29, t 30, t 31, t 32, t 33, t 34, t 35, t 36, t 37, t 38, t 39, t 40, t 41, t 42, t 43, t 44, t 45, t 46, t 47, t 48, t 49, t 50, t 51, t 52, t 53, t 54, t 55, t 56, t 57, t 58, t 59, t 60, t 61, t 62, t 63, t 64, t 65]
theorem run2 (w : World) (os : OsState) : segRunT treeTable p w 11 an 1 1387 (⟨tr1 w.params, 123, lf, #[], ⟨0, 0, 0, 0⟩, 339, os⟩ : SharedT) (piecesOf sts2 env cE ⟨39, 0, 40, 8⟩ [topFrame fq]) = some (.next, (⟨tr2 w.params, 349, lf, #[], ⟨0, 0, 0, 0⟩, 678, os⟩ : SharedT), cE, ⟨250, 0, 250, 8⟩) := by
  rewrite [PySem.W.Fast.te10110043849684766642, PySem.W.Fast.te14364793385576792824]
  kernel_rfl
noncomputable def sts3 : List Stmt := [t 66, t 67, t 68, t 69, t 70, t 71, t 72, t 73, t 74, t 75, t 76, t 77, t 78, t 79, t 80]
theorem run3 (w : World) (os : OsState) : segRunT treeTable p w 11 an 1 1045 (⟨tr2 w.params, 349, lf, #[], ⟨0, 0, 0, 0⟩, 678, os⟩ : SharedT) (piecesOf sts3 env cE ⟨250, 0, 250, 8⟩ [topFrame fq]) = some (.next, (⟨tr3 w.params, 517, lf, #[], ⟨0, 0, 0, 0⟩, 921, os⟩ : SharedT), cE, ⟨383, 0, 396, 15⟩) := by
  rewrite [PySem.W.Fast.te10110043849684766642, PySem.W.Fast.te14364793385576792824]
  kernel_rfl
theorem fin (w : World) (os : OsState) : topRun treeTable p w 11 an 2 (⟨tr3 w.params, 517, lf, #[], ⟨0, 0, 0, 0⟩, 921, os⟩ : SharedT).abs ⟨doneF .next, cE, ⟨383, 0, 396, 15⟩, [topFrame fq]⟩ = some (S w os) := by
  rewrite [PySem.W.Fast.te14082659384304107361, PySem.W.Fast.te14364793385576792824]
  kernel_rfl
theorem parts : behindTheImports p = sts1 ++ (sts2 ++ (sts3 ++ [])) := by kernel_rfl
theorem rest (w : World) (os : OsState) : topRun treeTable p w 11 an (1430 + (1387 + (1045 + (2)))) (⟨tr0 w.params, 15, lf, #[], ⟨0, 0, 0, 0⟩, 187, os⟩ : SharedT).abs (restOf (sts1 ++ (sts2 ++ (sts3 ++ []))) env cE ⟨0, 0, 0, 0⟩ [topFrame fq]) = some (S w os) := (piece_app (segRun_of (run1 w os)) (piece_app (segRun_of (run2 w os)) (piece_app (segRun_of (run3 w os)) (piece_nil (fin w os)))))
theorem rest' (w : World) (os : OsState) : topRun treeTable p w 11 an (1430 + (1387 + (1045 + (2)))) (⟨tr0 w.params, 15, lf, #[], ⟨0, 0, 0, 0⟩, 187, os⟩ : SharedT).abs (restOf (behindTheImports p) env cE ⟨0, 0, 0, 0⟩ [topFrame fq]) = some (S w os) := (congrArg (fun l => topRun treeTable p w 11 an (1430 + (1387 + (1045 + (2)))) (⟨tr0 w.params, 15, lf, #[], ⟨0, 0, 0, 0⟩, 187, os⟩ : SharedT).abs (restOf l env cE ⟨0, 0, 0, 0⟩ [topFrame fq])) parts).trans (rest w os)
theorem run (w : World) (os : OsState) : topRun treeTable p w 11 an (12 + (1 + (1430 + (1387 + (1045 + (2)))))) (s0 w os) (topStub p) = some (S w os) := go_top (pre w os) (piece_block (block w os) (rest' w os))
theorem size (w : World) : ((boot_heap w.params).isNs mainGlobals && (#[] : Array GenState).size == 0, (boot_heap w.params).objs.size, (boot_heap w.params).nsMap mainGlobals "__annotations__") = (true, 11, an) := by
  rewrite [PySem.W.Fast.te8920871248978507458]
  kernel_rfl
noncomputable abbrev Xt : Shared → Bool := fun s => xlAt view [] s && recOk PySem.Challenge.rw_bellwrite_k96_frames_at_the_desk.row.toRowW.records s
theorem look0 (w : World) (os : OsState) : (staticsOk (importedModules p.main.body) (boot_heap w.params) (hF w.params) && namesBound p (hF w.params) && gensDone (S w os) && laidKept (boot_heap w.params) (hF w.params)) = true := by
  rewrite [PySem.W.Fast.te5923862056798008813]
  kernel_rfl
theorem look1 (w : World) (os : OsState) : openSeen view [] (importedModules p.main.body) Xt true (S w os) = openGood view [] := by
  unfold openSeen openGood
  refine looks_pair ?_ (looks_pair ?_ (looks_pair ?_ (looks_pair ?_ (looks_pair ?_ (looks_pair ?_ (looks_pair ?_ (looks_pair ?_ ?_)))))))
  · (try rewrite [PySem.W.Fast.te5160383126252970620]); (try rewrite [PySem.W.R.mapR_eq]); (try rewrite [PySem.W.Fast.te3399658132070893891]); (try rewrite [PySem.W.Fast.te5991557255702980513]); kernel_rfl
  · kernel_rfl
  · (try rewrite [PySem.W.Fast.te10880121769531294198]); (try rewrite [PySem.W.Fast.te821141287760084731]); (try rewrite [PySem.W.R.mapR_eq]); (try rewrite [PySem.W.Fast.te3399658132070893891]); (try rewrite [PySem.W.Fast.te7409074990110511671]); (try rewrite [PySem.W.Fast.te13664370479719496447]); (try rewrite [PySem.W.Fast.te14722251495701143533]); (try rewrite [PySem.W.Fast.te5923862056798008813]); (try rewrite [PySem.W.Fast.te10994771534591457954]); kernel_rfl
  · (try rewrite [PySem.W.Fast.te479339242167458305]); kernel_rfl
  · (try rewrite [PySem.W.Fast.te16090120013241838585]); (try rewrite [PySem.W.Fast.te3247288618530077131]); kernel_rfl
  · (try rewrite [PySem.W.Fast.te2386780881361962483]); (try rewrite [PySem.W.Fast.te821141287760084731]); kernel_rfl
  · (try rewrite [PySem.W.Fast.te11698064438423848299]); kernel_rfl
  · (try rewrite [PySem.W.Fast.te7317090234206586261]); kernel_rfl
  · (try rewrite [PySem.W.Fast.te7369524293546568484]); kernel_rfl
theorem left (H : Hook) (hk : ∀ (w : World) (os : OsState), H.obs (S w os) = H.val w) : LeftO p view [] Xt H.obs H.val 20000 :=
  LeftO.of_pieces (boot_open (by kernel_rfl) (by decide) (fun s => by rfl)) size run (by decide) (fun w => funext fun os => looks_pair (look0 w os) (looks_pair (look1 w os) (hk w os)))
theorem opens {d : DefRec} {kwd : List (Str × Expr)} (H : Hook) (hk : ∀ (w : World) (os : OsState), H.obs (S w os) = H.val w) (h1 : defOf view PySem.Challenge.rw_bellwrite_k96_frames_at_the_desk.row.name = some (d, kwd)) (h2 : PySem.Challenge.rw_bellwrite_k96_frames_at_the_desk.row.prog.theDef PySem.Challenge.rw_bellwrite_k96_frames_at_the_desk.row.name = some (d.params, d.body, d.scope)) (h3 : kwWritten? d.params.kwonlyargs d.params.kw_defaults = some kwd) (said : PySem.Challenge.rw_bellwrite_k96_frames_at_the_desk.row.wellSaid = true) (hw : PySem.Challenge.rw_bellwrite_k96_frames_at_the_desk.row.toRowW.promised)
    (hc : WalkO view [] (XL view []) H.says PySem.Challenge.rw_bellwrite_k96_frames_at_the_desk.row.toRowW d kwd fun f vs => PySem.call f vs) : PySem.Challenge.rw_bellwrite_k96_frames_at_the_desk.row.Holds := by
  have ok : (chainsOk view && opensWell PySem.Challenge.rw_bellwrite_k96_frames_at_the_desk.row.prog && (frees PySem.Challenge.rw_bellwrite_k96_frames_at_the_desk.row.toRowW && PySem.Challenge.rw_bellwrite_k96_frames_at_the_desk.row.within.isEmpty)) = true := by kernel_rfl
  exact holds_open (Xt := Xt) (N := 20000) (left H hk) H.of H.keeps (fun s y => xl_of s (Bool.and_eq_true_iff.mp y).1) XL.keeps h1 h2 h3
    (fun s y => recFacts_of (Bool.and_eq_true_iff.mp y).2) (by rfl) said ok ⟨rfl, rfl, rfl, rfl, rfl, by decide +kernel⟩ hw hc
end Op
open PySem PySem.W PyProof.Rows
local macro_rules
  | `(tactic| o_head $h) => `(tactic| refine Op.opens $h (fun w os => ?hk) (by rfl) (by rfl) (by rfl) (by assumption) ?hw ?hc)
set_option maxRecDepth 100000 in
set_option maxHeartbeats 0 in
theorem PySem.Challenge.cw_bellwrite_k96_frames_at_the_desk_holds : PySem.Challenge.rw_bellwrite_k96_frames_at_the_desk.Holds := by
  w_on; o_law; k_head; (case hk => kernel_rfl); (case hw => w_witness2)
  k_fill
  refine Bw.walk (l := PySem.Challenge.rw_bellwrite_k96_frames_at_the_desk) rfl rfl (by decide +kernel) (fun w h Y => PySem.W.kIn_of Y) ?F
  case F =>
    intro w mg fa h KX G hmg
    refine' Bw.all_mk (l := PySem.Challenge.rw_bellwrite_k96_frames_at_the_desk) rfl KX G hmg ?a0 ?l0 ?c0 ?k0 ?a1 ?l1 ?c1 ?k1 ?a2 ?l2 ?c2 ?k2 ?a3 ?l3 ?c3 ?k3 ?a4 ?l4 ?c4 ?k4 ?a5 ?l5 ?c5 ?k5 ?a6 ?l6 ?c6 ?k6 ?a7 ?l7 ?c7 ?k7 ?a8 ?l8 ?c8 ?k8 ?a9 ?l9 ?c9 ?k9 ?a10 ?l10 ?c10 ?k10 ?a11 ?l11 ?c11 ?k11 ?a12 ?l12 ?c12 ?k12 ?a13 ?l13 ?c13 ?k13 ?a14 ?l14 ?c14 ?k14 ?a15 ?l15 ?c15 ?k15 ?a16 ?l16 ?c16 ?k16 ?a17 ?l17 ?c17 ?k17 ?a18 ?l18 ?c18 ?k18 ?a19 ?l19 ?c19 ?k19 ?a20 ?l20 ?c20 ?k20 ?a21 ?l21 ?c21 ?k21 ?a22 ?l22 ?c22 ?k22 ?a23 ?l23 ?c23 ?k23 ?a24 ?l24 ?c24 ?k24 ?a25 ?l25 ?c25 ?k25 ?a26 ?l26 ?c26 ?k26 ?a27 ?l27 ?c27 ?k27 ?a28 ?l28 ?c28 ?k28 ?a29 ?l29 ?c29 ?k29 ?a30 ?l30 ?c30 ?k30 ?a31 ?l31 ?c31 ?k31 ?a32 ?l32 ?c32 ?k32 ?a33 ?l33 ?c33 ?k33 ?a34 ?l34 ?c34 ?k34 ?a35 ?l35 ?c35 ?k35 ?a36 ?l36 ?c36 ?k36 ?a37 ?l37 ?c37 ?k37 ?a38 ?l38 ?c38 ?k38 ?a39 ?l39 ?c39 ?k39 ?a40 ?l40 ?c40 ?k40 ?a41 ?l41 ?c41 ?k41 ?a42 ?l42 ?c42 ?k42 ?a43 ?l43 ?c43 ?k43 ?a44 ?l44 ?c44 ?k44 ?a45 ?l45 ?c45 ?k45 ?a46 ?l46 ?c46 ?k46 ?a47 ?l47 ?c47 ?k47 ?a48 ?l48 ?c48 ?k48 ?a49 ?l49 ?c49 ?k49 ?a50 ?l50 ?c50 ?k50 ?z_range ?z_isinstance ?z_int ?z_bool ?z_len ?z_list ?z_max ?z_min ?z_enumerate ?z_sorted ?z_sum ?z_all ?z_str ?z_zip ?z_ValueError ?m_BellError ?m_NoRow ?m_NoReading ?m_TooGreat ?m_NoOrder ?m_NoName ?m_NoNote ?m_Frame ?m_Desk ?m_LETTERS ?m_MOST_LETTERS ?m_FIGURES ?m_MOST_FIGURES ?m_MOST_FIGURES_OF_MESSAGE ?m_MOST_BELLS ?x_BellError ?x_NoRow ?x_NoReading ?x_TooGreat ?x_NoOrder ?x_NoName ?x_NoNote ?dg_l ?dg_e ?dg_n ?o_pg_Frame ?o_hd_Frame ?o_po_Frame ?o_sa_Frame ?o_mk_Frame ?o_kc_Frame ?o_n_Frame_turns ?o_n_Frame_bells ?o_n_Frame_late ?o_n_Frame_frames ?o_pg_Desk ?o_hd_Desk ?o_po_Desk ?o_sa_Desk ?o_mk_Desk ?o_kc_Desk ?o_n_Desk_turns ?o_n_Desk_bells ?o_n_Desk_late ?o_n_Desk_frames ?o_a_Frame_Frame_init ?o_l_Frame_init ?o_c_Frame_init ?o_k_Frame_init ?o_f_Frame_init ?o_a_Desk_Desk_init ?o_l_Desk_init ?o_c_Desk_init ?o_k_Desk_init ?o_f_Desk_init ?o_a_Desk_Desk_told ?o_l_Desk_told ?o_c_Desk_told ?o_k_Desk_told ?o_f_Desk_told ?o_a_Desk_Desk_keep ?o_l_Desk_keep ?o_c_Desk_keep ?o_k_Desk_keep ?o_f_Desk_keep ?o_a_Desk_Desk_ring ?o_l_Desk_ring ?o_c_Desk_ring ?o_k_Desk_ring ?o_f_Desk_ring ?o_a_Desk_Desk_listen ?o_l_Desk_listen ?o_c_Desk_listen ?o_k_Desk_listen ?o_f_Desk_listen ?o_a_Desk_Desk_send_note ?o_l_Desk_send_note ?o_c_Desk_send_note ?o_k_Desk_send_note ?o_f_Desk_send_note ?o_a_Desk_Desk_kept ?o_l_Desk_kept ?o_c_Desk_kept ?o_k_Desk_kept ?o_f_Desk_kept
    (case a0 => k_is)
    (case l0 => k_is)
    (case c0 => k_is)
    (case k0 => k_is)
    (case a1 => k_is)
    (case l1 => k_is)
    (case c1 => k_is)
    (case k1 => k_is)
    (case a2 => k_is)
    (case l2 => k_is)
    (case c2 => k_is)
    (case k2 => k_is)
    (case a3 => k_is)
    (case l3 => k_is)
    (case c3 => k_is)
    (case k3 => k_is)
    (case a4 => k_is)
    (case l4 => k_is)
    (case c4 => k_is)
    (case k4 => k_is)
    (case a5 => k_is)
    (case l5 => k_is)
    (case c5 => k_is)
    (case k5 => k_is)
    (case a6 => k_is)
    (case l6 => k_is)
    (case c6 => k_is)
    (case k6 => k_is)
    (case a7 => k_is)
    (case l7 => k_is)
    (case c7 => k_is)
    (case k7 => k_is)
    (case a8 => k_is)
    (case l8 => k_is)
    (case c8 => k_is)
    (case k8 => k_is)
    (case a9 => k_is)
    (case l9 => k_is)
    (case c9 => k_is)
    (case k9 => k_is)
    (case a10 => k_is)
    (case l10 => k_is)
    (case c10 => k_is)
    (case k10 => k_is)
    (case a11 => k_is)
    (case l11 => k_is)
    (case c11 => k_is)
    (case k11 => k_is)
    (case a12 => k_is)
    (case l12 => k_is)
    (case c12 => k_is)
    (case k12 => k_is)
    (case a13 => k_is)
    (case l13 => k_is)
    (case c13 => k_is)
    (case k13 => k_is)
    (case a14 => k_is)
    (case l14 => k_is)
    (case c14 => k_is)
    (case k14 => k_is)
    (case a15 => k_is)
    (case l15 => k_is)
    (case c15 => k_is)
    (case k15 => k_is)
    (case a16 => k_is)
    (case l16 => k_is)
    (case c16 => k_is)
    (case k16 => k_is)
    (case a17 => k_is)
    (case l17 => k_is)
    (case c17 => k_is)
    (case k17 => k_is)
    (case a18 => k_is)
    (case l18 => k_is)
    (case c18 => k_is)
    (case k18 => k_is)
    (case a19 => k_is)
    (case l19 => k_is)
    (case c19 => k_is)
    (case k19 => k_is)
    (case a20 => k_is)
    (case l20 => k_is)
    (case c20 => k_is)
    (case k20 => k_is)
    (case a21 => k_is)
    (case l21 => k_is)
    (case c21 => k_is)
    (case k21 => k_is)
    (case a22 => k_is)
    (case l22 => k_is)
    (case c22 => k_is)
    (case k22 => k_is)
    (case a23 => k_is)
    (case l23 => k_is)
    (case c23 => k_is)
    (case k23 => k_is)
    (case a24 => k_is)
    (case l24 => k_is)
    (case c24 => k_is)
    (case k24 => k_is)
    (case a25 => k_is)
    (case l25 => k_is)
    (case c25 => k_is)
    (case k25 => k_is)
    (case a26 => k_is)
    (case l26 => k_is)
    (case c26 => k_is)
    (case k26 => k_is)
    (case a27 => k_is)
    (case l27 => k_is)
    (case c27 => k_is)
    (case k27 => k_is)
    (case a28 => k_is)
    (case l28 => k_is)
    (case c28 => k_is)
    (case k28 => k_is)
    (case a29 => k_is)
    (case l29 => k_is)
    (case c29 => k_is)
    (case k29 => k_is)
    (case a30 => k_is)
    (case l30 => k_is)
    (case c30 => k_is)
    (case k30 => k_is)
    (case a31 => k_is)
    (case l31 => k_is)
    (case c31 => k_is)
    (case k31 => k_is)
    (case a32 => k_is)
    (case l32 => k_is)
    (case c32 => k_is)
    (case k32 => k_is)
    (case a33 => k_is)
    (case l33 => k_is)
    (case c33 => k_is)
    (case k33 => k_is)
    (case a34 => k_is)
    (case l34 => k_is)
    (case c34 => k_is)
    (case k34 => k_is)
    (case a35 => k_is)
    (case l35 => k_is)
    (case c35 => k_is)
    (case k35 => k_is)
    (case a36 => k_is)
    (case l36 => k_is)
    (case c36 => k_is)
    (case k36 => k_is)
    (case a37 => k_is)
    (case l37 => k_is)
    (case c37 => k_is)
    (case k37 => k_is)
    (case a38 => k_is)
    (case l38 => k_is)
    (case c38 => k_is)
    (case k38 => k_is)
    (case a39 => k_is)
    (case l39 => k_is)
    (case c39 => k_is)
    (case k39 => k_is)
    (case a40 => k_is)
    (case l40 => k_is)
    (case c40 => k_is)
    (case k40 => k_is)
    (case a41 => k_is)
    (case l41 => k_is)
    (case c41 => k_is)
    (case k41 => k_is)
    (case a42 => k_is)
    (case l42 => k_is)
    (case c42 => k_is)
    (case k42 => k_is)
    (case a43 => k_is)
    (case l43 => k_is)
    (case c43 => k_is)
    (case k43 => k_is)
    (case a44 => k_is)
    (case l44 => k_is)
    (case c44 => k_is)
    (case k44 => k_is)
    (case a45 => k_is)
    (case l45 => k_is)
    (case c45 => k_is)
    (case k45 => k_is)
    (case a46 => k_is)
    (case l46 => k_is)
    (case c46 => k_is)
    (case k46 => k_is)
    (case a47 => k_is)
    (case l47 => k_is)
    (case c47 => k_is)
    (case k47 => k_is)
    (case a48 => k_is)
    (case l48 => k_is)
    (case c48 => k_is)
    (case k48 => k_is)
    (case a49 => k_is)
    (case l49 => k_is)
    (case c49 => k_is)
    (case k49 => k_is)
    (case a50 => k_is)
    (case l50 => k_is)
    (case c50 => k_is)
    (case k50 => k_is)
    (case z_range => k_is)
    (case z_isinstance => k_is)
    (case z_int => k_is)
    (case z_bool => k_is)
    (case z_len => k_is)
    (case z_list => k_is)
    (case z_max => k_is)
    (case z_min => k_is)
    (case z_enumerate => k_is)
    (case z_sorted => k_is)
    (case z_sum => k_is)
    (case z_all => k_is)
    (case z_str => k_is)
    (case z_zip => k_is)
    (case z_ValueError => k_is)
    (case m_BellError => k_is)
    (case m_NoRow => k_is)
    (case m_NoReading => k_is)
    (case m_TooGreat => k_is)
    (case m_NoOrder => k_is)
    (case m_NoName => k_is)
    (case m_NoNote => k_is)
    (case m_Frame => k_is)
    (case m_Desk => k_is)
    (case m_LETTERS => k_is)
    (case m_MOST_LETTERS => k_is)
    (case m_FIGURES => k_is)
    (case m_MOST_FIGURES => k_is)
    (case m_MOST_FIGURES_OF_MESSAGE => k_is)
    (case m_MOST_BELLS => k_is)
    (case x_BellError => k_exc)
    (case x_NoRow => k_exc)
    (case x_NoReading => k_exc)
    (case x_TooGreat => k_exc)
    (case x_NoOrder => k_exc)
    (case x_NoName => k_exc)
    (case x_NoNote => k_exc)
    (case dg_l => k_is)
    (case dg_e => decide +kernel)
    (case dg_n => k_is)
    (case o_pg_Frame => k_is)
    (case o_hd_Frame => k_is)
    (case o_po_Frame => k_is)
    (case o_sa_Frame => k_is)
    (case o_mk_Frame => k_is)
    (case o_kc_Frame => k_is)
    (case o_n_Frame_turns => k_is)
    (case o_n_Frame_bells => k_is)
    (case o_n_Frame_late => k_is)
    (case o_n_Frame_frames => k_is)
    (case o_pg_Desk => k_is)
    (case o_hd_Desk => k_is)
    (case o_po_Desk => k_is)
    (case o_sa_Desk => k_is)
    (case o_mk_Desk => k_is)
    (case o_kc_Desk => k_is)
    (case o_n_Desk_turns => k_is)
    (case o_n_Desk_bells => k_is)
    (case o_n_Desk_late => k_is)
    (case o_n_Desk_frames => k_is)
    (case o_a_Frame_Frame_init => k_is)
    (case o_l_Frame_init => k_is)
    (case o_c_Frame_init => k_is)
    (case o_k_Frame_init => k_is)
    (case o_f_Frame_init => k_is)
    (case o_a_Desk_Desk_init => k_is)
    (case o_l_Desk_init => k_is)
    (case o_c_Desk_init => k_is)
    (case o_k_Desk_init => k_is)
    (case o_f_Desk_init => k_is)
    (case o_a_Desk_Desk_told => k_is)
    (case o_l_Desk_told => k_is)
    (case o_c_Desk_told => k_is)
    (case o_k_Desk_told => k_is)
    (case o_f_Desk_told => k_is)
    (case o_a_Desk_Desk_keep => k_is)
    (case o_l_Desk_keep => k_is)
    (case o_c_Desk_keep => k_is)
    (case o_k_Desk_keep => k_is)
    (case o_f_Desk_keep => k_is)
    (case o_a_Desk_Desk_ring => k_is)
    (case o_l_Desk_ring => k_is)
    (case o_c_Desk_ring => k_is)
    (case o_k_Desk_ring => k_is)
    (case o_f_Desk_ring => k_is)
    (case o_a_Desk_Desk_listen => k_is)
    (case o_l_Desk_listen => k_is)
    (case o_c_Desk_listen => k_is)
    (case o_k_Desk_listen => k_is)
    (case o_f_Desk_listen => k_is)
    (case o_a_Desk_Desk_send_note => k_is)
    (case o_l_Desk_send_note => k_is)
    (case o_c_Desk_send_note => k_is)
    (case o_k_Desk_send_note => k_is)
    (case o_f_Desk_send_note => k_is)
    (case o_a_Desk_Desk_kept => k_is)
    (case o_l_Desk_kept => k_is)
    (case o_c_Desk_kept => k_is)
    (case o_k_Desk_kept => k_is)
    (case o_f_Desk_kept => k_is)