import PyProof.Rows.All
import Wide.All
import OpenK.AllK
import Wide.FinOn
import Lean
import PyProof.EqAt
import PyProof.EqKinds
import PyProof.TupleCall
import KE.IntBitsLaws
import PySem.Challenge.RW_bellwrite_k80_other_talks
set_option Elab.async false
set_option linter.all false
set_option maxRecDepth 100000
set_option maxHeartbeats 4000000
set_option genSizeOf false
namespace L2
open PySem PySem.Spec PyProof.Rows
abbrev Key := Sum Int Str
noncomputable def keyIs : Key → Value → Bool
  | .inl k, v => Value.isInt k v
  | .inr x, v => Value.isStrOf x v
noncomputable def keyH (w : World) : Key → Int
  | .inl k => hashInt k
  | .inr x => hashStr w x
theorem keyIs_shape : ∀ {k : Key} {v : Value}, keyIs k v = true → (∃ i t, k = Sum.inl i ∧ v = Value.int i t) ∨ (∃ x t, k = Sum.inr x ∧ v = Value.str x t)
  | .inl i, v, h => by
    obtain ⟨t, e⟩ := Value.isInt_shape (k := i) (v := v) h
    exact .inl ⟨i, t, rfl, e⟩
  | .inr x, v, h => by
    obtain ⟨t, e⟩ := Value.isStrOf_shape (x := x) (v := v) h
    exact .inr ⟨x, t, rfl, e⟩
theorem keyIs_int (i : Int) (t : Tok) : keyIs (.inl i) (.int i t) = true := by simp [keyIs, Value.isInt]
theorem keyIs_str (x : Str) (t : Tok) : keyIs (.inr x) (.str x t) = true := by simp [keyIs, Value.isStrOf]
theorem key_ll (a b : Int) : decide ((Sum.inl a : Key) = Sum.inl b) = (a == b) := by
  by_cases e : a = b
  · subst e; simp
  · have h : ¬ (Sum.inl a : Key) = Sum.inl b := fun q => e (Sum.inl.inj q)
    rw [decide_eq_false h]
    exact (beq_eq_false_iff_ne.mpr e).symm
theorem key_rr (a b : Str) : decide ((Sum.inr a : Key) = Sum.inr b) = decide (a = b) := by
  by_cases e : a = b
  · subst e; simp
  · have h : ¬ (Sum.inr a : Key) = Sum.inr b := fun q => e (Sum.inr.inj q)
    rw [decide_eq_false h, decide_eq_false e]
theorem key_lr (a : Int) (b : Str) : decide ((Sum.inl a : Key) = Sum.inr b) = false := decide_eq_false (fun q => nomatch q)
theorem key_rl (a : Str) (b : Int) : decide ((Sum.inr a : Key) = Sum.inl b) = false := decide_eq_false (fun q => nomatch q)
noncomputable def mixKind (prog : Program) (w : World) : PySem.KeyKind prog w Key where
  is := keyIs
  hash := keyH w
  inj := fun v a b ha hb => by
    rcases keyIs_shape ha with ⟨i, t, rfl, rfl⟩ | ⟨x, t, rfl, rfl⟩
    · rcases keyIs_shape hb with ⟨j, u, rfl, e⟩ | ⟨y, u, rfl, e⟩
      · injection e with e1 _; rw [e1]
      · exact nomatch e
    · rcases keyIs_shape hb with ⟨j, u, rfl, e⟩ | ⟨y, u, rfl, e⟩
      · exact nomatch e
      · injection e with e1 _; rw [e1]
  byValue := fun k v h => by
    rcases keyIs_shape h with ⟨i, t, rfl, rfl⟩ | ⟨x, t, rfl, rfl⟩ <;> rfl
  pyHash := fun hv h => by
    rcases keyIs_shape hv with ⟨i, t, rfl, rfl⟩ | ⟨x, t, rfl, rfl⟩
    · exact wpAny_pyHash_int h
    · exact wpAny_pyHash_str h
  eqBool := fun hu hv h => by
    rcases keyIs_shape hu with ⟨i, t, rfl, rfl⟩ | ⟨x, t, rfl, rfl⟩
    · rcases keyIs_shape hv with ⟨j, u, rfl, rfl⟩ | ⟨y, u, rfl, rfl⟩
      · rw [key_ll] at h; exact wpAny_eqBool_int h
      · rw [key_lr] at h; exact SeqAt.EqAt.int_str i t y u _ _ _ _ h
    · rcases keyIs_shape hv with ⟨j, u, rfl, rfl⟩ | ⟨y, u, rfl, rfl⟩
      · rw [key_rl] at h; exact SeqAt.EqAt.str_int x t j u _ _ _ _ h
      · rw [key_rr] at h; exact wpAny_eqBool_str h
  «strs» := fun k x t v h => by
    rcases keyIs_shape h with ⟨i, u, rfl, e⟩ | ⟨y, u, rfl, e⟩
    · exact nomatch e
    · injection e with e1 _
      subst e1
      cases v <;> rfl
theorem mixKind_int (prog : Program) (w : World) (i : Int) (t : Tok) : (mixKind prog w).is (.inl i) (.int i t) = true := keyIs_int i t
theorem mixKind_str (prog : Program) (w : World) (x : Str) (t : Tok) : (mixKind prog w).is (.inr x) (.str x t) = true := keyIs_str x t
inductive V where
  | non | bl (b : Bool) | int (i : Int) | str (x : Str) | byt (b : Array UInt8) | flt (b : UInt64) | ref (a : Addr) | ty (n : String)
  deriving DecidableEq
noncomputable def RelV : V → Value → Prop
  | .non, u => u = Value.none
  | .bl b, u => u = Value.bool b
  | .int i, u => ∃ t, u = Value.int i t
  | .str x, u => ∃ t, u = Value.str x t
  | .byt b, u => ∃ t, u = Value.bytes b t
  | .flt b, u => ∃ t, u = Value.float b t
  | .ref a, u => u = Value.ref a
  | .ty n, u => u = Value.type n
abbrev Vals : List V → List Value → Prop := Paired RelV
theorem Vals.length {xs : List V} {us : List Value} (r : Vals xs us) : xs.length = us.length := Paired.length r
theorem Vals.get : ∀ {xs : List V} {us : List Value} {i : Nat} {x : V}, Vals xs us → xs[i]? = some x → ∃ u, us[i]? = some u ∧ RelV x u
  | _, _, _, _, .nil, e => by simp at e
  | _, _, 0, _, .cons r _, e => by simp at e; subst e; exact ⟨_, rfl, r⟩
  | _, _, i + 1, x, .cons _ t, e => by
    obtain ⟨u, h1, h2⟩ := Vals.get (i := i) (x := x) t (by simpa using e)
    exact ⟨u, by simpa using h1, h2⟩
theorem Vals.set {x : V} {u : Value} (r : RelV x u) : ∀ {xs : List V} {us : List Value} (i : Nat), Vals xs us → Vals (xs.set i x) (us.set i u)
  | _, _, _, .nil => .nil
  | _, _, 0, .cons _ t => .cons r t
  | _, _, i + 1, .cons q t => .cons q (Vals.set r i t)
theorem Vals.append : ∀ {xs ys : List V} {us ws : List Value}, Vals xs us → Vals ys ws → Vals (xs ++ ys) (us ++ ws)
  | _, _, _, _, .nil, s => s
  | _, _, _, _, .cons r t, s => .cons r (Vals.append t s)
theorem Vals.take : ∀ {xs : List V} {us : List Value} (n : Nat), Vals xs us → Vals (xs.take n) (us.take n)
  | _, _, 0, _ => .nil
  | _, _, _ + 1, .nil => .nil
  | _, _, n + 1, .cons r t => .cons r (Vals.take n t)
theorem Vals.drop : ∀ {xs : List V} {us : List Value} (n : Nat), Vals xs us → Vals (xs.drop n) (us.drop n)
  | _, _, 0, r => r
  | _, _, _ + 1, .nil => .nil
  | _, _, n + 1, .cons _ t => Vals.drop n t
theorem Vals.none_of : ∀ {xs : List V} {us : List Value} {i : Nat}, Vals xs us → xs[i]? = none → us[i]? = none := fun {xs us i} r e => by
  have h1 := r.length
  have h2 : xs.length ≤ i := List.getElem?_eq_none_iff.mp e
  exact List.getElem?_eq_none_iff.mpr (by omega)
noncomputable def RelO : Option V → Option Value → Prop
  | some v, some u => RelV v u
  | none, none => True
  | _, _ => False
noncomputable def KV {κ : Type} : List (κ × V) → List (κ × Value) → Prop := Paired fun (p : κ × V) (q : κ × Value) => p.1 = q.1 ∧ RelV p.2 q.2
noncomputable def kV : Key → V
  | .inl i => .int i
  | .inr x => .str x
inductive HO where
  | lst (xs : List V)
  | tup (xs : List V)
  | dK (kvs : List (Key × V)) | dT (kvs : List (List Key × V))
  | set (S : Int → Bool) (n : Nat)
  | ins (C dx : Addr) (fs : List (Str × V))
  | own (x : Addr)
  | xd (fs : List (Str × V))
  | met (f x : Addr)
  | rng (lo hi : Int)
  | frz (o : Obj) (u : HO)
  | tbl (ps : Array Value)
  | ext (φ : Heap → Prop)
abbrev Hp := Addr → Option HO
noncomputable def upd (H : Hp) (a : Addr) (o : HO) : Hp := fun b => if b = a then some o else H b
theorem upd_same {H : Hp} {a : Addr} {o : HO} : upd H a o a = some o := by unfold upd; rw [if_pos rfl]
theorem upd_ne {H : Hp} {a b : Addr} {o : HO} (h : b ≠ a) : upd H a o b = H b := by unfold upd; rw [if_neg h]
theorem upd_upd {H : Hp} {a : Addr} {o u : HO} : upd (upd H a o) a u = upd H a u := by
  funext b; unfold upd; split <;> rfl
theorem ne_of_none {H : Hp} {a b : Addr} {o : HO} (h : H a = some o) (h' : H b = none) : a ≠ b := by
  intro e; subst e; rw [h] at h'; cases h'
section
variable (P : Program) (w : World)
noncomputable def ObjOk (H : Hp) (h : Heap) (a : Addr) : HO → Prop
  | .lst xs => xs.length ≤ sizeLine ∧ ∃ (its : List Value) (n : Nat), Vals xs its ∧ h.get? a = some { cls := .type "list", data := .seq its.toArray n }
  | .tup xs => xs.length ≤ sizeLine ∧ ∃ its : List Value, Vals xs its ∧ IsTup h a its.toArray
  | .dK kvs => kvs.length ≤ sizeLine ∧ (a == sysModules) = false ∧ ∃ vs, KV kvs vs ∧ h.DictOf (mixKind P w) a vs
  | .dT kvs => kvs.length ≤ sizeLine ∧ (a == sysModules) = false ∧ ∃ xs : List (List Key × Addr × Value),
      Paired (fun (p : List Key × V) (q : List Key × Addr × Value) => p.1 = q.1 ∧ H q.2.1 = some (.tup (p.1.map kV)) ∧ RelV p.2 q.2.2) kvs xs ∧
      ∃ o es ep, h.get? a = some o ∧ o.ExactDict ∧ o.data = .dict es ep ∧ es.toList = xs.map (entryOfKey (tupleKind (mixKind P w))) ∧ (xs.map (·.1)).Nodup
  | .set S n => h.SetOf (intKind P w) a S n
  | .ins C dx fs => H dx = some (.own a) ∧ fs.length ≤ 1000 ∧ dx ≠ a ∧ h.get? a = some (PySem.W.instObj C dx) ∧
      ∃ mA, h.Ns1 dx mA ∧ (∀ f, RelO (fs.lookup f) (mA f)) ∧ PySem.Within mA (fs.map (·.1))
  | .own _ => ∃ o, h.get? a = some o
  | .xd fs => ∃ mA, h.Ns1 a mA ∧ ∀ f, RelO (fs.lookup f) (mA f)
  | .rng lo hi => ∃ t u v, h.get? a = some { cls := .type "range", data := .fields #[.int lo t, .int hi u, .int 1 v] }
  | .frz o u => h.get? a = some o ∧ ObjOk H h a u
  | .tbl ps => h.get? a = some { cls := .none, data := .fields ps }
  | .met f x => h.get? a = some (PySem.W.methodObj (.ref f) (.ref x))
  | .ext φ => φ h ∧ (∃ o, h.get? a = some o) ∧ ∀ h1 h2 : Heap, φ h1 → (∀ o, h1.get? a = some o → h2.get? a = some o) → φ h2
noncomputable def HOk (H : Hp) (h : Heap) : Prop := ∀ a o, H a = some o → ObjOk P w H h a o
end
section
variable {P : Program} {w : World} {H H' : Hp} {h h' : Heap} {a : Addr} {o : HO}
theorem ObjOk.lt (x : ObjOk P w H h a o) : a < h.objs.size := by
  cases o with
  | lst xs => obtain ⟨_, _, _, _, e⟩ := x; exact Heap.lt_size e
  | tup xs => obtain ⟨_, _, _, p⟩ := x; exact p.lt
  | dK kvs => obtain ⟨_, _, _, _, o, _, _, e, _⟩ := x; exact Heap.lt_size e
  | dT kvs => obtain ⟨_, _, _, _, o, _, _, e, _⟩ := x; exact Heap.lt_size e
  | set S n => obtain ⟨o, _, _, _, e, _⟩ := x; exact Heap.lt_size e
  | ins C dx fs => obtain ⟨_, _, _, e, _⟩ := x; exact Heap.lt_size e
  | own y => obtain ⟨_, e⟩ := x; exact Heap.lt_size e
  | xd fs => obtain ⟨_, ⟨_, _, _, e, _⟩, _⟩ := x; exact Heap.lt_size e
  | rng lo hi => obtain ⟨_, _, _, e⟩ := x; exact Heap.lt_size e
  | frz ob u => obtain ⟨e, _⟩ := x; exact Heap.lt_size e
  | tbl ps => exact Heap.lt_size (show h.get? a = some _ from x)
  | met f y => exact Heap.lt_size (show h.get? a = some _ from x)
  | ext φ => obtain ⟨_, ⟨_, e⟩, _⟩ := x; exact Heap.lt_size e
theorem Paired.mapP {α β : Type} {F G : α → β → Prop} : ∀ {l₁ : List α} {l₂ : List β}, Paired F l₁ l₂ → (∀ a b, F a b → G a b) → Paired G l₁ l₂
  | _, _, .nil, _ => .nil
  | _, _, .cons r t, f => .cons (f _ _ r) (Paired.mapP t f)
theorem Paired.imp' {α β : Type} {F G : α → β → Prop} (f : ∀ a b, F a b → G a b) {l₁ : List α} {l₂ : List β} (r : Paired F l₁ l₂) : Paired G l₁ l₂ := Paired.mapP r f
theorem ObjOk.stay (x : ObjOk P w H h a o) (k : ∀ b u, (b = a ∨ H b = some (.own a)) → h.get? b = some u → h'.get? b = some u)
    (ho : ∀ b, H b = some (.own a) → H' b = some (.own a)) (ht : ∀ b xs, H b = some (.tup xs) → H' b = some (.tup xs)) : ObjOk P w H' h' a o := by
  induction o with
  | lst xs => obtain ⟨z, its, n, r, e⟩ := x; exact ⟨z, its, n, r, k _ _ (.inl rfl) e⟩
  | tup xs => obtain ⟨z, its, r, ob, e, c⟩ := x; exact ⟨z, its, r, ob, k _ _ (.inl rfl) e, c⟩
  | dK kvs => obtain ⟨z, y, vs, r, ob, es, ep, e, c⟩ := x; exact ⟨z, y, vs, r, ob, es, ep, k _ _ (.inl rfl) e, c⟩
  | dT kvs =>
    obtain ⟨z, y, xs, r, ob, es, ep, e, c⟩ := x
    exact ⟨z, y, xs, Paired.mapP r fun p q z => ⟨z.1, ht _ _ z.2.1, z.2.2⟩, ob, es, ep, k _ _ (.inl rfl) e, c⟩
  | set S n => obtain ⟨ob, es, ep, t, e, c⟩ := x; exact ⟨ob, es, ep, t, k _ _ (.inl rfl) e, c⟩
  | ins C dx fs =>
    obtain ⟨d, z, ne, e, mA, ⟨od, es, ep, e2, c⟩, r⟩ := x
    exact ⟨ho _ d, z, ne, k _ _ (.inl rfl) e, mA, ⟨od, es, ep, k _ _ (.inr d) e2, c⟩, r⟩
  | own y => obtain ⟨ob, e⟩ := x; exact ⟨ob, k _ _ (.inl rfl) e⟩
  | xd fs => obtain ⟨mA, ⟨od, es, ep, e, c⟩, r⟩ := x; exact ⟨mA, ⟨od, es, ep, k _ _ (.inl rfl) e, c⟩, r⟩
  | rng lo hi => obtain ⟨t, u, v, e⟩ := x; exact ⟨t, u, v, k _ _ (.inl rfl) e⟩
  | frz ob u ih => obtain ⟨e, q⟩ := x; exact ⟨k _ _ (.inl rfl) e, ih q⟩
  | tbl ps =>
    have e : h.get? a = some { cls := .none, data := .fields ps } := x
    show h'.get? a = some { cls := .none, data := .fields ps }
    exact k a _ (.inl rfl) e
  | met f y =>
    have e : h.get? a = some (PySem.W.methodObj (.ref f) (.ref y)) := x
    show h'.get? a = some (PySem.W.methodObj (.ref f) (.ref y))
    exact k a _ (.inl rfl) e
  | ext φ => obtain ⟨p, ⟨o, e⟩, st⟩ := x; exact ⟨st _ _ p fun o q => k _ _ (.inl rfl) q, ⟨o, k _ _ (.inl rfl) e⟩, st⟩
theorem HOk.lt (x : HOk P w H h) (e : H a = some o) : a < h.objs.size := (x a o e).lt
theorem HOk.fresh (x : HOk P w H h) (e : h.objs.size ≤ a) : H a = none := by
  cases q : H a with
  | none => rfl
  | some u => exact absurd (Nat.lt_of_lt_of_le (x.lt q) e) (Nat.lt_irrefl _)
theorem HOk.kept (x : HOk P w H h) (k : ∀ b u, h.get? b = some u → h'.get? b = some u) : HOk P w H h' := fun a o e =>
  (x a o e).stay (fun b u _ q => k b u q) (fun _ q => q) fun _ _ q => q
theorem HOk.laid (x : HOk P w H h) (k : ∀ b u, h.get? b = some u → h'.get? b = some u) (hp : h.objs.size ≤ a) (new : ObjOk P w (upd H a o) h' a o) : HOk P w (upd H a o) h' := fun b u e => by
  have hn := x.fresh hp
  by_cases hb : b = a
  · subst hb; rw [upd_same] at e; cases e; exact new
  · rw [upd_ne hb] at e
    exact (x b u e).stay (fun c v _ q => k c v q) (fun c q => by rw [upd_ne (ne_of_none q hn)]; exact q) fun c xs q => by rw [upd_ne (ne_of_none q hn)]; exact q
end
noncomputable def Rd (H : Hp) (a : Addr) (u : HO) : Prop := H a = some u ∨ ∃ o, H a = some (.frz o u)
theorem Rd.of {H : Hp} {a : Addr} {u : HO} (h : H a = some u) : Rd H a u := .inl h
theorem Rd.ok {P : Program} {w : World} {H : Hp} {h : Heap} {a : Addr} {u : HO} (r : Rd H a u) (x : HOk P w H h) : ObjOk P w H h a u := by
  rcases r with r | ⟨o, r⟩
  · exact x a u r
  · obtain ⟨_, q⟩ := x a _ r
    exact q
noncomputable def Mut : Option HO → Prop
  | some (.lst _) => True
  | some (.dK _) => True
  | some (.dT _) => True
  | some (.set _ _) => True
  | some (.ins _ _ _) => True
  | some (.ext _) => True
  | _ => False
section
variable {P : Program} {w : World} {H : Hp} {h h' : Heap} {x e : Addr} {o' : HO}
theorem HOk.write (ok : HOk P w H h) (mu : Mut (H x)) (he : e = x ∨ H e = some (.own x)) (k : ∀ b u, b ≠ e → h.get? b = some u → h'.get? b = some u) (heo : ∃ u, h'.get? e = some u)
    (new : ObjOk P w (upd H x o') h' x o') : HOk P w (upd H x o') h' := fun b u q => by
  have nown : ∀ c y, H c = some (.own y) → c ≠ x := fun c y r z => by subst z; rw [r] at mu; exact mu
  have ntup : ∀ c xs, H c = some (.tup xs) → c ≠ x := fun c xs r z => by subst z; rw [r] at mu; exact mu
  by_cases hb : b = x
  · subst hb; rw [upd_same] at q; cases q; exact new
  · rw [upd_ne hb] at q
    by_cases hbe : b = e
    · have q' : H b = some (.own x) := by
        rcases he with z | z
        · exact absurd (hbe.trans z) hb
        · rw [hbe]; exact z
      rw [q] at q'; cases q'
      obtain ⟨v, hv⟩ := heo
      exact ⟨v, by rw [hbe]; exact hv⟩
    · refine (ok b u q).stay (fun c v hc r => k c v ?_ r) (fun c r => by rw [upd_ne (nown c b r)]; exact r) fun c xs r => by rw [upd_ne (ntup c xs r)]; exact r
      rcases hc with rfl | hc
      · exact hbe
      · rintro rfl
        rcases he with z | z
        · exact nown c b hc z
        · rw [hc] at z; cases z; exact hb rfl
end
structure Un (fs ex : List Addr) (H H' : Hp) (h h' : Heap) : Prop where
  keep : ∀ b o, h.get? b = some o → H b = none → b ∉ fs → b ∉ ex → h'.get? b = some o
  slot : ∀ b o, h.get? b = some o → H b = none → b ∈ fs → b ∉ ex → ∃ sl, h'.get? b = some { o with slots := sl }
  free : ∀ b o, h.get? b = some o → H b = none → b ∉ ex → H' b = none
  there : ∀ b o, h.get? b = some o → b ∉ ex → ∃ o', h'.get? b = some o'
  tups : ∀ b xs, H b = some (.tup xs) → H' b = some (.tup xs)
  frzs : ∀ b o u, H b = some (.frz o u) → H' b = some (.frz o u)
  tbls : ∀ b ps, H b = some (.tbl ps) → ∃ more, H' b = some (.tbl (ps ++ more))
section
variable {fs fs' ex ex' : List Addr} {H H1 H2 : Hp} {h h1 h2 h' : Heap} {a x e : Addr} {o : HO}
theorem Un.any (u : Un fs ex H H1 h h1) {b : Addr} {ob : Obj} (q : h.get? b = some ob) (n : H b = none) (hx : b ∉ ex) : ∃ sl, h1.get? b = some { ob with slots := sl } := by
  by_cases hb : b ∈ fs
  · exact u.slot b ob q n hb hx
  · exact ⟨ob.slots, u.keep b ob q n hb hx⟩
theorem Un.trans (a : Un fs ex H H1 h h1) (b : Un fs ex H1 H2 h1 h2) : Un fs ex H H2 h h2 where
  keep := fun c ob q n hc hx => b.keep c ob (a.keep c ob q n hc hx) (a.free c ob q n hx) hc hx
  slot := fun c ob q n hc hx => by
    obtain ⟨sl, e1⟩ := a.slot c ob q n hc hx
    obtain ⟨sl', e2⟩ := b.slot c _ e1 (a.free c ob q n hx) hc hx
    exact ⟨sl', e2⟩
  free := fun c ob q n hx => by
    obtain ⟨o', e1⟩ := a.there c ob q hx
    exact b.free c o' e1 (a.free c ob q n hx) hx
  there := fun c ob q hx => by
    obtain ⟨o', e1⟩ := a.there c ob q hx
    exact b.there c o' e1 hx
  tups := fun c xs q => b.tups c xs (a.tups c xs q)
  frzs := fun c ob xs q => b.frzs c ob xs (a.frzs c ob xs q)
  tbls := fun c ps q => by
    obtain ⟨m1, e1⟩ := a.tbls c ps q
    obtain ⟨m2, e2⟩ := b.tbls c _ e1
    exact ⟨m1 ++ m2, by rw [e2, Array.append_assoc]⟩
theorem Un.kept (k : ∀ b u, h.get? b = some u → h'.get? b = some u) : Un fs ex H H h h' :=
  ⟨fun b ob q _ _ _ => k b ob q, fun b ob q _ _ _ => ⟨ob.slots, k b ob q⟩, fun _ _ _ n _ => n, fun b ob q _ => ⟨ob, k b ob q⟩, fun _ _ q => q, fun _ _ _ q => q, fun _ ps q => ⟨#[], by rw [q]; simp⟩⟩
theorem Un.refl : Un fs ex H H h h := Un.kept fun _ _ q => q
theorem Un.laid (k : ∀ b u, h.get? b = some u → h'.get? b = some u) (hp : h.objs.size ≤ a) (hn : H a = none) : Un fs ex H (upd H a o) h h' where
  keep := fun b u q _ _ _ => k b u q
  slot := fun b u q _ _ _ => ⟨u.slots, k b u q⟩
  free := fun b u q n _ => by rw [upd_ne (Nat.ne_of_lt (Nat.lt_of_lt_of_le (Heap.lt_size q) hp))]; exact n
  there := fun b u q _ => ⟨u, k b u q⟩
  tups := fun b xs q => by rw [upd_ne (ne_of_none q hn)]; exact q
  frzs := fun b u xs q => by rw [upd_ne (ne_of_none q hn)]; exact q
  tbls := fun b ps q => ⟨#[], by rw [upd_ne (ne_of_none q hn), q]; simp⟩
theorem Un.write (mu : Mut (H x)) (he : e = x ∨ H e = some (.own x)) (k : ∀ b u, b ≠ e → h.get? b = some u → h'.get? b = some u) (heo : ∃ u, h'.get? e = some u) : Un fs ex H (upd H x o) h h' := by
  have hx : ∀ b, H b = none → b ≠ x := fun b n z => by subst z; rw [n] at mu; exact mu
  have hb : ∀ b, H b = none → b ≠ e := fun b n z => by
    subst z
    rcases he with r | r
    · exact hx b n r
    · rw [n] at r; cases r
  have hm : ∀ b u, H b = some u → ¬ Mut (some u) → b ≠ x := fun b u q nm z => by subst z; rw [q] at mu; exact nm mu
  refine ⟨fun b u q n _ _ => k b u (hb b n) q, fun b u q n _ _ => ⟨u.slots, k b u (hb b n) q⟩, fun b u q n _ => by rw [upd_ne (hx b n)]; exact n, fun b u q _ => ?_,
    fun b xs q => by rw [upd_ne (hm b _ q fun z => z)]; exact q, fun b u xs q => by rw [upd_ne (hm b _ q fun z => z)]; exact q, fun b ps q => ⟨#[], by rw [upd_ne (hm b _ q fun z => z), q]; simp⟩⟩
  by_cases hbe : b = e
  · subst hbe; exact heo
  · exact ⟨u, k b u hbe q⟩
theorem Un.mono (u : Un fs ex H H1 h h1) (hs : ∀ b ∈ fs, b ∈ fs') (hx : ∀ b ∈ ex, b ∈ ex') : Un fs' ex' H H1 h h1 :=
  ⟨fun b ob q n hb he => u.keep b ob q n (fun z => hb (hs b z)) fun z => he (hx b z), fun _ _ q n _ he => u.any q n fun z => he (hx _ z), fun b ob q n he => u.free b ob q n fun z => he (hx b z), fun b ob q he => u.there b ob q fun z => he (hx b z), u.tups, u.frzs, u.tbls⟩
end
noncomputable def trk (h : Heap) (H : Hp) : List Addr := (List.range h.objs.size).filter fun a => (H a).isSome
noncomputable def hidT (h : Heap) (H : Hp) : Heap := PySem.W.hideAll h (trk h H)
theorem hidT_size (h : Heap) (H : Hp) : (hidT h H).objs.size = h.objs.size := PySem.W.hideAll_size _ _
theorem hidT_get {h : Heap} {H : Hp} {b : Addr} {o : Obj} (e : h.get? b = some o) (n : H b = none) : (hidT h H).get? b = some o :=
  PySem.W.hideAll_get _ e fun hm => by
    have q : (H b).isSome = true := (List.mem_filter.mp hm).2
    rw [n] at q; simp at q
theorem of_hidT {h : Heap} {H : Hp} {b : Addr} {o : Obj} (e : (hidT h H).get? b = some o) : h.get? b = some o ∧ H b = none := by
  have e' : h.get? b = some o := PySem.W.of_hideAll (trk h H) e
  refine ⟨e', ?_⟩
  cases q : H b with
  | none => rfl
  | some x =>
    have hm : b ∈ trk h H := List.mem_filter.mpr ⟨List.mem_range.mpr (Heap.lt_size e'), by simp [q]⟩
    have z : (hidT h H).get? b = none := PySem.W.hideAll_none (trk h H) hm
    rw [z] at e; cases e
noncomputable def allNews (g h : Heap) (L : Addr) : List (Addr × Obj) := (List.range h.objs.size).filterMap fun a => if a = L ∨ (g.get? a).isSome = true then none else (h.get? a).map fun o => (a, o)
noncomputable def rest (g h : Heap) (L d : Addr) : List (Addr × Obj) := (allNews g h L).filter fun p => decide (p.1 ≠ d)
structure Mod (K : PySem.W.Frag) (mg : Str → Option Value) (base : Heap) : Prop where
  kin : K.In base
  glob : base.Ns mainGlobals mg
  blt : ∃ mb, base.Ns builtinsNs mb ∧ ∀ x : Str, x ≠ "__name__" → mb x = bootBuiltins x
  nolimit : base.NoLimit
  seer : base.NoSeer
structure Cx where
  prog : Program
  w : World
  K : PySem.W.Frag
  mg : Str → Option Value
  base : Heap
  A : Around
  N : List Str
  s₀ : Shared
  H₀ : Hp
  env : Env
  outer : List Env
  stack : List Env
  ex : List Addr
  fn : Str → Bool
  calm : Bool
  pn : List (Addr × Obj)
  xe : Value → Shared → Prop
def frs (l : List Env) : List Addr := l.filterMap (·.frame)
abbrev Cx.fs (X : Cx) : List Addr := frs X.outer
noncomputable def Vis (sc : Scope) (x : Str) : Prop := sc.names.lookup x = some .local ∨ sc.names.lookup x = some .cell ∨ sc.names.lookup x = some .free
noncomputable def Loc (sc : Scope) (x : Str) : Prop := sc.names.lookup x = some .local ∨ sc.names.lookup x = some .cell
noncomputable def Look (env : Env) (h : Heap) (m : Str → Option Value) (x : Str) (u : Value) : Prop :=
  (env.kindOf x = some .local ∧ m x = some u) ∨ ((env.kindOf x = some .cell ∨ env.kindOf x = some .free) ∧ ∃ c, env.cells.lookup x = some c ∧ h.IsCell c (some u))
structure Cx.Ok (X : Cx) : Prop where
  mod : Mod X.K X.mg X.base
  kind : X.env.scope.kind = .function
  glob : X.env.globals = mainGlobals
  blt : X.env.builtins = builtinsNs
  above : X.s₀.heap.objs.size ≤ X.env.locals
  inj : ∀ x y c, X.env.cells.lookup x = some c → X.env.cells.lookup y = some c → x = y
  has : ∀ x, (X.env.kindOf x = some .cell ∨ X.env.kindOf x = some .free) → ∃ c, X.env.cells.lookup x = some c
  cab : ∀ x c, X.fn x = true → X.env.cells.lookup x = some c → X.s₀.heap.objs.size ≤ c
  hd : X.calm = true → X.A.handled = none
  frames : X.A.frames = some X.stack
  stk : X.stack = X.outer ∨ (X.stack = X.env :: X.outer ∧ X.env.frame = some X.env.locals)
  exf : ∀ b ∈ X.ex, b ≠ X.env.locals ∧ ∀ x c, X.env.cells.lookup x = some c → c ≠ b
  bs : ∀ b o, X.base.get? b = some o → X.s₀.heap.get? b = some o ∧ X.H₀ b = none
  bsz : X.base.objs.size ≤ X.s₀.heap.objs.size
  noex : ∀ b o, X.base.get? b = some o → b ∉ X.ex
  exfs : ∀ b ∈ X.ex, b ∉ X.fs
  funs : X.s₀.heap.FunFrames X.base X.outer
  frf : ∀ b ∈ X.fs, X.H₀ b = none
structure Inv (X : Cx) (pins : List (Addr × Obj)) (σ : List (Option V)) (H : Hp) (s : Shared) : Prop where
  ok : X.Ok
  os : s.os = X.s₀.os
  bare : AllBare s.gens
  base : Un X.fs X.ex X.H₀ H X.s₀.heap s.heap
  loc : ∃ m, s.heap.Ns X.env.locals m ∧ ∀ (i : Nat) (x : Str) (v : V), X.N[i]? = some x → σ[i]? = some (some v) → Vis X.env.scope x → ∃ u, RelV v u ∧ Look X.env s.heap m x u
  cell : ∀ x c, X.env.cells.lookup x = some c → ∃ v, s.heap.IsCell c v
  free : H X.env.locals = none
  freeC : ∀ x c, X.env.cells.lookup x = some c → H c = none
  pin : ∀ p ∈ X.pn ++ pins, s.heap.get? p.1 = some p.2 ∧ H p.1 = none ∧ p.1 ≠ X.env.locals ∧ p.1 ∉ X.fs ∧ ∀ v, p.2.data ≠ .cell v
  hok : HOk X.prog X.w H s.heap
  len : σ.length = X.N.length
section
variable {X : Cx} {pins : List (Addr × Obj)} {σ : List (Option V)} {H H' : Hp} {s : Shared} {h' : Heap}
theorem Cx.Ok.nofr (ok : X.Ok) {b : Addr} {o : Obj} (e : X.base.get? b = some o) : b ∉ X.fs := fun hb => by
  have := (ok.funs.mem hb).1
  rw [e] at this; cases this
theorem Inv.bs (I : Inv X pins σ H s) : ∀ b o, X.base.get? b = some o → s.heap.get? b = some o ∧ H b = none := fun b o e =>
  ⟨I.base.keep b o (I.ok.bs b o e).1 (I.ok.bs b o e).2 (I.ok.nofr e) (I.ok.noex b o e), I.base.free b o (I.ok.bs b o e).1 (I.ok.bs b o e).2 (I.ok.noex b o e)⟩
theorem Inv.bk (I : Inv X pins σ H s) : ∀ b o, X.base.get? b = some o → s.heap.get? b = some o := fun b o e => (I.bs b o e).1
theorem Inv.mod (I : Inv X pins σ H s) : Mod X.K X.mg X.base := I.ok.mod
theorem Inv.kIn (I : Inv X pins σ H s) : X.K.In s.heap := I.ok.mod.kin.keeps I.bk
theorem Inv.nolimit (I : Inv X pins σ H s) : s.heap.NoLimit := I.ok.mod.nolimit.keeps I.bk
theorem Inv.fr (I : Inv X pins σ H s) : ∃ m, Fr X.base X.env.locals s.heap m :=
  let ⟨m, hn, _⟩ := I.loc
  ⟨m, hn, I.bk, Nat.le_trans I.ok.bsz I.ok.above⟩
theorem Inv.lt (I : Inv X pins σ H s) : X.env.locals < s.heap.objs.size := let ⟨_, hn, _⟩ := I.loc; hn.lt
theorem Inv.sz (I : Inv X pins σ H s) : X.s₀.heap.objs.size ≤ s.heap.objs.size := Nat.le_trans I.ok.above (Nat.le_of_lt I.lt)
theorem Inv.nofs (I : Inv X pins σ H s) {a : Addr} (h : s.heap.objs.size ≤ a) : a ∉ X.fs := fun hb => by
  obtain ⟨_, o, ho, _⟩ := I.ok.funs.mem hb
  exact absurd (Nat.lt_of_lt_of_le (Heap.lt_size ho) (Nat.le_trans I.sz h)) (Nat.lt_irrefl _)
theorem Inv.cne (I : Inv X pins σ H s) : ∀ x c, X.env.cells.lookup x = some c → c ≠ X.env.locals := fun x c e z => by
  obtain ⟨v, o, ho, hd⟩ := I.cell x c e
  obtain ⟨m, ⟨o', es, ep, ho', hd', _⟩, _⟩ := I.loc
  rw [z, ho'] at ho; cases ho; rw [hd'] at hd; cases hd
theorem Inv.funs (I : Inv X pins σ H s) : s.heap.FunFrames X.base X.outer := by
  have all : ∀ (l : List Env), (∀ b ∈ frs l, b ∈ X.fs) → X.s₀.heap.FunFrames X.base l → s.heap.FunFrames X.base l := by
    intro l
    induction l with
    | nil => intro _ _; trivial
    | cons env r ih =>
      intro hs hl
      obtain ⟨hk, ⟨L, o, hf, hn, ho, hd⟩, hr⟩ := hl
      have hL : L ∈ X.fs := hs L (by unfold frs; rw [List.filterMap_cons, hf]; exact List.mem_cons_self)
      obtain ⟨sl, e⟩ := I.base.slot L o ho (I.ok.frf L hL) hL fun z => I.ok.exfs L z hL
      exact ⟨hk, ⟨L, _, hf, hn, e, hd⟩, ih (fun b hb => hs b (by unfold frs; rw [List.filterMap_cons, hf]; exact List.mem_cons_of_mem _ hb)) hr⟩
  exact all X.outer (fun _ hb => hb) I.ok.funs
theorem Inv.stack (I : Inv X pins σ H s) : s.heap.FunFrames X.base X.stack := by
  rcases I.ok.stk with e | ⟨e, hf⟩
  · rw [e]; exact I.funs
  · rw [e]
    obtain ⟨m, hn, _⟩ := I.loc
    refine .cons (by rw [I.ok.kind]; decide) hf hn ?_ I.funs
    exact Heap.get?_none_of_le (Nat.le_trans I.ok.bsz I.ok.above)
theorem Inv.stkSub (I : Inv X pins σ H s) : ∀ b ∈ frs X.stack, b ∈ X.env.locals :: X.fs := fun b hb => by
  rcases I.ok.stk with e | ⟨e, hf⟩
  · rw [e] at hb; exact List.mem_cons_of_mem _ hb
  · rw [e] at hb
    unfold frs at hb
    rw [List.filterMap_cons, hf] at hb
    exact hb
theorem Inv.stkFree (I : Inv X pins σ H s) : ∀ b ∈ frs X.stack, H b = none := fun b hb => by
  rcases List.mem_cons.mp (I.stkSub b hb) with e | hb
  · rw [e]; exact I.free
  · obtain ⟨_, o, ho, _⟩ := I.ok.funs.mem hb
    exact I.base.free b o ho (I.ok.frf b hb) fun z => I.ok.exfs b z hb
theorem Inv.step {g' : Array GenState} {t' : Nat} {d' : Drawn} {ch : List Addr} (I : Inv X pins σ H s)
    (hch : ∀ b ∈ ch, (b ∈ X.ex ∨ X.s₀.heap.objs.size ≤ b) ∧ b ≠ X.env.locals ∧ (∀ x c, X.env.cells.lookup x = some c → c ≠ b) ∧ ∀ p ∈ X.pn ++ pins, p.1 ≠ b)
    (keep : ∀ b o, b ≠ X.env.locals → b ∉ X.fs → b ∉ ch → s.heap.get? b = some o → H b = none → h'.get? b = some o)
    (slot : ∀ b o, b ≠ X.env.locals → b ∈ X.fs → b ∉ ch → s.heap.get? b = some o → H b = none → ∃ sl, h'.get? b = some { o with slots := sl }) (free : ∀ b o, b ∉ ch → s.heap.get? b = some o → H b = none → H' b = none)
    (there : ∀ b o, b ∉ ch → s.heap.get? b = some o → ∃ o', h'.get? b = some o')
    (tups : ∀ b xs, H b = some (.tup xs) → H' b = some (.tup xs)) (frzs : ∀ b o u, H b = some (.frz o u) → H' b = some (.frz o u)) (tbls : ∀ b ps, H b = some (.tbl ps) → ∃ more, H' b = some (.tbl (ps ++ more)))
    (ns : ∀ m, s.heap.Ns X.env.locals m → h'.Ns X.env.locals m) (hok : HOk X.prog X.w H' h') (hg : AllBare g') :
    Inv X pins σ H' { s with heap := h', gens := g', drawn := d', toks := t' } := by
  have neL : ∀ b o, X.s₀.heap.get? b = some o → b ≠ X.env.locals := fun b o e => Nat.ne_of_lt (Nat.lt_of_lt_of_le (Heap.lt_size e) I.ok.above)
  have neC : ∀ b o, X.s₀.heap.get? b = some o → b ∉ X.ex → b ∉ ch := fun b o e hx hb => by
    rcases (hch b hb).1 with z | z
    · exact hx z
    · exact absurd (Nat.lt_of_lt_of_le (Heap.lt_size e) z) (Nat.lt_irrefl _)
  have cellK : ∀ x c, X.env.cells.lookup x = some c → ∀ v, s.heap.IsCell c v → h'.IsCell c v := fun x c e v ⟨o, ho, hd⟩ => by
    have nch : c ∉ ch := fun z => (hch c z).2.2.1 x c e rfl
    by_cases hc : c ∈ X.fs
    · obtain ⟨sl, q⟩ := slot c o (I.cne x c e) hc nch ho (I.freeC x c e)
      exact ⟨_, q, hd⟩
    · exact ⟨o, keep c o (I.cne x c e) hc nch ho (I.freeC x c e), hd⟩
  refine ⟨I.ok, I.os, hg, ⟨fun b o e n hb hx => ?_, fun b o e n hb hx => ?_, fun b o e n hx => ?_, fun b o e hx => ?_, fun b xs e => tups b xs (I.base.tups b xs e), fun b o xs e => frzs b o xs (I.base.frzs b o xs e), fun b ps e => ?_⟩, ?_, fun x c e => ?_, ?_, fun x c e => ?_, fun p hp => ?_, hok, I.len⟩
  · exact keep b o (neL b o e) hb (neC b o e hx) (I.base.keep b o e n hb hx) (I.base.free b o e n hx)
  · obtain ⟨sl, e1⟩ := I.base.slot b o e n hb hx
    obtain ⟨sl', e2⟩ := slot b _ (neL b o e) hb (neC b o e hx) e1 (I.base.free b o e n hx)
    exact ⟨sl', e2⟩
  · obtain ⟨o', e1⟩ := I.base.there b o e hx
    exact free b o' (neC b o e hx) e1 (I.base.free b o e n hx)
  · obtain ⟨o', e1⟩ := I.base.there b o e hx
    exact there b o' (neC b o e hx) e1
  · obtain ⟨m1, e1⟩ := I.base.tbls b ps e
    obtain ⟨m2, e2⟩ := tbls b _ e1
    exact ⟨m1 ++ m2, by rw [e2, Array.append_assoc]⟩
  · obtain ⟨m, hn, hl⟩ := I.loc
    refine ⟨m, ns m hn, fun i x v e1 e2 e3 => ?_⟩
    obtain ⟨u, r, l⟩ := hl i x v e1 e2 e3
    refine ⟨u, r, ?_⟩
    rcases l with l | ⟨k, c, e, z⟩
    · exact .inl l
    · exact .inr ⟨k, c, e, cellK x c e _ z⟩
  · obtain ⟨v, z⟩ := I.cell x c e
    exact ⟨v, cellK x c e v z⟩
  · obtain ⟨m, ⟨o, _, _, ho, _⟩, _⟩ := I.loc
    exact free _ o (fun z => (hch _ z).2.1 rfl) ho I.free
  · obtain ⟨v, o, ho, hd⟩ := I.cell x c e
    exact free c o (fun z => (hch c z).2.2.1 x c e rfl) ho (I.freeC x c e)
  · obtain ⟨e, n, ne, nf, d⟩ := I.pin p hp
    have nch : p.1 ∉ ch := fun z => (hch p.1 z).2.2.2 p hp rfl
    exact ⟨keep p.1 p.2 ne nf nch e n, free p.1 p.2 nch e n, ne, nf, d⟩
theorem Inv.un {t' : Nat} (I : Inv X pins σ H s) (u : Un X.fs [] H H' s.heap h') (hok : HOk X.prog X.w H' h') : Inv X pins σ H' { s with heap := h', toks := t' } := by
  obtain ⟨m, ⟨o, es, ep, ho, r⟩, _⟩ := id I.loc
  obtain ⟨sl, hL⟩ := u.any ho I.free (by simp)
  exact I.step (g' := s.gens) (d' := s.drawn) (ch := []) (fun _ z => nomatch z) (fun b o _ hb _ e n => u.keep b o e n hb (by simp)) (fun b o _ hb _ e n => u.slot b o e n hb (by simp)) (fun b o _ e n => u.free b o e n (by simp)) (fun b o _ e => u.there b o e (by simp)) u.tups u.frzs u.tbls (fun m' hm => by
    obtain ⟨o', es', ep', ho', r'⟩ := hm
    rw [ho] at ho'; cases ho'
    exact ⟨_, es', ep', hL, r'⟩) hok I.bare
theorem Inv.call {g' : Array GenState} {t' : Nat} {d' : Drawn} {ch : List Addr} (I : Inv X pins σ H s) (u : Un (frs X.stack) ch H H' s.heap h') (hok : HOk X.prog X.w H' h') (hg : AllBare g')
    (hch : ∀ b ∈ ch, (b ∈ X.ex ∨ X.s₀.heap.objs.size ≤ b) ∧ b ≠ X.env.locals ∧ (∀ x c, X.env.cells.lookup x = some c → c ≠ b) ∧ ∀ p ∈ X.pn ++ pins, p.1 ≠ b) :
    Inv X pins σ H' { s with heap := h', gens := g', drawn := d', toks := t' } := by
  obtain ⟨m, ⟨o, es, ep, ho, r⟩, _⟩ := id I.loc
  obtain ⟨sl, hL⟩ := u.any ho I.free fun z => (hch _ z).2.1 rfl
  exact I.step (ch := ch) hch (fun b o hL hb hc e n => u.keep b o e n (fun z => (List.mem_cons.mp (I.stkSub b z)).elim hL hb) hc) (fun b o _ _ hc e n => u.any e n hc) (fun b o hc e n => u.free b o e n hc) (fun b o hc e => u.there b o e hc) u.tups u.frzs u.tbls (fun m' hm => by
    obtain ⟨o', es', ep', ho', r'⟩ := hm
    rw [ho] at ho'; cases ho'
    exact ⟨_, es', ep', hL, r'⟩) hok hg
theorem Inv.turned {t' : Nat} {it : Addr} (I : Inv X pins σ H s) (k : ∀ b o, b ≠ it → s.heap.get? b = some o → h'.get? b = some o) (hn : H it = none) (hL : it ≠ X.env.locals)
    (h1 : it ∈ X.ex ∨ X.s₀.heap.objs.size ≤ it) (h2 : ∀ x c, X.env.cells.lookup x = some c → c ≠ it) (h3 : ∀ p ∈ X.pn ++ pins, p.1 ≠ it) : Inv X pins σ H { s with heap := h', toks := t' } := by
  have nit : ∀ b u, H b = some u → b ≠ it := fun b u e z => by rw [z, hn] at e; cases e
  refine I.step (g' := s.gens) (d' := s.drawn) (ch := [it]) (fun b hb => ?_) (fun b o _ _ hc e _ => k b o (fun z => hc (by simp [z])) e) (fun b o _ _ hc e _ => ⟨o.slots, k b o (fun z => hc (by simp [z])) e⟩) (fun _ _ _ _ n => n)
    (fun b o hc e => ⟨o, k b o (fun z => hc (by simp [z])) e⟩) (fun _ _ e => e) (fun _ _ _ e => e) (fun b ps e => ⟨#[], by rw [e]; simp⟩) (fun m hm => ?_) (fun b u e => ?_) I.bare
  · have e : b = it := by simpa using hb
    subst e
    exact ⟨h1, hL, h2, h3⟩
  · obtain ⟨o, es, ep, ho, r⟩ := hm
    exact ⟨o, es, ep, k _ o (Ne.symm hL) ho, r⟩
  · refine (I.hok b u e).stay (fun c v hc q => k c v ?_ q) (fun _ q => q) fun _ _ q => q
    rcases hc with z | z
    · rw [z]; exact nit b u e
    · exact nit c _ z
theorem Inv.tok (I : Inv X pins σ H s) (t : Nat) : Inv X pins σ H { s with toks := t } := I.un (h' := s.heap) (t' := t) Un.refl I.hok
theorem Inv.kept {t' : Nat} (I : Inv X pins σ H s) (k : ∀ b u, s.heap.get? b = some u → h'.get? b = some u) : Inv X pins σ H { s with heap := h', toks := t' } := I.un (Un.kept k) (I.hok.kept k)
theorem Inv.laid {a : Addr} {o : HO} {t' : Nat} (I : Inv X pins σ H s) (k : ∀ b u, s.heap.get? b = some u → h'.get? b = some u) (hp : s.heap.objs.size ≤ a) (new : ObjOk X.prog X.w (upd H a o) h' a o) :
    Inv X pins σ (upd H a o) { s with heap := h', toks := t' } := I.un (Un.laid k hp (I.hok.fresh hp)) (I.hok.laid k hp new)
theorem Inv.write {x e : Addr} {o : HO} {t' : Nat} (I : Inv X pins σ H s) (mu : Mut (H x)) (he : e = x ∨ H e = some (.own x)) (k : ∀ b u, b ≠ e → s.heap.get? b = some u → h'.get? b = some u) (heo : ∃ u, h'.get? e = some u)
    (new : ObjOk X.prog X.w (upd H x o) h' x o) : Inv X pins σ (upd H x o) { s with heap := h', toks := t' } := I.un (Un.write mu he k heo) (I.hok.write mu he k heo new)
theorem Inv.weak {σ' : List (Option V)} (I : Inv X pins σ H s) (hl : σ'.length = σ.length) (w : ∀ (i : Nat) v, σ'[i]? = some (some v) → σ[i]? = some (some v)) : Inv X pins σ' H s :=
  ⟨I.ok, I.os, I.bare, I.base, let ⟨m, hn, hl'⟩ := I.loc; ⟨m, hn, fun i x v e1 e2 e3 => hl' i x v e1 (w i v e2) e3⟩, I.cell, I.free, I.freeC, I.pin, I.hok, hl.trans I.len⟩
theorem Inv.pins_of {pins' : List (Addr × Obj)} (I : Inv X pins σ H s) (h : ∀ p ∈ pins', s.heap.get? p.1 = some p.2 ∧ H p.1 = none ∧ p.1 ≠ X.env.locals ∧ p.1 ∉ X.fs ∧ ∀ v, p.2.data ≠ .cell v) : Inv X pins' σ H s :=
  ⟨I.ok, I.os, I.bare, I.base, I.loc, I.cell, I.free, I.freeC, fun p hp => (List.mem_append.mp hp).elim (fun z => I.pin p (List.mem_append_left _ z)) (h p), I.hok, I.len⟩
theorem nodup_ix {N : List Str} (hN : N.Nodup) {i j : Nat} {x : Str} (a : N[i]? = some x) (b : N[j]? = some x) : i = j := by
  obtain ⟨h1, e1⟩ := List.getElem?_eq_some_iff.mp a
  obtain ⟨h2, e2⟩ := List.getElem?_eq_some_iff.mp b
  exact (List.getElem_inj hN).mp (e1.trans e2.symm)
theorem store_ok2 {M : Model} {A : Around} {E : Value → Shared → Prop} {i : Nat} {x : Str} {v : V} {u : Value} {Q : Unit → Shared → Prop} (I : Inv X pins σ H s) (hN : X.N.Nodup) (hi : X.N[i]? = some x) (hx : Loc X.env.scope x) (r : RelV v u)
    (h : ∀ s', Inv X pins (σ.set i (some v)) H s' → (∃ a, Heap.SameBut a s.heap s'.heap ∧ (a = X.env.locals ∨ X.env.cells.lookup x = some a)) → Q () s') (hf : X.fn x = true ∨ X.env.scope.names.lookup x = some .local := by first | exact .inl rfl | exact .inr rfl | assumption) : wpAny M A (storeName X.env x u) Q E s := by
  obtain ⟨m, hn, hl⟩ := id I.loc
  have hcls : (X.env.scope.kind == .class || (X.env.scope.kind == .module && X.env.locals != X.env.globals)) = false := by rw [I.ok.kind]; rfl
  have hiσ : i < σ.length := by rw [I.len]; exact (List.getElem?_eq_some_iff.mp hi).1
  have cne := I.cne
  have tracked : ∀ {a : Addr} {h' : Heap}, (∃ o, s.heap.get? a = some o ∧ H a = none) → Heap.SameBut a s.heap h' → HOk X.prog X.w H h' := fun {a h'} ha hs b ob e => by
    obtain ⟨_, _, hfree⟩ := ha
    refine (I.hok b ob e).stay (fun c w' hc q => (hs.2 c ?_).trans q) (fun _ q => q) fun _ _ q => q
    rintro rfl
    rcases hc with rfl | hc
    · rw [hfree] at e; cases e
    · rw [hfree] at hc; cases hc
  rcases hx with hk | hk
  · refine wpAny_storeName_local hk hn (fun h' hn' hs => ?_) hcls
    obtain ⟨oL, _, _, hoL, _⟩ := id hn
    refine h _ ⟨I.ok, I.os, I.bare, ⟨fun b o e n hb hx => ?_, fun b o e n hb hx => ?_, I.base.free, fun b o e hx => ?_, I.base.tups, I.base.frzs, I.base.tbls⟩, ⟨_, hn', fun j y v' e1 e2 e3 => ?_⟩, fun y c e => ?_, I.free, I.freeC, fun p hp => ?_, tracked ⟨oL, hoL, I.free⟩ hs, by simpa using I.len⟩ ⟨_, hs, .inl rfl⟩
    · exact (hs.2 b (Nat.ne_of_lt (Nat.lt_of_lt_of_le (Heap.lt_size e) I.ok.above))).trans (I.base.keep b o e n hb hx)
    · obtain ⟨sl, e1⟩ := I.base.slot b o e n hb hx
      exact ⟨sl, (hs.2 b (Nat.ne_of_lt (Nat.lt_of_lt_of_le (Heap.lt_size e) I.ok.above))).trans e1⟩
    · obtain ⟨o', e1⟩ := I.base.there b o e hx
      exact ⟨o', (hs.2 b (Nat.ne_of_lt (Nat.lt_of_lt_of_le (Heap.lt_size e) I.ok.above))).trans e1⟩
    · by_cases hj : j = i
      · subst hj
        rw [hi] at e1; cases e1
        rw [List.getElem?_set_self hiσ] at e2
        cases e2
        exact ⟨u, r, .inl ⟨hk, by simp⟩⟩
      · rw [List.getElem?_set_ne (Ne.symm hj)] at e2
        obtain ⟨u', r', q⟩ := hl j y v' e1 e2 e3
        refine ⟨u', r', ?_⟩
        rcases q with ⟨k, e⟩ | ⟨k, c, e, z⟩
        · refine .inl ⟨k, ?_⟩
          have : y ≠ x := fun e => hj (nodup_ix hN e1 (e ▸ hi))
          simp [this, e]
        · exact .inr ⟨k, c, e, z.sameBut hs (cne y c e)⟩
    · obtain ⟨w', z⟩ := I.cell y c e
      exact ⟨w', z.sameBut hs (cne y c e)⟩
    · obtain ⟨e, n, ne, nf, d⟩ := I.pin p hp
      exact ⟨(hs.2 p.1 ne).trans e, n, ne, nf, d⟩
  · have hfn : X.fn x = true := by
      rcases hf with z | z
      · exact z
      · rw [z] at hk; cases hk
    obtain ⟨c, hc⟩ := I.ok.has x (.inl hk)
    obtain ⟨w', z⟩ := I.cell x c hc
    refine wpAny_storeName_cell I.ok.kind hk hc z (fun h' hc' hs => ?_)
    obtain ⟨oc, hoc, hocd⟩ := id z
    refine h { s with heap := h' } ⟨I.ok, I.os, I.bare, ⟨fun b o e n hb hx => ?_, fun b o e n hb hx => ?_, I.base.free, fun b o e hx => ?_, I.base.tups, I.base.frzs, I.base.tbls⟩, ⟨m, hn.sameBut hs (Ne.symm (cne x c hc)), fun j y v' e1 e2 e3 => ?_⟩, fun y c' e => ?_, I.free, I.freeC, fun p hp => ?_, tracked ⟨oc, hoc, I.freeC x c hc⟩ hs, by simpa using I.len⟩ ⟨c, hs, .inr hc⟩
    · exact (hs.2 b (Nat.ne_of_lt (Nat.lt_of_lt_of_le (Heap.lt_size e) (I.ok.cab x c hfn hc)))).trans (I.base.keep b o e n hb hx)
    · obtain ⟨sl, e1⟩ := I.base.slot b o e n hb hx
      exact ⟨sl, (hs.2 b (Nat.ne_of_lt (Nat.lt_of_lt_of_le (Heap.lt_size e) (I.ok.cab x c hfn hc)))).trans e1⟩
    · obtain ⟨o', e1⟩ := I.base.there b o e hx
      exact ⟨o', (hs.2 b (Nat.ne_of_lt (Nat.lt_of_lt_of_le (Heap.lt_size e) (I.ok.cab x c hfn hc)))).trans e1⟩
    · by_cases hj : j = i
      · subst hj
        rw [hi] at e1; cases e1
        rw [List.getElem?_set_self hiσ] at e2
        cases e2
        exact ⟨u, r, .inr ⟨.inl hk, c, hc, hc'⟩⟩
      · rw [List.getElem?_set_ne (Ne.symm hj)] at e2
        obtain ⟨u', r', q⟩ := hl j y v' e1 e2 e3
        refine ⟨u', r', ?_⟩
        rcases q with q | ⟨k, c', e, z'⟩
        · exact .inl q
        · refine .inr ⟨k, c', e, z'.sameBut hs ?_⟩
          rintro rfl
          exact hj (nodup_ix hN e1 (I.ok.inj _ _ _ e hc ▸ hi))
    · by_cases hcc : c' = c
      · subst hcc; exact ⟨_, hc'⟩
      · obtain ⟨w2, z2⟩ := I.cell y c' e
        exact ⟨w2, z2.sameBut hs hcc⟩
    · obtain ⟨e, n, ne, nf, d⟩ := I.pin p hp
      refine ⟨(hs.2 p.1 ?_).trans e, n, ne, nf, d⟩
      intro q
      rw [q, hoc] at e
      have q' : oc = p.2 := Option.some.inj e
      exact d w' (by rw [← q']; exact hocd)
theorem store_ok {M : Model} {A : Around} {E : Value → Shared → Prop} {i : Nat} {x : Str} {v : V} {u : Value} {Q : Unit → Shared → Prop} (I : Inv X pins σ H s) (hN : X.N.Nodup) (hi : X.N[i]? = some x) (hx : Loc X.env.scope x) (r : RelV v u)
    (h : ∀ s', Inv X pins (σ.set i (some v)) H s' → Q () s') (hf : X.fn x = true ∨ X.env.scope.names.lookup x = some .local := by first | exact .inl rfl | exact .inr rfl | assumption) : wpAny M A (storeName X.env x u) Q E s :=
  store_ok2 I hN hi hx r (fun s' I' _ => h s' I') hf
theorem Inv.call' {s' : Shared} {ch : List Addr} (I : Inv X pins σ H s) (ho : s'.os = s.os) (u : Un (frs X.stack) ch H H' s.heap s'.heap) (hok : HOk X.prog X.w H' s'.heap) (hg : AllBare s'.gens)
    (hch : ∀ b ∈ ch, (b ∈ X.ex ∨ X.s₀.heap.objs.size ≤ b) ∧ b ≠ X.env.locals ∧ (∀ x c, X.env.cells.lookup x = some c → c ≠ b) ∧ ∀ p ∈ X.pn ++ pins, p.1 ≠ b) : Inv X pins σ H' s' := by
  obtain ⟨h', g', d', t', o'⟩ := s'
  have e : o' = s.os := ho
  subst e
  exact I.call (g' := g') (t' := t') (d' := d') u hok hg hch
end
abbrev XK := Value → Option Addr → Hp → Prop
abbrev St := List (Option V)
abbrev VK := V → Hp → Prop
abbrev TE := St → Hp → VK → Prop
abbrev TT := St → Hp → (Bool → Hp → Prop) → Prop
abbrev TA := St → Hp → (List V → Hp → Prop) → Prop
structure Ends where
  nx : St → Hp → Prop
  rt : VK
  bk : St → Hp → Prop := fun _ _ => False
  ct : St → Hp → Prop := fun _ _ => False
abbrev TS := Ends → St → Hp → Prop
noncomputable def EP (X : Cx) (pins : List (Addr × Obj)) (σ : St) (Q : VK) (u : Value) (s' : Shared) : Prop := ∃ v H', Inv X pins σ H' s' ∧ RelV v u ∧ Q v H'
noncomputable def TP (X : Cx) (pins : List (Addr × Obj)) (σ : St) (Q : Bool → Hp → Prop) (b : Bool) (s' : Shared) : Prop := ∃ H', Inv X pins σ H' s' ∧ Q b H'
noncomputable def AP (X : Cx) (pins : List (Addr × Obj)) (σ : St) (Q : List V → Hp → Prop) (us : List Value) (s' : Shared) : Prop := ∃ vs H', Inv X pins σ H' s' ∧ Vals vs us ∧ Q vs H'
noncomputable def SP (X : Cx) (pins : List (Addr × Obj)) (D : Ends) (f : Flow) (s' : Shared) : Prop :=
  match f with
  | .next => ∃ σ' H', Inv X pins σ' H' s' ∧ D.nx σ' H'
  | .brk => ∃ σ' H', Inv X pins σ' H' s' ∧ D.bk σ' H'
  | .cont => ∃ σ' H', Inv X pins σ' H' s' ∧ D.ct σ' H'
  | .ret u => ∃ v σ' H', Inv X pins σ' H' s' ∧ RelV v u ∧ D.rt v H'
noncomputable def PE (X : Cx) (e : Expr) (t : TE) : Prop :=
  ∀ (pins : List (Addr × Obj)) (s : Shared) (σ : St) (H : Hp) (Q : VK), Inv X pins σ H s → t σ H Q → wpAny (model X.prog X.w) X.A (eval e X.env) (EP X pins σ Q) X.xe s
noncomputable def PT (X : Cx) (e : Expr) (t : TT) : Prop :=
  ∀ (pins : List (Addr × Obj)) (s : Shared) (σ : St) (H : Hp) (Q : Bool → Hp → Prop), Inv X pins σ H s → t σ H Q → wpAny (model X.prog X.w) X.A (isTrue e X.env (eval e X.env)) (TP X pins σ Q) X.xe s
noncomputable def PW (X : Cx) (e : Expr) (t : TT) : Prop :=
  ∀ (whole : Sem Value) (pins : List (Addr × Obj)) (s : Shared) (σ : St) (H : Hp) (Q : Bool → Hp → Prop), Inv X pins σ H s → t σ H Q → wpAny (model X.prog X.w) X.A (isTrue e X.env whole) (TP X pins σ Q) X.xe s
theorem PW.pt {X : Cx} {e : Expr} {t : TT} (h : PW X e t) : PT X e t := h _
noncomputable def PA (X : Cx) (es : List Expr) (t : TA) : Prop :=
  ∀ (pos : Pos) (pins : List (Addr × Obj)) (s : Shared) (σ : St) (H : Hp) (Q : List V → Hp → Prop), Inv X pins σ H s → t σ H Q → wpAny (model X.prog X.w) X.A (spliced (backTo pos (starEach es X.env))) (AP X pins σ Q) X.xe s
noncomputable def PS (X : Cx) (st : Stmt) (t : TS) : Prop :=
  ∀ (pins : List (Addr × Obj)) (s : Shared) (σ : St) (H : Hp) (D : Ends), Inv X pins σ H s → t D σ H → wpAny (model X.prog X.w) X.A (exec st X.env) (SP X pins D) X.xe s
noncomputable def PSs (X : Cx) (st : List Stmt) (t : TS) : Prop :=
  ∀ (pins : List (Addr × Obj)) (s : Shared) (σ : St) (H : Hp) (D : Ends), Inv X pins σ H s → t D σ H → wpAny (model X.prog X.w) X.A (execs st X.env) (SP X pins D) X.xe s
theorem thn {α : Type} {t : Sem α} {Q Q' : α → Shared → Prop} {M : Model} {A : Around} {E : Value → Shared → Prop} {s : Shared} (h : wpAny M A t Q E s) (hQ : ∀ a s, Q a s → Q' a s) : wpAny M A t Q' E s := wpAny_mono h hQ fun _ _ x => x
section
variable {X : Cx}
noncomputable def tVar (i : Nat) : TE := fun σ H Q => ∃ v, σ[i]? = some (some v) ∧ Q v H
noncomputable def tC (v : V) : TE := fun _ H Q => Q v H
theorem pe_var {i : Nat} {x : Str} {pos : Pos} (hN : X.N[i]? = some x) (hv : Vis X.env.scope x) (hd : (x == ("__debug__" : Str)) = false := by decide) (hcd : (x == ("__classdict__" : Str)) = false := by decide) : PE X (.Name x pos) (tVar i) := by
  intro pins s σ H Q I h
  obtain ⟨v, e, h⟩ := h
  obtain ⟨m, hn, hl⟩ := I.loc
  obtain ⟨u, r, l⟩ := hl i x v hN e hv
  have fin : EP X pins σ Q u s := ⟨v, H, I, r, h⟩
  rcases l with ⟨hk, hm⟩ | ⟨hk, c, hc, hcell⟩
  · exact wpAny_Name (wpAny_loadName_local I.ok.kind hk hn hm fin) hd
  · rcases hk with hk | hk
    · exact wpAny_Name (wpAny_loadName_cell I.ok.kind hk hc hcell fin) hd
    · exact wpAny_Name (wpAny_loadName_free I.ok.kind hk hc hcell fin hcd) hd
theorem pe_int {i j pos} : PE X (.Constant (.int i) j pos) (tC (.int i)) := fun _ _ _ H _ I h => wpAny_Constant_int ⟨.int i, H, I.tok _, ⟨_, rfl⟩, h⟩
theorem pe_bl {b j pos} : PE X (.Constant (.bool b) j pos) (tC (.bl b)) := fun _ _ _ H _ I h => Constant_bool ⟨.bl b, H, I, rfl, h⟩
theorem pe_non {j pos} : PE X (.Constant .none j pos) (tC .non) := fun _ _ _ H _ I h => Constant_none ⟨.non, H, I, rfl, h⟩
theorem pe_str {x j pos} : PE X (.Constant (.str x) j pos) (tC (.str x)) := fun _ _ _ H _ I h => Calls.Constant_str ⟨.str x, H, I.tok _, ⟨_, rfl⟩, h⟩
noncomputable def Gl (X : Cx) (x : Str) : Prop := X.env.kindOf x = some .globalImplicit
theorem ld_glob {E : Value → Shared → Prop} {pins : List (Addr × Obj)} {s : Shared} {σ : St} {H : Hp} {x : Str} {u : Value} {pos : Pos} {Q : Value → Shared → Prop} (I : Inv X pins σ H s) (hg : Gl X x) (hm : X.mg x = some u) (h : Q u s)
    (hd : (x == ("__debug__" : Str)) = false := by decide) : wpAny (model X.prog X.w) X.A (eval (.Name x pos) X.env) Q E s :=
  Calls.Name_function_global I.ok.kind hg (Calls.loadGlobal_global (by rw [I.ok.glob]; exact I.mod.glob.keeps I.bk) hm h) hd
theorem ld_blt {E : Value → Shared → Prop} {pins : List (Addr × Obj)} {s : Shared} {σ : St} {H : Hp} {x : Str} {u : Value} {pos : Pos} {Q : Value → Shared → Prop} (I : Inv X pins σ H s) (hg : Gl X x) (hm : X.mg x = none) (hv : bootBuiltins x = some u) (h : Q u s)
    (hn : x ≠ "__name__" := by decide) (hd : (x == ("__debug__" : Str)) = false := by decide) : wpAny (model X.prog X.w) X.A (eval (.Name x pos) X.env) Q E s := by
  obtain ⟨mb, h1, h2⟩ := I.mod.blt
  exact Calls.Name_function_global I.ok.kind hg (Calls.loadGlobal_builtin (by rw [I.ok.glob]; exact I.mod.glob.keeps I.bk) hm (by rw [I.ok.blt]; exact h1.keeps I.bk) ((h2 x hn).trans hv) h) hd
theorem pe_glob {x : Str} {v : V} {u : Value} {pos : Pos} (hg : Gl X x) (hm : X.mg x = some u) (r : RelV v u) (hd : (x == ("__debug__" : Str)) = false := by decide) : PE X (.Name x pos) (tC v) :=
  fun _ _ _ H _ I h => ld_glob I hg hm ⟨v, H, I, r, h⟩ hd
theorem pe_bltn {x : Str} {v : V} {u : Value} {pos : Pos} (hg : Gl X x) (hm : X.mg x = none) (hv : bootBuiltins x = some u) (r : RelV v u) (hn : x ≠ "__name__" := by decide) (hd : (x == ("__debug__" : Str)) = false := by decide) : PE X (.Name x pos) (tC v) :=
  fun _ _ _ H _ I h => ld_blt I hg hm hv ⟨v, H, I, r, h⟩ hn hd
variable {a b : Expr} {ta tb : TE} {pos : Pos}
noncomputable def tB (t : TE) : TT := fun σ H Q => t σ H fun x H1 => ∃ c, x = .bl c ∧ Q c H1
theorem pt_val {e : Expr} {t : TE} (h : PE X e t) (he : ∀ whole, isTrue e X.env whole = (do let v ← whole; standAt e.pos; holding [v] (truthy v)) := by intro _; rfl) : PT X e (tB t) := by
  intro pins s σ H Q I hw
  refine isTrue_plain (thn (h pins s σ H _ I hw) fun v s1 ⟨x, H1, I1, r1, q1⟩ => ?_) (he _)
  obtain ⟨d, rfl, q⟩ := q1
  cases r1
  exact wpAny_truthy_bool ⟨H1, I1, q⟩
variable {tA tB' : TT} {rest : List Expr}
noncomputable def tAnd (t u : TT) : TT := fun σ H Q => t σ H fun c H1 => if c = true then u σ H1 Q else Q false H1
noncomputable def tOr (t u : TT) : TT := fun σ H Q => t σ H fun c H1 => if c = true then Q true H1 else u σ H1 Q
noncomputable def tNot (t : TT) : TT := fun σ H Q => t σ H fun c H1 => Q (!c) H1
theorem pw_and1 (ha : PT X a tA) : PW X (.BoolOp .And [a] pos) tA := by
  intro wh pins s σ H Q I h
  refine isTrue_and (thn (ha pins s σ H Q I h) fun c s1 e => ?_)
  cases c with
  | true => exact isTrue_and_nil e
  | false => exact e
theorem pw_or1 (ha : PT X a tA) : PW X (.BoolOp .Or [a] pos) tA := by
  intro wh pins s σ H Q I h
  refine isTrue_or (thn (ha pins s σ H Q I h) fun c s1 e => ?_)
  cases c with
  | false => exact isTrue_or_nil e
  | true => exact e
theorem pw_and (ha : PT X a tA) (hb : PW X (.BoolOp .And (b :: rest) pos) tB') : PW X (.BoolOp .And (a :: b :: rest) pos) (tAnd tA tB') := by
  intro wh pins s σ H Q I h
  refine isTrue_and (thn (ha pins s σ H _ I h) fun c s1 ⟨H1, I1, q1⟩ => ?_)
  cases c with
  | true => exact hb wh pins s1 σ H1 Q I1 q1
  | false => exact ⟨H1, I1, q1⟩
theorem pw_or (ha : PT X a tA) (hb : PW X (.BoolOp .Or (b :: rest) pos) tB') : PW X (.BoolOp .Or (a :: b :: rest) pos) (tOr tA tB') := by
  intro wh pins s σ H Q I h
  refine isTrue_or (thn (ha pins s σ H _ I h) fun c s1 ⟨H1, I1, q1⟩ => ?_)
  cases c with
  | true => exact ⟨H1, I1, q1⟩
  | false => exact hb wh pins s1 σ H1 Q I1 q1
theorem pt_not (ha : PT X a tA) : PT X (.UnaryOp .Not a pos) (tNot tA) := by
  intro pins s σ H Q I h
  exact isTrue_not (ha pins s σ H (fun c H1 => Q (!c) H1) I h)
noncomputable def tAndV (ta tb : TE) : TE := fun σ H Q => ta σ H fun x H1 => ∃ c, x = .bl c ∧ if c = true then tb σ H1 Q else Q (.bl false) H1
noncomputable def tOrV (ta tb : TE) : TE := fun σ H Q => ta σ H fun x H1 => ∃ c, x = .bl c ∧ if c = true then Q (.bl true) H1 else tb σ H1 Q
noncomputable def tNotV (ta : TE) : TE := fun σ H Q => ta σ H fun x H1 => ∃ c, x = .bl c ∧ Q (.bl (!c)) H1
theorem pe_one {op} {t : TE} (h : PE X a t) : PE X (.BoolOp op [a] pos) t := fun pins s σ H Q I hw => BoolOp_one (h pins s σ H Q I hw)
theorem pe_and (ha : PE X a ta) (hb : PE X (.BoolOp .And (b :: rest) pos) tb) : PE X (.BoolOp .And (a :: b :: rest) pos) (tAndV ta tb) := by
  intro pins s σ H Q I h
  refine BoolOp_and (thn (ha pins s σ H _ I h) fun v s1 ⟨x, H1, I1, r1, q1⟩ => ?_)
  obtain ⟨c, rfl, q1⟩ := q1
  cases r1
  refine wpAny_truthy_bool ?_
  cases c with
  | true => exact hb pins s1 σ H1 Q I1 q1
  | false => exact ⟨.bl false, H1, I1, rfl, q1⟩
theorem pe_or (ha : PE X a ta) (hb : PE X (.BoolOp .Or (b :: rest) pos) tb) : PE X (.BoolOp .Or (a :: b :: rest) pos) (tOrV ta tb) := by
  intro pins s σ H Q I h
  refine BoolOp_or (thn (ha pins s σ H _ I h) fun v s1 ⟨x, H1, I1, r1, q1⟩ => ?_)
  obtain ⟨c, rfl, q1⟩ := q1
  cases r1
  refine wpAny_truthy_bool ?_
  cases c with
  | false => exact hb pins s1 σ H1 Q I1 q1
  | true => exact ⟨.bl true, H1, I1, rfl, q1⟩
theorem pe_not (ha : PE X a ta) : PE X (.UnaryOp .Not a pos) (tNotV ta) := by
  intro pins s σ H Q I h
  refine UnaryOp_ (thn (ha pins s σ H _ I h) fun v s1 ⟨x, H1, I1, r1, q1⟩ => ?_)
  obtain ⟨c, rfl, q1⟩ := q1
  cases r1
  exact not_of (wpAny_truthy_bool ⟨.bl (!c), H1, I1, rfl, q1⟩)
noncomputable def tIf (t : TT) (ta tb : TE) : TE := fun σ H Q => t σ H fun c H1 => if c = true then ta σ H1 Q else tb σ H1 Q
theorem pe_ifExp {c : Expr} (hc : PT X c tA) (ha : PE X a ta) (hb : PE X b tb) : PE X (.IfExp c a b pos) (tIf tA ta tb) := by
  intro pins s σ H Q I h
  refine wpAny_IfExp (thn (hc pins s σ H _ I h) fun d s1 ⟨H1, I1, q1⟩ => ?_)
  cases d with
  | true => exact ha pins s1 σ H1 Q I1 q1
  | false => exact hb pins s1 σ H1 Q I1 q1
end
noncomputable def SqL (K : PySem.W.Frag) (H : Hp) (a : Addr) (xs : List V) : Prop :=
  Rd H a (.lst xs) ∨
    ∃ (o : Obj) (its : Array Value) (n : Nat), K.lookup a = some o ∧ o.cls = .type "list" ∧ o.dict = none ∧ o.data = .seq its n ∧ its.size ≤ sizeLine ∧ Vals xs its.toList
noncomputable def SqT (K : PySem.W.Frag) (H : Hp) (a : Addr) (xs : List V) : Prop :=
  Rd H a (.tup xs) ∨
    ∃ (o : Obj) (its : Array Value) (n : Nat), K.lookup a = some o ∧ o.cls = .type "tuple" ∧ o.data = .seq its n ∧ its.size ≤ sizeLine ∧ Vals xs its.toList
noncomputable def absV : Value → Option V
  | .none => some .non
  | .bool b => some (.bl b)
  | .int i _ => some (.int i)
  | .str x _ => some (.str x)
  | .bytes b _ => some (.byt b)
  | .float b _ => some (.flt b)
  | .ref a => some (.ref a)
  | .type n => some (.ty n)
  | _ => none
theorem RelV.abs {x : V} {u : Value} (r : RelV x u) : absV u = some x := by
  cases x with
  | non => cases r; rfl
  | bl _ => cases r; rfl
  | int _ => obtain ⟨t, rfl⟩ := r; rfl
  | str _ => obtain ⟨t, rfl⟩ := r; rfl
  | byt _ => obtain ⟨t, rfl⟩ := r; rfl
  | flt _ => obtain ⟨t, rfl⟩ := r; rfl
  | ref _ => cases r; rfl
  | ty _ => cases r; rfl
theorem RelV.inj {x y : V} {u : Value} (r : RelV x u) (q : RelV y u) : x = y := Option.some.inj (r.abs.symm.trans q.abs)
theorem Vals.inj : ∀ {xs ys : List V} {us : List Value}, Vals xs us → Vals ys us → xs = ys
  | _, _, _, .nil, .nil => rfl
  | _, _, _, .cons r t, .cons r' t' => by rw [r.inj r', Vals.inj t t']
section
variable {X : Cx} {pins : List (Addr × Obj)} {σ : St} {H : Hp} {s : Shared} {a : Addr} {xs ys : List V}
theorem SqL.of {K : PySem.W.Frag} (h : H a = some (.lst xs)) : SqL K H a xs := .inl (.inl h)
theorem SqT.of {K : PySem.W.Frag} (h : H a = some (.tup xs)) : SqT K H a xs := .inl (.inl h)
theorem Inv.list (I : Inv X pins σ H s) (h : SqL X.K H a xs) : ∃ its : List Value, Vals xs its ∧ PlainL s.heap a its.toArray ∧ xs.length ≤ sizeLine := by
  rcases h with h | ⟨o, its, n, hk, hc, hd, hs, hz, r⟩
  · obtain ⟨z, its, n, r, e⟩ := h.ok I.hok
    exact ⟨its, r, ⟨_, n, e, rfl, rfl, rfl⟩, z⟩
  · refine ⟨its.toList, r, ⟨o, n, I.kIn a o hk, hc, hd, by simpa using hs⟩, ?_⟩
    have e := r.length
    simp only [Array.length_toList] at e
    omega
theorem Inv.tuple (I : Inv X pins σ H s) (h : SqT X.K H a xs) : ∃ its : List Value, Vals xs its ∧ IsTup s.heap a its.toArray ∧ xs.length ≤ sizeLine := by
  rcases h with h | ⟨o, its, n, hk, hc, hs, hz, r⟩
  · obtain ⟨z, its, r, p⟩ := h.ok I.hok
    exact ⟨its, r, p, z⟩
  · refine ⟨its.toList, r, ⟨o, I.kIn a o hk, hc, n, by simpa using hs⟩, ?_⟩
    have e := r.length
    simp only [Array.length_toList] at e
    omega
theorem Inv.list_inj (I : Inv X pins σ H s) (h : SqL X.K H a xs) (h' : SqL X.K H a ys) : xs = ys := by
  obtain ⟨its, r, ⟨o, n, e, _, _, d⟩, _⟩ := I.list h
  obtain ⟨its', r', ⟨o', n', e', _, _, d'⟩, _⟩ := I.list h'
  rw [e] at e'; cases e'
  rw [d] at d'
  injection d' with d1 _
  have : its = its' := by simpa using congrArg Array.toList d1
  subst this
  exact r.inj r'
end
abbrev Cx.wish (X : Cx) (E : Value → Shared → Prop) : Cx := { X with xe := E }
abbrev Cx.nox (X : Cx) : Cx := X.wish fun _ _ => False
theorem Cx.Ok.wish {X : Cx} (ok : X.Ok) (E : Value → Shared → Prop) : (X.wish E).Ok :=
  ⟨ok.mod, ok.kind, ok.glob, ok.blt, ok.above, ok.inj, ok.has, ok.cab, ok.hd, ok.frames, ok.stk, ok.exf, ok.bs, ok.bsz, ok.noex, ok.exfs, ok.funs, ok.frf⟩
theorem Cx.Ok.unwish {X : Cx} {E : Value → Shared → Prop} (ok : (X.wish E).Ok) : X.Ok :=
  ⟨ok.mod, ok.kind, ok.glob, ok.blt, ok.above, ok.inj, ok.has, ok.cab, ok.hd, ok.frames, ok.stk, ok.exf, ok.bs, ok.bsz, ok.noex, ok.exfs, ok.funs, ok.frf⟩
section
variable {X : Cx} {pins : List (Addr × Obj)} {σ : St} {H : Hp} {s : Shared} {E : Value → Shared → Prop}
theorem Inv.wish (I : Inv X pins σ H s) (E : Value → Shared → Prop) : Inv (X.wish E) pins σ H s := ⟨I.ok.wish E, I.os, I.bare, I.base, I.loc, I.cell, I.free, I.freeC, I.pin, I.hok, I.len⟩
theorem Inv.unwish (I : Inv (X.wish E) pins σ H s) : Inv X pins σ H s := ⟨I.ok.unwish, I.os, I.bare, I.base, I.loc, I.cell, I.free, I.freeC, I.pin, I.hok, I.len⟩
theorem SP.unwish {D : Ends} {f : Flow} {s' : Shared} (h : SP (X.wish E) pins D f s') : SP X pins D f s' := by
  cases f with
  | next => obtain ⟨σ', H', I, q⟩ := h; exact ⟨σ', H', I.unwish, q⟩
  | brk => obtain ⟨σ', H', I, q⟩ := h; exact ⟨σ', H', I.unwish, q⟩
  | cont => obtain ⟨σ', H', I, q⟩ := h; exact ⟨σ', H', I.unwish, q⟩
  | ret u => obtain ⟨v, σ', H', I, r, q⟩ := h; exact ⟨v, σ', H', I.unwish, r, q⟩
theorem PE.nox {e : Expr} {t : TE} (h : PE X.nox e t) : PE X e t := fun pins s σ H Q I hw =>
  wpAny_mono (h pins s σ H Q (I.wish _) hw) (fun _ _ ⟨v, H', I', r, q⟩ => ⟨v, H', I'.unwish, r, q⟩) fun _ _ z => False.elim z
theorem PT.nox {e : Expr} {t : TT} (h : PT X.nox e t) : PT X e t := fun pins s σ H Q I hw =>
  wpAny_mono (h pins s σ H Q (I.wish _) hw) (fun _ _ ⟨H', I', q⟩ => ⟨H', I'.unwish, q⟩) fun _ _ z => False.elim z
theorem PSs.nox {st : List Stmt} {t : TS} (h : PSs X.nox st t) : PSs X st t := fun pins s σ H D I hw =>
  wpAny_mono (h pins s σ H D (I.wish _) hw) (fun _ _ q => q.unwish) fun _ _ z => False.elim z
end
section
variable {X : Cx} {st : Stmt} {rest : List Stmt} {t u : TS} {e : Expr} {te : TE} {pos : Pos}
noncomputable def tNext : TS := fun D σ H => D.nx σ H
noncomputable def tSeq (t u : TS) : TS := fun D σ H => t { D with nx := u D } σ H
theorem pss_nil : PSs X [] tNext := fun _ _ σ H _ I h => wpAny_execs_nil ⟨σ, H, I, h⟩
theorem pss_cons (h1 : PS X st t) (h2 : PSs X rest u) : PSs X (st :: rest) (tSeq t u) := by
  intro pins s σ H D I h
  refine wpAny_execs_cons (thn (h1 pins s σ H { D with nx := u D } I h) fun f s1 q => ?_)
  cases f with
  | next =>
    obtain ⟨σ', H', I', q⟩ := q
    exact h2 pins s1 σ' H' D I' q
  | ret v => exact q
  | brk => exact q
  | cont => exact q
theorem pss_one (h1 : PS X st t) : PSs X [st] t := by
  intro pins s σ H D I h
  refine wpAny_execs_cons (thn (h1 pins s σ H D I h) fun f s1 q => ?_)
  cases f with
  | next => exact wpAny_execs_nil q
  | ret v => exact q
  | brk => exact q
  | cont => exact q
theorem Inv.quiet {pins : List (Addr × Obj)} {σ : St} {H : Hp} {s : Shared} (I : Inv X pins σ H s) : interactive X.env = false := by simp [interactive, I.ok.kind]
noncomputable def tDrop (te : TE) : TS := fun D σ H => te σ H fun _ H1 => D.nx σ H1
theorem ps_expr (he : PE X e te) (hs : swapsWith e none pos.line X.env = pure false := by rfl) : PS X (.Expr e pos) (tDrop te) := by
  intro pins s σ H D I h
  exact wpAny_Expr_any (thn (he pins s σ H _ I h) fun v s1 ⟨x, H1, I1, r1, q1⟩ => ⟨σ, H1, I1, q1⟩) I.quiet hs
noncomputable def tRet (te : TE) : TS := fun D σ H => te σ H D.rt
theorem ps_ret (he : PE X e te) : PS X (.Return (some e) pos) (tRet te) := by
  intro pins s σ H D I h
  exact wpAny_Return_some (thn (he pins s σ H _ I h) fun v s1 ⟨x, H1, I1, r1, q1⟩ => ⟨x, σ, H1, I1, r1, q1⟩)
noncomputable def tIfS (c : TT) (t u : TS) : TS := fun D σ H => c σ H fun b H1 => if b = true then t D σ H1 else u D σ H1
theorem ps_if {c : Expr} {a b : List Stmt} {tc : TT} (hc : PT X c tc) (ha : PSs X a t) (hb : PSs X b u) : PS X (.If c a b pos) (tIfS tc t u) := by
  intro pins s σ H D I h
  refine wpAny_If (thn (hc pins s σ H _ I h) fun d s1 ⟨H1, I1, q1⟩ => ?_)
  cases d with
  | true => exact ha pins s1 σ H1 D I1 q1
  | false => exact hb pins s1 σ H1 D I1 q1
noncomputable def tNever : TS := fun _ _ _ => False
theorem ps_never : PS X st tNever := fun _ _ _ _ _ _ h => h.elim
end
abbrev TG := V → St → Hp → (St → Hp → Prop) → Prop
abbrev TGs := List V → St → Hp → (St → Hp → Prop) → Prop
noncomputable def PG (X : Cx) (target : Expr) (t : TG) : Prop :=
  ∀ (pins : List (Addr × Obj)) (s : Shared) (σ : St) (H : Hp) (v : V) (u : Value) (Q : St → Hp → Prop), Inv X pins σ H s → RelV v u → t v σ H Q →
    wpAny (model X.prog X.w) X.A (assign target X.env u) (fun _ s' => ∃ σ' H', Inv X pins σ' H' s' ∧ Q σ' H') X.xe s
noncomputable def PGs (X : Cx) (ts : List Expr) (t : TGs) : Prop :=
  ∀ (pins : List (Addr × Obj)) (s : Shared) (σ : St) (H : Hp) (vs : List V) (us : List Value) (Q : St → Hp → Prop), Inv X pins σ H s → Vals vs us → t vs σ H Q →
    wpAny (model X.prog X.w) X.A (assignInOrder ((assignEach ts X.env).map (·.2)) us) (fun _ s' => ∃ σ' H', Inv X pins σ' H' s' ∧ Q σ' H') X.xe s
abbrev TSet := V → V → V → Hp → (Hp → Prop) → Prop
noncomputable def PSet (X : Cx) (t : TSet) : Prop :=
  ∀ (pins : List (Addr × Obj)) (s : Shared) (σ : St) (H : Hp) (o i v : V) (ov iv u : Value) (Q : Hp → Prop), Inv X pins σ H s → RelV o ov → RelV i iv → RelV v u → t o i v H Q →
    wpAny (model X.prog X.w) X.A (setItem ov iv u) (fun _ s' => ∃ H', Inv X pins σ H' s' ∧ Q H') X.xe s
section
variable {X : Cx} {pos : Pos}
noncomputable def gName (i : Nat) : TG := fun v σ H Q => Q (σ.set i (some v)) H
theorem pg_name {i : Nat} {x : Str} (hN : X.N.Nodup) (hi : X.N[i]? = some x) (hx : Loc X.env.scope x) (hf : X.fn x = true ∨ X.env.scope.names.lookup x = some .local := by first | exact .inl rfl | exact .inr rfl | assumption) : PG X (.Name x pos) (gName i) := by
  intro pins s σ H v u Q I r h
  exact wpAny_assign_Name (store_ok I hN hi hx r (fun s' I' => ⟨_, H, I', h⟩) hf)
noncomputable def gNil : TGs := fun vs σ H Q => vs = [] ∧ Q σ H
noncomputable def gCons (t : TG) (u : TGs) : TGs := fun vs σ H Q => ∃ v r, vs = v :: r ∧ t v σ H fun σ' H' => u r σ' H' Q
theorem pgs_nil : PGs X [] gNil := by
  intro pins s σ H vs us Q I r h
  obtain ⟨e, h⟩ := h
  subst e
  cases r
  exact assignInOrder_nil ⟨σ, H, I, h⟩
theorem pgs_cons {e : Expr} {es : List Expr} {t : TG} {u : TGs} (h1 : PG X e t) (h2 : PGs X es u)
    (hs : (assignEach (e :: es) X.env).map (·.2) = assign e X.env :: (assignEach es X.env).map (·.2) := by rfl) : PGs X (e :: es) (gCons t u) := by
  intro pins s σ H vs us Q I r h
  obtain ⟨v, vr, e1, h⟩ := h
  subst e1
  cases r with
  | cons r rr =>
    rw [hs]
    refine assignInOrder_cons (thn (h1 pins s σ H _ _ _ I r h) fun _ s1 ⟨σ1, H1, I1, q1⟩ => ?_)
    exact h2 pins s1 σ1 H1 _ _ Q I1 rr q1
noncomputable def gTup (K : PySem.W.Frag) (n : Nat) (t : TGs) : TG := fun v σ H Q => ∃ a xs, v = .ref a ∧ SqT K H a xs ∧ xs.length = n ∧ t xs σ H Q
theorem pg_tup {es : List Expr} {k : Nat} {t : TGs} {n : Nat} (hc : X.calm = true) (h : PGs X es t)
    (hn : (assignEach es X.env).length = n := by rfl) (hst : (assignEach es X.env).findIdx? (·.1) = none := by rfl) : PG X (.Tuple es k pos) (gTup X.K n t) := by
  intro pins s σ H v u Q I r hw
  obtain ⟨a, xs, e1, hq, hl, hw⟩ := hw
  subst e1
  cases r
  obtain ⟨its, rv, ht, hz⟩ := I.tuple hq
  refine assign_Tuple_tuple (I.ok.hd hc) ht (by simp [hn, ← hl, rv.length]) hst fun h' hx => ?_
  have I1 : Inv X pins σ H { s with heap := h' } := I.kept (t' := s.toks) fun b o e => hx b o (Nat.ne_of_lt (Heap.lt_size e)) e
  exact h pins _ σ H xs _ Q I1 (by simpa using rv) hw
noncomputable def gSub (to ti : TE) (t : TSet) : TG := fun v σ H Q => to σ H fun o H1 => ti σ H1 fun i H2 => t o i v H2 fun H3 => Q σ H3
theorem pg_sub {o i : Expr} {to ti : TE} {t : TSet} (ho : PE X o to) (hi : PE X i ti) (hs : PSet X t)
    (ha : ∀ v, assign (.Subscript o i pos) X.env v = (do
      let ov ← holding [v] (eval o X.env)
      let iv ← holding [v, ov] (eval i X.env)
      standAt pos
      holding [v, ov, iv] (setItem ov iv v)
      release [v, ov, iv] []) := by intro _; rfl) : PG X (.Subscript o i pos) (gSub to ti t) := by
  intro pins s σ H v u Q I r h
  rw [ha]
  refine wpAny_bind (wpAny_holding (thn (ho pins s σ H _ I h) fun ov s1 ⟨x, H1, I1, r1, q1⟩ => ?_))
  refine wpAny_bind (wpAny_holding (thn (hi pins s1 σ H1 _ I1 q1) fun iv s2 ⟨y, H2, I2, r2, q2⟩ => ?_))
  refine wpAny_bind (wpAny_standAt (wpAny_bind (wpAny_holding (thn (hs pins s2 σ H2 x y v ov iv u _ I2 r1 r2 r q2) fun _ s3 ⟨H3, I3, q3⟩ => ?_))))
  exact wpAny_release ⟨σ, H3, I3, q3⟩
noncomputable def tAsg (te : TE) (g : TG) : TS := fun D σ H => te σ H fun x H1 => g x σ H1 D.nx
theorem ps_asg {tg e : Expr} {te : TE} {g : TG} (he : PE X e te) (hg : PG X tg g) (hs : swapsWithSole [tg] e pos.line X.env = pure false := by rfl) (hw : swappedStores [tg] e X.env = pure none := by rfl)
    (h1 : (assignEach [tg] X.env).map (·.2) = [assign tg X.env] := by rfl) : PS X (.Assign [tg] e pos) (tAsg te g) := by
  intro pins s σ H D I h
  refine wpAny_Assign_stores (thn (he pins s σ H _ I h) fun v s1 ⟨x, H1, I1, r1, q1⟩ => ?_) hs hw
  rw [h1]
  exact thn (hg pins s1 σ H1 x v _ I1 r1 q1) fun _ s2 q => q
theorem ps_set {i : Nat} {x : Str} {e : Expr} {te : TE} {pos' : Pos} (hN : X.N.Nodup) (hi : X.N[i]? = some x) (hx : Loc X.env.scope x) (he : PE X e te) (hs : swapsWith e (some (.Name x pos')) pos.line X.env = pure false := by rfl) (hf : X.fn x = true ∨ X.env.scope.names.lookup x = some .local := by first | exact .inl rfl | exact .inr rfl | assumption) :
    PS X (.Assign [.Name x pos'] e pos) (tAsg te (gName i)) := by
  intro pins s σ H D I h
  refine wpAny_Assign_Name (thn (he pins s σ H _ I h) fun v s1 ⟨y, H1, I1, r1, q1⟩ => ?_) hs
  exact store_ok I1 hN hi hx r1 (fun s2 I2 => ⟨_, H1, I2, q1⟩) hf
noncomputable def tWhile (c : TT) (tb : TS) : TS := fun D σ H => ∃ W : Nat → St → Hp → Prop, (∃ m, W m σ H) ∧ ∀ m σ H, W m σ H →
  c σ H fun b H1 => if b = true then ∃ N : St → Hp → Prop, (∀ σ' H', N σ' H' → ∃ m', m' < m ∧ W m' σ' H') ∧ tb { D with nx := N, ct := N, bk := D.nx } σ H1 else D.nx σ H1
theorem ps_while {c : Expr} {body : List Stmt} {tc : TT} {tb : TS} (hp : PassesOwn (model X.prog X.w) X.A X.env X.xe) (hc : PT X c tc) (hb : PSs X body tb) : PS X (.While c body [] pos) (tWhile tc tb) := by
  intro pins s σ H D I h
  obtain ⟨W, ⟨m0, w0⟩, turn⟩ := h
  refine wpAny_While (codeAny_whileLoop (fun n s' => ∃ σ' H', Inv X pins σ' H' s' ∧ W n σ' H') ?_ m0 ⟨σ, H, I, w0⟩)
  rintro n s1 ⟨σ1, H1, I1, w1⟩
  refine wpAny_passesOwn hp (thn (hc pins s1 σ1 H1 _ I1 (turn n σ1 H1 w1)) fun b s2 ⟨H2, I2, q2⟩ => ?_)
  cases b with
  | true =>
    obtain ⟨N, hN, q2⟩ := q2
    rw [if_pos rfl]
    refine wpAny_passesOwn hp (thn (hb pins s2 σ1 H2 _ I2 q2) fun f s3 q3 => ?_)
    cases f with
    | next =>
      obtain ⟨σ3, H3, I3, n3⟩ := q3
      obtain ⟨m', hm, w3⟩ := hN σ3 H3 n3
      exact ⟨m', hm, σ3, H3, I3, w3⟩
    | cont =>
      obtain ⟨σ3, H3, I3, n3⟩ := q3
      obtain ⟨m', hm, w3⟩ := hN σ3 H3 n3
      exact ⟨m', hm, σ3, H3, I3, w3⟩
    | brk => exact q3
    | ret v => exact q3
  | false =>
    rw [if_neg Bool.false_ne_true]
    exact wpAny_execs_nil ⟨σ1, H2, I2, q2⟩
end
structure It where
  go : Nat → Hp → Prop
  yld : Nat → Hp → V → Hp → Prop
  stop : Nat → Hp → Prop
noncomputable def FpOk (X : Cx) (pins : List (Addr × Obj)) (H : Hp) (b : Addr) : Prop :=
  H b = none ∧ b ≠ X.env.locals ∧ b ∉ X.fs ∧ (b ∈ X.ex ∨ X.s₀.heap.objs.size ≤ b) ∧ (∀ x c, X.env.cells.lookup x = some c → c ≠ b) ∧ ∀ p ∈ X.pn ++ pins, p.1 ≠ b
theorem Inv.fpOk {X : Cx} {pins : List (Addr × Obj)} {σ : St} {H H' : Hp} {s : Shared} {b : Addr} (I : Inv X pins σ H s) (hb : s.heap.objs.size ≤ b) (hn : H' b = none) : FpOk X pins H' b := by
  refine ⟨hn, Nat.ne_of_gt (Nat.lt_of_lt_of_le I.lt hb), I.nofs hb, .inr (Nat.le_trans I.sz hb), fun x c e z => ?_, fun p hp z => ?_⟩
  · obtain ⟨v, q⟩ := I.cell x c e
    exact absurd (Nat.lt_of_lt_of_le q.lt (by rw [z]; exact hb)) (Nat.lt_irrefl _)
  · exact absurd (Nat.lt_of_lt_of_le (Heap.lt_size (I.pin p hp).1) (by rw [z]; exact hb)) (Nat.lt_irrefl _)
structure Turn (P : Program) (w : World) (K : PySem.W.Frag) (tg : Expr) (J : It) (fp : List Addr) (it : Addr) (tn : Nat → Heap → Prop) : Prop where
  mem : it ∈ fp
  obj : ∀ i h, tn i h → ∀ b ∈ fp, ∃ o, h.get? b = some o ∧ ∀ v, o.data ≠ .cell v
  keep : ∀ i h h', tn i h → (∀ b ∈ fp, ∀ o, h.get? b = some o → h'.get? b = some o) → tn i h'
  item : ∀ (X : Cx), X.prog = P → X.w = w → X.K = K → X.calm = true → ∀ (i : Nat) (pins : List (Addr × Obj)) (s : Shared) (σ : St) (H : Hp) (E : Value → Shared → Prop), Inv X pins σ H s → (∀ b ∈ fp, FpOk X pins H b) → tn i s.heap → J.go i H →
    wpAny (model P w) X.A (pyNext (.ref it)) (fun r s1 => ∃ u, r = some u ∧
      wpAny (model P w) X.A (letOwnedTupleGo tg (.ref it) u) (fun _ s2 => ∃ x H', Inv X pins σ H' s2 ∧ RelV x u ∧ J.yld i H x H' ∧ tn (i + 1) s2.heap ∧ ∀ b ∈ fp, H' b = none) E s1) E s
  done : ∀ (X : Cx), X.prog = P → X.w = w → X.K = K → X.calm = true → ∀ (i : Nat) (pins : List (Addr × Obj)) (s : Shared) (σ : St) (H : Hp) (E : Value → Shared → Prop), Inv X pins σ H s → (∀ b ∈ fp, FpOk X pins H b) → tn i s.heap → J.stop i H →
    wpAny (model P w) X.A (pyNext (.ref it)) (fun r s1 => r = none ∧ Inv X pins σ H s1) E s
  self : ∀ (A : Around) (i : Nat) (s : Shared) (Q : Value → Shared → Prop) (E : Value → Shared → Prop), tn i s.heap → Q (.ref it) s → wpAny (model P w) A (pyIter (.ref it)) Q E s
abbrev TI := St → Hp → (It → Hp → Prop) → Prop
noncomputable def PIE (X : Cx) (pins : List (Addr × Obj)) (σ : St) (tg : Expr) (R : It → Hp → Prop) (itv : Value) (s2 : Shared) : Prop :=
  ∃ (it : Addr) (fp : List Addr) (tn : Nat → Heap → Prop) (J : It) (H' : Hp), itv = .ref it ∧ Inv X pins σ H' s2 ∧ Turn X.prog X.w X.K tg J fp it tn ∧ tn 0 s2.heap ∧ (∀ b ∈ fp, FpOk X pins H' b) ∧ R J H'
noncomputable def PI (X : Cx) (tg iter : Expr) (wi : TI) : Prop :=
  ∀ (pins : List (Addr × Obj)) (s : Shared) (σ : St) (H : Hp) (R : It → Hp → Prop), Inv X pins σ H s → wi σ H R →
    wpAny (model X.prog X.w) X.A (eval iter X.env) (fun v s1 => wpAny (model X.prog X.w) X.A (pyIter v) (PIE X pins σ tg R) X.xe s1) X.xe s
theorem go_of {M : Model} {A : Around} {E : Value → Shared → Prop} {s : Shared} {tg : Expr} {it : Addr} {u : Value} {o : Obj} {n : String} {vs : Array Value} {Q : Unit → Shared → Prop} (ho : s.heap.get? it = some o) (hc : o.cls = .type n) (hd : o.data = .fields vs)
    (hn : ["enumerate", "zip", "dict_itemiterator", "dict_reverseitemiterator", "odict_iterator", "itertools.zip_longest", "itertools.pairwise"].contains n = false) (hQ : Q () s) : wpAny M A (letOwnedTupleGo tg (.ref it) u) Q E s := by
  unfold letOwnedTupleGo
  cases tg <;> first
    | exact wpAny_pure hQ
    | (cases u <;> first
        | exact wpAny_pure hQ
        | (refine wpAny_bind (wpAny_load ho ?_)
           rw [hc, hd]
           show wpAny M A (if (["enumerate", "zip", "dict_itemiterator", "dict_reverseitemiterator", "odict_iterator", "itertools.zip_longest", "itertools.pairwise"].contains n && vs[0]? == some (rawInt _)) = true then _ else _) Q E s
           rw [if_neg (by intro h; rw [hn, Bool.false_and] at h; cases h)]
           exact wpAny_pure hQ))
noncomputable def Itl (K : PySem.W.Frag) (a : Addr) : It :=
  ⟨fun i H => ∃ xs x, SqL K H a xs ∧ xs[i]? = some x, fun i H x H' => H' = H ∧ ∀ xs, SqL K H a xs → xs[i]? = some x, fun i H => ∃ xs, SqL K H a xs ∧ xs.length ≤ i⟩
noncomputable def Itr (lo : Int) (n : Nat) : It := ⟨fun i _ => i < n, fun i H x H' => H' = H ∧ x = .int (lo + i), fun i _ => n ≤ i⟩
theorem turn_list {P : Program} {w : World} {K : PySem.W.Frag} {tg : Expr} (a it : Addr) : Turn P w K tg (Itl K a) [it] it (fun i h => h.IsListIter it a i) where
  mem := by simp
  obj := fun i h st b hb => by
    have e : b = it := by simpa using hb
    subst e
    obtain ⟨o, e, c, d⟩ := st
    exact ⟨o, e, fun v z => by rw [d] at z; cases z⟩
  keep := fun i h h' st k => st.at fun o e => k it (by simp) o e
  item := by
    intro X hP hw hK hc i pins s σ H E I hf st hg
    subst hP hw hK
    obtain ⟨xs, x, hq, hx⟩ := hg
    obtain ⟨its, rv, p, hz⟩ := I.list hq
    obtain ⟨u, hu, ru⟩ := rv.get hx
    obtain ⟨f0, f1, f2, f3, f4, f5⟩ := hf it (by simp)
    refine wpAny_pyNext_list_item st p.isList (x := u) (by simpa using hu) fun h' st' sb => ?_
    have I1 : Inv X pins σ H { s with heap := h' } := I.turned (t' := s.toks) (fun b o hb e => (sb.2 b hb).trans e) f0 f1 f3 f4 f5
    obtain ⟨o, e, c, d⟩ := id st'
    exact ⟨u, rfl, go_of (s := { s with heap := h' }) e c d (by decide) ⟨x, H, I1, ru, ⟨rfl, fun ys hy => by rw [I.list_inj hy hq]; exact hx⟩, st', fun b hb => (hf b hb).1⟩⟩
  done := by
    intro X hP hw hK hc i pins s σ H E I hf st hg
    subst hP hw hK
    obtain ⟨xs, hq, hx⟩ := hg
    obtain ⟨its, rv, p, hz⟩ := I.list hq
    obtain ⟨f0, f1, f2, f3, f4, f5⟩ := hf it (by simp)
    have hl := rv.length
    exact wpAny_pyNext_list_end (I.ok.hd hc) st p.isList (by simp; omega) fun h' eb => ⟨rfl, I.turned (t' := s.toks) (fun b o hb e => eb b o hb e) f0 f1 f3 f4 f5⟩
  self := fun _ _ _ _ _ st h => wpAny_pyIter_listiter st h
theorem turn_range {P : Program} {w : World} {K : PySem.W.Frag} {tg : Expr} (it : Addr) (lo : Int) (n : Nat) : Turn P w K tg (Itr lo n) [it] it (fun i h => IsRangeIter h it (lo + (i : Nat) * 1) ((n : Int) - (i : Nat)) 1) where
  mem := by simp
  obj := fun i h st b hb => by
    have e : b = it := by simpa using hb
    subst e
    exact ⟨_, st, fun v z => by
      have z' : Data.fields _ = Data.cell v := z
      cases z'⟩
  keep := fun i h h' st k => k it (by simp) _ st
  item := by
    intro X hP hw hK hc i pins s σ H E I hf st hg
    subst hP hw hK
    obtain ⟨f0, f1, f2, f3, f4, f5⟩ := hf it (by simp)
    have W := Walks.range (prog := X.prog) (w := X.w) (I.ok.hd hc) it lo 1 n
    refine W.item i s _ _ hg st fun v h' tk hv st' kk => ?_
    obtain ⟨t, rfl⟩ := hv
    have I1 : Inv X pins σ H { s with heap := h', toks := tk } := I.turned (fun b o hb e => kk b o (by simpa using hb) e) f0 f1 f3 f4 f5
    refine ⟨_, rfl, go_of (s := { s with heap := h', toks := tk }) (n := "range_iterator") st' rfl rfl (by decide) ⟨.int (lo + i), H, I1, ⟨t, ?_⟩, ⟨rfl, rfl⟩, st', fun b hb => (hf b hb).1⟩⟩
    rw [Int.mul_one]
  done := by
    intro X hP hw hK hc i pins s σ H E I hf st hg
    subst hP hw hK
    obtain ⟨f0, f1, f2, f3, f4, f5⟩ := hf it (by simp)
    exact wpAny_pyNext_range_end (I.ok.hd hc) st (by have : n ≤ i := hg; omega) fun h' eb => ⟨rfl, I.turned (t' := s.toks) (fun b o hb e => eb b o hb e) f0 f1 f3 f4 f5⟩
  self := fun _ _ _ _ _ st h => wpAny_pyIter_rangeiter st h
section
variable {X : Cx} {tg : Expr}
noncomputable def iList (K : PySem.W.Frag) (tl : TE) : TI := fun σ H R => tl σ H fun x H1 => ∃ a, x = .ref a ∧ (∃ xs, SqL K H1 a xs) ∧ R (Itl K a) H1
theorem pi_list {l : Expr} {tl : TE} (hl : PE X l tl) : PI X tg l (iList X.K tl) := by
  intro pins s σ H R I h
  refine thn (hl pins s σ H _ I h) fun v s1 ⟨x, H1, I1, r1, q1⟩ => ?_
  obtain ⟨a, e, ⟨xs, hq⟩, q⟩ := q1
  subst e
  cases r1
  obtain ⟨its, rv, p, hz⟩ := I1.list hq
  refine wpAny_pyIter_list p.isList ?_
  refine ⟨s1.heap.objs.size, [s1.heap.objs.size], _, _, H1, rfl, I1.kept (t' := s1.toks) fun b o e => Heap.get?_push_of_some _ e, turn_list a _, ⟨_, Heap.get?_push_size _ rfl, rfl, rfl⟩, fun b hb => ?_, q⟩
  have e : b = s1.heap.objs.size := by simpa using hb
  subst e
  exact I1.fpOk (Nat.le_refl _) (I1.hok.fresh (Nat.le_refl _))
theorem range_it {pins : List (Addr × Obj)} {σ : St} {H : Hp} {s : Shared} {R : It → Hp → Prop} {E : Value → Shared → Prop} {lo hi : Int} {t u v : Tok} {tk : Nat} (I : Inv X pins σ H s) (h1 : -(2 ^ 62) ≤ lo) (h2 : lo < 2 ^ 62) (h3 : -(2 ^ 62) ≤ hi) (h4 : hi < 2 ^ 62)
    (q : R (Itr lo (hi - lo).toNat) H) : wpAny (model X.prog X.w) X.A (pyIter (.ref s.heap.objs.size)) (PIE X pins σ tg R) E { s with heap := s.heap.push { cls := .type "range", data := .fields #[.int lo t, .int hi u, .int 1 v] }, toks := tk } := by
  refine wpAny_pyIter_range (IsRange.new ..) (small_one h1 h2 h3 h4) ?_
  have I1 : Inv X pins σ H { s with heap := s.heap.push { cls := .type "range", data := .fields #[.int lo t, .int hi u, .int 1 v] }, toks := tk } := I.kept fun b o e => Heap.get?_push_of_some _ e
  refine ⟨(s.heap.push { cls := .type "range", data := .fields #[.int lo t, .int hi u, .int 1 v] }).objs.size, [(s.heap.push { cls := .type "range", data := .fields #[.int lo t, .int hi u, .int 1 v] }).objs.size], _, _, H, rfl,
    I1.kept (t' := tk) fun b o e => Heap.get?_push_of_some _ e, turn_range _ lo (hi - lo).toNat, ?_, fun b hb => ?_, q⟩
  · have e1 : lo + ((0 : Nat) : Int) * 1 = lo := by simp
    have e2 : (((hi - lo).toNat : Nat) : Int) - ((0 : Nat) : Int) = Builtin.Range.rangeSize lo hi 1 := by rw [rangeSize_one]; split <;> omega
    show IsRangeIter _ _ (lo + ((0 : Nat) : Int) * 1) ((((hi - lo).toNat : Nat) : Int) - ((0 : Nat) : Int)) 1
    rw [e1, e2]
    exact Heap.get?_push_size _ rfl
  · have e : b = (s.heap.push { cls := .type "range", data := .fields #[.int lo t, .int hi u, .int 1 v] }).objs.size := by simpa using hb
    subst e
    exact I1.fpOk (Nat.le_refl _) (I1.hok.fresh (Nat.le_refl _))
noncomputable def iRng1 (ta : TA) : TI := fun σ H R => ta σ H fun vs H1 => ∃ j : Int, vs = [.int j] ∧ -(2 ^ 62) ≤ j ∧ j < 2 ^ 62 ∧ R (Itr 0 j.toNat) H1
noncomputable def iRng2 (ta : TA) : TI := fun σ H R => ta σ H fun vs H1 => ∃ i j : Int, vs = [.int i, .int j] ∧ (-(2 ^ 62) ≤ i ∧ i < 2 ^ 62 ∧ -(2 ^ 62) ≤ j ∧ j < 2 ^ 62) ∧ R (Itr i (j - i).toNat) H1
theorem pi_range1 {a : Expr} {ta : TA} {p pos : Pos} (hg : Gl X "range") (hm : X.mg "range" = none) (ha : PA X [a] ta) (hs : starEach [a] X.env = [(false, eval a X.env)] := by rfl) : PI X tg (.Call (.Name "range" p) [a] [] pos) (iRng1 ta) := by
  intro pins s σ H R I h
  refine Call_ (ld_blt I hg hm boot_range (PyProof.Rows.callWith_type1 (thn (ha pos pins s σ H _ I h) fun us s1 ⟨vs, H1, I1, r1, q1⟩ => ?_) hs rfl))
  obtain ⟨j, e, q1, q2, q⟩ := q1
  subst e
  cases r1 with
  | cons r rr =>
    cases rr
    obtain ⟨t, rfl⟩ := r
    exact call_range_1 (range_it I1 (by omega) (by omega) q1 q2 (by simpa using q))
theorem pi_range2 {a b : Expr} {ta : TA} {p pos : Pos} (hg : Gl X "range") (hm : X.mg "range" = none) (ha : PA X [a, b] ta) (hs : starEach [a, b] X.env = [(false, eval a X.env), (false, eval b X.env)] := by rfl) (hs2 : starEach [b] X.env = [(false, eval b X.env)] := by rfl) :
    PI X tg (.Call (.Name "range" p) [a, b] [] pos) (iRng2 ta) := by
  intro pins s σ H R I h
  refine Call_ (ld_blt I hg hm boot_range (PyProof.Rows.callWith_type1 (thn (ha pos pins s σ H _ I h) fun us s1 ⟨vs, H1, I1, r1, q1⟩ => ?_) (by rw [hs, hs2]) (by rw [hs2]; rfl)))
  obtain ⟨i, j, e, ⟨q1, q2, q3, q4⟩, q⟩ := q1
  subst e
  cases r1 with
  | cons r rr =>
    cases rr with
    | cons r' rr =>
      cases rr
      obtain ⟨t, rfl⟩ := r
      obtain ⟨t', rfl⟩ := r'
      exact call_range_2 (range_it I1 q1 q2 q3 q4 q)
noncomputable def tFor (wi : TI) (g : TG) (tb : TS) : TS := fun D σ H => wi σ H fun J H1 => ∃ W : Nat → Nat → St → Hp → Prop, (∃ m, W 0 m σ H1) ∧ ∀ i m σ H, W i m σ H →
  (J.stop i H ∧ D.nx σ H) ∨ (J.go i H ∧ ∃ N : St → Hp → Prop, (∀ σ' H', N σ' H' → ∃ m', m' < m ∧ W (i + 1) m' σ' H') ∧ ∀ x H', J.yld i H x H' → g x σ H' fun σ2 H2 => tb { D with nx := N, ct := N, bk := D.nx } σ2 H2)
noncomputable def pinsAt (fp : List Addr) (h : Heap) : List (Addr × Obj) := fp.filterMap fun b => (h.get? b).map fun o => (b, o)
theorem mem_pinsAt {fp : List Addr} {h : Heap} {b : Addr} {o : Obj} (hb : b ∈ fp) (e : h.get? b = some o) : (b, o) ∈ pinsAt fp h := List.mem_filterMap.mpr ⟨b, hb, by rw [e]; rfl⟩
theorem of_pinsAt {fp : List Addr} {h : Heap} {p : Addr × Obj} (hp : p ∈ pinsAt fp h) : p.1 ∈ fp ∧ h.get? p.1 = some p.2 := by
  obtain ⟨b, hb, e⟩ := List.mem_filterMap.mp hp
  cases q : h.get? b with
  | none => rw [q] at e; cases e
  | some o =>
    rw [q] at e
    have e' : (b, o) = p := Option.some.inj e
    subst e'
    exact ⟨hb, q⟩
theorem Inv.pinned {pins : List (Addr × Obj)} {σ : St} {H : Hp} {s : Shared} {fp : List Addr} (I : Inv X pins σ H s) (hf : ∀ b ∈ fp, FpOk X pins H b) (ho : ∀ b ∈ fp, ∃ o, s.heap.get? b = some o ∧ ∀ v, o.data ≠ .cell v) : Inv X (pins ++ pinsAt fp s.heap) σ H s :=
  I.pins_of fun p hp => (List.mem_append.mp hp).elim (fun z => I.pin p (List.mem_append_right _ z)) fun z => by
    obtain ⟨hb, e⟩ := of_pinsAt z
    obtain ⟨f0, f1, f2, _⟩ := hf p.1 hb
    obtain ⟨o, e', d⟩ := ho p.1 hb
    rw [e] at e'; cases e'
    exact ⟨e, f0, f1, f2, d⟩
theorem Inv.unpinned {pins pl : List (Addr × Obj)} {σ : St} {H : Hp} {s : Shared} (I : Inv X (pins ++ pl) σ H s) : Inv X pins σ H s := I.pins_of fun p hp => I.pin p (List.mem_append_right _ (List.mem_append_left _ hp))
theorem ps_for {iter : Expr} {body : List Stmt} {wi : TI} {g : TG} {tb : TS} {pos : Pos} (hp : PassesOwn (model X.prog X.w) X.A X.env X.xe) (hc : X.calm = true) (hi : PI X tg iter wi) (hg : PG X tg g) (hb : PSs X body tb)
    (hs : ∀ x, foldedSetIterable iter X.env x = pure x := by intro _; rfl) : PS X (.For tg iter body [] pos) (tFor wi g tb) := by
  intro pins s σ H D I h
  refine wpAny_For (thn (hi pins s σ H _ I h) fun v s1 h1 => thn h1 fun itv s2 h2 => ?_) hs
  obtain ⟨it, fp, tn, J, H2, e, I2, T, st2, f2, W, ⟨m0, w0⟩, turn⟩ := h2
  subst e
  have stat : ∀ {H' : Hp}, (∀ b ∈ fp, H' b = none) → ∀ b ∈ fp, FpOk X pins H' b := fun hn b hb => ⟨hn b hb, (f2 b hb).2⟩
  refine codeAny_forLoop_any (fun n s' => ∃ i σ' H', Inv X pins σ' H' s' ∧ tn i s'.heap ∧ (∀ b ∈ fp, H' b = none) ∧ W i n σ' H') ?_ m0 ⟨0, σ, H2, I2, st2, fun b hb => (f2 b hb).1, w0⟩
  rintro n s3 ⟨i, σ3, H3, I3, st3, fr3, w3⟩
  rcases turn i n σ3 H3 w3 with ⟨stop, qn⟩ | ⟨go, N, hN, step⟩
  · refine wpAny_passesOwn hp (thn (T.done X rfl rfl rfl hc i pins s3 σ3 H3 X.xe I3 (stat fr3) st3 stop) fun r s4 ⟨hr, I4⟩ => ?_)
    subst hr
    exact wpAny_execs_nil ⟨σ3, H3, I4, qn⟩
  · refine wpAny_passesOwn hp (thn (T.item X rfl rfl rfl hc i pins s3 σ3 H3 X.xe I3 (stat fr3) st3 go) fun r s4 ⟨u, hr, h4⟩ => ?_)
    subst hr
    refine wpAny_passesOwn hp (thn h4 fun _ s5 ⟨x, H5, I5, r5, y5, st5, fr5⟩ => ?_)
    have I5' := I5.pinned (stat fr5) (T.obj _ _ st5)
    refine wpAny_passesOwn hp (thn (hg _ s5 σ3 H5 x u _ I5' r5 (step x H5 y5)) fun _ s6 ⟨σ6, H6, I6, q6⟩ => ?_)
    refine wpAny_passesOwn hp (thn (hb _ s6 σ6 H6 _ I6 q6) fun f s7 q7 => ?_)
    have again : ∀ {σ7 : St} {H7 : Hp}, Inv X (pins ++ pinsAt fp s5.heap) σ7 H7 s7 → N σ7 H7 → ∃ m, m < n ∧ ∃ i σ' H', Inv X pins σ' H' s7 ∧ tn i s7.heap ∧ (∀ b ∈ fp, H' b = none) ∧ W i m σ' H' := fun {σ7 H7} I7 n7 => by
      obtain ⟨m', hm, w7⟩ := hN σ7 H7 n7
      refine ⟨m', hm, i + 1, σ7, H7, I7.unpinned, T.keep _ _ _ st5 fun b hb o e => (I7.pin (b, o) (List.mem_append_right _ (List.mem_append_right _ (mem_pinsAt hb e)))).1, fun b hb => ?_, w7⟩
      obtain ⟨o, e, d⟩ := T.obj _ _ st5 b hb
      exact (I7.pin (b, o) (List.mem_append_right _ (List.mem_append_right _ (mem_pinsAt hb e)))).2.1
    cases f with
    | next => obtain ⟨σ7, H7, I7, n7⟩ := q7; exact again I7 n7
    | cont => obtain ⟨σ7, H7, I7, n7⟩ := q7; exact again I7 n7
    | brk => obtain ⟨σ7, H7, I7, q7⟩ := q7; exact ⟨σ7, H7, I7.unpinned, q7⟩
    | ret v => obtain ⟨x7, σ7, H7, I7, r7, q7⟩ := q7; exact ⟨x7, σ7, H7, I7.unpinned, r7, q7⟩
end
theorem for_list {K : PySem.W.Frag} {a : Addr} {xs : List V} {g : TG} {tb : TS} {D : Ends} {σ : St} {H : Hp} (Pv : Nat → St → Hp → Prop) (h0 : Pv 0 σ H) (hl : ∀ i σ H, i ≤ xs.length → Pv i σ H → SqL K H a xs)
    (hs : ∀ i x σ H, xs[i]? = some x → Pv i σ H → g x σ H fun σ2 H2 => tb { D with nx := Pv (i + 1), ct := Pv (i + 1), bk := D.nx } σ2 H2) (hd : ∀ σ H, Pv xs.length σ H → D.nx σ H) :
    ∃ W : Nat → Nat → St → Hp → Prop, (∃ m, W 0 m σ H) ∧ ∀ i m σ H, W i m σ H →
      ((Itl K a).stop i H ∧ D.nx σ H) ∨ ((Itl K a).go i H ∧ ∃ N : St → Hp → Prop, (∀ σ' H', N σ' H' → ∃ m', m' < m ∧ W (i + 1) m' σ' H') ∧ ∀ x H', (Itl K a).yld i H x H' → g x σ H' fun σ2 H2 => tb { D with nx := N, ct := N, bk := D.nx } σ2 H2) := by
  refine ⟨fun i m σ H => m = xs.length - i ∧ i ≤ xs.length ∧ Pv i σ H, ⟨xs.length, by simp, Nat.zero_le _, h0⟩, ?_⟩
  rintro i m σ H ⟨rfl, hi, p⟩
  have q := hl i σ H hi p
  by_cases hlt : i < xs.length
  · refine .inr ⟨⟨xs, xs[i], q, by simp [hlt]⟩, Pv (i + 1), fun σ' H' p' => ⟨xs.length - (i + 1), by omega, rfl, hlt, p'⟩, fun x H' y => ?_⟩
    obtain ⟨e, y⟩ := y
    subst e
    exact hs i x σ _ (y xs q) p
  · have e : i = xs.length := by omega
    subst e
    exact .inl ⟨⟨xs, q, Nat.le_refl _⟩, hd σ H p⟩
theorem for_range {lo : Int} {n : Nat} {g : TG} {tb : TS} {D : Ends} {σ : St} {H : Hp} (Pv : Nat → St → Hp → Prop) (h0 : Pv 0 σ H)
    (hs : ∀ i σ H, i < n → Pv i σ H → g (.int (lo + i)) σ H fun σ2 H2 => tb { D with nx := Pv (i + 1), ct := Pv (i + 1), bk := D.nx } σ2 H2) (hd : ∀ σ H, Pv n σ H → D.nx σ H) :
    ∃ W : Nat → Nat → St → Hp → Prop, (∃ m, W 0 m σ H) ∧ ∀ i m σ H, W i m σ H →
      ((Itr lo n).stop i H ∧ D.nx σ H) ∨ ((Itr lo n).go i H ∧ ∃ N : St → Hp → Prop, (∀ σ' H', N σ' H' → ∃ m', m' < m ∧ W (i + 1) m' σ' H') ∧ ∀ x H', (Itr lo n).yld i H x H' → g x σ H' fun σ2 H2 => tb { D with nx := N, ct := N, bk := D.nx } σ2 H2) := by
  refine ⟨fun i m σ H => m = n - i ∧ i ≤ n ∧ Pv i σ H, ⟨n, by simp, Nat.zero_le _, h0⟩, ?_⟩
  rintro i m σ H ⟨rfl, hi, p⟩
  by_cases hlt : i < n
  · refine .inr ⟨hlt, Pv (i + 1), fun σ' H' p' => ⟨n - (i + 1), by omega, rfl, hlt, p'⟩, fun x H' y => ?_⟩
    obtain ⟨e, y⟩ := y
    subst e y
    exact hs i σ _ hlt p
  · have e : i = n := by omega
    subst e
    exact .inl ⟨Nat.le_refl _, hd σ H p⟩
theorem while_by {c : TT} {tb : TS} {D : Ends} {σ : St} {H : Hp} (Pv : St → Hp → Prop) (μ : St → Hp → Nat) (h0 : Pv σ H)
    (hs : ∀ σ H, Pv σ H → c σ H fun b H1 => if b = true then tb { D with nx := fun σ' H' => Pv σ' H' ∧ μ σ' H' < μ σ H, ct := fun σ' H' => Pv σ' H' ∧ μ σ' H' < μ σ H, bk := D.nx } σ H1 else D.nx σ H1)
    (mono : ∀ σ H Q Q', (∀ b H1, Q b H1 → Q' b H1) → c σ H Q → c σ H Q') : tWhile c tb D σ H := by
  refine ⟨fun m σ H => m = μ σ H ∧ Pv σ H, ⟨_, rfl, h0⟩, ?_⟩
  rintro m σ H ⟨rfl, p⟩
  refine mono σ H _ _ (fun b H1 q => ?_) (hs σ H p)
  cases b with
  | true => exact ⟨_, fun σ' H' ⟨p', l⟩ => ⟨_, l, rfl, p'⟩, q⟩
  | false => exact q
abbrev R2 := V → V → Hp → VK → Prop
noncomputable def OpR (X : Cx) (f : Value → Value → Sem Value) (r : R2) : Prop :=
  ∀ (pins : List (Addr × Obj)) (s : Shared) (σ : St) (H : Hp) (x y : V) (v u : Value) (Q : VK), Inv X pins σ H s → RelV x v → RelV y u → r x y H Q →
    wpAny (model X.prog X.w) X.A (f v u) (EP X pins σ Q) X.xe s
noncomputable def UnR (X : Cx) (f : Value → Sem Value) (r : V → Hp → VK → Prop) : Prop :=
  ∀ (pins : List (Addr × Obj)) (s : Shared) (σ : St) (H : Hp) (x : V) (v : Value) (Q : VK), Inv X pins σ H s → RelV x v → r x H Q →
    wpAny (model X.prog X.w) X.A (f v) (EP X pins σ Q) X.xe s
noncomputable def CallR (X : Cx) (f : Value) (r : List V → Hp → VK → Prop) : Prop :=
  ∀ (pins : List (Addr × Obj)) (s : Shared) (σ : St) (H : Hp) (xs : List V) (us : List Value) (Q : VK), Inv X pins σ H s → Vals xs us → r xs H Q →
    wpAny (model X.prog X.w) X.A (call f us) (EP X pins σ Q) X.xe s
noncomputable def tOp (r : R2) (ta tb : TE) : TE := fun σ H Q => ta σ H fun x H1 => tb σ H1 fun y H2 => r x y H2 Q
noncomputable def tUn (r : V → Hp → VK → Prop) (ta : TE) : TE := fun σ H Q => ta σ H fun x H1 => r x H1 Q
noncomputable def rI (C : Int → Int → Prop) (g : Int → Int → V) : R2 := fun x y H Q => ∃ i j, x = .int i ∧ y = .int j ∧ C i j ∧ Q (g i j) H
noncomputable def rI0 (g : Int → Int → V) : R2 := fun x y H Q => ∃ i j, x = .int i ∧ y = .int j ∧ Q (g i j) H
noncomputable def rU (g : Int → V) : V → Hp → VK → Prop := fun x H Q => ∃ i, x = .int i ∧ Q (g i) H
section
variable {X : Cx} {a b c : Expr} {ta tb tc : TE} {pos : Pos}
theorem binT (ha : PE X a ta) (hb : PE X b tb) {pins : List (Addr × Obj)} {s : Shared} {σ : St} {H : Hp} {R : V → V → Hp → Prop} (I : Inv X pins σ H s)
    (h : ta σ H fun x H1 => tb σ H1 fun y H2 => R x y H2) {Q : Value → Shared → Prop} {f : Value → Value → Sem Value}
    (hf : ∀ v u s2 x y H2, Inv X pins σ H2 s2 → RelV x v → RelV y u → R x y H2 → wpAny (model X.prog X.w) X.A (f v u) Q X.xe s2) :
    wpAny (model X.prog X.w) X.A (eval a X.env) (fun v s₁ => wpAny (model X.prog X.w) X.A (eval b X.env) (fun u s₂ => wpAny (model X.prog X.w) X.A (f v u) Q X.xe s₂) X.xe s₁) X.xe s := by
  refine thn (ha pins s σ H _ I h) fun v s1 ⟨x, H1, I1, r1, q1⟩ => ?_
  refine thn (hb pins s1 σ H1 _ I1 q1) fun u s2 ⟨y, H2, I2, r2, q2⟩ => ?_
  exact hf v u s2 x y H2 I2 r1 r2 q2
theorem pe_op {op : Operator} {r : R2} (ho : OpR X (binaryOp op) r) (ha : PE X a ta) (hb : PE X b tb) : PE X (.BinOp a op b pos) (tOp r ta tb) := by
  intro pins s σ H Q I h
  exact wpAny_BinOp (binT ha hb I h fun v u s2 x y H2 I2 rx ry q => ho pins s2 σ H2 x y v u Q I2 rx ry q)
theorem pe_un {op : UnaryOp} {r : V → Hp → VK → Prop} (ho : UnR X (unaryOp op) r) (ha : PE X a ta) : PE X (.UnaryOp op a pos) (tUn r ta) := by
  intro pins s σ H Q I h
  exact UnaryOp_ (thn (ha pins s σ H _ I h) fun v s1 ⟨x, H1, I1, r1, q1⟩ => ho pins s1 σ H1 x v Q I1 r1 q1)
theorem opI {f : Value → Value → Sem Value} {C : Int → Int → Prop} {g : Int → Int → Int}
    (rule : ∀ (i j : Int) (t u : Tok) (s : Shared) (Q : Value → Shared → Prop) (E : Value → Shared → Prop), C i j → Q (.int (g i j) s.toks) { s with toks := s.toks + 1 } → wpAny (model X.prog X.w) X.A (f (.int i t) (.int j u)) Q E s) :
    OpR X f (rI C fun i j => .int (g i j)) := by
  intro pins s σ H x y v u Q I rx ry h
  obtain ⟨i, j, rfl, rfl, hc, q⟩ := h
  obtain ⟨t, rfl⟩ := rx
  obtain ⟨t', rfl⟩ := ry
  exact rule i j t t' s _ _ hc ⟨.int (g i j), H, I.tok _, ⟨_, rfl⟩, q⟩
theorem opI0 {f : Value → Value → Sem Value} {g : Int → Int → Int}
    (rule : ∀ (i j : Int) (t u : Tok) (s : Shared) (Q : Value → Shared → Prop) (E : Value → Shared → Prop), Q (.int (g i j) s.toks) { s with toks := s.toks + 1 } → wpAny (model X.prog X.w) X.A (f (.int i t) (.int j u)) Q E s) :
    OpR X f (rI0 fun i j => .int (g i j)) := by
  intro pins s σ H x y v u Q I rx ry h
  obtain ⟨i, j, rfl, rfl, q⟩ := h
  obtain ⟨t, rfl⟩ := rx
  obtain ⟨t', rfl⟩ := ry
  exact rule i j t t' s _ _ ⟨.int (g i j), H, I.tok _, ⟨_, rfl⟩, q⟩
theorem opB0 {f : Value → Value → Sem Value} {g : Int → Int → Bool}
    (rule : ∀ (i j : Int) (t u : Tok) (s : Shared) (Q : Value → Shared → Prop) (E : Value → Shared → Prop), Q (.bool (g i j)) s → wpAny (model X.prog X.w) X.A (f (.int i t) (.int j u)) Q E s) :
    OpR X f (rI0 fun i j => .bl (g i j)) := by
  intro pins s σ H x y v u Q I rx ry h
  obtain ⟨i, j, rfl, rfl, q⟩ := h
  obtain ⟨t, rfl⟩ := rx
  obtain ⟨t', rfl⟩ := ry
  exact rule i j t t' s _ _ ⟨.bl (g i j), H, I, rfl, q⟩
noncomputable def CPow (i j : Int) : Prop := 0 ≤ j ∧ j ≤ 1000000 ∧ i.natAbs < 2 ^ 64
noncomputable def CMul (i j : Int) : Prop := (-(2 ^ 64) < i ∧ i < 2 ^ 64) ∨ (-(2 ^ 64) < j ∧ j < 2 ^ 64)
theorem CMul.ok {i j : Int} (h : CMul i j) : IntMulOk i j := by
  rcases h with ⟨h1, h2⟩ | ⟨h1, h2⟩
  · exact .of_left (intBits_le_64 h1 h2)
  · exact .of_right (intBits_le_64 h1 h2)
theorem op_add : OpR X (binaryOp .Add) (rI0 fun i j => .int (i + j)) := opI0 fun _ _ _ _ _ _ _ q => add_int q
theorem op_sub : OpR X (binaryOp .Sub) (rI0 fun i j => .int (i - j)) := opI0 fun _ _ _ _ _ _ _ q => sub_int q
theorem op_mod : OpR X (binaryOp .Mod) (rI (fun _ j => 0 < j) fun i j => .int (i % j)) := opI fun i j _ _ _ _ _ hc q => by
  have h1 : (0 : Int) < j := hc
  exact mod_int' (by omega) (by rw [Int.fmod_eq_emod_of_nonneg i (by omega)]; exact q)
theorem op_pow : OpR X (binaryOp .Pow) (rI CPow fun i j => .int (i ^ j.toNat)) := opI fun _ _ _ _ _ _ _ hc q => pow_int_small hc.1 hc.2.1 hc.2.2 q
theorem op_shl : OpR X (binaryOp .LShift) (rI CPow fun i j => .int (i * 2 ^ j.toNat)) := opI fun _ _ _ _ _ _ _ hc q => lshift_int_small hc.1 hc.2.1 hc.2.2 q
theorem unI {f : Value → Sem Value} {g : Int → Int}
    (rule : ∀ (i : Int) (t : Tok) (s : Shared) (Q : Value → Shared → Prop) (E : Value → Shared → Prop), Q (.int (g i) s.toks) { s with toks := s.toks + 1 } → wpAny (model X.prog X.w) X.A (f (.int i t)) Q E s) :
    UnR X f (rU fun i => .int (g i)) := by
  intro pins s σ H x v Q I rx h
  obtain ⟨i, rfl, q⟩ := h
  obtain ⟨t, rfl⟩ := rx
  exact rule i t s _ _ ⟨.int (g i), H, I.tok _, ⟨_, rfl⟩, q⟩
theorem un_neg : UnR X (unaryOp .USub) (rU fun i => .int (-i)) := unI fun _ _ _ _ _ q => neg_int q
end
noncomputable def scal : V → V → Bool
  | .non, .non => true | .non, .int _ => true | .int _, .non => true | .non, .bl _ => true | .bl _, .non => true | .non, .str _ => true | .str _, .non => true
  | .int _, .int _ => true | .bl _, .bl _ => true | .str _, .str _ => true | .byt _, .byt _ => true
  | .int _, .str _ => true | .str _, .int _ => true | .bl _, .str _ => true | .str _, .bl _ => true
  | _, _ => false
noncomputable def rEq : R2 := fun x y H Q => scal x y = true ∧ Q (.bl (decide (x = y))) H
noncomputable def rNe : R2 := fun x y H Q => scal x y = true ∧ Q (.bl (!decide (x = y))) H
theorem dec_int {i j : Int} : decide (V.int i = V.int j) = (i == j) := by
  rw [Bool.eq_iff_iff]
  simp
theorem dec_bl {i j : Bool} : decide (V.bl i = V.bl j) = (i == j) := by
  rw [Bool.eq_iff_iff]
  simp
theorem dec_str {i j : Str} : decide (V.str i = V.str j) = (i == j) := by
  rw [Bool.eq_iff_iff]
  simp
theorem dec_byt {i j : Array UInt8} : decide (V.byt i = V.byt j) = (i.toList == j.toList) := by
  rw [Bool.eq_iff_iff]
  cases i
  cases j
  simp
section
variable {X : Cx} {a b c : Expr} {ta tb tc : TE} {pos : Pos}
theorem fin_bl {pins : List (Addr × Obj)} {σ : St} {H : Hp} {s : Shared} {Q : VK} {k k' : Bool} (I : Inv X pins σ H s) (q : Q (.bl k) H) (e : k = k') : EP X pins σ Q (.bool k') s := by
  subst e
  exact ⟨.bl k, H, I, rfl, q⟩
theorem op_eq : OpR X (compareOp .Eq) rEq := by
  intro pins s σ H x y v u Q I rx ry h
  obtain ⟨hs, q⟩ := h
  cases x with
  | non =>
    cases rx
    cases y with
    | non => cases ry; exact PySem.EqNone.eq_none_none (fin_bl I q (by simp))
    | bl j => cases ry; exact PySem.EqNone.eq_none_bool (fin_bl I q (by simp))
    | int j => obtain ⟨t', rfl⟩ := ry; exact PySem.EqNone.eq_none_int (fin_bl I q (by simp))
    | str j => obtain ⟨t', rfl⟩ := ry; exact PySem.EqNone.eq_none_str (fin_bl I q (by simp))
    | _ => exact absurd (show false = true from hs) Bool.false_ne_true
  | bl i =>
    cases rx
    cases y with
    | non => cases ry; exact PySem.EqNone.eq_bool_none (fin_bl I q (by simp))
    | bl j => cases ry; exact eq_bool (fin_bl I q dec_bl)
    | str j => obtain ⟨t', rfl⟩ := ry; exact PySem.EqMixed.eq_bool_str (fin_bl I q (by simp))
    | _ => exact absurd (show false = true from hs) Bool.false_ne_true
  | int i =>
    obtain ⟨t, rfl⟩ := rx
    cases y with
    | non => cases ry; exact PySem.EqNone.eq_int_none (fin_bl I q (by simp))
    | int j => obtain ⟨t', rfl⟩ := ry; exact eq_int (fin_bl I q dec_int)
    | str j => obtain ⟨t', rfl⟩ := ry; exact PySem.EqMixed.eq_int_str (fin_bl I q (by simp))
    | _ => exact absurd (show false = true from hs) Bool.false_ne_true
  | str i =>
    obtain ⟨t, rfl⟩ := rx
    cases y with
    | non => cases ry; exact PySem.EqNone.eq_str_none (fin_bl I q (by simp))
    | bl j => cases ry; exact PySem.EqMixed.eq_str_bool (fin_bl I q (by simp))
    | int j => obtain ⟨t', rfl⟩ := ry; exact PySem.EqMixed.eq_str_int (fin_bl I q (by simp))
    | str j => obtain ⟨t', rfl⟩ := ry; exact eq_str (fin_bl I q dec_str)
    | _ => exact absurd (show false = true from hs) Bool.false_ne_true
  | byt i =>
    obtain ⟨t, rfl⟩ := rx
    cases y with
    | byt j => obtain ⟨t', rfl⟩ := ry; exact PySem.W.eq_bytes (fin_bl I q dec_byt)
    | _ => exact absurd (show false = true from hs) Bool.false_ne_true
  | _ => cases y <;> exact absurd (show false = true from hs) Bool.false_ne_true
theorem op_ne : OpR X (compareOp .NotEq) rNe := by
  intro pins s σ H x y v u Q I rx ry h
  obtain ⟨hs, q⟩ := h
  cases x with
  | non =>
    cases rx
    cases y with
    | non => cases ry; exact PySem.EqNone.ne_none_none (fin_bl I q (by simp))
    | bl j => cases ry; exact PySem.EqNone.ne_none_bool (fin_bl I q (by simp))
    | int j => obtain ⟨t', rfl⟩ := ry; exact PySem.EqNone.ne_none_int (fin_bl I q (by simp))
    | str j => obtain ⟨t', rfl⟩ := ry; exact PySem.EqNone.ne_none_str (fin_bl I q (by simp))
    | _ => exact absurd (show false = true from hs) Bool.false_ne_true
  | bl i =>
    cases rx
    cases y with
    | non => cases ry; exact PySem.EqNone.ne_bool_none (fin_bl I q (by simp))
    | bl j => cases ry; exact ne_bool (fin_bl I q (congrArg not dec_bl))
    | str j => obtain ⟨t', rfl⟩ := ry; exact PySem.EqMixed.ne_bool_str (fin_bl I q (by simp))
    | _ => exact absurd (show false = true from hs) Bool.false_ne_true
  | int i =>
    obtain ⟨t, rfl⟩ := rx
    cases y with
    | non => cases ry; exact PySem.EqNone.ne_int_none (fin_bl I q (by simp))
    | int j => obtain ⟨t', rfl⟩ := ry; exact ne_int (fin_bl I q (congrArg not dec_int))
    | str j => obtain ⟨t', rfl⟩ := ry; exact PySem.EqMixed.ne_int_str (fin_bl I q (by simp))
    | _ => exact absurd (show false = true from hs) Bool.false_ne_true
  | str i =>
    obtain ⟨t, rfl⟩ := rx
    cases y with
    | non => cases ry; exact PySem.EqNone.ne_str_none (fin_bl I q (by simp))
    | bl j => cases ry; exact PySem.EqMixed.ne_str_bool (fin_bl I q (by simp))
    | int j => obtain ⟨t', rfl⟩ := ry; exact PySem.EqMixed.ne_str_int (fin_bl I q (by simp))
    | str j => obtain ⟨t', rfl⟩ := ry; exact ne_str (fin_bl I q (congrArg not dec_str))
    | _ => exact absurd (show false = true from hs) Bool.false_ne_true
  | byt i =>
    obtain ⟨t, rfl⟩ := rx
    cases y with
    | byt j => obtain ⟨t', rfl⟩ := ry; exact PySem.W.ne_bytes (fin_bl I q (congrArg not dec_byt))
    | _ => exact absurd (show false = true from hs) Bool.false_ne_true
  | _ => cases y <;> exact absurd (show false = true from hs) Bool.false_ne_true
theorem op_lt : OpR X (compareOp .Lt) (rI0 fun i j => .bl (decide (i < j))) := opB0 fun _ _ _ _ _ _ _ q => lt_int q
theorem op_le : OpR X (compareOp .LtE) (rI0 fun i j => .bl (decide (i ≤ j))) := opB0 fun _ _ _ _ _ _ _ q => le_int q
theorem op_gt : OpR X (compareOp .Gt) (rI0 fun i j => .bl (decide (j < i))) := opB0 fun _ _ _ _ _ _ _ q => gt_int q
theorem op_ge : OpR X (compareOp .GtE) (rI0 fun i j => .bl (decide (j ≤ i))) := opB0 fun _ _ _ _ _ _ _ q => ge_int q
theorem op_isN : OpR X (compareOp .Is) (fun x y H Q => y = .non ∧ Q (.bl (decide (x = .non))) H) := by
  intro pins s σ H x y v u Q I rx ry h
  obtain ⟨rfl, q⟩ := h
  cases ry
  refine is_none_gen (fin_bl I q ?_)
  cases x <;> first
    | (cases rx; rfl)
    | (obtain ⟨t, rfl⟩ := rx; rfl)
theorem OpR.or {f : Value → Value → Sem Value} {r r' : R2} (h : OpR X f r) (h' : OpR X f r') : OpR X f (fun x y H Q => r x y H Q ∨ r' x y H Q) := by
  intro pins s σ H x y v u Q I rx ry q
  rcases q with q | q
  · exact h pins s σ H x y v u Q I rx ry q
  · exact h' pins s σ H x y v u Q I rx ry q
theorem nomark (b : Expr) {op : CmpOp} (h : op ≠ .In := by decide) (h2 : op ≠ .NotIn := by decide) : behindInMarks op b = false := by
  have e1 : (op == CmpOp.In) = false := by cases op <;> first | rfl | exact absurd rfl h
  have e2 : (op == CmpOp.NotIn) = false := by cases op <;> first | rfl | exact absurd rfl h2
  cases b <;> simp [behindInMarks, e1, e2]
theorem pe_cmpR {op : CmpOp} {r : R2} (ho : OpR X (compareOp op) r) (ha : PE X a ta) (hb : PE X b tb) (hm : behindInMarks op b = false) : PE X (.Compare a [op] [b] pos) (tOp r ta tb) := by
  intro pins s σ H Q I h
  exact wpAny_Compare1 (binT ha hb I h fun v u s2 x y H2 I2 rx ry q => ho pins s2 σ H2 x y v u Q I2 rx ry q) hm
noncomputable def tTest (t : TE) : TT := fun σ H Q => t σ H fun x H' => ∃ k, x = .bl k ∧ Q k H'
theorem pt_cmpR {op : CmpOp} {r : R2} (ho : OpR X (compareOp op) r) (ha : PE X a ta) (hb : PE X b tb) (hm : behindInMarks op b = false) : PT X (.Compare a [op] [b] pos) (tTest (tOp r ta tb)) := by
  intro pins s σ H Q I h
  refine wpAny_isTrue_Compare1 (thn (ha pins s σ H _ I h) fun v s1 ⟨x, H1, I1, r1, q1⟩ => thn (hb pins s1 σ H1 _ I1 q1) fun u s2 ⟨y, H2, I2, r2, q2⟩ =>
    thn (ho pins s2 σ H2 x y v u _ I2 r1 r2 q2) fun c s3 ⟨z, H3, I3, r3, k, e, q3⟩ => ?_) hm
  subst e
  cases r3
  exact wpAny_truthy_bool ⟨H3, I3, q3⟩
noncomputable def tChain (r r' : R2) (ta tb tc : TE) : TE := fun σ H Q => ta σ H fun x H1 => tb σ H1 fun y H2 => r x y H2 fun z H3 => ∃ k, z = .bl k ∧
  (if k = true then tc σ H3 fun w' H4 => r' y w' H4 Q else Q (.bl false) H3)
theorem pt_chain {op op' : CmpOp} {r r' : R2} (ho : OpR X (compareOp op) r) (ho' : OpR X (compareOp op') r') (ha : PE X a ta) (hb : PE X b tb) (hc : PE X c tc)
    (hm : lastMarks [op, op'] [b, c] = false := by with_unfolding_all rfl) : PT X (.Compare a [op, op'] [b, c] pos) (tTest (tChain r r' ta tb tc)) := by
  intro pins s σ H Q I h
  refine isTrue_chain (thn (ha pins s σ H _ I h) fun v s1 ⟨x, H1, I1, r1, q1⟩ => test_link (thn (hb pins s1 σ H1 _ I1 q1) fun u s2 ⟨y, H2, I2, r2, q2⟩ =>
    thn (ho pins s2 σ H2 x y v u _ I2 r1 r2 q2) fun d s3 ⟨z, H3, I3, r3, k, e, q3⟩ => ?_)) hm
  subst e
  cases r3
  refine wpAny_truthy_bool ?_
  cases k with
  | false =>
    obtain ⟨k', e', q'⟩ := q3
    cases e'
    exact ite_ff ⟨H3, I3, q'⟩
  | true =>
    refine ite_tt (test_last (thn (hc pins s3 σ H3 _ I3 q3) fun w' s4 ⟨z', H4, I4, r4, q4⟩ => thn (ho' pins s4 σ H4 y z' u w' _ I4 r2 r4 q4) fun d' s5 ⟨z2, H5, I5, r5, k2, e2, q5⟩ => ?_))
    subst e2
    cases r5
    exact wpAny_truthy_bool ⟨H5, I5, q5⟩
theorem line63 : (sizeLine : Nat) < 2 ^ 63 := by rw [sizeLine_eq]; decide
theorem op_add_str : OpR X (binaryOp .Add) (fun x y H Q => ∃ i j, x = .str i ∧ y = .str j ∧ i.length + j.length ≤ sizeLine ∧ Q (.str (i ++ j)) H) := by
  intro pins s σ H x y v u Q I rx ry h
  obtain ⟨i, j, rfl, rfl, hz, q⟩ := h
  obtain ⟨t, rfl⟩ := rx
  obtain ⟨t', rfl⟩ := ry
  exact add_str (fun t' tk => ⟨.str (i ++ j), H, I.tok _, ⟨_, rfl⟩, q⟩) hz
theorem vals1 {x : V} {us : List Value} (r : Vals [x] us) : ∃ u, us = [u] ∧ RelV x u := by
  cases r with
  | cons r1 r2 => cases r2; exact ⟨_, rfl, r1⟩
theorem vals2 {x y : V} {us : List Value} (r : Vals [x, y] us) : ∃ u w', us = [u, w'] ∧ RelV x u ∧ RelV y w' := by
  cases r with
  | cons r1 r2 =>
    cases r2 with
    | cons r3 r4 => cases r4; exact ⟨_, _, rfl, r1, r3⟩
theorem call_max2 (hc : X.calm = true) : CallR X (.builtin "max") (fun xs H Q => ∃ i j, xs = [.int i, .int j] ∧ Q (.int (if j > i then j else i)) H) := by
  intro pins s σ H xs us Q I r h
  obtain ⟨i, j, rfl, q⟩ := h
  obtain ⟨u, w', rfl, ⟨t, rfl⟩, ⟨t', rfl⟩⟩ := vals2 r
  refine max_two_ints (I.ok.hd hc) fun h' tk k => ⟨_, H, I.kept k, ?_, q⟩
  by_cases hj : j > i
  · rw [if_pos hj, if_pos hj]; exact ⟨_, rfl⟩
  · rw [if_neg hj, if_neg hj]; exact ⟨_, rfl⟩
theorem call_min2 (hc : X.calm = true) : CallR X (.builtin "min") (fun xs H Q => ∃ i j, xs = [.int i, .int j] ∧ Q (.int (if j < i then j else i)) H) := by
  intro pins s σ H xs us Q I r h
  obtain ⟨i, j, rfl, q⟩ := h
  obtain ⟨u, w', rfl, ⟨t, rfl⟩, ⟨t', rfl⟩⟩ := vals2 r
  refine min_two_ints (I.ok.hd hc) fun h' tk k => ⟨_, H, I.kept k, ?_, q⟩
  by_cases hj : j < i
  · rw [if_pos hj, if_pos hj]; exact ⟨_, rfl⟩
  · rw [if_neg hj, if_neg hj]; exact ⟨_, rfl⟩
end
structure ObjM (h : Heap) (x dx C : Addr) (mA : Str → Option Value) : Prop where
  obj : h.get? x = some (PySem.W.instObj C dx)
  ns : h.Ns1 dx mA
  ne : dx ≠ x
theorem lookIn_ns {h : Heap} {dx : Addr} {mA : Str → Option Value} (n : h.Ns1 dx mA) : ∃ od, h.get? dx = some od ∧ ∀ name, PySem.W.lookIn name od = some (mA name) := by
  obtain ⟨o, es, ep, ho, hd, hk, _, hm⟩ := n
  refine ⟨o, ho, fun name => ?_⟩
  have e := hm name
  unfold nsFind findBy at e
  rw [← Array.find?_toList] at e
  unfold PySem.W.lookIn
  rw [hd]
  dsimp only
  split
  · rename_i y q
    rw [q] at e
    exact congrArg some e
  · rename_i q
    rw [q] at e
    have a : es.toList.any (·.refKey) = false := by
      rw [List.any_eq_false]
      intro y hy
      obtain ⟨z, t, hkey⟩ := hk y (Array.mem_toList_iff.mp hy)
      simp [DictEntry.refKey, hkey]
    have a' : ¬ es.toList.any (·.refKey) = true := by rw [a]; exact Bool.false_ne_true
    rw [if_neg a']
    exact congrArg some e
theorem ObjM.look {h : Heap} {x dx C : Addr} {mA : Str → Option Value} (I : ObjM h x dx C mA) : ∃ od, PySem.W.InstAt h x (PySem.W.instObj C dx) C (some od) ∧ ∀ name, PySem.W.lookIn name od = some (mA name) :=
  let ⟨od, ho, hl⟩ := lookIn_ns I.ns
  ⟨od, ⟨I.obj, rfl, rfl, ho⟩, hl⟩
section
variable {prog : Program} {w : World} {A : Around} {E : Value → Shared → Prop} {s : Shared} {K : PySem.W.Frag} {x dx C f : Addr} {mA : Str → Option Value} {name : Str} {v : Value}
end
theorem RelO.none_of {o : Option Value} (r : RelO none o) : o = none := by
  cases o with
  | none => rfl
  | some u => exact (show False from r).elim
section
variable {P : Program} {w : World} {H H' : Hp} {h h' : Heap} {a C dx : Addr} {fs fs' : List (Str × V)}
theorem ins_get (hok : HOk P w H h) (e : H a = some (.ins C dx fs)) : ∃ mA, ObjM h a dx C mA ∧ (∀ f, RelO (fs.lookup f) (mA f)) ∧ PySem.Within mA (fs.map (·.1)) ∧ fs.length ≤ 1000 ∧ H dx = some (.own a) := by
  obtain ⟨d, z, ne, ob, mA, n, r, q⟩ := (show ObjOk P w H h a (.ins C dx fs) from hok a _ e)
  exact ⟨mA, ⟨ob, n, ne⟩, r, q, z, d⟩
end
structure Cls (K : PySem.W.Frag) (C : Addr) : Prop where
  pg : PySem.W.plainGet K C Str.empty = true
  hd : PySem.W.hasDictIn K C = true
  po : PySem.W.plainOver K C = true
  sa : PySem.W.findIn K (.ref C) "__setattr__" = some (some (.builtin "object.__setattr__"))
theorem Cls.get {K : PySem.W.Frag} {C : Addr} (c : Cls K C) (f : Str) : PySem.W.plainGet K C f = true := c.pg
structure Con (K : PySem.W.Frag) (C : Addr) (f : Str) (v : V) (u : Value) : Prop where
  at_ : PySem.W.findIn K (.ref C) f = some (some u)
  rel : RelV v u
  get : PySem.W.specialIn K u "__get__" = some none
  cp : PySem.W.copiedNames.contains f = false
structure Meth (K : PySem.W.Frag) (C : Addr) (m : Str) (f : Addr) : Prop where
  at_ : PySem.W.findIn K (.ref C) m = some (some (.ref f))
  fn : PySem.W.isFn K (.ref f) = true
  kp : PySem.W.keepIn K (.ref f) = true
section
variable {X : Cx} {pins : List (Addr × Obj)} {σ : St} {H : Hp} {s : Shared} {a C dx : Addr} {fs : List (Str × V)} {f : Str} {v : V} {A : Around} {E : Value → Shared → Prop}
end
section
variable {X : Cx} {o e value : Expr} {f : Str} {pos pos' tpos : Pos} {ta tv : TE}
end
section
variable {X : Cx} {pins : List (Addr × Obj)} {σ : St} {H : Hp} {s : Shared} {A : Around} {E : Value → Shared → Prop} {Q : Value → Shared → Prop} {c : Value} {b : Bool}
inductive TyOf (K : PySem.W.Frag) (H : Hp) : V → Value → Prop where
  | non : TyOf K H .non (.type "NoneType")
  | bl (x : Bool) : TyOf K H (.bl x) (.type "bool")
  | int (i : Int) : TyOf K H (.int i) (.type "int")
  | str (x : Str) : TyOf K H (.str x) (.type "str")
  | flt (x : UInt64) : TyOf K H (.flt x) (.type "float")
  | lst {a : Addr} {xs : List V} (e : H a = some (.lst xs)) : TyOf K H (.ref a) (.type "list")
  | frz {a : Addr} {o : Obj} {xs : List V} (e : H a = some (.frz o (.lst xs))) : TyOf K H (.ref a) (.type "list")
  | tup {a : Addr} {xs : List V} (e : H a = some (.tup xs)) : TyOf K H (.ref a) (.type "tuple")
  | dK {a : Addr} {kvs : List (Key × V)} (e : H a = some (.dK kvs)) : TyOf K H (.ref a) (.type "dict")
  | dT {a : Addr} {kvs : List (List Key × V)} (e : H a = some (.dT kvs)) : TyOf K H (.ref a) (.type "dict")
  | ins {a C dx : Addr} {fs : List (Str × V)} (e : H a = some (.ins C dx fs)) (cl : Cls K C) (ha : PySem.W.findIn K (.ref C) "__class__" = some (some (.builtin "object.__class__")))
      (hn : PySem.W.specialIn K (.builtin "object.__class__") "__get__" = some (some (.builtin "getset_descriptor.__get__"))) (htk : PySem.W.takesIn K (.builtin "object.__class__") = some true)
      (hm : PySem.W.mroIn K C (.type "object") = some true) : TyOf K H (.ref a) (.ref C)
theorem isinst_ok {x : V} {u t : Value} (I : Inv X pins σ H s) (rx : RelV x u) (ty : TyOf X.K H x t) (e : PySem.W.kitOne X.K t c = some b) (h : ∀ tk, Q (.bool b) { s with toks := tk }) :
    wpAny (model X.prog X.w) A (call (.builtin "isinstance") [u, c]) Q E s := by
  cases ty with
  | non => cases (show u = Value.none from rx); exact PySem.W.kia_one PySem.W.kitx_none I.kIn True.intro e (fun z => nomatch z) h
  | bl y => cases (show u = Value.bool y from rx); exact PySem.W.kia_one PySem.W.kitx_bool I.kIn True.intro e (fun z => nomatch z) h
  | int i => obtain ⟨t, q⟩ := (show ∃ t, u = Value.int i t from rx); cases q; exact PySem.W.kia_one PySem.W.kitx_int I.kIn True.intro e (fun z => nomatch z) h
  | str y => obtain ⟨t, q⟩ := (show ∃ t, u = Value.str y t from rx); cases q; exact PySem.W.kia_one PySem.W.kitx_str I.kIn True.intro e (fun z => nomatch z) h
  | flt y => obtain ⟨t, q⟩ := (show ∃ t, u = Value.float y t from rx); cases q; exact PySem.W.kia_one PySem.W.kitx_float I.kIn True.intro e (fun z => nomatch z) h
  | @lst a xs ea =>
    cases (show u = Value.ref a from rx)
    obtain ⟨_, _, n, _, h1⟩ := (show ObjOk X.prog X.w H s.heap a (.lst xs) from I.hok a _ ea)
    exact PySem.W.kia_one PySem.W.kitx_list I.kIn ⟨_, h1, rfl⟩ e (fun z => nomatch z) h
  | @frz a ob xs ea =>
    cases (show u = Value.ref a from rx)
    obtain ⟨_, _, _, n, _, h1⟩ := (show ObjOk X.prog X.w H s.heap a (.frz ob (.lst xs)) from I.hok a _ ea)
    exact PySem.W.kia_one PySem.W.kitx_list I.kIn ⟨_, h1, rfl⟩ e (fun z => nomatch z) h
  | @tup a xs ea =>
    cases (show u = Value.ref a from rx)
    obtain ⟨_, _, _, p⟩ := (show ObjOk X.prog X.w H s.heap a (.tup xs) from I.hok a _ ea)
    obtain ⟨o, h1, h2, _⟩ := p
    exact PySem.W.kia_one PySem.W.kitx_tuple I.kIn ⟨o, h1, h2⟩ e (fun z => nomatch z) h
  | @dK a kvs ea =>
    cases (show u = Value.ref a from rx)
    obtain ⟨_, _, vs, _, p⟩ := (show ObjOk X.prog X.w H s.heap a (.dK kvs) from I.hok a _ ea)
    obtain ⟨o, es, ep, h1, h2, _⟩ := p
    exact PySem.W.kia_one PySem.W.kitx_dict I.kIn ⟨o, h1, h2.1⟩ e (fun z => nomatch z) h
  | @dT a kvs ea =>
    cases (show u = Value.ref a from rx)
    obtain ⟨_, _, xs, _, o, es, ep, h1, h2, _⟩ := (show ObjOk X.prog X.w H s.heap a (.dT kvs) from I.hok a _ ea)
    exact PySem.W.kia_one PySem.W.kitx_dict I.kIn ⟨o, h1, h2.1⟩ e (fun z => nomatch z) h
  | @ins a C dx fs ea cl ha hn htk hm =>
    cases (show u = Value.ref a from rx)
    obtain ⟨mA, O, _⟩ := ins_get I.hok ea
    obtain ⟨od, J, _⟩ := O.look
    exact PySem.W.kia_one (PySem.W.kitx_own (cl.get _) cl.hd ha hn htk hm) I.kIn J e (fun z => nomatch z) h
end
structure Room (k : Nat) (A : Around) : Prop where
  hd : A.handled = none
  dp : A.depth + 3 * k + 5 < recursionLimit
  un : A.units + 16 * k + 200 < cLine
theorem Room.mono {j k : Nat} {A : Around} (r : Room k A) (h : j ≤ k) : Room j A := ⟨r.hd, by have := r.dp; omega, by have := r.un; omega⟩
theorem Room.deeper {k : Nat} {A : Around} (r : Room (k + 1) A) (env : Env) : Room k (A.deeper env) :=
  ⟨r.hd, by have := r.dp; show A.depth + 1 + 3 * k + 5 < _; omega, by have := r.un; show A.units + 3 + 16 * k + 200 < _; omega⟩
theorem Room.in1 {k : Nat} {A : Around} (r : Room (k + 1) A) : Room k A.in1 :=
  ⟨r.hd, by have := r.dp; show A.depth + 3 * k + 5 < _; omega, by have := r.un; show A.units + 1 + 16 * k + 200 < _; omega⟩
theorem make_depth {A : Around} {C : Addr} {us : List Value} {kw : List (Str × Value)} : (A.under (.builtin "type.__call__" ⟨.ref C :: us, kw⟩)).depth = A.depth + 1 := by
  first | rfl | simp [Around.under, Code.weight, Code.isCreation, Code.isGuard, Code.isCaller, Code.frames, Code.isFrame, guardIds]
theorem make_units {A : Around} {C : Addr} {us : List Value} {kw : List (Str × Value)} : (A.under (.builtin "type.__call__" ⟨.ref C :: us, kw⟩)).units = A.units + 1 := by
  first | rfl | simp [Around.under, Code.cUnits, Code.frames, Code.isFrame]
theorem Room.make {k : Nat} {A : Around} (r : Room (k + 1) A) (C : Addr) (us : List Value) (kw : List (Str × Value)) : Room k (A.under (.builtin "type.__call__" ⟨.ref C :: us, kw⟩)) :=
  ⟨r.hd, by have := r.dp; rw [make_depth]; omega, by have := r.un; rw [make_units]; omega⟩
theorem Room.depth {k : Nat} {A : Around} (r : Room k A) : A.depth < recursionLimit := by have := r.dp; omega
theorem Room.units {k : Nat} {A : Around} (r : Room k A) : A.units + 64 < cLine := by have := r.un; omega
noncomputable def tNil : TA := fun _ H Q => Q [] H
noncomputable def tCons (ta : TE) (tr : TA) : TA := fun σ H Q => ta σ H fun x H1 => tr σ H1 fun xs H2 => Q (x :: xs) H2
section
variable {X : Cx} {e : Expr} {es : List Expr} {te : TE} {t : TA} {pos : Pos}
theorem pa_nil : PA X [] tNil := fun _ _ _ _ H Q I h => Calls.spliced_nil ⟨[], H, I, .nil, h⟩
theorem pa_cons (ha : PE X e te) (hr : PA X es t) (hs : starEach (e :: es) X.env = (false, eval e X.env) :: starEach es X.env := by rfl) : PA X (e :: es) (tCons te t) := by
  intro pos pins s σ H Q I h
  rw [hs]
  show wpAny _ _ (spliced ((false, eval e X.env) :: backTo pos (starEach es X.env))) _ _ s
  refine Calls.spliced_cons (thn (ha pins s σ H _ I h) fun u s1 ⟨x, H1, I1, r1, q1⟩ => ?_)
  exact thn (hr pos pins s1 σ H1 _ I1 q1) fun us s2 ⟨xs, H2, I2, r2, q2⟩ => ⟨x :: xs, H2, I2, .cons r1 r2, q2⟩
noncomputable def tLst (t : TA) : TE := fun σ H Q => t σ H fun xs H1 => xs.length ≤ sizeLine ∧ ∀ p, H1 p = none → Q (.ref p) (upd H1 p (.lst xs))
theorem pe_lst (h : PA X es t) : PE X (.List es pos) (tLst t) := by
  intro pins s σ H Q I hq
  refine wpAny_List_spliced (thn (h pos pins s σ H _ I hq) fun us s1 ⟨xs, H1, I1, r, z, q⟩ => ⟨by rw [← r.length]; exact z, ?_⟩)
  have hf : H1 s1.heap.objs.size = none := I1.hok.fresh (Nat.le_refl _)
  refine ⟨.ref s1.heap.objs.size, upd H1 s1.heap.objs.size (.lst xs), I1.laid (t' := s1.toks) (fun b u e => Heap.get?_push_of_some _ e) (Nat.le_refl _) ?_, rfl, q _ hf⟩
  exact ⟨z, us, 0, r, Heap.get?_push_size _ rfl⟩
end
abbrev Sp := List V → Hp → VK → XK → Prop
abbrev CXT := List Env → Hp → Shared → XK → Value → Shared → Prop
structure Env0 (P : Program) (w : World) (K : PySem.W.Frag) (mg : Str → Option Value) (base : Heap) (A : Around) (outer : List Env) (s : Shared) (H : Hp) : Prop where
  frames : A.frames = some outer
  mod : Mod K mg base
  bs : ∀ b o, base.get? b = some o → s.heap.get? b = some o ∧ H b = none
  bsz : base.objs.size ≤ s.heap.objs.size
  funs : s.heap.FunFrames base outer
  frf : ∀ b ∈ frs outer, H b = none
  hok : HOk P w H s.heap
  bare : AllBare s.gens
noncomputable def CE (outer : List Env) (P : Program) (w : World) (H : Hp) (s : Shared) (Q : VK) (u : Value) (s' : Shared) : Prop :=
  ∃ v H', s'.os = s.os ∧ AllBare s'.gens ∧ Un (frs outer) [] H H' s.heap s'.heap ∧ HOk P w H' s'.heap ∧ RelV v u ∧ Q v H'
noncomputable def CR (CX : CXT) (outer : List Env) (P : Program) (w : World) (H : Hp) (s : Shared) (Q : VK) (E : XK) (r : Result) (s' : Shared) : Prop :=
  match r with
  | .ok (.ret u) => CE outer P w H s Q u s'
  | .ok _ => False
  | .error e => CX outer H s E e s'
structure FnOk (P : Program) (w : World) (K : PySem.W.Frag) (mg : Str → Option Value) (base : Heap) (CX : CXT) (k : Nat) (f : Addr) (fd : FuncData) (ps : List Str) (sp : Sp) : Prop where
  len : ∀ vs H Q E, sp vs H Q E → vs.length = ps.length
  run : ∀ (A : Around) (outer : List Env) (s : Shared) (H : Hp) (args : Args) (us : List Value) (vs : List V) (Q : VK) (E : XK), Room k A → Env0 P w K mg base A outer s H → BindsTo s fd args (ps.zip us) → Vals vs us → sp vs H Q E →
    codeAny (model P w) A (.call (.ref f) args) (CR CX outer P w H s Q E) s
theorem FnOk.mono {P : Program} {w : World} {K : PySem.W.Frag} {mg : Str → Option Value} {base : Heap} {CX : CXT} {j k : Nat} {f : Addr} {fd : FuncData} {ps : List Str} {sp : Sp} (F : FnOk P w K mg base CX j f fd ps sp) (h : j ≤ k) :
    FnOk P w K mg base CX k f fd ps sp := ⟨F.len, fun A outer s H args us vs Q E hr => F.run A outer s H args us vs Q E (hr.mono h)⟩
theorem FnOk.imp {P : Program} {w : World} {K : PySem.W.Frag} {mg : Str → Option Value} {base : Heap} {CX : CXT} {k : Nat} {f : Addr} {fd : FuncData} {ps : List Str} {sp sp' : Sp} (F : FnOk P w K mg base CX k f fd ps sp)
    (h : ∀ vs H Q E, sp' vs H Q E → sp vs H Q E) : FnOk P w K mg base CX k f fd ps sp' :=
  ⟨fun vs H Q E q => F.len vs H Q E (h _ _ _ _ q), fun A outer s H args us vs Q E hr he hb hv hs => F.run A outer s H args us vs Q E hr he hb hv (h _ _ _ _ hs)⟩
theorem Env0.make {P : Program} {w : World} {K : PySem.W.Frag} {mg : Str → Option Value} {base : Heap} {A : Around} {outer : List Env} {s : Shared} {H : Hp} (e : Env0 P w K mg base A outer s H) (C : Addr) (us : List Value) (kw : List (Str × Value)) :
    Env0 P w K mg base (A.under (.builtin "type.__call__" ⟨.ref C :: us, kw⟩)) outer s H := ⟨by first | exact e.frames | (simpa [Around.under, Code.envs, Code.isFrame, pushEnvs] using e.frames), e.mod, e.bs, e.bsz, e.funs, e.frf, e.hok, e.bare⟩
theorem Env0.in1 {P : Program} {w : World} {K : PySem.W.Frag} {mg : Str → Option Value} {base : Heap} {A : Around} {outer : List Env} {s : Shared} {H : Hp} (e : Env0 P w K mg base A outer s H) :
    Env0 P w K mg base A.in1 outer s H := ⟨e.frames, e.mod, e.bs, e.bsz, e.funs, e.frf, e.hok, e.bare⟩
section
variable {X : Cx} {pins : List (Addr × Obj)} {σ : St} {H : Hp} {s s' : Shared}
theorem Inv.env0 (I : Inv X pins σ H s) : Env0 X.prog X.w X.K X.mg X.base X.A X.stack s H :=
  ⟨I.ok.frames, I.ok.mod, I.bs, Nat.le_trans I.ok.bsz I.sz, I.stack, I.stkFree, I.hok, I.bare⟩
theorem Inv.after {Q : VK} {u : Value} (I : Inv X pins σ H s) (h : CE X.stack X.prog X.w H s Q u s') : EP X pins σ Q u s' := by
  obtain ⟨v, H', os, bare, un, hok, r, q⟩ := h
  obtain ⟨hh, g, d, t, os'⟩ := s'
  obtain rfl : os' = s.os := os
  exact ⟨v, H', I.call (h' := hh) (g' := g) (d' := d) (t' := t) (ch := []) un hok bare (fun b z => absurd z (by simp)), r, q⟩
end
noncomputable def tCall (sp : Sp) (dvs : List V) (E : XK) (t : TA) : TE := fun σ H Q => t σ H fun vs H1 => sp (vs ++ dvs) H1 Q E
noncomputable def Binds (K : PySem.W.Frag) (fd : FuncData) (ps : List Str) (ds : List Value) : Prop :=
  ∀ (s : Shared) (us : List Value), K.In s.heap → (us ++ ds).length = ps.length → BindsTo s fd ⟨us, []⟩ (ps.zip (us ++ ds))
theorem Binds.all {K : PySem.W.Frag} {fd : FuncData} {ps : List Str} (h : ∀ us : List Value, us.length = ps.length → bindArgs fd ⟨us, []⟩ = pure (ps.zip us)) : Binds K fd ps [] := fun s us _ hl => by
  rw [List.append_nil] at hl ⊢
  exact .of_eq (h us hl)
noncomputable def Passes (CX : CXT) (X : Cx) (E : XK) : Prop := ∀ (pins : List (Addr × Obj)) (σ : St) (H : Hp) (s : Shared) (e : Value) (s' : Shared), Inv X pins σ H s → CX X.stack H s E e s' → X.xe e s'
section
variable {X : Cx} {CX : CXT} {k : Nat} {f C : Addr} {fd : FuncData} {ps : List Str} {sp : Sp} {dvs : List V} {ds : List Value} {E : XK} {x m : Str} {p pos apos : Pos} {e o : Expr} {es : List Expr} {ta : TE} {t : TA}
theorem run_fn {pins : List (Addr × Obj)} {σ : St} {H : Hp} {s : Shared} {Q : VK} {us : List Value} {vs : List V} (F : FnOk X.prog X.w X.K X.mg X.base CX k f fd ps sp) (hr : Room k X.A) (hb : Binds X.K fd ps ds) (hd : Vals dvs ds) (hx : Passes CX X E)
    (I : Inv X pins σ H s) (r : Vals vs us) (h : sp (vs ++ dvs) H Q E) : wpAny (model X.prog X.w) X.A (call (.ref f) us) (EP X pins σ Q) X.xe s := by
  have r2 : Vals (vs ++ dvs) (us ++ ds) := r.append hd
  have hl : (us ++ ds).length = ps.length := by rw [← r2.length]; exact F.len _ _ _ _ h
  refine wpAny_call (codeAny_mono (F.run X.A X.stack s H ⟨us, []⟩ (us ++ ds) (vs ++ dvs) Q E hr I.env0 (hb s us I.kIn hl) r2 h) fun r s' hq => ?_)
  cases r with
  | error e => exact hx pins σ H s e s' I hq
  | ok fl =>
    cases fl with
    | ret u => exact I.after hq
    | next => exact False.elim hq
    | brk => exact False.elim hq
    | cont => exact False.elim hq
theorem pe_call (F : FnOk X.prog X.w X.K X.mg X.base CX k f fd ps sp) (hr : Room k X.A) (hg : Gl X x) (hm : X.mg x = some (.ref f)) (hk : PySem.W.keepIn X.K (.ref f) = true) (hb : Binds X.K fd ps ds) (hd : Vals dvs ds) (hx : Passes CX X E)
    (ha : PA X (e :: es) t) (hdb : (x == ("__debug__" : Str)) = false := by decide) (he : starEach (e :: es) X.env = (false, eval e X.env) :: starEach es X.env := by rfl) (hpl : (backTo pos (starEach es X.env)).any (·.1) = false := by rfl) :
    PE X (.Call (.Name x p) (e :: es) [] pos) (tCall sp dvs E t) := by
  intro pins s σ H Q I h
  refine wpAny_Call_Name_kw (ld_glob I hg hm ?_ hdb)
  refine PySem.W.callWith_K (h₀ := X.base) I.ok.mod.kin hk (thn (ha pos pins s σ H _ I h) fun us s1 ⟨vs, H1, I1, r, q⟩ => ⟨I1.kIn, ?_⟩) he hpl
  exact run_fn F hr hb hd hx I1 r q
theorem pe_call0 (F : FnOk X.prog X.w X.K X.mg X.base CX k f fd ps sp) (hr : Room k X.A) (hg : Gl X x) (hm : X.mg x = some (.ref f)) (hk : PySem.W.keepIn X.K (.ref f) = true) (hb : Binds X.K fd ps ds) (hd : Vals dvs ds) (hx : Passes CX X E)
    (hdb : (x == ("__debug__" : Str)) = false := by decide) : PE X (.Call (.Name x p) [] [] pos) (tCall sp dvs E tNil) := by
  intro pins s σ H Q I h
  refine wpAny_Call_Name_kw (ld_glob I hg hm ?_ hdb)
  exact PySem.W.callWith_K0 I.kIn hk (run_fn (us := []) F hr hb hd hx I .nil h)
structure Mk (K : PySem.W.Frag) (C f : Addr) : Prop where
  makes : PySem.W.makesIn K C = true
  init : PySem.W.findIn K (.ref C) "__init__" = some (some (.ref f))
  fn : PySem.W.isFn K (.ref f) = true
  kp : PySem.W.keepIn K (.ref C) = true
end
section
variable {X : Cx} {CX : CXT} {k : Nat} {f C : Addr} {fd : FuncData} {ps ks : List Str} {sp : Sp} {E : XK} {x m : Str} {p pos apos kpos : Pos} {e o : Expr} {es : List Expr} {kws : List Keyword} {te ta : TE} {t tk : TA} {nm : Option Str}
structure KBinds (K : PySem.W.Frag) (fd : FuncData) (ps ks : List Str) (g : List Value → List Value → List Value) (gV : List V → List V → List V) : Prop where
  to : ∀ (s : Shared) (us ws : List Value), K.In s.heap → (g us ws).length = ps.length → BindsTo s fd ⟨us, ks.zip ws⟩ (ps.zip (g us ws))
  rel : ∀ {vs : List V} {us : List Value} {zs : List V} {ws : List Value}, Vals vs us → Vals zs ws → Vals (gV vs zs) (g us ws)
variable {g : List Value → List Value → List Value} {gV : List V → List V → List V}
end
structure FnScope (N P : List Str) (sc : Scope) : Prop where
  kind : sc.kind = .function
  co : sc.isCoroutine = false
  gen : sc.isGenerator = false
  nd : N.Nodup
  pre : N.take P.length = P
  par : ∀ x ∈ P, sc.names.lookup x = some .local ∨ sc.names.lookup x = some .cell
  nofree : ∀ y ∈ sc.names, y.2 ≠ .free
theorem bindL_out {kindOf : Str → Option NameKind} {x : Str} : ∀ {binds : List (Str × Value)} {m : Str → Option Value}, (∀ v, (x, v) ∉ binds) → bindL kindOf binds m x = m x
  | [], _, _ => rfl
  | (n, v) :: r, m, h => by
    unfold bindL
    rw [bindL_out fun w hw => h w (List.mem_cons_of_mem _ hw)]
    split
    · have : x ≠ n := by rintro rfl; exact h v List.mem_cons_self
      simp [this]
    · rfl
theorem bindC_out {kindOf : Str → Option NameKind} {x : Str} : ∀ {binds : List (Str × Value)} {m : Str → Option Value}, (∀ v, (x, v) ∉ binds) → bindC kindOf binds m x = m x
  | [], _, _ => rfl
  | (n, v) :: r, m, h => by
    unfold bindC
    rw [bindC_out fun w hw => h w (List.mem_cons_of_mem _ hw)]
    split
    · rfl
    · have : x ≠ n := by rintro rfl; exact h v List.mem_cons_self
      simp [this]
theorem bindL_get {kindOf : Str → Option NameKind} {x : Str} {v : Value} : ∀ {P : List Str} {vs : List Value} {i : Nat} {m : Str → Option Value}, P.Nodup → P[i]? = some x → vs[i]? = some v → kindOf x = some .local →
    bindL kindOf (P.zip vs) m x = some v
  | [], _, _, _, _, h, _, _ => by simp at h
  | _ :: _, [], _, _, _, _, h, _ => by simp at h
  | p :: P, w :: vs, 0, m, nd, h1, h2, hk => by
    simp at h1 h2; subst h1; subst h2
    show bindL kindOf ((p, w) :: P.zip vs) m p = _
    unfold bindL
    rw [bindL_out fun v hv => (List.nodup_cons.mp nd).1 (List.of_mem_zip hv).1, if_pos hk]
    simp
  | p :: P, w :: vs, i + 1, m, nd, h1, h2, hk => by
    show bindL kindOf ((p, w) :: P.zip vs) m x = _
    unfold bindL
    exact bindL_get (i := i) (List.nodup_cons.mp nd).2 (by simpa using h1) (by simpa using h2) hk
theorem bindC_get {kindOf : Str → Option NameKind} {x : Str} {v : Value} : ∀ {P : List Str} {vs : List Value} {i : Nat} {m : Str → Option Value}, P.Nodup → P[i]? = some x → vs[i]? = some v → kindOf x ≠ some .local →
    bindC kindOf (P.zip vs) m x = some v
  | [], _, _, _, _, h, _, _ => by simp at h
  | _ :: _, [], _, _, _, _, h, _ => by simp at h
  | p :: P, w :: vs, 0, m, nd, h1, h2, hk => by
    simp at h1 h2; subst h1; subst h2
    show bindC kindOf ((p, w) :: P.zip vs) m p = _
    unfold bindC
    rw [bindC_out fun v hv => (List.nodup_cons.mp nd).1 (List.of_mem_zip hv).1, if_neg hk]
    simp
  | p :: P, w :: vs, i + 1, m, nd, h1, h2, hk => by
    show bindC kindOf ((p, w) :: P.zip vs) m x = _
    unfold bindC
    exact bindC_get (i := i) (List.nodup_cons.mp nd).2 (by simpa using h1) (by simpa using h2) hk
noncomputable def start (N : List Str) (vs : List V) : St := vs.map some ++ List.replicate (N.length - vs.length) none
noncomputable def cxOf (CX : CXT) (P : Program) (w : World) (K : PySem.W.Frag) (mg : Str → Option Value) (base : Heap) (N : List Str) (qual : Str) (scope : Scope) (f : Addr) (cd : Value) (A : Around) (outer : List Env) (s : Shared) (H : Hp) (E : XK) : Cx where
  prog := P
  w := w
  K := K
  mg := mg
  base := base
  A := A.deeper (envOfC qual scope s.heap.objs.size f cd)
  N := N
  s₀ := s
  H₀ := H
  env := envOfC qual scope s.heap.objs.size f cd
  outer := outer
  stack := envOfC qual scope s.heap.objs.size f cd :: outer
  ex := []
  calm := true
  fn := fun _ => true
  pn := []
  xe := fun e s' => wpAny (model P w) (A.deeper (envOfC qual scope s.heap.objs.size f cd)) (leaving (envOfC qual scope s.heap.objs.size f cd) e) (fun _ s'' => CX outer H s E e s'') (fun e' s'' => CX outer H s E e' s'') s'
theorem cell_has {sc : Scope} {n : Nat} {x : Str} (h : sc.names.lookup x = some .cell) : ∃ c, (cellsFrom n sc.names []).lookup x = some c := by
  have q := PySem.W.cellsFrom_some sc.names n [] (.inl h)
  exact Option.isSome_iff_exists.mp q
theorem inv_start {CX : CXT} {P : Program} {w : World} {K : PySem.W.Frag} {mg : Str → Option Value} {base : Heap} {N ps : List Str} {qual : Str} {scope : Scope} {f : Addr} {cd : Value} {A : Around} {outer : List Env} {s s1 : Shared} {H : Hp} {E : XK} {us : List Value} {vs : List V}
    (S : FnScope N ps scope) (hd : A.handled = none) (e0 : Env0 P w K mg base A outer s H) (hl : vs.length = ps.length) (r : Vals vs us)
    (x : InCallC s s.heap.objs.size (bindL (envOfC qual scope s.heap.objs.size f cd).kindOf (ps.zip us) fun _ => none) (cellsFrom (s.heap.objs.size + 1) scope.names []) (bindC (envOfC qual scope s.heap.objs.size f cd).kindOf (ps.zip us) fun _ => none) s1) :
    Inv (cxOf CX P w K mg base N qual scope f cd A outer s H E) [] (start N vs) H s1 := by
  have hpl : ps.length ≤ N.length := by have := congrArg List.length S.pre; rw [List.length_take] at this; omega
  obtain ⟨h1, tk, rfl, hk⟩ := x.done
  have noA : ∀ b : Addr, b ∉ (cxOf CX P w K mg base N qual scope f cd A outer s H E).ex := fun b z => absurd (show b ∈ ([] : List Addr) from z) (by simp)
  refine ⟨⟨e0.mod, S.kind, rfl, rfl, Nat.le_refl _, fun y z c h1 h2 => ?_, fun y hy => ?_, fun y c _ h => ?_, fun _ => hd, Around.frames_deeper e0.frames, .inr ⟨rfl, rfl⟩, fun b z => absurd z (noA b), e0.bs, e0.bsz, fun b _ _ => noA b, fun b z => absurd z (noA b), e0.funs, e0.frf⟩,
    rfl, e0.bare, Un.kept hk, ⟨_, x.toInCall.ns, fun i y v h1 h2 h3 => ?_⟩, fun y c h => ⟨_, x.cell y c h⟩, e0.hok.fresh (Nat.le_refl _), fun y c h => ?_, fun p hp => absurd (show p ∈ ([] : List (Addr × Obj)) from hp) (by simp), e0.hok.kept hk, ?_⟩
  · exact name_of_addr x.apart (PySem.mem_of_lookup h1) (PySem.mem_of_lookup h2)
  · have hy : scope.names.lookup y = some .cell ∨ scope.names.lookup y = some .free := hy
    rcases hy with hy | hy
    · exact cell_has hy
    · exact absurd rfl (S.nofree _ (PySem.mem_of_lookup hy))
  · exact Nat.le_of_lt (x.above y c (PySem.mem_of_lookup h))
  · have hi : i < vs.length := by
      unfold start at h2
      by_cases hi : i < vs.length
      · exact hi
      · rw [List.getElem?_append_right (by simpa using hi)] at h2
        rw [List.getElem?_replicate] at h2
        split at h2 <;> cases h2
    have ha : vs[i]? = some v := by
      unfold start at h2
      rw [List.getElem?_append_left (by simpa using hi), List.getElem?_map] at h2
      cases e : vs[i]? with
      | none => rw [e] at h2; cases h2
      | some a => rw [e] at h2; cases h2; rfl
    obtain ⟨u, hu, rv⟩ := r.get ha
    have hp : ps[i]? = some y := by
      rw [← S.pre, List.getElem?_take_of_lt (by omega)]; exact h1
    have ndP : ps.Nodup := by rw [← S.pre]; exact S.nd.sublist (List.take_sublist _ _)
    refine ⟨u, rv, ?_⟩
    rcases S.par y (List.mem_of_getElem? hp) with k | k
    · exact .inl ⟨k, bindL_get ndP hp hu k⟩
    · obtain ⟨c, e⟩ := cell_has (n := s.heap.objs.size + 1) k
      refine .inr ⟨.inl k, c, e, ?_⟩
      have q := x.cell y c e
      rw [bindC_get ndP hp hu (by show scope.names.lookup y ≠ _; rw [k]; decide)] at q
      exact q
  · exact e0.hok.fresh (Nat.le_of_lt (x.above y c (PySem.mem_of_lookup h)))
  · unfold start
    show _ = N.length
    rw [List.length_append, List.length_map, List.length_replicate]
    omega
theorem fn_of {CX : CXT} {P : Program} {w : World} {K : PySem.W.Frag} {mg : Str → Option Value} {base : Heap} {k : Nat} {f : Addr} {name qual : Str} {params : Arguments} {body : List Stmt} {scope : Scope} {dV kV doc pm cdv ct oc : Value} {an od : Option Addr}
    {osl : Array (Option Value)} {N ps : List Str} {sp : Sp} (lk : K.lookup f = some ⟨oc, od, .func (PySem.W.fnOf name qual params body scope dV kV doc pm an cdv ct), osl⟩) (hcd : PySem.W.codeIn K cdv qual = true) (S : FnScope N ps scope)
    (len : ∀ vs H Q E, sp vs H Q E → vs.length = ps.length)
    (hbody : ∀ (A : Around) (outer : List Env) (s : Shared) (H : Hp) (vs : List V) (Q : VK) (E : XK), Room k (A.deeper (envOfC qual scope s.heap.objs.size f cdv)) → sp vs H Q E →
      ∃ t, PSs (cxOf CX P w K mg base N qual scope f cdv A outer s H E) body t ∧ t { nx := fun _ H' => Q .non H', rt := Q } (start N vs) H) :
    FnOk P w K mg base CX (k + 1) f (PySem.W.fnOf name qual params body scope dV kV doc pm an cdv ct) ps sp := by
  refine ⟨len, fun A outer s H args us vs Q E hr e0 hb r hsp => ?_⟩
  have hl := len _ _ _ _ hsp
  have KX : K.In s.heap := e0.mod.kin.keeps fun b o e => (e0.bs b o e).1
  have lim : s.heap.NoLimit := e0.mod.nolimit.keeps fun b o e => (e0.bs b o e).1
  have hkind : ∀ y ∈ ps.zip us, scope.names.lookup y.1 = some .local ∨ (scope.names.lookup y.1 = some .cell ∧ ((cellsFrom (s.heap.objs.size + 1) scope.names []).lookup y.1).isSome = true) := fun ⟨n, v⟩ hy => by
    rcases S.par n (List.of_mem_zip hy).1 with q | q
    · exact .inl q
    · exact .inr ⟨q, PySem.W.cellsFrom_some _ _ _ (.inl q)⟩
  refine codeAny_call_function hr.depth (KX _ _ lk) rfl S.co S.gen rfl (PySem.W.codeRec_of KX hcd) (hb _ _ _ _ ?_)
  refine wpAny_newFunctionEnv_cells S.kind hkind fun env he s1 x => ?_
  subst he
  refine ⟨lim.keeps x.toInCall.keep, codeAny_func ?_⟩
  obtain ⟨t, ht, hq⟩ := hbody A outer s H vs Q E (hr.deeper _) hsp
  have I : Inv (cxOf CX P w K mg base N qual scope f cdv A outer s H E) [] (start N vs) H s1 := inv_start S hr.hd e0 hl r x
  refine wpAny_mono (ht [] s1 (start N vs) H _ I hq) (fun fl s' hs => ?_) fun e s' hs => hs
  have fin : ∀ {σ' : St} {H' : Hp} {v : V} {u : Value}, Inv (cxOf CX P w K mg base N qual scope f cdv A outer s H E) [] σ' H' s' → RelV v u → Q v H' → CE outer P w H s Q u s' :=
    fun {σ' H' v u} J rv q => ⟨v, H', J.os, J.bare, J.base, J.hok, rv, q⟩
  cases fl with
  | ret u =>
    obtain ⟨v, σ', H', J, rv, q⟩ := hs
    exact fin J rv q
  | next =>
    obtain ⟨σ', H', J, q⟩ := hs
    exact fin (v := V.non) (u := Value.none) J rfl q
  | brk =>
    obtain ⟨_, _, _, q⟩ := hs
    exact False.elim q
  | cont =>
    obtain ⟨_, _, _, q⟩ := hs
    exact False.elim q
section
variable {X : Cx} {x : Str} {p pos : Pos} {e : Expr} {es : List Expr} {t : TA} {id T : String} {r : List V → Hp → VK → Prop}
noncomputable def tCB (r : List V → Hp → VK → Prop) (t : TA) : TE := fun σ H Q => t σ H fun vs H1 => r vs H1 Q
theorem pe_callB (hc : CallR X (.builtin id) r) (hg : Gl X x) (hm : X.mg x = none) (hv : bootBuiltins x = some (.builtin id)) (ha : PA X (e :: es) t) (hn : x ≠ "__name__" := by decide) (hdb : (x == ("__debug__" : Str)) = false := by decide)
    (he : starEach (e :: es) X.env = (false, eval e X.env) :: starEach es X.env := by rfl) (hpl : (backTo pos (starEach es X.env)).any (·.1) = false := by rfl) : PE X (.Call (.Name x p) (e :: es) [] pos) (tCB r t) := by
  intro pins s σ H Q I h
  refine wpAny_Call_Name_kw (ld_blt I hg hm hv ?_ hn hdb)
  exact PyProof.Rows.callWith_builtin1 (thn (ha pos pins s σ H _ I h) fun us s1 ⟨vs, H1, I1, r1, q1⟩ => hc pins s1 σ H1 vs us Q I1 r1 q1) he hpl
theorem pe_callTy (hc : CallR X (.type T) r) (hg : Gl X x) (hm : X.mg x = none) (hv : bootBuiltins x = some (.type T)) (ha : PA X (e :: es) t) (hn : x ≠ "__name__" := by decide) (hdb : (x == ("__debug__" : Str)) = false := by decide)
    (he : starEach (e :: es) X.env = (false, eval e X.env) :: starEach es X.env := by rfl) (hpl : (backTo pos (starEach es X.env)).any (·.1) = false := by rfl) : PE X (.Call (.Name x p) (e :: es) [] pos) (tCB r t) := by
  intro pins s σ H Q I h
  refine wpAny_Call_Name_kw (ld_blt I hg hm hv ?_ hn hdb)
  exact PyProof.Rows.callWith_type1 (thn (ha pos pins s σ H _ I h) fun us s1 ⟨vs, H1, I1, r1, q1⟩ => hc pins s1 σ H1 vs us Q I1 r1 q1) he hpl
end
end L2
namespace HT
open PySem PyProof.Rows
section
open PySem.SeqAt
open PySem.AutoSeq1 (wpAny_loadPart')
open PySem.MeetsSeq PySem.MeetsSeq2 PySem.MeetsSeq3
end
section
variable {prog : Program} {w : World} {A : Around} {E : Value → Shared → Prop} {s : Shared}
noncomputable def sIx (n d : Nat) : Option Int → Nat
  | none => d
  | some v => if v < 0 then (v + (n : Int)).toNat else min v.toNat n
theorem sIx_none (n d : Nat) : sIx n d none = d := rfl
theorem sIx_nat (n d k : Nat) : sIx n d (some (k : Int)) = min k n := by
  show (if (k : Int) < 0 then ((k : Int) + (n : Int)).toNat else min (k : Int).toNat n) = min k n
  rw [if_neg (by omega), Int.toNat_natCast]
end
end HT
namespace L2
open PySem PySem.Spec PyProof.Rows
abbrev TO := St → Hp → (Option Int → Hp → Prop) → Prop
noncomputable def PO (X : Cx) (e : Option Expr) (t : TO) : Prop :=
  ∀ (pins : List (Addr × Obj)) (s : Shared) (σ : St) (H : Hp) (Q : Option Int → Hp → Prop), Inv X pins σ H s → t σ H Q →
    wpAny (model X.prog X.w) X.A (evalPart e X.env) (fun u s' => ∃ o H', Inv X pins σ H' s' ∧ IsPart u o ∧ Q o H') X.xe s
noncomputable def tNoPart : TO := fun _ H Q => Q none H
noncomputable def tPart (t : TE) : TO := fun σ H Q => t σ H fun x H1 => ∃ i, x = .int i ∧ Q (some i) H1
theorem intsAre_of {ns : List Int} : ∀ {us : List Value}, Vals (ns.map V.int) us → IntsAre us ns := by
  induction ns with
  | nil => intro us r; rw [List.map_nil] at r; cases r; exact .nil
  | cons n ns ih =>
    intro us r
    rw [List.map_cons] at r
    cases r with
    | cons r1 r2 =>
      obtain ⟨t, e⟩ := r1
      subst e
      exact .cons n t (ih r2)
section
variable {X : Cx} {e : Expr} {te : TE} {lo hi : Option Expr} {tl th : TO} {pos p2 : Pos}
theorem po_none : PO X none tNoPart := by
  intro pins s σ H Q I h
  rw [evalPart_none]
  exact wpAny_pure ⟨none, H, I, .none, h⟩
theorem po_some (h : PE X e te) : PO X (some e) (tPart te) := by
  intro pins s σ H Q I hw
  rw [evalPart_some]
  refine thn (h pins s σ H _ I hw) fun u s1 ⟨x, H1, I1, r1, q1⟩ => ?_
  obtain ⟨i, rfl, q⟩ := q1
  obtain ⟨t, rfl⟩ := r1
  exact ⟨some i, H1, I1, .int i t, q⟩
noncomputable def SlR (X : Cx) (r : V → Option Int → Option Int → Hp → VK → Prop) : Prop :=
  ∀ (pins : List (Addr × Obj)) (s : Shared) (σ : St) (H : Hp) (x : V) (v vl vu : Value) (lo hi : Option Int) (sl : Addr) (Q : VK), Inv X pins σ H s → RelV x v → s.heap.IsSliceOf sl vl vu .none → IsPart vl lo → IsPart vu hi → r x lo hi H Q →
    ∃ T id, typeLookup (.type T) "__getitem__" = pure (some (.builtin id)) ∧ s.TypeIs v T ∧ wpAny (model X.prog X.w) X.A (getItem v (.ref sl)) (EP X pins σ Q) X.xe s
theorem SlR.or {r r' : V → Option Int → Option Int → Hp → VK → Prop} (h : SlR X r) (h' : SlR X r') : SlR X (fun x lo hi H Q => r x lo hi H Q ∨ r' x lo hi H Q) := by
  intro pins s σ H x v vl vu lo hi sl Q I rx hs pl pu q
  rcases q with q | q
  · exact h pins s σ H x v vl vu lo hi sl Q I rx hs pl pu q
  · exact h' pins s σ H x v vl vu lo hi sl Q I rx hs pl pu q
noncomputable def tSl (r : V → Option Int → Option Int → Hp → VK → Prop) (te : TE) (tl th : TO) : TE := fun σ H Q => te σ H fun x H1 => tl σ H1 fun l H2 => th σ H2 fun u H3 => r x l u H3 Q
theorem pe_slice {r : V → Option Int → Option Int → Hp → VK → Prop} (hr : SlR X r) (he : PE X e te) (hl : PO X lo tl) (hu : PO X hi th) : PE X (.Subscript e (.Slice lo hi none p2) pos) (tSl r te tl th) := by
  intro pins s σ H Q I h
  refine Subscript_ (thn (he pins s σ H _ I h) fun v s1 ⟨x, H1, I1, r1, q1⟩ => ?_)
  refine wpAny_Slice (thn (hl pins s1 σ H1 _ I1 q1) fun vl s2 ⟨l, H2, I2, pl, q2⟩ => thn (hu pins s2 σ H2 _ I2 q2) fun vu s3 ⟨u, H3, I3, pu, q3⟩ => ?_)
  rw [evalPart_none]
  refine wpAny_pure ?_
  have I4 : Inv X pins σ H3 { s3 with heap := s3.heap.push { cls := .type "slice", data := .fields #[vl, vu, .none] } } := I3.kept (t' := s3.toks) fun b ob q => Heap.get?_push_of_some _ q
  obtain ⟨T, id, hT, ht, hg⟩ := hr pins { s3 with heap := s3.heap.push { cls := .type "slice", data := .fields #[vl, vu, .none] } } σ H3 x v vl vu l u s3.heap.objs.size Q I4 r1 (Heap.IsSliceOf.new ..) pl pu q3
  show wpAny (model X.prog X.w) X.A (subscriptTail e (.Slice lo hi none p2) v (.ref s3.heap.objs.size)) (EP X pins σ Q) X.xe { s3 with heap := s3.heap.push { cls := .type "slice", data := .fields #[vl, vu, .none] } }
  exact tail_any (ops := [.ref s3.heap.objs.size, v]) ht hT hg (by with_unfolding_all rfl)
noncomputable def cutV (xs : List V) (lo hi : Option Int) : List V := (xs.drop (HT.sIx xs.length 0 lo)).take (HT.sIx xs.length xs.length hi - HT.sIx xs.length 0 lo)
theorem cutV_length (xs : List V) (lo hi : Option Int) : (cutV xs lo hi).length ≤ xs.length := by
  unfold cutV
  rw [List.length_take, List.length_drop]
  omega
end
noncomputable def ixN (n : Nat) (i : Int) : Option Nat := if 0 ≤ i then (if i < n then some i.toNat else none) else if -(n : Int) ≤ i then some (i + n).toNat else none
noncomputable def atI {α : Type} (xs : List α) (i : Int) : Option α := (ixN xs.length i).bind fun j => xs[j]?
theorem ixN_seq {n : Nat} {i : Int} {j : Nat} (h : ixN n i = some j) : seqIndex? i n = some j ∧ j < n ∧ -(n : Int) ≤ i ∧ i < n := by
  unfold ixN at h
  by_cases h0 : 0 ≤ i
  · rw [if_pos h0] at h
    by_cases h1 : i < n
    · rw [if_pos h1] at h
      have e : i.toNat = j := Option.some.inj h
      exact ⟨by rw [seqIndex_of h0 h1, e], by omega, by omega, h1⟩
    · rw [if_neg h1] at h; cases h
  · rw [if_neg h0] at h
    by_cases h1 : -(n : Int) ≤ i
    · rw [if_pos h1] at h
      have e : (i + n).toNat = j := Option.some.inj h
      exact ⟨by rw [seqIndex_neg (by omega) h1, e], by omega, h1, by omega⟩
    · rw [if_neg h1] at h; cases h
theorem atI_get {α : Type} {xs : List α} {i : Int} {v : α} (h : atI xs i = some v) : ∃ j, seqIndex? i xs.length = some j ∧ xs[j]? = some v ∧ j < xs.length ∧ -(xs.length : Int) ≤ i ∧ i < xs.length := by
  unfold atI at h
  cases e : ixN xs.length i with
  | none => rw [e] at h; cases h
  | some j =>
    rw [e] at h
    obtain ⟨h1, h2, h3, h4⟩ := ixN_seq e
    exact ⟨j, h1, h, h2, h3, h4⟩
theorem atI_nat {α : Type} {xs : List α} {j : Nat} {v : α} (h : xs[j]? = some v) : atI xs (j : Int) = some v := by
  have hj : j < xs.length := (List.getElem?_eq_some_iff.mp h).1
  have e : ixN xs.length (j : Int) = some j := by
    unfold ixN
    rw [if_pos (by omega), if_pos (by omega)]; simp
  unfold atI; rw [e]; exact h
noncomputable def PlainIx (b : Expr) : Prop := ∀ o i, subscripted b false o i = operate [o, i] (getItem o i)
noncomputable def IxR (X : Cx) (r : R2) : Prop :=
  ∀ (value slice : Expr) (pins : List (Addr × Obj)) (s : Shared) (σ : St) (H : Hp) (x y : V) (v u : Value) (Q : VK), Inv X pins σ H s → RelV x v → RelV y u → r x y H Q →
    subscripted slice false v u = operate [v, u] (getItem v u) → wpAny (model X.prog X.w) X.A (subscriptTail value slice v u) (EP X pins σ Q) X.xe s
noncomputable def MtR (X : Cx) (id : String) (r : V → List V → Hp → VK → Prop) : Prop :=
  ∀ (pins : List (Addr × Obj)) (s : Shared) (σ : St) (H : Hp) (x : V) (xs : List V) (v : Value) (us : List Value) (Q : VK), Inv X pins σ H s → RelV x v → Vals xs us → r x xs H Q →
    wpAny (model X.prog X.w) X.A (call (.builtin id) (v :: us)) (EP X pins σ Q) X.xe s
section
variable {X : Cx} {a b : Expr} {ta tb : TE} {pos : Pos}
theorem IxR.or {r r' : R2} (h : IxR X r) (h' : IxR X r') : IxR X (fun x y H Q => r x y H Q ∨ r' x y H Q) := by
  intro value slice pins s σ H x y v u Q I rx ry q hs
  rcases q with q | q
  · exact h value slice pins s σ H x y v u Q I rx ry q hs
  · exact h' value slice pins s σ H x y v u Q I rx ry q hs
theorem MtR.or {id : String} {r r' : V → List V → Hp → VK → Prop} (h : MtR X id r) (h' : MtR X id r') : MtR X id (fun x xs H Q => r x xs H Q ∨ r' x xs H Q) := by
  intro pins s σ H x xs v us Q I rx rs q
  rcases q with q | q
  · exact h pins s σ H x xs v us Q I rx rs q
  · exact h' pins s σ H x xs v us Q I rx rs q
theorem pe_ix {r : R2} (hr : IxR X r) (ha : PE X a ta) (hb : PE X b tb) (hs : PlainIx b) : PE X (.Subscript a b pos) (tOp r ta tb) := by
  intro pins s σ H Q I h
  exact Subscript_ (binT ha hb I h fun v u s2 x y H2 I2 rx ry q => hr a b pins s2 σ H2 x y v u Q I2 rx ry q (hs _ _))
noncomputable def rIxL (K : PySem.W.Frag) : R2 := fun x y H Q => ∃ p xs i v, x = .ref p ∧ y = .int i ∧ SqL K H p xs ∧ atI xs i = some v ∧ Q v H
noncomputable def rIxS : R2 := fun x y H Q => ∃ z i c, x = .str z ∧ y = .int i ∧ z.length ≤ sizeLine ∧ atI z.cps.toList i = some c ∧ Q (.str ⟨#[c]⟩) H
theorem ix_list : IxR X (rIxL X.K) := by
  intro value slice pins s σ H x y v u Q I rx ry h hs
  obtain ⟨p, xs, i, z, rfl, rfl, hq, he, q⟩ := h
  cases rx
  obtain ⟨t, rfl⟩ := ry
  obtain ⟨its, r, pl, hz⟩ := I.list hq
  obtain ⟨j, h1, h2, h3, h4, h5⟩ := atI_get he
  obtain ⟨w, ew, rw'⟩ := r.get h2
  have hl := r.length
  have hn := line63
  have fin : EP X pins σ Q w s := ⟨z, H, I, rw', q⟩
  by_cases h0 : 0 ≤ i
  · have hj : i.toNat = j := by
      rw [seqIndex_of h0 h5] at h1
      exact Option.some.inj h1
    exact item_listR pl.isList h0 (by omega) (by rw [hj]; simpa using ew) fin hs
  · have hj : (i + (its.toArray.size : Int)).toNat = j := by
      rw [seqIndex_neg (by omega) h4] at h1
      rw [List.size_toArray, ← hl]
      exact Option.some.inj h1
    exact subscriptTail_builtinR (x := w) pl.isList.typeIs slot_list_getitem.lookup
      (wpAny_getItem_list_neg (Q := fun r s' => r = w ∧ EP X pins σ Q r s') pl.isList (by omega) (by rw [List.size_toArray] <;> omega) (by omega) (by rw [hj]; simpa using ew) ⟨rfl, fin⟩) hs
theorem ix_str : IxR X rIxS := by
  intro value slice pins s σ H x y v u Q I rx ry h hs
  obtain ⟨z, i, c, rfl, rfl, hz, he, q⟩ := h
  obtain ⟨t, rfl⟩ := rx
  obtain ⟨t', rfl⟩ := ry
  obtain ⟨j, h1, h2, h3, h4, h5⟩ := atI_get he
  have hl : z.cps.toList.length = z.length := by simp [Str.length]
  rw [hl] at h1 h4 h5
  have hn := line63
  exact tail_any (typeIs_str s z t) slot_str_getitem.lookup (getItem_str (c := c) (by
    have e1 : decide (i < -(2 ^ 63 : Int)) = false := decide_eq_false (by omega)
    have e2 : decide (i ≥ 2 ^ 63) = false := decide_eq_false (by omega)
    rw [e1, e2, Bool.or_false]) (by rw [h1]; simpa using h2) ⟨.str ⟨#[c]⟩, H, I.tok _, ⟨_, rfl⟩, q⟩) hs
theorem mapSeq_set (its : List Value) (n j : Nat) (u : Value) : Obj.mapSeq (·.setIfInBounds j u) { cls := .type "list", data := .seq its.toArray n } = { cls := .type "list", data := .seq (its.set j u).toArray n } := by
  simp [Obj.mapSeq]
theorem Inv.lst {pins : List (Addr × Obj)} {σ : St} {H : Hp} {s : Shared} {p : Addr} {xs : List V} (I : Inv X pins σ H s) (h : H p = some (.lst xs)) :
    ∃ (its : List Value) (n : Nat), Vals xs its ∧ s.heap.get? p = some { cls := .type "list", data := .seq its.toArray n } ∧ xs.length ≤ sizeLine := by
  obtain ⟨z, its, n, r, e⟩ := I.hok p _ h
  exact ⟨its, n, r, e, z⟩
theorem Inv.lstUpd {pins : List (Addr × Obj)} {σ : St} {H : Hp} {s : Shared} {p : Addr} {xs ys : List V} {its its' : List Value} {n n' : Nat} {f : Obj → Obj} (I : Inv X pins σ H s) (h : H p = some (.lst xs))
    (ho : s.heap.get? p = some { cls := .type "list", data := .seq its.toArray n }) (hf : f { cls := .type "list", data := .seq its.toArray n } = { cls := .type "list", data := .seq its'.toArray n' }) (r : Vals ys its') (hz : ys.length ≤ sizeLine) (t : Nat) :
    Inv X pins σ (upd H p (.lst ys)) { s with heap := s.heap.update p f, toks := t } := by
  have e : (s.heap.update p f).get? p = some { cls := .type "list", data := .seq its'.toArray n' } := by
    rw [Heap.get?_update_self f ho (by rw [hf] <;> rfl), hf]
  refine I.write (x := p) (e := p) (by rw [h]; trivial) (.inl rfl) (fun b u hb q => (Heap.get?_update_other _ _ (Ne.symm hb)).trans q) ⟨_, e⟩ ?_
  exact ⟨hz, its', n', r, e⟩
noncomputable def rSetL : V → V → V → Hp → (Hp → Prop) → Prop := fun o i v H Q => ∃ p xs k j, o = .ref p ∧ i = .int k ∧ H p = some (.lst xs) ∧ ixN xs.length k = some j ∧ Q (upd H p (.lst (xs.set j v)))
theorem set_list : PSet X rSetL := by
  intro pins s σ H o i v ov iv u Q I ro ri rv h
  obtain ⟨p, xs, k, j, rfl, rfl, hp, hj, q⟩ := h
  cases ro
  obtain ⟨t, rfl⟩ := ri
  obtain ⟨its, n, r, ho, hz⟩ := I.lst hp
  obtain ⟨h1, h2, h3, h4⟩ := ixN_seq hj
  have hl := r.length
  have hn := line63
  have I' : Inv X pins σ (upd H p (.lst (xs.set j v))) { s with heap := s.heap.update p (Obj.mapSeq (·.setIfInBounds j u)) } :=
    I.lstUpd hp ho (mapSeq_set its n j u) (r.set rv j) (by rw [List.length_set]; exact hz) s.toks
  by_cases h0 : 0 ≤ k
  · have hk : k.toNat = j := by
      rw [seqIndex_of h0 h4] at h1
      exact Option.some.inj h1
    exact PySem.W.ki_setAt ho h0 (by omega) (by rw [List.size_toArray, ← hl]; exact h4) (by rw [hk]; exact ⟨_, I', q⟩)
  · have hk : (k + (its.toArray.size : Int)).toNat = j := by
      rw [seqIndex_neg (by omega) h3] at h1
      rw [List.size_toArray, ← hl]
      exact Option.some.inj h1
    exact PySem.W.ki_setBack ho (by omega) (by rw [List.size_toArray, ← hl]; exact h3) (by omega) (by rw [hk]; exact ⟨_, I', q⟩)
theorem slice_bounds (lo hi : Option Int) (n : Nat) : (sliceBounds lo hi none n).1 = ((HT.sIx n 0 lo : Nat) : Int) ∧ (sliceBounds lo hi none n).2.1 = ((HT.sIx n n hi : Nat) : Int) ∧ (sliceBounds lo hi none n).2.2 = 1 := by
  refine ⟨?_, ?_, rfl⟩
  · cases lo with
    | none => simp [sliceBounds, HT.sIx]
    | some i =>
      simp only [sliceBounds, HT.sIx, Option.getD_none, show (1 : Int) > 0 by decide, if_true]
      by_cases h : i < 0
      · simp only [h, if_true] <;> omega
      · simp only [h, if_false] <;> omega
  · cases hi with
    | none => simp [sliceBounds, HT.sIx]
    | some i =>
      simp only [sliceBounds, HT.sIx, Option.getD_none, show (1 : Int) > 0 by decide, if_true]
      by_cases h : i < 0
      · simp only [h, if_true] <;> omega
      · simp only [h, if_false] <;> omega
theorem slicePick_cut (its : List Value) (lo hi : Option Int) : slicePick its.toArray lo hi none = ((its.drop (HT.sIx its.length 0 lo)).take (HT.sIx its.length its.length hi - HT.sIx its.length 0 lo)).toArray := by
  obtain ⟨h1, h2, h3⟩ := slice_bounds lo hi its.toArray.size
  unfold slicePick
  rw [h1, h2, h3]
  simp only [sliceRange_one, pick_run, List.size_toArray] <;> rfl
noncomputable def rSlL (K : PySem.W.Frag) : V → Option Int → Option Int → Hp → VK → Prop := fun x lo hi H Q => ∃ a xs, x = .ref a ∧ SqL K H a xs ∧ ∀ p, H p = none → Q (.ref p) (upd H p (.lst (cutV xs lo hi)))
theorem sl_list : SlR X (rSlL X.K) := by
  intro pins s σ H x v vl vu lo hi sl Q I rx hs pl pu h
  obtain ⟨a, xs, rfl, hx, q⟩ := h
  cases rx
  obtain ⟨its, r, ht, hz⟩ := I.list hx
  have hlen := r.length
  refine ⟨"list", _, slot_list_getitem.lookup, ht.isList.typeIs, ?_⟩
  refine wpAny_getItem_list_slice ht.isList hs pl pu .none (by simp) ?_ (by rw [List.size_toArray] <;> omega)
  rw [slicePick_cut, ← hlen]
  refine ⟨.ref s.heap.objs.size, _, I.laid (t' := s.toks) (o := .lst (cutV xs lo hi)) (fun b ob q => Heap.get?_push_of_some _ q) (Nat.le_refl _) ?_, rfl, q _ (I.hok.fresh (Nat.le_refl _))⟩
  exact ⟨Nat.le_trans (cutV_length xs lo hi) hz, _, 0, (r.drop (HT.sIx xs.length 0 lo)).take (HT.sIx xs.length xs.length hi - HT.sIx xs.length 0 lo), Heap.get?_push_size _ rfl⟩
theorem call_len_seq : CallR X (.builtin "len") (fun xs H Q => ∃ p ys, xs = [.ref p] ∧ (SqL X.K H p ys ∨ SqT X.K H p ys) ∧ Q (.int ys.length) H) := by
  intro pins s σ H xs us Q I r h
  obtain ⟨p, ys, rfl, hq, q⟩ := h
  obtain ⟨u, rfl, rx⟩ := vals1 r
  cases rx
  have hn := line63
  rcases hq with hq | hq
  · obtain ⟨its, r', pl, hz⟩ := I.list hq
    have hlen := r'.length
    exact Calls.call_len_list pl.isList (by simp only [List.size_toArray] <;> omega) ⟨.int ys.length, H, I.tok _, ⟨s.toks + 1, by rw [List.size_toArray, hlen]⟩, q⟩
  · obtain ⟨its, r', pl, hz⟩ := I.tuple hq
    have hlen := r'.length
    exact len_tuple pl (by simp only [List.size_toArray] <;> omega) ⟨.int ys.length, H, I.tok _, ⟨s.toks + 1, by rw [List.size_toArray, hlen]⟩, q⟩
theorem call_len_str : CallR X (.builtin "len") (fun xs H Q => ∃ z, xs = [.str z] ∧ z.length ≤ sizeLine ∧ Q (.int z.length) H) := by
  intro pins s σ H xs us Q I r h
  obtain ⟨z, rfl, hz, q⟩ := h
  obtain ⟨u, rfl, t, rfl⟩ := vals1 r
  have hn := line63
  exact len_str (by omega) ⟨.int z.length, H, I.tok _, ⟨_, rfl⟩, q⟩
theorem CallR.or {f : Value} {r r' : List V → Hp → VK → Prop} (h : CallR X f r) (h' : CallR X f r') : CallR X f (fun xs H Q => r xs H Q ∨ r' xs H Q) := by
  intro pins s σ H xs us Q I rs q
  rcases q with q | q
  · exact h pins s σ H xs us Q I rs q
  · exact h' pins s σ H xs us Q I rs q
theorem call_list_of : CallR X (.type "list") (fun xs H Q => ∃ p ys, xs = [.ref p] ∧ (SqL X.K H p ys ∨ SqT X.K H p ys) ∧ ∀ l, H l = none → Q (.ref l) (upd H l (.lst ys))) := by
  intro pins s σ H xs us Q I r h
  obtain ⟨p, ys, rfl, hq, q⟩ := h
  obtain ⟨u, rfl, rx⟩ := vals1 r
  cases rx
  have fin : ∀ (its : List Value), Vals ys its → ys.length ≤ sizeLine → ∀ (h' : Heap) (c' : Nat), (∀ b o', s.heap.get? b = some o' → h'.get? b = some o') →
      h'.get? s.heap.objs.size = some { cls := .type "list", dict := none, data := .seq its.toArray c', slots := #[] } → EP X pins σ Q (.ref s.heap.objs.size) { s with heap := h' } := fun its r' hz h' c' kp e =>
    ⟨.ref s.heap.objs.size, _, I.laid (t' := s.toks) kp (Nat.le_refl _) (show ObjOk X.prog X.w _ h' _ (.lst ys) from ⟨hz, its, c', r', e⟩), rfl, q _ (I.hok.fresh (Nat.le_refl _))⟩
  rcases hq with hq | hq
  · obtain ⟨its, r', pl, hz⟩ := I.list hq
    have hlen := r'.length
    obtain ⟨o, ho, hc, n, hd⟩ := pl.isList
    exact call_list_seq p (.inl rfl) ho hc hd (fun h' c' kp e => fin its r' hz h' c' kp e) (by simp only [List.size_toArray] <;> omega)
  · obtain ⟨its, r', pl, hz⟩ := I.tuple hq
    have hlen := r'.length
    obtain ⟨o, ho, hc, n, hd⟩ := pl
    exact call_list_seq p (.inr rfl) ho hc hd (fun h' c' kp e => fin its r' hz h' c' kp e) (by simp only [List.size_toArray] <;> omega)
noncomputable def tyV (K : PySem.W.Frag) (T : String) (x : V) (H : Hp) : Prop := match x with
  | .str _ => T = "str"
  | .int _ => T = "int"
  | .ref p => (T = "list" ∧ ∃ xs, SqL K H p xs) ∨ (T = "tuple" ∧ ∃ o, K.lookup p = some o ∧ o.cls = .type "tuple" ∧ o.dict = none) ∨
      (T = "dict" ∧ ((∃ kvs, H p = some (.dK kvs)) ∨ ∃ kvs, H p = some (.dT kvs))) ∨ (T = "set" ∧ ∃ S n, H p = some (.set S n))
  | _ => False
theorem tyV_is {pins : List (Addr × Obj)} {σ : St} {H : Hp} {s : Shared} {T : String} {x : V} {v : Value} (I : Inv X pins σ H s) (r : RelV x v) (ty : tyV X.K T x H) :
    s.TypeIs v T ∧ ∀ a, v = .ref a → ∃ ob, s.heap.get? a = some ob ∧ ob.dict = none := by
  cases x with
  | str z =>
    obtain ⟨t, rfl⟩ := r
    cases (show T = "str" from ty)
    exact ⟨typeIs_str s z t, fun _ e => nomatch e⟩
  | int i =>
    obtain ⟨t, rfl⟩ := r
    cases (show T = "int" from ty)
    exact ⟨typeIs_int s i t, fun _ e => nomatch e⟩
  | ref p =>
    cases r
    rcases ty with ⟨rfl, xs, hq⟩ | ⟨rfl, o, hk, hc, hd⟩ | ⟨rfl, hk⟩ | ⟨rfl, S, n, hk⟩
    · obtain ⟨its, _, pl, _⟩ := I.list hq
      refine ⟨pl.isList.typeIs, fun a e => ?_⟩
      cases e
      obtain ⟨o, n, e, c, hd, _⟩ := pl
      exact ⟨o, e, hd⟩
    · refine ⟨⟨o, I.kIn p o hk, hc⟩, fun a e => ?_⟩
      cases e
      exact ⟨o, I.kIn _ o hk, hd⟩
    · have z : ∃ o, s.heap.get? p = some o ∧ o.ExactDict := by
        rcases hk with ⟨kvs, hk⟩ | ⟨kvs, hk⟩
        · obtain ⟨_, _, _, _, o, _, _, e, ex, _⟩ := I.hok p _ hk
          exact ⟨o, e, ex⟩
        · obtain ⟨_, _, _, _, o, _, _, e, ex, _⟩ := I.hok p _ hk
          exact ⟨o, e, ex⟩
      obtain ⟨o, e, ex⟩ := z
      refine ⟨⟨o, e, ex.1⟩, fun a e2 => ?_⟩
      cases e2
      exact ⟨o, e, ex.2.1⟩
    · obtain ⟨o, _, _, _, e, ex, _⟩ := I.hok p _ hk
      refine ⟨⟨o, e, ex.1⟩, fun a e2 => ?_⟩
      cases e2
      exact ⟨o, e, ex.2.1⟩
  | _ => exact False.elim ty
noncomputable def tBM0 (K : PySem.W.Frag) (T : String) (r : V → List V → Hp → VK → Prop) (to : TE) : TE := fun σ H Q => to σ H fun x H1 => tyV K T x H1 ∧ r x [] H1 Q
noncomputable def tBM (K : PySem.W.Frag) (T : String) (r : V → List V → Hp → VK → Prop) (to : TE) (t : TA) : TE := fun σ H Q => to σ H fun x H1 => tyV K T x H1 ∧ t σ H1 fun xs H2 => r x xs H2 Q
variable {o e : Expr} {es : List Expr} {to : TE} {t : TA} {name : Str} {apos cpos : Pos} {T id : String} {r : V → List V → Hp → VK → Prop}
theorem pe_bm0 (pa : PlainAttrs T) (slot : Slot T name id) (hty : typeOf (.builtin id) = pure (.type "method_descriptor")) (hm : MtR X id r) (ho : PE X o to)
    (hbase : attributeBase o name X.env (eval o X.env) = eval o X.env := by rfl) (hline : (apos.endLine == cpos.line) = true := by rfl) : PE X (.Call (.Attribute o name apos) [] [] cpos) (tBM0 X.K T r to) := by
  intro pins s σ H Q I h
  refine wpAny_Call_method0_late hbase hline (thn (ho pins s σ H _ I h) fun v s1 ⟨x, H1, I1, r1, ty, q1⟩ => ?_)
  obtain ⟨h1, h2⟩ := tyV_is I1 r1 ty
  exact ⟨T, id, pa, slot, hty, h1, h2, Calls.callWith_builtin rfl (PySem.evalArgs_none (hm pins s1 σ H1 x [] v [] Q I1 r1 .nil q1))⟩
theorem pe_bm (pa : PlainAttrs T) (slot : Slot T name id) (hty : typeOf (.builtin id) = pure (.type "method_descriptor")) (hm : MtR X id r) (ho : PE X o to) (ha : PA X (e :: es) t)
    (hbase : attributeBase o name X.env (eval o X.env) = eval o X.env := by rfl)
    (hfew : ((backTo cpos (starEach (e :: es) X.env)).all (fun x => !x.1) && (backToKw cpos (keywordEach [] X.env)).all (fun x => x.1.isSome)
      && decide ((e :: es).length + ([] : List Keyword).length + (if ([] : List Keyword).isEmpty then 0 else 1) < 30)) = true := by rfl)
    (hline : (apos.endLine == cpos.line) = true := by rfl) (hs : starEach (e :: es) X.env = (false, eval e X.env) :: starEach es X.env := by rfl) (hplain : (backTo cpos (starEach es X.env)).any (·.1) = false := by rfl) :
    PE X (.Call (.Attribute o name apos) (e :: es) [] cpos) (tBM X.K T r to t) := by
  intro pins s σ H Q I h
  refine wpAny_Call_method_late hbase hfew hline rfl (thn (ho pins s σ H _ I h) fun v s1 ⟨x, H1, I1, r1, ty, q1⟩ => ?_)
  obtain ⟨h1, h2⟩ := tyV_is I1 r1 ty
  refine ⟨T, id, pa, slot, hty, h1, h2, ?_⟩
  have hA := ha cpos pins s1 σ H1 _ I1 q1
  rw [hs] at hA ⊢
  refine Calls.callWith_builtin (by show (false || (backTo cpos (starEach es X.env)).any (·.1)) = false; rw [hplain] <;> rfl) (Calls.evalArgs_plain ?_)
  exact thn hA fun us s2 ⟨vs, H2, I2, r2, q2⟩ => hm pins s2 σ H2 x vs v us Q I2 r1 r2 q2
end
noncomputable def MtM (X : Cx) (id : String) (r : V → List V → Hp → VK → Prop) : Prop :=
  ∀ (pins : List (Addr × Obj)) (s : Shared) (σ : St) (H : Hp) (x : V) (xs : List V) (v : Value) (us : List Value) (Q : VK), Inv X pins σ H s → RelV x v → Vals xs us → r x xs H Q →
    wpAny (model X.prog X.w) X.A (call (.builtin id) (v :: us)) (EP X pins σ Q) X.xe s
theorem Vals.one : ∀ {x : V} {us : List Value}, Vals [x] us → ∃ u, us = [u] ∧ RelV x u
  | _, _, .cons r .nil => ⟨_, rfl, r⟩
theorem Vals.two : ∀ {x y : V} {us : List Value}, Vals [x, y] us → ∃ u v, us = [u, v] ∧ RelV x u ∧ RelV y v
  | _, _, _, .cons r (.cons q .nil) => ⟨_, _, rfl, r, q⟩
theorem Vals.zero : ∀ {us : List Value}, Vals [] us → us = []
  | _, .nil => rfl
theorem Vals.eraseIdx : ∀ {xs : List V} {us : List Value} (i : Nat), Vals xs us → Vals (xs.eraseIdx i) (us.eraseIdx i)
  | _, _, _, .nil => .nil
  | _, _, 0, .cons _ t => t
  | _, _, i + 1, .cons r t => .cons r (Vals.eraseIdx i t)
theorem Vals.reverse {xs : List V} {us : List Value} (h : Vals xs us) : Vals xs.reverse us.reverse := by
  induction h with
  | nil => exact .nil
  | cons r t ih => rw [List.reverse_cons, List.reverse_cons]; exact Vals.append ih (.cons r .nil)
theorem Vals.rep {xs : List V} {us : List Value} (h : Vals xs us) : ∀ k : Nat, Vals (List.replicate k xs).flatten (List.replicate k us).flatten
  | 0 => .nil
  | k + 1 => by
    rw [List.replicate_succ, List.replicate_succ, List.flatten_cons, List.flatten_cons]
    exact Vals.append h (Vals.rep h k)
theorem foldl_rep (its : List Value) : ∀ (k : Nat) (acc : List Value),
    List.foldl (fun x1 x2 => x1 ++ x2) acc.toArray (List.replicate k its.toArray) = (acc ++ (List.replicate k its).flatten).toArray
  | 0, acc => by simp
  | k + 1, acc => by
    have e : acc.toArray ++ its.toArray = (acc ++ its).toArray := by simp
    have e2 : (acc ++ its) ++ (List.replicate k its).flatten = acc ++ (List.replicate (k + 1) its).flatten := by
      rw [List.replicate_succ, List.flatten_cons, List.append_assoc]
    rw [← e2, ← foldl_rep its k (acc ++ its), ← e, List.replicate_succ, List.foldl_cons]
section
variable {X : Cx} {pins : List (Addr × Obj)} {σ : St} {H : Hp} {s : Shared} {l b : Addr} {xs ys zs : List V}
theorem Inv.lset {its its' : List Value} {n : Nat} {f : Array Value → Array Value} {t' : Nat} (I : Inv X pins σ H s) (hH : H l = some (.lst xs))
    (e : s.heap.get? l = some { cls := .type "list", data := .seq its.toArray n }) (hf : f its.toArray = its'.toArray) (hv : Vals ys its') (hz : ys.length ≤ sizeLine) :
    Inv X pins σ (upd H l (.lst ys)) { s with heap := s.heap.update l (Obj.mapSeq f), toks := t' } := by
  have q := PySem.IsL.update e f
  rw [hf] at q
  refine I.write (x := l) (e := l) (by rw [hH]; exact trivial) (.inl rfl) (fun b' u hb hu => (Heap.get?_update_other s.heap (Obj.mapSeq f) (Ne.symm hb)).trans hu) ⟨_, q⟩ ?_
  exact ⟨hz, its', _, hv, q⟩
theorem Inv.lnew {its : List Value} {t' : Nat} (I : Inv X pins σ H s) (hv : Vals ys its) (hz : ys.length ≤ sizeLine) :
    Inv X pins σ (upd H s.heap.objs.size (.lst ys)) { s with heap := s.heap.push { cls := .type "list", data := .seq its.toArray }, toks := t' } :=
  I.laid (fun _ _ q => Heap.get?_push_of_some _ q) (Nat.le_refl _) ⟨hz, its, 0, hv, Heap.get?_push_size _ rfl⟩
theorem Inv.fresh (I : Inv X pins σ H s) : H s.heap.objs.size = none := I.hok.fresh (Nat.le_refl _)
theorem Inv.lstM (I : Inv X pins σ H s) (hH : H l = some (.lst xs)) : xs.length ≤ sizeLine ∧ ∃ (its : List Value) (n : Nat), Vals xs its ∧ xs.length = its.length ∧ s.heap.get? l = some { cls := .type "list", data := .seq its.toArray n } := by
  obtain ⟨z, its, n, r, e⟩ := I.hok l _ hH
  exact ⟨z, its, n, r, r.length, e⟩
theorem notLongL {n : Nat} (h : n ≤ sizeLine) : Builtin.List.listTooLong n = false := by
  unfold Builtin.List.listTooLong
  exact decide_eq_false (by omega)
end
section
variable {X : Cx}
noncomputable def rAppend : V → List V → Hp → VK → Prop := fun x vs H Q => ∃ l xs y, x = .ref l ∧ vs = [y] ∧ H l = some (.lst xs) ∧ xs.length < sizeLine ∧ Q .non (upd H l (.lst (xs ++ [y])))
theorem mt_append : MtM X "list.append" rAppend := by
  intro pins s σ H x vs v us Q I rx rv h
  obtain ⟨l, xs, y, rfl, rfl, hH, hz, q⟩ := h
  cases rx
  obtain ⟨u, rfl, ru⟩ := rv.one
  obtain ⟨z, its, n, r, hl, e⟩ := I.lstM hH
  refine call_meets F.slot_list_append ⟨_, e, rfl⟩ F.entry_list_append (F.args_list_append_2 _ _) (PySem.list_append l its.toArray n u (by rw [List.size_toArray]; omega)) ⟨e, ?_⟩
  refine ⟨.non, _, I.lset (its' := its ++ [u]) hH e (by simp) (r.append (.cons ru .nil)) ?_, rfl, q⟩
  rw [List.length_append, List.length_singleton]
  omega
noncomputable def rExtend : V → List V → Hp → VK → Prop := fun x vs H Q => ∃ l b xs zs, x = .ref l ∧ vs = [.ref b] ∧ H l = some (.lst xs) ∧ H b = some (.lst zs) ∧ xs.length + zs.length ≤ sizeLine ∧ Q .non (upd H l (.lst (xs ++ zs)))
theorem mt_extend : MtM X "list.extend" rExtend := by
  intro pins s σ H x vs v us Q I rx rv h
  obtain ⟨l, b, xs, zs, rfl, rfl, hH, hB, hz, q⟩ := h
  cases rx
  obtain ⟨u, rfl, ru⟩ := rv.one
  cases ru
  obtain ⟨z, its, n, r, hl, e⟩ := I.lstM hH
  obtain ⟨z2, its2, n2, r2, hl2, e2⟩ := I.lstM hB
  have hsz : its.toArray.size + its2.toArray.size ≤ sizeLine := by rw [List.size_toArray, List.size_toArray]; omega
  have hlong : ¬ (!its.toArray.isEmpty && Builtin.List.listTooLong (its.toArray.size + its2.toArray.size)) = true := by
    rw [notLongL hsz, Bool.and_false]
    exact Bool.false_ne_true
  refine call_meets F.slot_list_extend ⟨_, e, rfl⟩ F.entry_list_extend (F.args_list_extend_2 _ _)
    (AutoSeq1.list_extend_list_list_0 l its.toArray n b its2.toArray n2 hlong (by rw [List.size_toArray]; omega) (by omega)) ⟨e, e2, ?_⟩
  refine ⟨.non, _, I.lset (its' := its ++ its2) hH e (by simp) (r.append r2) ?_, rfl, q⟩
  rw [List.length_append]
  omega
noncomputable def rCat : R2 := fun x y H Q => ∃ l b xs zs, x = .ref l ∧ y = .ref b ∧ H l = some (.lst xs) ∧ H b = some (.lst zs) ∧ xs.length + zs.length ≤ sizeLine ∧ ∀ p, H p = none → Q (.ref p) (upd H p (.lst (xs ++ zs)))
theorem op_cat : OpR X (binaryOp .Add) rCat := by
  intro pins s σ H x y v u Q I rx ry h
  obtain ⟨l, b, xs, zs, rfl, rfl, hH, hB, hz, q⟩ := h
  cases rx
  cases ry
  obtain ⟨z, its, n, r, hl, e⟩ := I.lstM hH
  obtain ⟨z2, its2, n2, r2, hl2, e2⟩ := I.lstM hB
  refine PySem.P.add_list e e2 ?_ (by rw [List.size_toArray, List.size_toArray]; omega)
  have ea : its.toArray ++ its2.toArray = (its ++ its2).toArray := by simp
  rw [ea]
  exact ⟨.ref _, _, I.lnew (t' := s.toks) (r.append r2) (by rw [List.length_append]; omega), rfl, q _ I.fresh⟩
noncomputable def rRep : R2 := fun x y H Q => ∃ l k xs, x = .ref l ∧ y = .int k ∧ H l = some (.lst xs) ∧ -(2 ^ 63) ≤ k ∧ k < 2 ^ 63 ∧ xs.length * k.toNat ≤ sizeLine ∧
  ∀ p, H p = none → Q (.ref p) (upd H p (.lst (List.replicate k.toNat xs).flatten))
theorem len_rep {α : Type} (xs : List α) (k : Nat) : (List.replicate k xs).flatten.length = k * xs.length := by
  induction k with
  | zero => simp
  | succ k ih => rw [List.replicate_succ, List.flatten_cons, List.length_append, ih, Nat.succ_mul, Nat.add_comm]
theorem op_rep : OpR X (binaryOp .Mult) rRep := by
  intro pins s σ H x y v u Q I rx ry h
  obtain ⟨l, k, xs, rfl, rfl, hH, h1, h2, hz, q⟩ := h
  cases rx
  obtain ⟨t, rfl⟩ := ry
  obtain ⟨z, its, n, r, hl, e⟩ := I.lstM hH
  have hlen : its.toArray.size * k.toNat ≤ sizeLine := by rw [List.size_toArray, ← hl]; exact hz
  have hcap : ¬ its.toArray.size * k.toNat > (2 ^ 63 - 1) / 8 := by
    have : (sizeLine : Nat) ≤ (2 ^ 63 - 1) / 8 := by decide
    omega
  have hfit : ¬ (!Builtin.List.listFitsIndex k) = true := by
    rw [fitsIndex_both h1 h2]
    exact Bool.false_ne_true
  have hlong : ¬ Builtin.List.listTooLong (its.toArray.size * k.toNat) = true := by
    rw [notLongL hlen]
    exact Bool.false_ne_true
  have hnew : List.foldl (fun x1 x2 => x1 ++ x2) #[] (List.replicate (if its.toArray.isEmpty = true then 0 else k.toNat) its.toArray) = (List.replicate k.toNat its).flatten.toArray := by
    have f0 : ∀ m : Nat, List.foldl (fun x1 x2 => x1 ++ x2) #[] (List.replicate m its.toArray) = (List.replicate m its).flatten.toArray := fun m => by
      have := foldl_rep its m []
      rw [List.nil_append] at this
      exact this
    rw [f0]
    cases its with
    | nil => simp
    | cons a r' => rw [if_neg (by simp)]
  refine wpAny_binaryOp_repeat_ref (T := "list") (U := "int") (by decide) ⟨_, e, rfl⟩ (fun s' => typeIs_int s' k t) noFill_list_mul F.fills_int_mul F.slot_int_rmul repeat_list F.slot_int_index.lookup
    (call_meets F.slot_int_rmul (typeIs_int s k t) F.entry_int_rmul (F.args_int_rmul_2 _ _) (int___rmul___int_list k t l its.toArray n)
      ⟨e, rfl, ⟨_, e, rfl⟩, call_meets F.slot_list_mul ⟨_, e, rfl⟩ F.entry_list_mul (F.args_list_mul_2 _ _) (AutoListH.list___mul___list_int_3 l its.toArray n k t hfit hcap hlong) ⟨e, ?_⟩⟩)
  rw [hnew]
  exact ⟨.ref _, _, I.lnew (t' := s.toks) (r.rep k.toNat) (by rw [len_rep, Nat.mul_comm]; exact hz), rfl, q _ I.fresh⟩
end
section
variable {prog : Program} {w : World} {A : Around} {E : Value → Shared → Prop} {s : Shared}
end
section
variable {X : Cx}
end
end L2
namespace Att
open PySem PySem.W PySem.Calls PyProof.Rows
theorem ints_of_wellAll {P : Params} {h : Heap} : ∀ (ns : List Int) (vs : List Value), WellAll P h vs (ns.map WData.int) → IntsAre vs ns := by
  intro ns
  induction ns with
  | nil =>
    intro vs w
    rw [List.map_nil] at w
    cases w
    exact .nil
  | cons n ns ih =>
    intro vs w
    rw [List.map_cons] at w
    cases w with
    | cons a b =>
      cases a
      exact .cons _ _ (ih _ b)
theorem script_of {l : OpenLaw} {n : Nat} (hn : l.most = some n) {P : Params} {h : Heap} {args : List WData} {vals : List Value}
    (hpre : l.row.toRowW.claim.pre args = true) (hwl : WellAll P h vals args) :
    ∃ a vs ns, vals = [Value.ref a] ∧ args = [WData.list (ns.map WData.int)] ∧ h.get? a = some { cls := .type "list", data := .seq vs.toArray } ∧ IntsAre vs ns ∧ ns.length ≤ n := by
  have hsh : WShape.hasAll [] args [.list .int] = true := (pre_splitW hpre).1
  have hc : l.pre.holds [] { args := args } = true := (pre_splitW hpre).2
  obtain ⟨d, r, rfl, h1, h2⟩ := hasAllW_cons hsh
  obtain rfl := hasAllW_nil h2
  obtain ⟨xs, rfl, h3⟩ := hasW_list h1
  obtain ⟨ns, rfl⟩ := items_int h3
  have hlen : ns.length ≤ n := by
    unfold OpenLaw.pre at hc
    have h4 : (WTm.not (.lt (.lit (.int (n : Int))) (.len (.arg 0)))).holds [] { args := [.list (ns.map .int)] } = true := by
      have h4 := (holds_andW hc).1
      rw [hn] at h4
      exact h4
    have h5 := condW_of h4 (w_not (w_lt w_lit (w_len_list (w_arg rfl))))
    rw [List.length_map] at h5
    refine Nat.le_of_not_lt fun q => ?_
    have q' : (n : Int) < ((ns.length : Nat) : Int) := by omega
    first
      | (rw [decide_eq_true q'] at h5; exact absurd h5 (by decide))
      | (simp at h5; omega)
  cases hwl with
  | cons w1 w2 =>
    cases w2
    cases w1 with
    | list ho hall => exact ⟨_, _, ns, rfl, rfl, ho, ints_of_wellAll ns _ hall, hlen⟩
theorem post_true (l : OpenLaw) (args : List WData) : l.row.toRowW.claim.post args (.bool true) args = true :=
  postW_of (r := l.row.toRowW) (X := (true == true))
    (show WShape.has [] (.bool true) .bool = true by first | rfl | decide | simp [WShape.has, WShape.arms, WShape.armsAll])
    (show (WTm.eq .res (.lit (.bool true))).value [] { args := args, res := some (.bool true), after := args } = some (.bool (true == true)) from w_eq_bool (w_res rfl) w_lit) rfl
theorem lay_bits {ns : List Int} (h : WData.layableAll [WData.list (ns.map WData.int)] = true) : ∀ x ∈ ns, Builtin.Int.intBits x ≤ 1048576 := by
  have h1 : WData.layable (WData.list (ns.map WData.int)) = true := by
    have h' : (WData.layable (WData.list (ns.map WData.int)) && true) = true := h
    rwa [Bool.and_true] at h'
  unfold WData.layable at h1
  rw [Bool.and_eq_true] at h1
  have h2 := of_decide_eq_true h1.2
  have h3 : WData.weightAll (ns.map WData.int) ≤ 2 ^ 20 := by
    have e : WData.weight (WData.list (ns.map WData.int)) = WData.weightAll (ns.map WData.int) := by simp only [WData.weight]
    rwa [e] at h2
  have h4 : ∀ (l : List Int), ∀ x ∈ l, WData.weight (WData.int x) ≤ WData.weightAll (l.map WData.int) := by
    intro l
    induction l with
    | nil => intro x hx; cases hx
    | cons y r ih =>
      intro x hx
      have e : WData.weightAll ((y :: r).map WData.int) = WData.weight (WData.int y) + 1 + WData.weightAll (r.map WData.int) := by
        rw [List.map_cons]; simp only [WData.weightAll]
      rw [e]
      rcases List.mem_cons.mp hx with z | z
      · subst z; omega
      · have := ih x z; omega
  intro x hx
  have h5 := Nat.le_trans (h4 ns x hx) h3
  have e : WData.weight (WData.int x) = Builtin.Int.intBits x := by
    simp only [WData.weight]
    unfold Builtin.Int.intBits
    by_cases hz : x = 0
    · subst hz; rfl
    · have hb : (x == 0) = false := by simpa using hz
      simp [hz]
  rw [e] at h5
  exact h5
theorem attach_call {l : OpenLaw} {n : Nat} {q : Program} {loose : List Str} {XP : (Str → Option Value) → Heap → Prop} {YP : World → Heap → Prop} {d : DefRec}
    (hn : l.most = some n) (hdf : d.params.defaults = [])
    (call : ∀ (w : World) (s₀ s₁ : Shared) (mg mb : Str → Option Value) (fa : Addr) (o : Obj) (pm cd doc : Value) (a : Addr) (vs : List Value) (ns : List Int),
      Ground q loose [] XP w s₀ mg mb s₁.heap → YP w s₁.heap →
      s₁.heap.get? fa = some o → o.data = .func (docDef d.name d.params d.body d.scope pm cd doc) → s₁.heap.CodeRec cd d.name → mg d.name = some (.ref fa) →
      s₁.heap.get? a = some { cls := .type "list", data := .seq vs.toArray } → IntsAre vs ns → ns.length ≤ n → (∀ x ∈ ns, Builtin.Int.intBits x ≤ 1048576) → s₁.gens = #[] →
      codeAny (model l.prog w) callerA (.call (.ref fa) ⟨[.ref a], []⟩) (fun r s' => r = .ok (.ret (.bool true)) ∧ OldK s₁.heap s'.heap ∧ s'.os = s₁.os ∧ AllBare s'.gens) s₁) :
    WalkO q loose XP YP l.row.toRowW d [] (fun f vs => PySem.call f vs) := by
  intro w s₀ s₁ mg mb G Y fa o pm cd doc dV kV ho hd hcd hD hmg hg args vals as hpre hlay hrd hwl hlo
  obtain rfl : dV = .none := Dflts.none hD hdf
  obtain rfl : kV = .none := Dflts.noKw hD
  obtain ⟨a, vs, ns, rfl, rfl, hobj, hints, hlen⟩ := script_of hn hpre hwl
  refine enter_call (codeAny_mono (call w s₀ s₁ mg mb fa o pm cd doc a vs ns G Y ho (fd_plain hd) hcd hmg hobj hints hlen (lay_bits hlay) hg) fun r s' hq => ?_)
  obtain ⟨rfl, h2, h3, h4⟩ := hq
  exact ⟨.inl ⟨.bool true, .bool true, [], rfl, fun _ => rfl, .bool true, post_true l _, fun _ => ⟨List.Pairwise.nil, fun _ hm => (nomatch hm)⟩⟩, h2, h3, h4⟩
section
variable {prog : Program} {w : World} {A : Around} {E : Value → Shared → Prop} {s : Shared} {K : Frag}
end
end Att
namespace L2
open PySem PySem.Spec PyProof.Rows
theorem vals_ints : ∀ {vs : List Value} {ns : List Int}, IntsAre vs ns → Vals (ns.map V.int) vs
  | _, _, .nil => .nil
  | _, _, .cons n t h => .cons ⟨t, rfl⟩ (vals_ints h)
noncomputable def Only (H : Hp) : Prop := ∀ b, H b = none ∨ ∃ o xs, H b = some (.frz o (.lst xs))
theorem law_call {P : Program} {w : World} {K : PySem.W.Frag} {mg mb : Str → Option Value} {CX : CXT} {k : Nat} {fa a : Addr} {fd : FuncData} {x : Str} {sp : Sp} {s₁ : Shared} {vs : List Value} {ns : List Int}
    (KX : K.In s₁.heap) (hns : s₁.heap.Ns mainGlobals mg) (hb : s₁.heap.Ns builtinsNs mb) (hbb : ∀ x : Str, x ≠ "__name__" → mb x = bootBuiltins x) (hlim : s₁.heap.NoLimit) (hsr : s₁.heap.NoSeer) (hg : s₁.gens = #[])
    (ha : s₁.heap.get? a = some { cls := .type "list", data := .seq vs.toArray }) (hi : IntsAre vs ns) (hl : ns.length ≤ sizeLine) (hr : Room k callerA)
    (F : ∀ base : Heap, K.In base → base.Ns mainGlobals mg → FnOk P w K mg base CX k fa fd [x] sp) (hbind : ∀ (s : Shared) (u : Value), BindsTo s fd ⟨[u], []⟩ [(x, u)])
    (hsp : ∀ H : Hp, Only H → SqL K H a (ns.map V.int) → sp [.ref a] H (fun v _ => v = .bl true) fun _ _ _ => False)
    (hCX : ∀ H e s', CX [] H s₁ (fun _ _ _ => False) e s' → False) :
    codeAny (model P w) callerA (.call (.ref fa) ⟨[.ref a], []⟩) (fun r s' => r = .ok (.ret (.bool true)) ∧ OldK s₁.heap s'.heap ∧ s'.os = s₁.os ∧ AllBare s'.gens) s₁ := by
  have rv := vals_ints hi
  have lenV := hi.length
  have core : ∀ H : Hp, Only H → SqL K H a (ns.map V.int) → HOk P w H s₁.heap → (∀ b, H b ≠ none → b = a) → (H a ≠ none → K.lookup a = none) →
      codeAny (model P w) callerA (.call (.ref fa) ⟨[.ref a], []⟩) (fun r s' => r = .ok (.ret (.bool true)) ∧ OldK s₁.heap s'.heap ∧ s'.os = s₁.os ∧ AllBare s'.gens) s₁ := by
    intro H hO hS hok hA hK
    have base_of : ∀ {b : Addr} {o : Obj}, s₁.heap.get? b = some o → H b = none → (hidT s₁.heap H).get? b = some o := fun e n => hidT_get e n
    have noA : ∀ {b : Addr} {o : Obj} {es : Array DictEntry} {ep : Nat}, s₁.heap.get? b = some o → o.data = .dict es ep → H b = none := fun {b o es ep} e d => by
      cases q : H b with
      | none => rfl
      | some u =>
        have e' : b = a := hA b (by rw [q]; simp)
        subst e'
        rw [ha] at e; cases e
        have d' : Data.seq vs.toArray _ = Data.dict es ep := d
        cases d'
    have nsK : ∀ {b : Addr} {m : Str → Option Value}, s₁.heap.Ns b m → (hidT s₁.heap H).Ns b m := fun {b m} ⟨o, es, ep, e, d, r⟩ => ⟨o, es, ep, base_of e (noA e d), d, r⟩
    have hKb : K.In (hidT s₁.heap H) := fun b o e => base_of (KX b o e) (by
      cases q : H b with
      | none => rfl
      | some u =>
        have e' : b = a := hA b (by rw [q]; simp)
        subst e'
        rw [hK (by rw [q]; simp)] at e; cases e)
    have noC : ∀ {b : Addr} {o : Obj}, s₁.heap.get? b = some o → o.cls ≠ .type "list" → H b = none := fun {b o} e d => by
      cases q : H b with
      | none => rfl
      | some u =>
        have e' : b = a := hA b (by rw [q]; simp)
        subst e'
        rw [ha] at e; cases e
        exact absurd rfl d
    have hSr : (hidT s₁.heap H).NoSeer := ⟨let ⟨mc, h1, h2⟩ := hsr.statics; ⟨mc, nsK h1, h2⟩, let ⟨mc, h1, h2⟩ := hsr.mods; ⟨mc, nsK h1, h2⟩, let ⟨mc, h1, h2⟩ := hsr.imp; ⟨mc, nsK h1, h2⟩,
      let ⟨mg', bm, ob, h1, h2, h3, h4, h5⟩ := hsr.main; ⟨mg', bm, ob, nsK h1, h2, base_of h3 (noC h3 (by rw [h4]; decide)), h4, h5⟩⟩
    have hM : Mod K mg (hidT s₁.heap H) := ⟨hKb, nsK hns, ⟨mb, nsK hb, hbb⟩, let ⟨mc, h1, h2⟩ := hlim; ⟨mc, nsK h1, h2⟩, hSr⟩
    have e0 : Env0 P w K mg (hidT s₁.heap H) callerA [] s₁ H := ⟨rfl, hM, fun b o e => of_hidT e, Nat.le_of_eq (hidT_size _ _), trivial, fun b hb => absurd (show b ∈ ([] : List Addr) from hb) (by simp), hok, .of_eq hg⟩
    refine codeAny_mono ((F _ hKb (nsK hns)).run callerA [] s₁ H ⟨[.ref a], []⟩ [.ref a] [.ref a] _ _ hr e0 (hbind s₁ (.ref a)) (.cons rfl .nil) (hsp H hO hS)) fun r s' h => ?_
    cases r with
    | error e => exact (hCX H e s' h).elim
    | ok fl =>
      cases fl with
      | next => exact False.elim h
      | brk => exact False.elim h
      | cont => exact False.elim h
      | ret u =>
        obtain ⟨v, H', os, bare, un, hok', r', q⟩ := h
        have q' : v = .bl true := q
        subst q'
        obtain rfl : u = Value.bool true := r'
        refine ⟨rfl, OldK.of_keep fun b o e => ?_, os, bare⟩
        cases q : H b with
        | none => exact un.keep b o e q (by intro z; exact absurd (show b ∈ ([] : List Addr) from z) (by simp)) (by simp)
        | some u =>
          rcases hO b with z | ⟨ob, xs, z⟩
          · rw [q] at z; cases z
          · have z2 := un.frzs b ob _ z
            obtain ⟨e1, _⟩ := hok b _ z
            obtain ⟨e2, _⟩ := hok' b _ z2
            rw [e] at e1; cases e1
            exact e2
  cases hk : K.lookup a with
  | some o =>
    have e := KX a o hk
    rw [ha] at e
    cases e
    refine core (fun _ => none) (fun _ => .inl rfl) (.inr ⟨_, vs.toArray, _, hk, rfl, rfl, rfl, by rw [List.size_toArray, lenV]; exact hl, by simpa using rv⟩) (fun b u z => by have z' : (none : Option HO) = some u := z; cases z') (fun b z => absurd rfl z) fun z => absurd rfl z
  | none =>
    refine core (fun b => if b = a then some (.frz { cls := .type "list", data := .seq vs.toArray } (.lst (ns.map V.int))) else none) (fun b => ?_) (.inl (.inr ⟨{ cls := .type "list", data := .seq vs.toArray }, if_pos rfl⟩)) (fun b u z => ?_) (fun b z => ?_) fun _ => hk
    · by_cases hb : b = a
      · exact .inr ⟨_, _, if_pos hb⟩
      · exact .inl (if_neg hb)
    · by_cases hb : b = a
      · have z' := (if_pos hb).symm.trans z
        cases z'
        subst hb
        exact ⟨ha, by rw [List.length_map]; exact hl, vs, _, rv, ha⟩
      · have z' := (if_neg hb).symm.trans z
        cases z'
    · by_cases hb : b = a
      · exact hb
      · exact absurd (if_neg hb) z
theorem walk_of {l : PySem.W.OpenLaw} {n k : Nat} {q : Program} {loose : List Str} {XP : (Str → Option Value) → Heap → Prop} {YP : World → Heap → Prop} {d : DefRec} {K : Params → PySem.W.Frag} {CX : World → CXT} {sp : World → Sp} {x : Str}
    (hn : l.most = some n) (hn2 : n ≤ sizeLine) (hdf : d.params.defaults = []) (hq : importsNone q = true) (hr : Room k callerA)
    (hY : ∀ (w : World) (h : Heap), YP w h → (K w.params).In h)
    (F : ∀ (w : World) (mg : Str → Option Value) (fa : Addr) (h : Heap), (K w.params).In h → h.Ns mainGlobals mg → mg d.name = some (.ref fa) →
      ∃ fd : FuncData, (∀ (s : Shared) (u : Value), BindsTo s fd ⟨[u], []⟩ [(x, u)]) ∧
        ∀ base : Heap, (K w.params).In base → base.Ns mainGlobals mg → FnOk l.prog w (K w.params) mg base (CX w) k fa fd [x] (sp w))
    (hsp : ∀ (w : World) (H : Hp) (a : Addr) (ns : List Int), ns.length ≤ n → (∀ x ∈ ns, Builtin.Int.intBits x ≤ 1048576) → Only H → SqL (K w.params) H a (ns.map V.int) → sp w [.ref a] H (fun v _ => v = .bl true) fun _ _ _ => False)
    (hCX : ∀ (w : World) (H : Hp) (s : Shared) (e : Value) (s' : Shared), CX w [] H s (fun _ _ _ => False) e s' → False) :
    PySem.W.WalkO q loose XP YP l.row.toRowW d [] (fun f vs => PySem.call f vs) := by
  refine Att.attach_call hn hdf fun w s₀ s₁ mg mb fa o pm cd doc a vs ns G Y ho hd hcd hmg hobj hints hlen hbt hg => ?_
  have KX := hY w _ Y
  obtain ⟨fd, hb, hF⟩ := F w mg fa _ KX G.T.g hmg
  exact law_call KX G.T.g G.T.b G.T.builtins G.T.nolimit (G.T.seer hq) hg hobj hints (Nat.le_trans hlen hn2) hr hF hb (fun H hO hS => hsp w H a ns hlen hbt hO hS) fun H e s' => hCX w H s₁ e s'
def inClass (s : Stmt) (j : Nat) : Stmt := match s with
  | .ClassDef _ _ _ body _ _ _ _ _ _ _ => body.getD j (.Pass ⟨0, 0, 0, 0⟩)
  | _ => .Pass ⟨0, 0, 0, 0⟩
noncomputable def defArgs (s : Stmt) : Arguments := match s with
  | .FunctionDef _ a _ _ _ _ _ _ _ _ => a
  | _ => { posonlyargs := [], args := [], vararg := none, kwonlyargs := [], kw_defaults := [], kwarg := none, defaults := [] }
noncomputable def defBody (s : Stmt) : List Stmt := match s with
  | .FunctionDef _ _ b _ _ _ _ _ _ _ => b
  | _ => []
noncomputable def defScope (s : Stmt) : Scope := match s with
  | .FunctionDef _ _ _ _ _ _ sc _ _ _ => sc
  | _ => { kind := .function, names := [], isGenerator := false, isCoroutine := false }
abbrev CX0 : CXT := fun _ _ _ _ _ _ => False
abbrev E0 : XK := fun _ _ _ => False
theorem pass0 {X : Cx} : Passes CX0 X E0 := fun _ _ _ _ _ _ _ h => h.elim
structure Fun (K : PySem.W.Frag) (x qual : Str) (st : Stmt) (f : Addr) (fd : FuncData) : Prop where
  ex : ∃ (oc : Value) (od : Option Addr) (kV doc pm : Value) (an : Option Addr) (cdv ct : Value) (osl : Array (Option Value)),
    fd = PySem.W.fnOf x qual (defArgs st) (defBody st) (defScope st) .none kV doc pm an cdv ct ∧ K.lookup f = some ⟨oc, od, .func fd, osl⟩ ∧ PySem.W.codeIn K cdv qual = true
  kp : PySem.W.keepIn K (.ref f) = true
section
variable {P : Program} {w : World} {K : PySem.W.Frag} {mg : Str → Option Value} {base : Heap}
theorem Fun.ok {x qual : Str} {st : Stmt} {f : Addr} {fd : FuncData} {N ps : List Str} {k : Nat} {sp : Sp} (F : Fun K x qual st f fd) (S : FnScope N ps (defScope st)) (len : ∀ vs H Q E, sp vs H Q E → vs.length = ps.length)
    (hbody : ∀ (cdv : Value) (A : Around) (outer : List Env) (s : Shared) (H : Hp) (vs : List V) (Q : VK) (E : XK), Room k (A.deeper (envOfC qual (defScope st) s.heap.objs.size f cdv)) → sp vs H Q E →
      ∃ t, PSs (cxOf CX0 P w K mg base N qual (defScope st) f cdv A outer s H E).nox (defBody st) t ∧ t { nx := fun _ H' => Q .non H', rt := Q } (start N vs) H) : FnOk P w K mg base CX0 (k + 1) f fd ps sp := by
  obtain ⟨oc, od, kV, doc, pm, an, cdv, ct, osl, rfl, lk, hcd⟩ := F.ex
  refine fn_of lk hcd S len fun A outer s H vs Q E hr hsp => ?_
  obtain ⟨t, h, q⟩ := hbody cdv A outer s H vs Q E hr hsp
  exact ⟨t, h.nox, q⟩
theorem Fun.binds {x qual : Str} {st : Stmt} {f : Addr} {fd : FuncData} {ps : List Str} (F : Fun K x qual st f fd)
    (h : ∀ (kV doc pm : Value) (an : Option Addr) (cdv ct : Value) (us : List Value), us.length = ps.length → bindArgs (PySem.W.fnOf x qual (defArgs st) (defBody st) (defScope st) .none kV doc pm an cdv ct) ⟨us, []⟩ = pure (ps.zip us)) : Binds K fd ps [] := by
  obtain ⟨oc, od, kV, doc, pm, an, cdv, ct, osl, rfl, lk, hcd⟩ := F.ex
  exact .all (h kV doc pm an cdv ct)
theorem fun_mk {x qual : Str} {st : Stmt} {f : Addr} {oc : Value} {od an : Option Addr} {osl : Array (Option Value)} {kV doc pm cdv ct : Value} (l : K.lookup f = some ⟨oc, od, .func (PySem.W.fnOf x qual (defArgs st) (defBody st) (defScope st) .none kV doc pm an cdv ct), osl⟩)
    (c : PySem.W.codeIn K cdv qual = true) (k : PySem.W.keepIn K (.ref f) = true) : Fun K x qual st f (PySem.W.fnOf x qual (defArgs st) (defBody st) (defScope st) .none kV doc pm an cdv ct) := ⟨⟨oc, od, kV, doc, pm, an, cdv, ct, osl, rfl, l, c⟩, k⟩
end
theorem hu_of {A : Around} {k : Nat} (hr : Room k A) : A.units + 1 < cLine := Nat.lt_of_le_of_lt (Nat.add_le_add_left (by decide : 1 ≤ 64) _) hr.units
theorem small1000 {n : Nat} (h : n ≤ 1000) : n < sizeLine := Nat.lt_of_le_of_lt h (by decide)
section
variable {X : Cx}
theorem pv (i : Nat) {x : Str} {pos : Pos} (hN : X.N[i]? = some x := by rfl) (hv : Vis X.env.scope x := by first | exact Or.inl rfl | exact Or.inr (Or.inl rfl) | exact Or.inr (Or.inr rfl)) (hd : (x == ("__debug__" : Str)) = false := by decide)
    (hcd : (x == ("__classdict__" : Str)) = false := by decide) : PE X (.Name x pos) (tVar i) := pe_var hN hv hd hcd
end
theorem iteF {A B : Prop} (h : B) : if false = true then A else B := by
  rw [if_neg Bool.false_ne_true]
  exact h
theorem iteT {A B : Prop} (h : A) : if true = true then A else B := by
  rw [if_pos rfl]
  exact h
theorem ite2 {c A B : Prop} [Decidable c] (h1 : c → A) (h2 : ¬ c → B) : if c then A else B := by
  by_cases h : c
  · rw [if_pos h]
    exact h1 h
  · rw [if_neg h]
    exact h2 h
theorem iteNS {c A B : Prop} [Decidable c] (hc : c) (h : B) : if (!decide c) = true then A else B := by
  rw [decide_eq_true hc]
  exact iteF h
noncomputable def Same (H H' : Hp) : Prop := ∀ b o, H b = some o → H' b = some o
theorem Same.refl (H : Hp) : Same H H := fun _ _ h => h
theorem Same.trans {H H1 H2 : Hp} (a : Same H H1) (b : Same H1 H2) : Same H H2 := fun c o h => b c o (a c o h)
theorem Same.free {H H' : Hp} (e : Same H H') {l : Addr} (h : H' l = Option.none) : H l = Option.none := by
  cases q : H l with
  | none => rfl
  | some o =>
    rw [e l o q] at h
    cases h
theorem Same.seq {K : PySem.W.Frag} {H H' : Hp} {a : Addr} {xs : List V} (e : Same H H') (h : SqL K H a xs) : SqL K H' a xs := by
  rcases h with (h | ⟨o, h⟩) | h
  · exact .inl (.inl (e _ _ h))
  · exact .inl (.inr ⟨o, e _ _ h⟩)
  · exact .inr h
section
variable {X : Cx}
noncomputable def zax:R2:=fun x y H Q=>∃i j,x=.int i∧y=.int j∧Q (.int (i+j)) H
noncomputable def zay:R2:=fun x y H Q=>∃i j,x=.int i∧y=.int j∧Q (.int (i-j)) H
theorem zf:OpR X (binaryOp .Add) zax:=op_add
theorem zB:OpR X (binaryOp .Sub) zay:=op_sub
noncomputable def Ym (i j:Int):Prop:=∃m n:Nat,Builtin.Int.intBits i≤m∧Builtin.Int.intBits j≤n∧m+n≤134217728
noncomputable def zaz:R2:=fun x y H Q=>∃i j,x=.int i∧y=.int j∧Ym i j∧Q (.int (i*j)) H
theorem z9:OpR X (binaryOp .Mult) zaz:=opI (C:=Ym) (g:=fun i j=>i*j) fun _ _ _ _ _ _ _ hc q=>by
 obtain⟨m,n,h1,h2,h3⟩:=hc
 exact mul_int q (IntMulOk.of_le h1 h2 h3)
noncomputable def Yn (j:Int):Prop:=0<j∧Builtin.Int.intBits j≤9000
noncomputable def zaA:R2:=fun x y H Q=>∃i j,x=.int i∧y=.int j∧Yn j∧Q (.int (i / j)) H
theorem zR:OpR X (binaryOp .FloorDiv) zaA:=opI (C:=fun _ j=>Yn j) (g:=fun i j=>i / j) fun i j _ _ _ _ _ hc q=>by
 have h1:(0:Int)<j:=hc.1
 have h3:j.natAbs.log2<9000:=(Nat.log2_lt (by omega)).mpr (intBits_le_iff.mp hc.2)
 exact floordiv_int (by omega) (by rw [Int.fdiv_eq_ediv_of_nonneg i (by omega)];exact q) (.inl (PyProof.noPylong_of_log2 h3))
noncomputable def zaB:R2:=fun x y H Q=>∃i j,x=.int i∧y=.int j∧0<j∧Q (.int (i % j)) H
theorem zT:OpR X (binaryOp .Mod) zaB:=op_mod
noncomputable def zaC:R2:=fun x y H Q=>∃i j,x=.int i∧y=.int j∧CPow i j∧Q (.int (i ^ j.toNat)) H
theorem XQ:OpR X (binaryOp .Pow) zaC:=op_pow
noncomputable def zaD:R2:=fun x y H Q=>∃i j,x=.int i∧y=.int j∧CPow i j∧Q (.int (i*2 ^ j.toNat)) H
theorem Wo:OpR X (binaryOp .LShift) zaD:=op_shl
noncomputable def zcy:R2:=fun x y H Q=>∃i j,x=.int i∧y=.int j∧Q (.bl (decide (i<j))) H
noncomputable def zcz:R2:=fun x y H Q=>∃i j,x=.int i∧y=.int j∧Q (.bl (decide (i≤j))) H
noncomputable def zcA:R2:=fun x y H Q=>∃i j,x=.int i∧y=.int j∧Q (.bl (decide (j<i))) H
noncomputable def zcB:R2:=fun x y H Q=>∃i j,x=.int i∧y=.int j∧Q (.bl (decide (j≤i))) H
noncomputable def zcC:R2:=fun x y H Q=>∃i j:Int,x=.int i∧y=.int j∧Q (.bl (decide (i=j))) H
noncomputable def zcD:R2:=fun x y H Q=>∃i j:Int,x=.int i∧y=.int j∧Q (.bl (!decide (i=j))) H
theorem vp:OpR X (compareOp .Lt) zcy:=op_lt
theorem YJ:OpR X (compareOp .LtE) zcz:=op_le
theorem jH:OpR X (compareOp .Gt) zcA:=op_gt
theorem V5:OpR X (compareOp .GtE) zcB:=op_ge
theorem yw:OpR X (compareOp .Eq) zcC:=by
 intro pins s σ H x y v u Q I rx ry h
 obtain⟨i,j,rfl,rfl,q⟩:=h
 refine op_eq pins s σ H _ _ v u Q I rx ry ⟨rfl,?_⟩
 have e:decide (V.int i=V.int j)=decide (i=j):=decide_eq_decide.mpr ⟨fun z=>V.int.inj z,fun z=>by rw [z]⟩
 rw [e];exact q
theorem Qy:OpR X (compareOp .NotEq) zcD:=by
 intro pins s σ H x y v u Q I rx ry h
 obtain⟨i,j,rfl,rfl,q⟩:=h
 refine op_ne pins s σ H _ _ v u Q I rx ry ⟨rfl,?_⟩
 have e:decide (V.int i=V.int j)=decide (i=j):=decide_eq_decide.mpr ⟨fun z=>V.int.inj z,fun z=>by rw [z]⟩
 rw [e];exact q
noncomputable def Yo (X:Cx):Prop:=∀(pins:List (Addr×Obj)) (σ:St) (H:Hp) (s:Shared),Inv X pins σ H s→PylongRoom (model X.prog X.w) X.A s
noncomputable def zaE:R2:=fun x y H Q=>∃i j,x=.int i∧y=.int j∧0<j∧Q (.int (i / j)) H
theorem Jf (hp:Yo X):OpR X (binaryOp .FloorDiv) zaE:=by
 intro pins s σ H x y v u Q I rx ry h
 obtain⟨i,j,rfl,rfl,hj,q⟩:=h
 obtain⟨t,rfl⟩:=rx
 obtain⟨t',rfl⟩:=ry
 refine floordiv_int (by omega) ?_ (.inr (hp pins σ H s I))
 rw [Int.fdiv_eq_ediv_of_nonneg i (by omega)]
 exact⟨.int (i / j),H,I.tok _,⟨_,rfl⟩,q⟩
theorem V6 {CX:CXT}{P:Program}{w:World}{K:W.Frag}{mg:Str→Option Value}{base:Heap}{N ps:List Str}{qual:Str}{scope:Scope}{f:Addr}{cdv:Value}{A:Around}{outer:List Env}{s:Shared}{H:Hp}{E:XK}
  (hP:P.given.tree=none) (S:FnScope N ps scope) (hr:Room 35 (A.deeper (envOfC qual scope s.heap.objs.size f cdv))):Yo ((cxOf CX P w K mg base N qual scope f cdv A outer s H E).nox):=by
 intro pins σ H' s' I
 have I':=I.unwish
 refine PylongRoom.of I'.nolimit ?_ (SeerAt.of (I'.mod.seer.keeps I'.bk) hP I'.ok.frames S.gen S.co rfl rfl)
 have:=hr.dp
 show (A.deeper (envOfC qual scope s.heap.objs.size f cdv)).depth+100 < _
 omega
theorem ZS:MtR X "int.bit_length" (fun x vs H Q=>∃i,x=.int i∧vs=[]∧Q (.int (Builtin.Int.intBits i:Nat)) H):=by
 intro pins s σ H x xs v us Q I rx rv h
 obtain⟨i,rfl,rfl,q⟩:=h
 obtain⟨t,rfl⟩:=rx
 cases rv
 exact call_int_bit_length ⟨.int _,H,I.tok _,⟨_,rfl⟩,q⟩
theorem xH:CallR X (.builtin "isinstance") (fun xs H Q=>∃x n t b,xs=[x,.ty n]∧TyOf X.K H x t∧W.kitOne X.K t (.type n)=some b∧Q (.bl b) H):=by
 intro pins s σ H xs us Q I r h
 obtain⟨x,n,t,b,rfl,ty,e,q⟩:=h
 obtain⟨u,c,rfl,rx,rc⟩:=vals2 r
 cases (show c=Value.type n from rc)
 exact isinst_ok I rx ty e fun tk=>⟨.bl b,H,I.tok tk,rfl,q⟩
end
theorem Jg (K:W.Frag):W.kitOne K (.type "int") (.type "int")=some true:=by with_unfolding_all rfl
theorem Qz (K:W.Frag):W.kitOne K (.type "int") (.type "bool")=some false:=by with_unfolding_all rfl
noncomputable def Def (K:W.Frag) (mg:Str→Option Value) (x:Str) (st:Stmt) (ps:List Str):Prop:=
 ∃f fd,Fun K x x st f fd∧Binds K fd ps []∧mg x=some (.ref f)
noncomputable def Fn (P:Program) (w:World) (K:W.Frag) (mg:Str→Option Value) (base:Heap) (k:Nat) (x:Str) (ps:List Str) (sp:Sp):Prop:=
 ∃f fd,FnOk P w K mg base CX0 k f fd ps sp∧W.keepIn K (.ref f)=true∧Binds K fd ps []∧mg x=some (.ref f)
section
variable {P:Program}{w:World}{K:W.Frag}{mg:Str→Option Value}{base:Heap}
theorem Def.fn {x:Str}{st:Stmt}{N ps:List Str}{k:Nat}{sp:Sp} (D:Def K mg x st ps) (S:FnScope N ps (defScope st)) (len:∀vs H Q E,sp vs H Q E→vs.length=ps.length)
  (hbody:∀(f:Addr) (cdv:Value) (A:Around) (outer:List Env) (s:Shared) (H:Hp) (vs:List V) (Q:VK) (E:XK),Room k (A.deeper (envOfC x (defScope st) s.heap.objs.size f cdv))→sp vs H Q E →
   ∃t,PSs (cxOf CX0 P w K mg base N x (defScope st) f cdv A outer s H E).nox (defBody st) t∧t { nx:=fun _ H'=>Q .non H',rt:=Q } (start N vs) H):Fn P w K mg base (k+1) x ps sp:=by
 obtain⟨f,fd,F,b,m⟩:=D
 exact⟨f,fd,F.ok S len (fun cdv A outer s H vs Q E hr h=>hbody f cdv A outer s H vs Q E hr h),F.kp,b,m⟩
theorem Fn.mono {j k:Nat}{x:Str}{ps:List Str}{sp:Sp} (F:Fn P w K mg base j x ps sp) (h:j≤k):Fn P w K mg base k x ps sp:=by
 obtain⟨f,fd,F,r⟩:=F
 exact⟨f,fd,F.mono h,r⟩
theorem Fn.imp {k:Nat}{x:Str}{ps:List Str} {sp sp':Sp} (F:Fn P w K mg base k x ps sp) (h:∀vs H Q E,sp' vs H Q E→sp vs H Q E):Fn P w K mg base k x ps sp':=by
 obtain⟨f,fd,F,r⟩:=F
 exact⟨f,fd,F.imp h,r⟩
end
section
variable {X:Cx}{k:Nat}{x:Str}{ps:List Str}{sp:Sp}{p pos:Pos}{e:Expr}{es:List Expr}{t:TA}
noncomputable def tFn (sp:Sp) (t:TA):TE:=fun σ H Q=>t σ H fun vs H1=>sp vs H1 Q E0
theorem zJ (F:Fn X.prog X.w X.K X.mg X.base k x ps sp) (hr:Room k X.A) (hg:Gl X x) (ha:PA X (e::es) t) (hdb:(x == ("__debug__":Str))=false:=by decide)
  (he:starEach (e::es) X.env=(false,eval e X.env)::starEach es X.env:=by rfl) (hpl:(backTo pos (starEach es X.env)).any (·.1)=false:=by rfl) :
  PE X (.Call (.Name x p) (e::es) [] pos) (tFn sp t):=by
 obtain⟨f,fd,F,kp,b,m⟩:=F
 have h:=pe_call (p:=p) (pos:=pos) (dvs:=[]) (ds:=[]) F hr hg m kp b .nil pass0 ha hdb he hpl
 intro pins s σ H Q I q
 refine h pins s σ H Q I ?_
 show t σ H fun vs H1=>sp (vs++[]) H1 Q E0
 have q':t σ H fun vs H1=>sp vs H1 Q E0:=q
 simpa only [List.append_nil] using q'
theorem V7 (F:Fn X.prog X.w X.K X.mg X.base k x ps sp) (hr:Room k X.A) (hg:Gl X x) (hdb:(x == ("__debug__":Str))=false:=by decide) :
  PE X (.Call (.Name x p) [] [] pos) (tFn sp tNil):=by
 obtain⟨f,fd,F,kp,b,m⟩:=F
 have h:=pe_call0 (p:=p) (pos:=pos) (dvs:=[]) (ds:=[]) F hr hg m kp b .nil pass0 hdb
 intro pins s σ H Q I q
 exact h pins s σ H Q I q
end
theorem ifD {c A B:Prop} [Decidable c] (h1:c→A) (h2:¬c→B):if decide c=true then A else B:=by
 by_cases h:c
 ·rw [if_pos (decide_eq_true h)];exact h1 h
 ·rw [if_neg (fun z=>h (of_decide_eq_true z))];exact h2 h
theorem YK {c A B:Prop} [Decidable c] (h1:¬c→A) (h2:c→B):if (!decide c)=true then A else B:=by
 by_cases h:c
 ·rw [if_neg (by rw [decide_eq_true h];decide)];exact h2 h
 ·rw [if_pos (by rw [decide_eq_false h];decide)];exact h1 h
theorem ifT {c A B:Prop} [Decidable c] (h:c) (a:A):if decide c=true then A else B:=ifD (fun _=>a) (fun z=>absurd h z)
theorem ifF {c A B:Prop} [Decidable c] (h:¬c) (b:B):if decide c=true then A else B:=ifD (fun z=>absurd z h) (fun _=>b)
theorem zG:bootBuiltins "isinstance"=some (.builtin "isinstance"):=by decide +kernel
theorem zaF:bootBuiltins "int"=some (.type "int"):=by decide +kernel
theorem YL:bootBuiltins "bool"=some (.type "bool"):=by decide +kernel
theorem V8:bootBuiltins "list"=some (.type "list"):=by decide +kernel
theorem Yp:bootBuiltins "str"=some (.type "str"):=by decide +kernel
theorem xJ:bootBuiltins "len"=some (.builtin "len"):=by decide +kernel
theorem zaG:bootBuiltins "max"=some (.builtin "max"):=by decide +kernel
theorem zaH:bootBuiltins "min"=some (.builtin "min"):=by decide +kernel
theorem Jh:bootBuiltins "sorted"=some (.builtin "sorted"):=by decide +kernel
theorem Ji:bootBuiltins "enumerate"=some (.type "enumerate"):=by decide +kernel
theorem Zh:bootBuiltins "reversed"=some (.type "reversed"):=by decide +kernel
theorem QB:bootBuiltins "ValueError"=some (.type "ValueError"):=by decide +kernel
theorem Same.put {H H':Hp}{p:Addr}{o:HO} (s:Same H H') (h:H' p=Option.none):Same H (upd H' p o):=fun b u e=>by
 have e':=s b u e
 rw [upd_ne (ne_of_none e' h)]
 exact e'
theorem Same.new {H:Hp}{p:Addr}{o:HO} (h:H p=Option.none):Same H (upd H p o):=(Same.refl H).put h
noncomputable def Vs (lo c:Int) (n:Nat):It:=⟨fun i _=>i<n,fun i H x H'=>H'=H∧x=.int (lo+i*c),fun i _=>n≤i⟩
theorem Jj {P:Program}{w:World}{K:PySem.W.Frag}{tg:Expr} (it:Addr) (lo c:Int) (n:Nat):Turn P w K tg (Vs lo c n) [it] it (fun i h=>IsRangeIter h it (lo+(i:Nat)*c) ((n:Int)-(i:Nat)) c) where
 mem:=by simp
 obj:=fun i h st b hb=>by
  have e:b=it:=by simpa using hb
  subst e
  exact⟨_,st,fun v z=>by
   have z':Data.fields _=Data.cell v:=z
   cases z'⟩
 keep:=fun i h h' st k=>k it (by simp) _ st
 item:=by
  intro X hP hw hK hc i pins s σ H E I hf st hg
  subst hP hw hK
  obtain⟨f0,f1,f2,f3,f4,f5⟩:=hf it (by simp)
  have W:=Walks.range (prog:=X.prog) (w:=X.w) (I.ok.hd hc) it lo c n
  refine W.item i s _ _ hg st fun v h' tk hv st' kk=>?_
  obtain⟨t,rfl⟩:=hv
  have I1:Inv X pins σ H { s with heap:=h',toks:=tk }:=I.turned (fun b o hb e=>kk b o (by simpa using hb) e) f0 f1 f3 f4 f5
  exact⟨_,rfl,go_of (s:={ s with heap:=h',toks:=tk }) (n:="range_iterator") st' rfl rfl (by decide) ⟨.int (lo+i*c),H,I1,⟨t,rfl⟩,⟨rfl,rfl⟩,st',fun b hb=>(hf b hb).1⟩⟩
 done:=by
  intro X hP hw hK hc i pins s σ H E I hf st hg
  subst hP hw hK
  obtain⟨f0,f1,f2,f3,f4,f5⟩:=hf it (by simp)
  exact wpAny_pyNext_range_end (I.ok.hd hc) st (by have:n≤i:=hg;omega) fun h' eb=>⟨rfl,I.turned (t':=s.toks) (fun b o hb e=>eb b o hb e) f0 f1 f3 f4 f5⟩
 self:=fun _ _ _ _ _ st h=>wpAny_pyIter_rangeiter st h
section
variable {X:Cx}{tg:Expr}
noncomputable def zaI (ta:TA):TI:=fun σ H R=>ta σ H fun vs H1=>∃(i j c:Int) (n:Nat),vs=[.int i,.int j,.int c]∧(c≠0∧c.natAbs<1073741824∧Builtin.Range.small i j c=true∧Builtin.Range.rangeSize i j c=(n:Int))∧R (Vs i c n) H1
theorem Qg {a b c:Expr}{ta:TA}{p pos:Pos} (hg:Gl X "range") (hm:X.mg "range"=none) (ha:PA X [a,b,c] ta) (hs:starEach [a,b,c] X.env=(false,eval a X.env)::starEach [b,c] X.env:=by rfl) (hs2:(backTo pos (starEach [b,c] X.env)).any (·.1)=false:=by rfl) :
  PI X tg (.Call (.Name "range" p) [a,b,c] [] pos) (zaI ta):=by
 intro pins s σ H R I h
 refine Call_ (ld_blt I hg hm boot_range (PyProof.Rows.callWith_type1 (thn (ha pos pins s σ H _ I h) fun us s1 ⟨vs,H1,I1,r1,q1⟩=>?_) hs hs2))
 obtain⟨i,j,k,n,e,⟨q1,q2,q3,q4⟩,q⟩:=q1
 subst e
 cases r1 with
 | cons r rr=>
  cases rr with
  | cons r' rr=>
   cases rr with
   | cons r'' rr=>
    cases rr
    obtain⟨t,rfl⟩:=r
    obtain⟨t',rfl⟩:=r'
    obtain⟨t'',rfl⟩:=r''
    refine call_range_3 q1 ?_ (.inl (PyProof.noPylong_small q2))
    refine wpAny_pyIter_range (IsRange.new ..) q3 ?_
    have I2:Inv X pins σ H1 { s1 with heap:=s1.heap.push { cls:=.type "range",data:=.fields #[.int i t,.int j t',.int k t''] },toks:=s1.toks }:=I1.kept fun b o e=>Heap.get?_push_of_some _ e
    refine⟨(s1.heap.push { cls:=.type "range",data:=.fields #[.int i t,.int j t',.int k t''] }).objs.size,[(s1.heap.push { cls:=.type "range",data:=.fields #[.int i t,.int j t',.int k t''] }).objs.size],_,_,H1,rfl,
     I2.kept (t':=s1.toks) fun b o e=>Heap.get?_push_of_some _ e,Jj _ i k n,?_,fun b hb=>?_,q⟩
    ·have e1:i+((0:Nat):Int)*k=i:=by simp
     have e2:((n:Nat):Int)-((0:Nat):Int)=Builtin.Range.rangeSize i j k:=by rw [q4];simp
     show IsRangeIter _ _ (i+((0:Nat):Int)*k) (((n:Nat):Int)-((0:Nat):Int)) k
     rw [e1,e2]
     exact Heap.get?_push_size _ rfl
    ·have e:b=(s1.heap.push { cls:=.type "range",data:=.fields #[.int i t,.int j t',.int k t''] }).objs.size:=by simpa using hb
     subst e
     exact I2.fpOk (Nat.le_refl _) (I2.hok.fresh (Nat.le_refl _))
end
theorem J3 {lo c:Int}{n:Nat}{g:TG}{tb:TS}{D:Ends}{σ:St}{H:Hp} (Pv:Nat→St→Hp→Prop) (h0:Pv 0 σ H)
  (hs:∀i σ H,i<n→Pv i σ H→g (.int (lo+i*c)) σ H fun σ2 H2=>tb { D with nx:=Pv (i+1),ct:=Pv (i+1),bk:=D.nx } σ2 H2) (hd:∀σ H,Pv n σ H→D.nx σ H) :
  ∃W:Nat→Nat→St→Hp→Prop,(∃m,W 0 m σ H)∧∀i m σ H,W i m σ H →
   ((Vs lo c n).stop i H∧D.nx σ H)∨((Vs lo c n).go i H∧∃N:St→Hp→Prop,(∀σ' H',N σ' H'→∃m',m'<m∧W (i+1) m' σ' H')∧∀x H',(Vs lo c n).yld i H x H'→g x σ H' fun σ2 H2=>tb { D with nx:=N,ct:=N,bk:=D.nx } σ2 H2):=by
 refine⟨fun i m σ H=>m=n-i∧i≤n∧Pv i σ H,⟨n,by simp,Nat.zero_le _,h0⟩,?_⟩
 rintro i m σ H ⟨rfl,hi,p⟩
 by_cases hlt:i<n
 ·refine .inr ⟨hlt,Pv (i+1),fun σ' H' p'=>⟨n-(i+1),by omega,rfl,hlt,p'⟩,fun x H' y=>?_⟩
  obtain⟨e,y⟩:=y
  subst e y
  exact hs i σ _ hlt p
 ·have e:i=n:=by omega
  subst e
  exact .inl ⟨Nat.le_refl _,hd σ H p⟩
def jl (env:Env):List (Str×NameKind)→List (Str×Addr)→List (Str×Addr)
 | [],acc=>acc
 | (n,k)::r,acc=>if k == .free then jl env r ((n,(env.cells.lookup n).getD 0)::acc) else jl env r acc
theorem Zi {scope:Scope}{env:Env} (h:∀p∈scope.names,p.2=.free→∃c,env.cells.lookup p.1=some c):closureFor scope env=pure (jl env scope.names []):=by
 unfold closureFor
 have key:∀(names:List (Str×NameKind)) (acc:List (Str×Addr)),(∀p∈names,p.2=.free→∃c,env.cells.lookup p.1=some c) →
   (forIn names acc (fun(x:Str×NameKind) (cs:List (Str×Addr))=>match x with
    | (name,kind)=>if (kind == NameKind.free)=true then (cellOf env name >>= fun c=>pure (ForInStep.yield ((name,c)::cs))) else pure (ForInStep.yield cs)):Sem (List (Str×Addr)))=pure (jl env names acc):=by
  intro names
  induction names with
  | nil=>intro acc _;rfl
  | cons p r ih=>
   intro acc hp
   obtain⟨n,k⟩:=p
   have hr:∀p∈r,p.2=.free→∃c,env.cells.lookup p.1=some c:=fun p hm=>hp p (List.mem_cons_of_mem _ hm)
   rw [List.forIn_cons]
   by_cases hk:k=.free
   ·subst hk
    obtain⟨c,hc⟩:=hp (n,.free) List.mem_cons_self rfl
    have hc:env.cells.lookup n=some c:=hc
    have e1:cellOf env n=pure c:=by unfold cellOf;rw [hc]
    have e2:jl env ((n,.free)::r) acc=jl env r ((n,c)::acc):=by
     show jl env r ((n,(env.cells.lookup n).getD 0)::acc)=_
     rw [hc];rfl
    simp only [beq_self_eq_true,if_true,e1,pure_bind]
    rw [e2]
    exact ih _ hr
   ·have hb:(k == NameKind.free)=false:=by simpa using hk
    have e2:jl env ((n,k)::r) acc=jl env r acc:=by
     show (if (k == NameKind.free)=true then jl env r ((n,(env.cells.lookup n).getD 0)::acc) else jl env r acc)=_
     rw [hb];rfl
    simp only [hb,Bool.false_eq_true,if_false,pure_bind]
    rw [e2]
    exact ih _ hr
 have k0:=key scope.names [] h
 show (forIn scope.names ([]:List (Str×Addr)) _ >>= fun r=>pure r)=_
 refine Eq.trans (congrArg (fun m=>m >>= fun r=>pure r) k0) ?_
 rfl
theorem yx {env:Env}:∀{names:List (Str×NameKind)}{acc:List (Str×Addr)},(∀p∈names,p.2=.free→∃c,env.cells.lookup p.1=some c)→(∀x c,acc.lookup x=some c→env.cells.lookup x=some c) →
  ∀x c,(jl env names acc).lookup x=some c→env.cells.lookup x=some c
 | [],_,_,ha,x,c,h=>ha x c h
 | (n,k)::r,acc,hp,ha,x,c,h=>by
  have hr:∀p∈r,p.2=.free→∃c,env.cells.lookup p.1=some c:=fun p hm=>hp p (List.mem_cons_of_mem _ hm)
  by_cases hk:k=.free
  ·subst hk
   obtain⟨d,hd⟩:=hp (n,.free) List.mem_cons_self rfl
   have hd:env.cells.lookup n=some d:=hd
   have e2:jl env ((n,.free)::r) acc=jl env r ((n,d)::acc):=by
    show jl env r ((n,(env.cells.lookup n).getD 0)::acc)=_
    rw [hd];rfl
   rw [e2] at h
   refine yx hr (fun y e hy=>?_) x c h
   rw [List.lookup_cons] at hy
   cases hyn:y == n with
   | true=>rw [hyn] at hy;cases hy;rw [beq_iff_eq.mp hyn];exact hd
   | false=>rw [hyn] at hy;exact ha y e hy
  ·have hb:(k == NameKind.free)=false:=by simpa using hk
   have e2:jl env ((n,k)::r) acc=jl env r acc:=by
    show (if (k == NameKind.free)=true then jl env r ((n,(env.cells.lookup n).getD 0)::acc) else jl env r acc)=_
    rw [hb];rfl
   rw [e2] at h
   exact yx hr ha x c h
theorem wV {env:Env}:∀{names:List (Str×NameKind)}{acc:List (Str×Addr)}{x:Str},((x,NameKind.free)∈names∨∃c,acc.lookup x=some c)→∃c,(jl env names acc).lookup x=some c
 | [],_,_,h=>h.elim (fun z=>nomatch z) id
 | (n,k)::r,acc,x,h=>by
  by_cases hk:k=.free
  ·subst hk
   show ∃c,(jl env r ((n,(env.cells.lookup n).getD 0)::acc)).lookup x=some c
   refine wV ?_
   by_cases hx:x=n
   ·subst hx;exact .inr ⟨_,by rw [List.lookup_cons,beq_self_eq_true]⟩
   ·rcases h with h | ⟨c,h⟩
    ·rcases List.mem_cons.mp h with e | e
     ·cases e;exact absurd rfl hx
     ·exact .inl e
    ·exact .inr ⟨c,by rw [List.lookup_cons,beq_eq_false_iff_ne.mpr hx];exact h⟩
  ·have hb:(k == NameKind.free)=false:=by simpa using hk
   have e2:jl env ((n,k)::r) acc=jl env r acc:=by
    show (if (k == NameKind.free)=true then jl env r ((n,(env.cells.lookup n).getD 0)::acc) else jl env r acc)=_
    rw [hb];rfl
   rw [e2]
   refine wV ?_
   rcases h with h | h
   ·rcases List.mem_cons.mp h with e | e
    ·cases e;exact absurd rfl hk
    ·exact .inl e
   ·exact .inr h
section
variable {prog:Program}{w:World}{A:Around}
theorem vO {elt target iter:Expr}{ifs:List Expr}{scope:Scope}{pos:Pos}{it acc:Value}{env:Env}{s:Shared}{R:Result→Shared→Prop} (I:Nat→Shared→Prop)
  (turn:∀n s,I n s→wpAny (model prog w) A (pyNext it) (fun r s₁=>match r with
   | none=>R (.ok .next) s₁
   | some v=>wpAny (model prog w) A (letOwnedTupleGo target it v) (fun _ s₁'=>wpAny (model prog w) A (assign target env v) (fun _ s₂=>
     wpAny (model prog w) A (forIn ifs true fun c r=>if r=true then do let ok ← isTrue c env (eval c env);pure (ForInStep.yield ok) else pure (ForInStep.yield r)) (fun ok s₃=>
      if ok=true then wpAny (model prog w) A (eval elt env) (fun x s₄=>wpAny (model prog w) A (call (.builtin "list.append") [acc,x]) (fun _ s₅=>∃m,m<n∧I m s₅) (fun _ _=>False) s₄) (fun _ _=>False) s₃
      else ∃m,m<n∧I m s₃) (fun _ _=>False) s₂) (fun _ _=>False) s₁') (fun _ _=>False) s₁) (fun _ _=>False) s)
  (n:Nat) (h:I n s):codeAny (model prog w) A (.compLoop (.ListComp elt [⟨target,iter,ifs,0⟩] scope pos) 0 it acc env) R s:=by
 refine codeAny_loop rfl I (fun n s hI=>?_) n h
 show wpAny _ A ((compTurn (.ListComp elt [⟨target,iter,ifs,0⟩] scope pos) 0 it acc env).onRaise (fun x=>do noteFrame x env;theTreesLotGoes x)) _ _ s
 refine wpAny_noted ?_
 rw [compTurn_list]
 refine wpAny_bind (wpAny_standAt (wpAny_bind (wpAny_mono (turn n s hI) (fun r s₁ h₁=>?_) fun _ _ h'=>h'.elim)))
 cases r with
 | none=>exact wpAny_pure h₁
 | some v=>
  refine wpAny_bind (wpAny_mono h₁ (fun _ s₁' h₁'=>?_) fun _ _ h'=>h'.elim)
  refine wpAny_bind (wpAny_mono h₁' (fun _ s₂ h₂=>wpAny_bind (wpAny_mono h₂ (fun ok s₃ h₃=>?_) fun _ _ h'=>h'.elim)) fun _ _ h'=>h'.elim)
  cases ok with
  | false=>exact wpAny_pure ⟨rfl,h₃⟩
  | true=>exact wpAny_bind (wpAny_bind (wpAny_mono h₃ (fun x s₄ h₄=>wpAny_bind (wpAny_mono h₄ (fun _ s₅ h₅=>wpAny_pure (wpAny_pure ⟨rfl,h₅⟩)) fun _ _ h'=>h'.elim)) fun _ _ h'=>h'.elim))
end
abbrev zO (X:Cx) (pins:List (Addr×Obj)) (N:List Str) (scope:Scope) (C:Addr) (sF:Shared) (HF:Hp) (fp:List Addr):Cx where
 prog:=X.prog
 w:=X.w
 K:=X.K
 mg:=X.mg
 base:=X.base
 A:=X.A
 N:=N
 s₀:=sF
 H₀:=HF
 env:=compEnvC scope (jl X.env scope.names []) C X.env
 outer:=X.stack
 stack:=X.stack
 ex:=fp
 fn:=fun _=>false
 calm:=X.calm
 pn:=X.pn++pins
 xe:=fun _ _=>False
noncomputable def ji (own:Nat) (ix:List Nat) (σ:St):St:=List.replicate own none++ix.map fun i=>(σ[i]?).getD none
noncomputable def Zj (J:It) (own:Nat) (ix:List Nat) (g:TG) (tt:TT) (te:TE) (σ:St) (H1:Hp) (acc:Addr) (Q:VK):Prop:=
 ∃W:Nat→Nat→List V→Hp→Prop,(∃m,W 0 m [] (upd H1 acc (.lst [])))∧∀i m ys H2,W i m ys H2 →
  H2 acc=some (.lst ys)∧((J.stop i H2∧Q (.ref acc) H2)∨(J.go i H2∧ys.length<sizeLine∧∀x H3,J.yld i H2 x H3→g x (ji own ix σ) H3 fun σ4 H4=>σ4.drop own=ix.map (fun i=>(σ[i]?).getD none)∧tt σ4 H4 fun ok H5=>
   if ok=true then te σ4 H5 fun y H6=>H6 acc=some (.lst ys)∧∃m',m'<m∧W (i+1) m' (ys++[y]) (upd H6 acc (.lst (ys++[y])))
   else ∃m',m'<m∧W (i+1) m' ys H5))
noncomputable def Yq (wi:TI) (own:Nat) (ix:List Nat) (g:TG) (tt:TT) (te:TE):TE:=fun σ H Q=>wi σ H fun J H1=>∀acc,H1 acc=none→Zj J own ix g tt te σ H1 acc Q
noncomputable def Zb:TT:=fun _ H Q=>Q true H
noncomputable def PTs (X:Cx) (ifs:List Expr) (t:TT):Prop:=
 ∀(pins:List (Addr×Obj)) (s:Shared) (σ:St) (H:Hp) (Q:Bool→Hp→Prop),Inv X pins σ H s→t σ H Q →
  wpAny (model X.prog X.w) X.A (forIn ifs true fun c r=>if r=true then do let ok ← isTrue c X.env (eval c X.env);pure (ForInStep.yield ok) else pure (ForInStep.yield r)) (TP X pins σ Q) X.xe s
theorem vq {X:Cx}:PTs X [] Zb:=fun _ _ _ H _ I h=>wpAny_tests_nil ⟨H,I,h⟩
theorem Wq {X:Cx}{c:Expr}{t:TT} (hc:PT X c t):PTs X [c] t:=fun pins s σ H Q I h=>wpAny_tests_one (hc pins s σ H Q I h)
structure QC (X:Cx) (scope:Scope) (own:List Str) (fr:List Str) (ix:List Nat):Prop where
 kind:scope.kind=.function
 nocell:∀y∈scope.names,y.2≠.cell
 names:∀y∈scope.names,y.2=.local→scope.names.lookup y.1=some .local
 free:∀p∈scope.names,p.2=.free→∃c,X.env.cells.lookup p.1=some c
 frd:∀x∈fr,(x,NameKind.free)∈scope.names∧X.env.kindOf x=some .cell∧scope.names.lookup x=some .free
 len:fr.length=ix.length
 at_:∀(j:Nat) x i,fr[j]?=some x→ix[j]?=some i→X.N[i]?=some x
structure QD (X:Cx) (scope:Scope) (own:List Str) (fr:List Str) (ix:List Nat):Prop where
 kind:scope.kind=.function
 nocell:(scope.names.all fun y=>y.2 != .cell)=true
 names:(scope.names.all fun y=>y.2 != .local || scope.names.lookup y.1 == some .local)=true
 free:(scope.names.all fun p=>p.2 != .free || X.env.kindOf p.1 == some .cell)=true
 frd:(fr.all fun x=>X.env.kindOf x == some .cell && scope.names.lookup x == some .free)=true
 at_:(ix.map fun i=>X.N[i]?)=fr.map some
theorem mem_of_lookup {x:Str}{k:NameKind}:∀{names:List (Str×NameKind)},names.lookup x=some k→(x,k)∈names
 | [],h=>by simp at h
 | (n,k')::r,h=>by
  rw [List.lookup_cons] at h
  cases hx:x == n with
  | true=>
   rw [hx] at h
   cases h
   rw [beq_iff_eq.mp hx]
   exact List.mem_cons_self
  | false=>
   rw [hx] at h
   exact List.mem_cons_of_mem _ (mem_of_lookup h)
theorem QD.ok {X:Cx}{scope:Scope}{own fr:List Str}{ix:List Nat} (B:QD X scope own fr ix) (ok:X.Ok):QC X scope own fr ix where
 kind:=B.kind
 nocell:=fun y hy=>by simpa using List.all_eq_true.mp B.nocell y hy
 names:=fun y hy hl=>by
  have:=List.all_eq_true.mp B.names y hy
  rw [hl] at this
  simpa using this
 free:=fun p hp hf=>by
  have:=List.all_eq_true.mp B.free p hp
  rw [hf] at this
  exact ok.has p.1 (.inl (by simpa using this))
 frd:=fun x hx=>by
  have:=List.all_eq_true.mp B.frd x hx
  rw [Bool.and_eq_true] at this
  have h2:scope.names.lookup x=some .free:=by simpa using this.2
  exact⟨mem_of_lookup h2,by simpa using this.1,h2⟩
 len:=by
  have:=congrArg List.length B.at_
  simpa using this.symm
 at_:=fun j x i hx hi=>by
  have e:=congrArg (fun l=>l[j]?) B.at_
  simp only [List.getElem?_map,hx,hi,Option.map_some] at e
  exact Option.some.inj e
theorem wW {env:Env} (hf:env.scope.kind=.function):∀{names:List (Str×NameKind)}{x:Str},names.lookup x=some .free→env.kindOf x=some .cell →
  (names.map fun(n,k)=>if (k == NameKind.free && env.scope.kind == .function && env.kindOf n == some .cell) then (n,NameKind.cell) else (n,k)).lookup x=some .cell
 | [],_,h,_=>by simp at h
 | (n,k)::r,x,h,hx=>by
  have ih:=@wW env hf r x
  show List.lookup x ((if (k == NameKind.free && env.scope.kind == .function && env.kindOf n == some .cell)=true then (n,NameKind.cell) else (n,k))::_)=_
  cases hxn:x == n with
  | true=>
   have e:=beq_iff_eq.mp hxn
   subst e
   simp only [List.lookup_cons,hxn] at h
   cases h
   rw [if_pos (by rw [hf,hx];rfl)]
   simp only [List.lookup_cons,hxn]
  | false=>
   simp only [List.lookup_cons,hxn] at h
   by_cases hc:(k == NameKind.free && env.scope.kind == .function && env.kindOf n == some .cell)=true
   ·rw [if_pos hc];simp only [List.lookup_cons,hxn];exact ih h hx
   ·rw [if_neg hc];simp only [List.lookup_cons,hxn];exact ih h hx
theorem yN {env:Env}:∀{names:List (Str×NameKind)}{x:Str},(∀y∈names,y.2≠.cell) →
    ((names.map fun(n,k)=>if (k == NameKind.free && env.scope.kind == .function && env.kindOf n == some .cell) then (n,NameKind.cell) else (n,k)).lookup x=some .cell ∨
     (names.map fun(n,k)=>if (k == NameKind.free && env.scope.kind == .function && env.kindOf n == some .cell) then (n,NameKind.cell) else (n,k)).lookup x=some .free)→(x,NameKind.free)∈names
  | [],_,_,h=>by simp at h
  | (n,k)::r,x,hn,h=>by
    have ih:=@yN env r x (fun y hy=>hn y (List.mem_cons_of_mem _ hy))
    have hk:k≠.cell:=hn (n,k) List.mem_cons_self
    have h':List.lookup x ((if (k == NameKind.free && env.scope.kind == .function && env.kindOf n == some .cell)=true then (n,NameKind.cell) else (n,k))::r.map fun(n,k)=>if (k == NameKind.free && env.scope.kind == .function && env.kindOf n == some .cell) then (n,NameKind.cell) else (n,k))=some .cell ∨
      List.lookup x ((if (k == NameKind.free && env.scope.kind == .function && env.kindOf n == some .cell)=true then (n,NameKind.cell) else (n,k))::r.map fun(n,k)=>if (k == NameKind.free && env.scope.kind == .function && env.kindOf n == some .cell) then (n,NameKind.cell) else (n,k))=some .free:=h
    by_cases hc:(k == NameKind.free && env.scope.kind == .function && env.kindOf n == some .cell)=true
    · have hf:k=.free:=by
        rw [Bool.and_eq_true,Bool.and_eq_true] at hc
        exact beq_iff_eq.mp hc.1.1
      subst hf
      cases hxn:x == n with
      | true=>rw [beq_iff_eq.mp hxn];exact List.mem_cons_self
      | false=>
        rw [if_pos hc] at h'
        simp only [List.lookup_cons,hxn] at h'
        exact List.mem_cons_of_mem _ (ih h')
    · rw [if_neg hc] at h'
      cases hxn:x == n with
      | true=>
        simp only [List.lookup_cons,hxn] at h'
        rcases h' with e | e
        · cases e;exact absurd rfl hk
        · cases e;rw [beq_iff_eq.mp hxn];exact List.mem_cons_self
      | false=>
        simp only [List.lookup_cons,hxn] at h'
        exact List.mem_cons_of_mem _ (ih h')
section
variable {X:Cx}{pins:List (Addr×Obj)}{σ:St}{H:Hp}{s:Shared}
theorem Jk {scope:Scope}{own fr:List Str}{ix:List Nat}{C:Addr}{h₁:Heap}{tk:Nat}{fp:List Addr}{m:Str→Option Value} (I:Inv X pins σ H s) (B:QC X scope own fr ix) (hC:C=s.heap.objs.size)
  (hf:∀b∈fp,FpOk X pins H b) (hb:∀b∈fp,∃o,s.heap.get? b=some o) (old:∀b o,s.heap.get? b=some o→h₁.get? b=some o) (hns:h₁.Ns C m) :
  Inv (zO X pins (own++fr) scope C s H fp) [] (ji own.length ix σ) H { s with heap:=h₁,toks:=tk }:=by
 have look:∀x c,(jl X.env scope.names []).lookup x=some c→X.env.cells.lookup x=some c:=yx B.free (fun _ _ z=>by cases z)
 have lt:∀b o,s.heap.get? b=some o→b≠C:=fun b o e=>by rw [hC];exact Nat.ne_of_lt (Heap.lt_size e)
 have ok:(zO X pins (own++fr) scope C s H fp).Ok:={
  mod:=I.ok.mod
  kind:=B.kind
  glob:=I.ok.glob
  blt:=I.ok.blt
  above:=by show s.heap.objs.size≤C;rw [hC];exact Nat.le_refl _
  inj:=fun x y c a b=>I.ok.inj x y c (look x c a) (look y c b)
  has:=fun x hx=>wV (.inl (yN B.nocell hx))
  cab:=fun x c z=>nomatch z
  hd:=I.ok.hd
  frames:=I.ok.frames
  stk:=.inl rfl
  exf:=fun b hbf=>⟨by obtain⟨o,e⟩:=hb b hbf;exact lt b o e,fun x c e=>(hf b hbf).2.2.2.2.1 x c (look x c e)⟩
  bs:=I.bs
  bsz:=Nat.le_trans I.ok.bsz I.sz
  noex:=fun b o e hbf=>by
   rcases (hf b hbf).2.2.2.1 with z | z
   ·exact I.ok.noex b o e z
   ·exact absurd (Nat.lt_of_lt_of_le (Heap.lt_size e) (Nat.le_trans I.ok.bsz z)) (Nat.lt_irrefl _)
  exfs:=fun b hbf hs=>by
   rcases List.mem_cons.mp (I.stkSub b hs) with z | z
   ·exact(hf b hbf).2.1 z
   ·exact(hf b hbf).2.2.1 z
  funs:=I.stack
  frf:=I.stkFree }
 refine⟨ok,rfl,I.bare,Un.kept old,⟨m,hns,fun i x v e1 e2 e3=>?_⟩,fun x c e=>?_,?_,fun x c e=>I.freeC x c (look x c e),fun p hp=>?_,I.hok.kept old,?_⟩
 ·have e1:(own++fr)[i]?=some x:=e1
  have e2:(List.replicate own.length none++ix.map fun i=>(σ[i]?).getD none)[i]?=some (some v):=e2
  by_cases hi:i<own.length
  ·rw [List.getElem?_append_left (by rw [List.length_replicate];exact hi),List.getElem?_replicate,if_pos hi] at e2
   cases e2
  ·rw [List.getElem?_append_right (by omega)] at e1
   rw [List.getElem?_append_right (by rw [List.length_replicate];omega),List.length_replicate,List.getElem?_map] at e2
   obtain⟨i',hi',e4⟩:=Option.map_eq_some_iff.mp e2
   have e5:σ[i']?=some (some v):=by
    cases z:σ[i']? with
    | none=>rw [z] at e4;cases e4
    | some y=>rw [z] at e4;exact congrArg some e4
   have hm:x∈fr:=List.mem_of_getElem? e1
   obtain⟨f1,f2,f3⟩:=B.frd x hm
   obtain⟨mX,_,hl⟩:=I.loc
   obtain⟨u,r,l⟩:=hl i' x v (B.at_ _ x i' e1 hi') e5 (.inr (.inl f2))
   rcases l with ⟨l,_⟩ | ⟨_,c,ec,z⟩
   ·rw [f2] at l;cases l
   ·obtain⟨c',ec'⟩:=wV (env:=X.env) (names:=scope.names) (acc:=[]) (x:=x) (.inl f1)
    have:=look x c' ec'
    rw [ec] at this
    cases this
    obtain⟨o,ho,hd⟩:=z
    exact⟨u,r,.inr ⟨.inl (wW I.ok.kind f3 f2),c,ec',o,old _ _ ho,hd⟩⟩
 ·obtain⟨v,o,ho,hd⟩:=I.cell x c (look x c e)
  exact⟨v,o,old _ _ ho,hd⟩
 ·show H C=none
  rw [hC];exact I.hok.fresh (Nat.le_refl _)
 ·have hp':p∈X.pn++pins:=by simpa using hp
  obtain⟨e,n,ne,nf,d⟩:=I.pin p hp'
  refine⟨old _ _ e,n,lt _ _ e,fun z=>?_,d⟩
  rcases List.mem_cons.mp (I.stkSub _ z) with q | q
  ·exact ne q
  ·exact nf q
 ·show (List.replicate own.length none++ix.map fun i=>(σ[i]?).getD none).length=(own++fr).length
  rw [List.length_append,List.length_append,List.length_replicate,List.length_map,B.len]
theorem Qh {N:List Str}{scope:Scope}{C:Addr}{fp:List Addr} {σ':St} {H':Hp} {s':Shared} {h'':Heap}{pl:List (Addr×Obj)} (I:Inv X pins σ H s) (hf:∀b∈fp,FpOk X pins H b) (hC:C=s.heap.objs.size)
  (J:Inv (zO X pins N scope C s H fp) pl σ' H' s') (hs:Heap.SameBut C s'.heap h''):Inv X pins σ H' { s' with heap:=h'' }:=by
 have u:=J.base
 have k:∀b o,b≠C→s'.heap.get? b=some o→h''.get? b=some o:=fun b o hb e=>hs.extBut b o hb e
 have hn:H' C=none:=J.free
 have lt:∀b o,s.heap.get? b=some o→b≠C:=fun b o e=>by rw [hC];exact Nat.ne_of_lt (Heap.lt_size e)
 refine I.call' (s':={ s' with heap:=h'' }) (ch:=fp) J.os ?_ ?_ J.bare fun b hb=>⟨(hf b hb).2.2.2.1,(hf b hb).2.1,(hf b hb).2.2.2.2.1,(hf b hb).2.2.2.2.2⟩
 ·exact⟨fun b o q n hb he=>k b o (lt b o q) (u.keep b o q n hb he),fun b o q n hb he=>by
    obtain⟨sl,e⟩:=u.slot b o q n hb he
    exact⟨sl,k b _ (lt b o q) e⟩,u.free,fun b o q he=>by
    obtain⟨o',e⟩:=u.there b o q he
    exact⟨o',k b _ (lt b o q) e⟩,u.tups,u.frzs,u.tbls⟩
 ·intro b o e
  have nit:∀b u,H' b=some u→b≠C:=fun b u e z=>by rw [z,hn] at e;cases e
  refine(J.hok b o e).stay (fun c v hc q=>k c v ?_ q) (fun _ q=>q) fun _ _ q=>q
  rcases hc with z | z
  ·rw [z];exact nit b o e
  ·exact nit c _ z
theorem Zk {tg iter elt:Expr}{ifs:List Expr}{scope:Scope}{own fr:List Str}{ix:List Nat}{g:TG}{tt:TT}{te:TE}{pos:Pos}{Q:VK}{sF:Shared}{HF:Hp}{C acc it:Addr}{h₁:Heap}{fp:List Addr}{tn:Nat→Heap→Prop}{J:It}{W:Nat→Nat→List V→Hp→Prop}{m:Str→Option Value}{m0:Nat}{RR:Result→Shared→Prop}
  (hc:X.calm=true) (B:QC X scope own fr ix)
  (hg:∀pins C sF HF fp,PG (zO X pins (own++fr) scope C sF HF fp) tg g) (ht:∀pins C sF HF fp,PTs (zO X pins (own++fr) scope C sF HF fp) ifs tt) (he:∀pins C sF HF fp,PE (zO X pins (own++fr) scope C sF HF fp) elt te)
  (I3:Inv X pins σ HF sF) (T:Turn X.prog X.w X.K tg J fp it tn) (st3:tn 0 sF.heap) (f3:∀b∈fp,FpOk X pins HF b) (f3':∀b∈fp,∃o,sF.heap.get? b=some o) (hC:sF.heap.objs.size=C) (old:∀b o,sF.heap.get? b=some o→h₁.get? b=some o) (hns₁:h₁.Ns C m)
  (w0:W 0 m0 [] HF) (turn:∀i m ys H2,W i m ys H2→H2 acc=some (.lst ys)∧((J.stop i H2∧Q (.ref acc) H2)∨(J.go i H2∧ys.length<sizeLine∧∀x H3,J.yld i H2 x H3→g x (ji own.length ix σ) H3 fun σ4 H4=>σ4.drop own.length=ix.map (fun i=>(σ[i]?).getD none)∧tt σ4 H4 fun ok H5=>
   if ok=true then te σ4 H5 fun y H6=>H6 acc=some (.lst ys)∧∃m',m'<m∧W (i+1) m' (ys++[y]) (upd H6 acc (.lst (ys++[y])))
   else ∃m',m'<m∧W (i+1) m' ys H5)))
  (fin:∀s6 H5,Inv (zO X pins (own++fr) scope C sF HF fp) [] (ji own.length ix σ) H5 s6→Q (.ref acc) H5→RR (.ok .next) s6) :
  codeAny (model X.prog X.w) X.A (.compStart (.ListComp elt [⟨tg,iter,ifs,0⟩] scope pos) 0 (.ref it) (.ref acc) (compEnvC scope (jl X.env scope.names []) C X.env)) RR
   { sF with heap:=h₁,toks:=sF.toks+([]:List (Str×Value)).length }:=by
 have J0:Inv (zO X pins (own++fr) scope C sF HF fp) [] (ji own.length ix σ) HF { sF with heap:=h₁,toks:=sF.toks+([]:List (Str×Value)).length }:=Jk I3 B hC.symm f3 f3' old hns₁
 have st4:tn 0 h₁:=T.keep _ _ _ st3 fun b _ o e=>old b o e
 have fY:∀{pl:List (Addr×Obj)} {H':Hp},(∀b∈fp,H' b=none)→(∀p∈pl,p.1 ∉ fp)→∀b∈fp,FpOk (zO X pins (own++fr) scope C sF HF fp) pl H' b:=fun {pl H'} hn hp b hb=>by
  refine⟨hn b hb,(J0.ok.exf b hb).1,J0.ok.exfs b hb,.inl hb,(J0.ok.exf b hb).2,fun p hpm=>?_⟩
  rcases List.mem_append.mp hpm with z | z
  ·exact(f3 b hb).2.2.2.2.2 p z
  ·exact fun e=>hp p z (by rw [e];exact hb)
 have weak:∀{pl:List (Addr×Obj)}{σ4:St}{H4:Hp}{s4:Shared},Inv (zO X pins (own++fr) scope C sF HF fp) pl σ4 H4 s4→σ4.drop own.length=ix.map (fun i=>(σ[i]?).getD none)→Inv (zO X pins (own++fr) scope C sF HF fp) pl (ji own.length ix σ) H4 s4:=fun {pl σ4 H4 s4} J e=>by
  refine J.weak ?_ fun i v hv=>?_
  ·have:=J.len
   have:=J0.len
   omega
  ·have hv':(List.replicate own.length none++ix.map fun i=>(σ[i]?).getD none)[i]?=some (some v):=hv
   by_cases hi:i<own.length
   ·rw [List.getElem?_append_left (by rw [List.length_replicate];exact hi),List.getElem?_replicate,if_pos hi] at hv'
    cases hv'
   ·rw [List.getElem?_append_right (by rw [List.length_replicate];omega),List.length_replicate,← e,List.getElem?_drop] at hv'
    rw [show own.length+(i-own.length)=i by omega] at hv'
    exact hv'
 have loop:∀s4:Shared,s4={ sF with heap:=h₁,toks:=sF.toks+([]:List (Str×Value)).length } →
   codeAny (model X.prog X.w) X.A (.compLoop (.ListComp elt [⟨tg,iter,ifs,0⟩] scope pos) 0 (.ref it) (.ref acc) (compEnvC scope (jl X.env scope.names []) C X.env)) RR s4:=by
  rintro s4 rfl
  refine vO (fun n s'=>∃i ys H',Inv (zO X pins (own++fr) scope C sF HF fp) [] (ji own.length ix σ) H' s'∧tn i s'.heap∧(∀b∈fp,H' b=none)∧W i n ys H') ?_ m0 ⟨0,[],HF,J0,st4,fun b hb=>(f3 b hb).1,w0⟩
  rintro n s5 ⟨i,ys,H5,J5,st5,fr5,w5⟩
  obtain⟨ha,hturn⟩:=turn i n ys H5 w5
  rcases hturn with ⟨stop,qn⟩ | ⟨go,hsz,step⟩
  ·refine thn (T.done (zO X pins (own++fr) scope C sF HF fp) rfl rfl rfl hc i [] s5 _ H5 (fun _ _=>False) J5 (fY fr5 (fun _ z=>by cases z)) st5 stop) fun r s6 ⟨hr,J6⟩=>?_
   subst hr
   exact fin s6 H5 J6 qn
  ·refine thn (T.item (zO X pins (own++fr) scope C sF HF fp) rfl rfl rfl hc i [] s5 _ H5 (fun _ _=>False) J5 (fY fr5 (fun _ z=>by cases z)) st5 go) fun r s6 ⟨u,hr,h6⟩=>?_
   subst hr
   refine thn h6 fun _ s7 ⟨x,H7,J7,r7,y7,st7,fr7⟩=>?_
   have J7':=J7.pinned (fY fr7 (fun _ z=>by cases z)) (T.obj _ _ st7)
   refine thn (hg pins C sF HF fp _ s7 _ H7 x u _ J7' r7 (step x H7 y7)) fun _ s8 ⟨σ8,H8,J8,k8,q8⟩=>?_
   have back:∀{s9:Shared}{H9:Hp},Inv (zO X pins (own++fr) scope C sF HF fp) ([]++pinsAt fp s7.heap) σ8 H9 s9→Inv (zO X pins (own++fr) scope C sF HF fp) [] (ji own.length ix σ) H9 s9∧tn (i+1) s9.heap∧∀b∈fp,H9 b=none:=fun {s9 H9} J9=>by
    refine⟨weak J9.unpinned k8,T.keep _ _ _ st7 fun b hb o e=>(J9.pin (b,o) (List.mem_append_right _ (List.mem_append_right _ (mem_pinsAt hb e)))).1,fun b hb=>?_⟩
    obtain⟨o,e,d⟩:=T.obj _ _ st7 b hb
    exact(J9.pin (b,o) (List.mem_append_right _ (List.mem_append_right _ (mem_pinsAt hb e)))).2.1
   refine thn (ht pins C sF HF fp _ s8 σ8 H8 _ J8 q8) fun ok s9 ⟨H9,J9,q9⟩=>?_
   cases ok with
   | false=>
    obtain⟨m',hm,w9⟩:=q9
    obtain⟨b1,b2,b3⟩:=back J9
    exact⟨m',hm,i+1,ys,H9,b1,b2,b3,w9⟩
   | true=>
    refine thn (he pins C sF HF fp _ s9 σ8 H9 _ J9 q9) fun v s10 ⟨y,H10,J10,r10,a10,m',hm,w10⟩=>?_
    refine thn (mt_append _ s10 σ8 H10 (.ref acc) [y] (.ref acc) [v] (fun _ H'=>H'=upd H10 acc (.lst (ys++[y]))) J10 rfl (.cons r10 .nil) ⟨acc,ys,y,rfl,rfl,a10,hsz,rfl⟩) fun _ s11 ⟨_,H11,J11,_,e11⟩=>?_
    subst e11
    obtain⟨b1,b2,b3⟩:=back J11
    exact⟨m',hm,i+1,ys++[y],_,b1,b2,b3,w10⟩
 exact codeAny_compStart_list (loop _ rfl) (T.self _ 0 _ _ _ st4 (loop _ rfl))
theorem wX {tg iter elt:Expr}{ifs:List Expr}{scope:Scope}{own fr:List Str}{ix:List Nat}{wi:TI}{g:TG}{tt:TT}{te:TE}{pos:Pos} (hc:X.calm=true) (BB:QD X scope own fr ix) (hi:PI X tg iter wi)
  (hg:∀pins C sF HF fp,PG (zO X pins (own++fr) scope C sF HF fp) tg g) (ht:∀pins C sF HF fp,PTs (zO X pins (own++fr) scope C sF HF fp) ifs tt) (he:∀pins C sF HF fp,PE (zO X pins (own++fr) scope C sF HF fp) elt te)
  (hs:∀x,foldedSetIterable iter X.env x=pure x:=by intro _;rfl):PE X (.ListComp elt [⟨tg,iter,ifs,0⟩] scope pos) (Yq wi own.length ix g tt te):=by
 intro pins s σ H Q I h
 have B:=BB.ok I.ok
 rw [eval_ListComp]
 refine wpAny_comprehension_free (use:=none) rfl hs (Zi B.free) B.kind B.names (thn (hi pins s σ H _ I h) fun xv s1 h1=>thn h1 fun itv s2 h2=>?_)
 obtain⟨it,fp,tn,J,H2,rfl,I2,T,st2,f2,R⟩:=h2
 refine wpAny_newObj_type (wpAny_newFunctionEnv B.nocell (by intro y hy;simp at hy) (fun h₁ hns₁ hsb₁=>?_) B.kind)
 dsimp only at hns₁ hsb₁
 have I3:=I2.lnew (t':=s2.toks) (its:=[]) (ys:=[]) .nil (Nat.zero_le _)
 obtain⟨W,⟨m0,w0⟩,turn⟩:=R _ I2.fresh
 have fF:∀b∈fp,∃o,s2.heap.get? b=some o:=fun b hb=>let ⟨o,e,_⟩:=T.obj _ _ st2 b hb;⟨o,e⟩
 have Wr:∀b∈fp,b≠s2.heap.objs.size:=fun b hb=>let ⟨o,e⟩:=fF b hb;Nat.ne_of_lt (Heap.lt_size e)
 have push:∀b o,s2.heap.get? b=some o→(s2.heap.push { cls:=.type "list",data:=.seq ([]:List Value).toArray }).get? b=some o:=fun b o e=>Heap.get?_push_of_some _ e
 exact Zk hc B hg ht he I3 T (T.keep _ _ _ st2 fun b _ o e=>push b o e) (fun b hb=>⟨by rw [upd_ne (Wr b hb)];exact(f2 b hb).1,(f2 b hb).2⟩) (fun b hb=>let ⟨o,e⟩:=fF b hb;⟨o,push b o e⟩) rfl
  (fun b o e=>hsb₁.extBut b o (Nat.ne_of_lt (Heap.lt_size e)) (Heap.get?_push_of_some _ e)) hns₁ w0 turn fun s6 H5 J6 qn=>by
   obtain⟨m6,hn6,_⟩:=J6.loc
   exact⟨m6,hn6,fun h' hs'=>⟨.ref _,H5,Qh I3 (fun b hb=>⟨by rw [upd_ne (Wr b hb)];exact(f2 b hb).1,(f2 b hb).2⟩) rfl J6 hs',rfl,qn⟩⟩
theorem QF {tg iter elt:Expr}{ifs:List Expr}{scope:Scope}{own fr:List Str}{ix:List Nat}{wi:TI}{g:TG}{tt:TT}{te:TE}{pos spos py:Pos}{k:Nat}{y:Str} (hc:X.calm=true) (hN:X.N.Nodup) (hk:X.N[k]?=some y) (hy:X.env.scope.names.lookup y=some .local) (BB:QD X scope own fr ix) (hi:PI X tg iter wi)
  (hg:∀pins C sF HF fp,PG (zO X pins (own++fr) scope C sF HF fp) tg g) (ht:∀pins C sF HF fp,PTs (zO X pins (own++fr) scope C sF HF fp) ifs tt) (he:∀pins C sF HF fp,PE (zO X pins (own++fr) scope C sF HF fp) elt te)
  (hsw:swapsWith (.ListComp elt [⟨tg,iter,ifs,0⟩] scope pos) (some (.Name y py)) spos.line X.env=pure true:=by rfl)
  (hs:∀x,foldedSetIterable iter X.env x=pure x:=by intro _;rfl):PS X (.Assign [.Name y py] (.ListComp elt [⟨tg,iter,ifs,0⟩] scope pos) spos) (tAsg (Yq wi own.length ix g tt te) (gName k)):=by
 intro pins s σ H D I h
 have B:=BB.ok I.ok
 rw [exec_Assign_Name_used _ _ _ _ hsw]
 refine wpAny_bind (wpAny_standAt (wpAny_bind ?_))
 show wpAny _ X.A (do let _ ← comprehension (.ListComp elt [⟨tg,iter,ifs,0⟩] scope pos) scope X.env _ (newList []) false (eval iter X.env) (some (assign (.Name y py) X.env))) _ _ s
 refine wpAny_bind (wpAny_mono (wpAny_comprehension_free (use:=some (assign (.Name y py) X.env)) (Q:=fun _ s'=>SP X pins D .next s') rfl hs (Zi B.free) B.kind B.names
  (thn (hi pins s σ H _ I h) fun xv s1 h1=>thn h1 fun itv s2 h2=>?_)) (fun _ s' hq=>wpAny_pure (wpAny_pure hq)) fun _ _ e=>e)
 obtain⟨it,fp,tn,J,H2,rfl,I2,T,st2,f2,R⟩:=h2
 refine wpAny_newObj_type (wpAny_newFunctionEnv B.nocell (by intro y hy;simp at hy) (fun h₁ hns₁ hsb₁=>?_) B.kind)
 dsimp only at hns₁ hsb₁
 have I3:=I2.lnew (t':=s2.toks) (its:=[]) (ys:=[]) .nil (Nat.zero_le _)
 obtain⟨W,⟨m0,w0⟩,turn⟩:=R _ I2.fresh
 have fF:∀b∈fp,∃o,s2.heap.get? b=some o:=fun b hb=>let ⟨o,e,_⟩:=T.obj _ _ st2 b hb;⟨o,e⟩
 have Wr:∀b∈fp,b≠s2.heap.objs.size:=fun b hb=>let ⟨o,e⟩:=fF b hb;Nat.ne_of_lt (Heap.lt_size e)
 have push:∀b o,s2.heap.get? b=some o→(s2.heap.push { cls:=.type "list",data:=.seq ([]:List Value).toArray }).get? b=some o:=fun b o e=>Heap.get?_push_of_some _ e
 have f3:∀b∈fp,FpOk X pins (upd H2 s2.heap.objs.size (.lst [])) b:=fun b hb=>⟨by rw [upd_ne (Wr b hb)];exact(f2 b hb).1,(f2 b hb).2⟩
 refine Zk (Q:=fun x H1=>gName k x σ H1 D.nx) hc B hg ht he I3 T (T.keep _ _ _ st2 fun b _ o e=>push b o e) f3 (fun b hb=>let ⟨o,e⟩:=fF b hb;⟨o,push b o e⟩) rfl
  (fun b o e=>hsb₁.extBut b o (Nat.ne_of_lt (Heap.lt_size e)) (Heap.get?_push_of_some _ e)) hns₁ w0 turn fun s6 H5 J6 qn=>?_
 have I6:Inv X pins σ H5 { s6 with heap:=s6.heap }:=Qh I3 f3 rfl J6 (Heap.SameBut.refl ..)
 have I6:Inv X pins σ H5 s6:=I6
 obtain⟨m6,⟨o6,es6,ep6,ho6,rest6⟩,_⟩:=id J6.loc
 have sz:∀b o,(s2.heap.push { cls:=.type "list",data:=.seq ([]:List Value).toArray }).get? b=some o→b≠(s2.heap.push { cls:=.type "list",data:=.seq ([]:List Value).toArray }).objs.size:=fun b o e=>Nat.ne_of_lt (Heap.lt_size e)
 have hge:X.s₀.heap.objs.size≤(s2.heap.push { cls:=.type "list",data:=.seq ([]:List Value).toArray }).objs.size:=I3.sz
 have hloc:(s2.heap.push { cls:=.type "list",data:=.seq ([]:List Value).toArray }).objs.size≠X.env.locals:=fun z=>by
  have:=I3.lt
  rw [← z] at this
  exact Nat.lt_irrefl _ this
 have hfs:(s2.heap.push { cls:=.type "list",data:=.seq ([]:List Value).toArray }).objs.size ∉ X.fs:=I3.nofs (Nat.le_refl _)
 have hcell:∀x c,X.env.cells.lookup x=some c→c≠(s2.heap.push { cls:=.type "list",data:=.seq ([]:List Value).toArray }).objs.size:=fun x c e=>by
  obtain⟨v,ob,hob,_⟩:=I3.cell x c e
  exact sz _ _ hob
 have hpin:∀p∈X.pn++pins,p.1≠(s2.heap.push { cls:=.type "list",data:=.seq ([]:List Value).toArray }).objs.size:=fun p hp=>sz _ _ (I3.pin p hp).1
 have I7:Inv X (pins++[((s2.heap.push { cls:=.type "list",data:=.seq ([]:List Value).toArray }).objs.size,o6)]) σ H5 s6:=I6.pins_of fun p hp=>by
  rcases List.mem_append.mp hp with z | z
  ·exact I6.pin p (List.mem_append_right _ z)
  ·rw [List.mem_singleton.mp z]
   refine⟨ho6,J6.free,hloc,hfs,fun v z=>?_⟩
   rw [rest6.1] at z
   cases z
 refine wpAny_assign_Name (store_ok (v:=.ref s2.heap.objs.size) I7 hN hk (.inl hy) rfl (fun s8 I8=>?_) (.inr hy))
 have h8:=(I8.pin ((s2.heap.push { cls:=.type "list",data:=.seq ([]:List Value).toArray }).objs.size,o6) (List.mem_append_right _ (List.mem_append_right _ (List.mem_singleton.mpr rfl)))).1
 refine⟨m6,⟨o6,es6,ep6,h8,rest6⟩,fun h' hs'=>⟨_,H5,(I8.unpinned).turned (t':=s8.toks) (fun b o hb e=>hs'.extBut b o hb e) J6.free hloc (.inr hge) hcell hpin,qn⟩⟩
end
end L2
namespace L2
open PySem PySem.Spec PyProof.Rows PySem.SeqAt
noncomputable def YM (K:W.Frag) (H:Hp) (a:Addr) (nss:List (List Int)):Prop:=∃as:List Addr,SqL K H a (as.map V.ref)∧Paired (fun b ns=>SqL K H b (ns.map V.int)) as nss
theorem YM.same {K:W.Frag} {H H':Hp}{a:Addr}{nss:List (List Int)} (e:Same H H') (h:YM K H a nss):YM K H' a nss:=by
 obtain⟨as,h1,h2⟩:=h
 exact⟨as,e.seq h1,Paired.imp' (fun b ns z=>e.seq z) h2⟩
abbrev dI (ns:List Int):PyData:=.list (ns.map PyData.int)
theorem V9 (ns ms:List Int):noMix (dI ns) (dI ms)=true:=by
 simp only [noMix];exact W.noMix_ints ns ms
theorem Ws (ns ms:List Int):PySem.Spec.same (dI ns) (dI ms)=decide (ns=ms):=by
 simp only [PySem.Spec.same];exact W.same_ints ns ms
section
variable {X:Cx}{pins:List (Addr×Obj)}{σ:St}{H:Hp}{s:Shared}
theorem Inv.ints (I:Inv X pins σ H s){a:Addr}{ns:List Int} (h:SqL X.K H a (ns.map V.int)):∃vs:List Value,s.heap.IsList a vs.toArray∧IntsAre vs ns∧ns.length≤sizeLine:=by
 obtain⟨its,r,p,z⟩:=I.list h
 exact⟨its,p.isList,intsAre_of r,by rwa [List.length_map] at z⟩
theorem Inv.reads (I:Inv X pins σ H s){a:Addr}{ns:List Int} (h:SqL X.K H a (ns.map V.int)):Reads s.heap (.ref a) (dI ns) [a]:=by
 obtain⟨vs,l,i,_⟩:=I.ints h
 exact W.reads_of_ints l i
end
section
variable {X:Cx}
noncomputable def zcE (K:W.Frag):R2:=fun x y H Q=>∃(a b:Addr) (ns ms:List Int),x=.ref a∧y=.ref b∧SqL K H a (ns.map V.int)∧SqL K H b (ms.map V.int)∧Q (.bl (!decide (ns=ms))) H
theorem YQ (hu:X.A.units+64<cLine):OpR X (compareOp .NotEq) (zcE X.K):=by
 intro pins s σ H x y v u Q I rx ry h
 obtain⟨a,b,ns,ms,rfl,rfl,h1,h2,q⟩:=h
 cases rx;cases ry
 exact ne_dataH_same (I.reads h1) (I.reads h2) (W.shaped_ints ns) (W.shaped_ints ms) hu (V9 ns ms) (by rw [Ws];exact⟨.bl _,H,I,rfl,q⟩)
end
end L2
namespace L2
open PySem PySem.Spec PyProof.Rows
theorem Same.wr {H H':Hp}{p:Addr}{o:HO} (s:Same H H') (h:H p=Option.none):Same H (upd H' p o):=fun b u e=>by
 rw [upd_ne (ne_of_none e h)]
 exact s b u e
theorem zcF {A:Around}{k:Nat} (hr:Room k A):A.units+64<cLine:=hr.units
section
variable {X:Cx}
theorem Jl (K:W.Frag) (hK:X.K=K:=by rfl):IxR X (rIxL K):=by subst hK;exact ix_list
theorem QG (K:W.Frag){es:List Expr}{k:Nat}{t:TGs}{n:Nat}{pos:Pos} (hc:X.calm=true) (h:PGs X es t) (hK:X.K=K:=by rfl)
  (hn:(assignEach es X.env).length=n:=by rfl) (hst:(assignEach es X.env).findIdx? (·.1)=none:=by rfl):PG X (.Tuple es k pos) (gTup K n t):=by subst hK;exact pg_tup hc h hn hst
end
theorem wC {K:W.Frag}{a acc:Addr}{xs:List V}{own:Nat}{ix:List Nat}{g:TG}{te:TE}{σ:St}{H1:Hp}{Q:VK} (f:Nat→V) (hq:SqL K H1 a xs) (hn:H1 acc=none) (hz:xs.length≤sizeLine)
  (step:∀i x H (R:VK),xs[i]?=some x→Same H1 H→R (f i) H→g x (ji own ix σ) H fun σ4 H4=>σ4.drop own=ix.map (fun i=>(σ[i]?).getD none)∧te σ4 H4 R)
  (hd:Q (.ref acc) (upd H1 acc (.lst ((List.range xs.length).map f)))) :
  Zj (Itl K a) own ix g Zb te σ H1 acc Q:=by
 refine⟨fun i m ys H=>m=xs.length-i∧i≤xs.length∧ys=(List.range i).map f∧H=upd H1 acc (.lst ys),⟨xs.length,by simp,Nat.zero_le _,rfl,rfl⟩,?_⟩
 rintro i m ys H ⟨rfl,hi,rfl,rfl⟩
 have q:SqL K (upd H1 acc (.lst ((List.range i).map f))) a xs:=(Same.new hn).seq hq
 refine⟨upd_same,?_⟩
 by_cases hlt:i<xs.length
 ·refine .inr ⟨⟨xs,xs[i],q,by simp [hlt]⟩,by rw [List.length_map,List.length_range];omega,fun x H3 y=>?_⟩
  obtain⟨e,y⟩:=y
  subst e
  exact step i x _ _ (y xs q) (Same.new hn) ⟨upd_same,xs.length-(i+1),by omega,rfl,hlt,by rw [List.range_succ,List.map_append];rfl,by rw [upd_upd]⟩
 ·have e:i=xs.length:=by omega
  subst e
  exact .inl ⟨⟨xs,q,Nat.le_refl _⟩,hd⟩
theorem Inv.turns {X:Cx}{pins:List (Addr×Obj)}{σ:St}{H:Hp}{s:Shared} {h':Heap}{ch:List Addr} {t':Nat} (I:Inv X pins σ H s) (hf:∀b∈ch,FpOk X pins H b) (k:∀b o,b ∉ ch→s.heap.get? b=some o→h'.get? b=some o) :
  Inv X pins σ H { s with heap:=h',toks:=t' }:=by
 have nit:∀b u,H b=some u→b ∉ ch:=fun b u e z=>by rw [(hf b z).1] at e;cases e
 refine I.step (g':=s.gens) (d':=s.drawn) (ch:=ch) (fun b hb=>⟨(hf b hb).2.2.2.1,(hf b hb).2.1,(hf b hb).2.2.2.2.1,(hf b hb).2.2.2.2.2⟩) (fun b o _ _ hc e _=>k b o hc e) (fun b o _ _ hc e _=>⟨o.slots,k b o hc e⟩) (fun _ _ _ _ n=>n)
  (fun b o hc e=>⟨o,k b o hc e⟩) (fun _ _ e=>e) (fun _ _ _ e=>e) (fun b ps e=>⟨#[],by rw [e];simp⟩) (fun m hm=>?_) (fun b u e=>?_) I.bare
 ·obtain⟨o,es,ep,ho,r⟩:=hm
  exact⟨o,es,ep,k _ o (fun z=>(hf _ z).2.1 rfl) ho,r⟩
 ·refine(I.hok b u e).stay (fun c v hc q=>k c v ?_ q) (fun _ q=>q) fun _ _ q=>q
  rcases hc with z | z
  ·rw [z];exact nit b u e
  ·exact nit c _ z
theorem Inv.turnsT {X:Cx}{pins:List (Addr×Obj)}{σ:St}{H:Hp}{s:Shared} {h':Heap}{ch:List Addr} {t':Nat}{T:Addr}{xs:List V}{its:List Value} (I:Inv X pins σ H s) (hf:∀b∈ch,FpOk X pins H b) (k:∀b o,b ∉ ch→s.heap.get? b=some o→h'.get? b=some o)
  (hT:s.heap.objs.size≤T) (r:Vals xs its) (ht:IsTup h' T its.toArray) (hz:xs.length≤sizeLine):Inv X pins σ (upd H T (.tup xs)) { s with heap:=h',toks:=t' }:=by
 have hn:H T=none:=I.hok.fresh hT
 have nit:∀b u,H b=some u→b ∉ ch:=fun b u e z=>by rw [(hf b z).1] at e;cases e
 have lt:∀b o,s.heap.get? b=some o→b≠T:=fun b o e=>Nat.ne_of_lt (Nat.lt_of_lt_of_le (Heap.lt_size e) hT)
 refine I.step (g':=s.gens) (d':=s.drawn) (ch:=ch) (fun b hb=>⟨(hf b hb).2.2.2.1,(hf b hb).2.1,(hf b hb).2.2.2.2.1,(hf b hb).2.2.2.2.2⟩) (fun b o _ _ hc e _=>k b o hc e) (fun b o _ _ hc e _=>⟨o.slots,k b o hc e⟩) (fun b o _ e n=>by rw [upd_ne (lt b o e)];exact n)
  (fun b o hc e=>⟨o,k b o hc e⟩) (fun b ys e=>by rw [upd_ne (ne_of_none e hn)];exact e) (fun b o u e=>by rw [upd_ne (ne_of_none e hn)];exact e) (fun b ps e=>⟨#[],by rw [upd_ne (ne_of_none e hn),e];simp⟩) (fun m hm=>?_) (fun b u e=>?_) I.bare
 ·obtain⟨o,es,ep,ho,r⟩:=hm
  exact⟨o,es,ep,k _ o (fun z=>(hf _ z).2.1 rfl) ho,r⟩
 ·by_cases hb:b=T
  ·subst hb
   rw [upd_same] at e
   cases e
   exact⟨hz,its,r,ht⟩
  ·rw [upd_ne hb] at e
   refine(I.hok b u e).stay (fun c v hc q=>k c v ?_ q) (fun c q=>?_) fun c w q=>?_
   ·rcases hc with z | z
    ·rw [z];exact nit b u e
    ·exact nit c _ z
   ·rw [upd_ne (ne_of_none q hn)];exact q
   ·rw [upd_ne (ne_of_none q hn)];exact q
section
variable {X:Cx}
end
end L2
namespace Bw
noncomputable def C:Nat→Nat→Nat
 | _,0=>1
 | 0,_+1=>0
 | n+1,k+1=>C n k+C n (k+1)
theorem wD (n:Nat):C n 0=1:=by cases n <;> rfl
theorem Jm (k:Nat):C 0 (k+1)=0:=rfl
theorem xR (n k:Nat):C (n+1) (k+1)=C n k+C n (k+1):=rfl
theorem kW:∀(n k:Nat),n<k→C n k=0
 | n,0,h=>absurd h (Nat.not_lt_zero _)
 | 0,_+1,_=>rfl
 | n+1,k+1,h=>by
  rw [xR,kW n k (by omega),kW n (k+1) (by omega)]
theorem Ka:∀n:Nat,C n n=1
 | 0=>rfl
 | n+1=>by rw [xR,Ka n,kW n (n+1) (by omega)]
theorem Kc:∀n:Nat,C n 1=n
 | 0=>rfl
 | n+1=>by rw [xR,wD,Kc n];omega
theorem QH:∀(n k:Nat),(k+1)*C n (k+1)+k*C n k=n*C n k
 | 0,0=>by simp [C]
 | 0,k+1=>by simp [C]
 | n+1,0=>by rw [Kc,wD];omega
 | n+1,k+1=>by
  have h1:=QH n k
  have h2:=QH n (k+1)
  rw [xR n (k+1),xR n k]
  have e1:(k+1+1)*(C n (k+1)+C n (k+1+1))=(k+1+1)*C n (k+1)+(k+1+1)*C n (k+1+1):=Nat.mul_add _ _ _
  have e2:(k+1)*(C n k+C n (k+1))=(k+1)*C n k+(k+1)*C n (k+1):=Nat.mul_add _ _ _
  have e3:(n+1)*(C n k+C n (k+1))=(n*C n k+C n k)+(n*C n (k+1)+C n (k+1)):=by rw [Nat.mul_add,Nat.succ_mul,Nat.succ_mul]
  have e4:(k+1+1)*C n (k+1)=(k+1)*C n (k+1)+C n (k+1):=Nat.succ_mul _ _
  have e5:(k+1)*C n k=k*C n k+C n k:=Nat.succ_mul _ _
  rw [e1,e2,e3,e4,e5]
  omega
theorem XR {n k:Nat} (h:k≤n):(k+1)*C n (k+1)=C n k*(n-k):=by
 have e:=QH n k
 have e2:C n k*(n-k)+k*C n k=n*C n k:=by
  rw [Nat.mul_comm (C n k),← Nat.add_mul,Nat.sub_add_cancel h]
 omega
theorem Yr {n k:Nat} (h:k≤n):C n k*(n-k) / (k+1)=C n (k+1):=by
 rw [← XR h,Nat.mul_div_cancel_left _ (Nat.succ_pos k)]
theorem Jo:∀(n k:Nat),C n k≤n ^ k
 | n,0=>by rw [wD];exact Nat.le_refl _
 | n,k+1=>by
  have ih:=Jo n k
  by_cases h:k≤n
  ·rw [← Yr h,Nat.pow_succ]
   refine Nat.le_trans (Nat.div_le_self _ _) ?_
   exact Nat.mul_le_mul ih (Nat.sub_le _ _)
  ·rw [kW n (k+1) (by omega)];exact Nat.zero_le _
noncomputable def ch (n k:Int):Int:=(C n.toNat k.toNat:Nat)
theorem Qi (n k:Int):0≤ch n k:=Int.natCast_nonneg _
theorem wF (n k:Nat):ch (n:Int) (k:Int)=(C n k:Nat):=by
 unfold ch;rw [Int.toNat_natCast,Int.toNat_natCast]
theorem wY {n k:Int} (h0:0≤n) (h:n<k):ch n k=0:=by
 unfold ch;rw [kW _ _ (by omega)];rfl
theorem kY (n:Int):ch n 0=1:=by
 unfold ch;rw [show (0:Int).toNat=0 from rfl,wD];rfl
theorem QJ {n k:Int} (hn:0≤n) (hk:0≤k):ch (n+1) (k+1)=ch n k+ch n (k+1):=by
 unfold ch
 rw [show (n+1).toNat=n.toNat+1 by omega,show (k+1).toNat=k.toNat+1 by omega,xR]
 omega
theorem XS {n:Int}{i:Nat} (hn:(i:Int)≤n):ch n i*(n-i) / ((i:Int)+1)=ch n ((i:Int)+1):=by
 unfold ch
 have e:n=((n.toNat:Nat):Int):=by omega
 have e1:((i:Int)+1).toNat=i+1:=by omega
 have e2:((i:Nat):Int).toNat=i:=by omega
 have e3:n-(i:Int)=((n.toNat-i:Nat):Int):=by omega
 rw [e1,e2,e3,← Yr (n:=n.toNat) (k:=i) (by omega)]
 have e4:((i:Int)+1)=((i+1:Nat):Int):=by omega
 rw [e4,← Int.natCast_mul,← Int.natCast_ediv]
noncomputable def fac:Nat→Int
 | 0=>1
 | i+1=>fac i*((i:Int)+1)
theorem Zm (i:Nat):fac (i+1)=fac i*((i:Int)+1):=rfl
end Bw
namespace Bw
theorem Wt:∀(n k:Nat),C n k≤C (n+1) k
 | n,0=>by rw [wD,wD];exact Nat.le_refl _
 | n,k+1=>by rw [xR];omega
theorem J4 {m n:Nat} (k:Nat) (h:m≤n):C m k≤C n k:=by
 induction h with
 | refl=>exact Nat.le_refl _
 | step _ ih=>exact Nat.le_trans ih (Wt _ _)
theorem zaJ {n k:Nat} (h:k≤n):0<C n k:=by
 have:=J4 k h
 rw [Ka] at this
 omega
theorem Zn {n k:Nat} (h:0<C n k):k≤n:=by
 rcases Nat.lt_or_ge n k with z | z
 ·rw [kW n k z] at h;omega
 ·exact z
theorem Xa (n k:Nat):∀j:Nat,j≤n→C n (k+1)≤C (n-j) (k+1)+j*C (n-1) k
 | 0,_=>by simp
 | j+1,h=>by
  have ih:=Xa n k j (by omega)
  obtain⟨r,hr⟩:∃r,n-j=r+1:=⟨n-j-1,by omega⟩
  have e:n-(j+1)=r:=by omega
  have m:=J4 (m:=r) (n:=n-1) k (by omega)
  rw [hr,xR] at ih
  rw [e,Nat.succ_mul]
  omega
theorem Vt {t k number:Nat} (h:number<C t (k+1)) (d:Nat) (hd:d=(C t (k+1)-number+C (t-1) k-1) / C (t-1) k) :
  0<C (t-1) k∧1≤d∧d≤t∧number<C (t-d+1) (k+1):=by
 have hk:k+1≤t:=Zn (by omega)
 have ho:0<C (t-1) k:=zaJ (by omega)
 have hdm:d*C (t-1) k≤C t (k+1)-number+C (t-1) k-1:=by
  rw [hd];exact Nat.div_mul_le_self _ _
 have d1:1≤d:=by
  rw [hd];exact(Nat.le_div_iff_mul_le ho).mpr (by omega)
 have s:(d-1)*C (t-1) k+C (t-1) k=d*C (t-1) k:=by
  have e:d=d-1+1:=by omega
  conv=>rhs;rw [e,Nat.succ_mul]
 have lt:(d-1)*C (t-1) k<C t (k+1)-number:=by omega
 have dt:d-1≤t:=by
  rcases Nat.lt_or_ge t (d-1) with z | z
  ·have q:=Xa t k t (Nat.le_refl _)
   rw [Nat.sub_self,Jm] at q
   have w:t*C (t-1) k≤(d-1)*C (t-1) k:=Nat.mul_le_mul_right _ (by omega)
   omega
  ·exact z
 have q:=Xa t k (d-1) dt
 have gt:number<C (t-(d-1)) (k+1):=by omega
 have ge:=Zn (n:=t-(d-1)) (k:=k+1) (by omega)
 have e:t-d+1=t-(d-1):=by omega
 rw [e]
 exact⟨ho,d1,by omega,gt⟩
noncomputable def ZV:Nat→Nat
 | 0=>1
 | i+1=>ZV i*(i+1)
theorem Jp:∀{n k:Nat},k≤n→(n+1-k) ^ k≤C n k*ZV k
 | n,0,_=>by rw [wD];exact Nat.le_refl _
 | n,k+1,h=>by
  have ih:=Jp (n:=n) (k:=k) (by omega)
  have st:=XR (n:=n) (k:=k) (by omega)
  have e:C n (k+1)*ZV (k+1)=C n k*ZV k*(n-k):=by
   show C n (k+1)*(ZV k*(k+1))=_
   rw [Nat.mul_comm (ZV k),← Nat.mul_assoc,Nat.mul_comm (C n (k+1)),st,Nat.mul_assoc,Nat.mul_comm (n-k),← Nat.mul_assoc]
  rw [e]
  have e2:n+1-(k+1)=n-k:=by omega
  rw [e2,Nat.pow_succ]
  refine Nat.mul_le_mul_right _ (Nat.le_trans (Nat.pow_le_pow_left (by omega) k) ih)
theorem Jq {number k f:Nat} (h:number*ZV k<2 ^ (f*k)):number<C (2 ^ f+k) k:=by
 rw [Nat.pow_mul] at h
 generalize 2 ^ f=p at h ⊢
 have q:=Jp (n:=p+k) (k:=k) (by omega)
 have e:p+k+1-k=p+1:=by omega
 rw [e] at q
 have r:p ^ k≤(p+1) ^ k:=Nat.pow_le_pow_left (by omega) k
 rcases Nat.lt_or_ge number (C (p+k) k) with z | z
 ·exact z
 ·have:=Nat.mul_le_mul_right (ZV k) z
  omega
theorem XX:∀i:Nat,fac i=(ZV i:Nat)
 | 0=>rfl
 | i+1=>by
  rw [Zm,XX i]
  show _=((ZV i*(i+1):Nat):Int)
  rw [Int.natCast_mul]
  rfl
structure Ys (k number t:Int):Prop where
 lo:k-1≤t
 le:ch t k≤number
 lt:number<ch (t+1) k
theorem QK {m n k:Int} (h:m≤n):ch m k≤ch n k:=by
 unfold ch
 exact Int.ofNat_le.mpr (J4 _ (by omega))
theorem Vu {n k:Int} (hn:0≤n) (h:0<ch n k):k≤n:=by
 rcases (by omega:k≤n∨n<k) with z | z
 ·exact z
 ·rw [wY hn z] at h;omega
theorem Xb {t k number:Int} (hk:1≤k) (h0:0≤number) (ht:0≤t) (h:number<ch t k) (d:Int) (hd:d=(ch t k-number+ch (t-1) (k-1)-1) / ch (t-1) (k-1)) :
  k≤t∧0<ch (t-1) (k-1)∧1≤d∧k-1≤t-d∧number<ch (t-d+1) k:=by
 have kt:k≤t:=Vu ht (by omega)
 obtain⟨j,hj⟩:∃j:Nat,k=(j:Int)+1:=⟨(k-1).toNat,by omega⟩
 obtain⟨m,hm⟩:∃m:Nat,t=(m:Int):=⟨t.toNat,by omega⟩
 obtain⟨r,hr⟩:∃r:Nat,number=(r:Int):=⟨number.toNat,by omega⟩
 subst hj hm hr
 have e1:ch (m:Int) ((j:Int)+1)=(C m (j+1):Nat):=by
  rw [show ((j:Int)+1)=((j+1:Nat):Int) by omega,wF]
 have e2:ch ((m:Int)-1) ((j:Int)+1-1)=(C (m-1) j:Nat):=by
  rw [show ((m:Int)-1)=((m-1:Nat):Int) by omega,show ((j:Int)+1-1)=((j:Nat):Int) by omega,wF]
 rw [e1] at h
 rw [e1,e2] at hd
 have h':r<C m (j+1):=by omega
 obtain⟨s1,s2,s3,s4⟩:=Vt h' _ rfl
 have ed:d=(((C m (j+1)-r+C (m-1) j-1) / C (m-1) j:Nat):Int):=by
  rw [hd,Int.natCast_ediv]
  congr 1
  omega
 generalize (C m (j+1)-r+C (m-1) j-1) / C (m-1) j=dn at s2 s3 s4 ed
 subst ed
 have e3:ch ((m:Int)-(dn:Int)+1) ((j:Int)+1)=(C (m-dn+1) (j+1):Nat):=by
  rw [show ((m:Int)-(dn:Int)+1)=((m-dn+1:Nat):Int) by omega,show ((j:Int)+1)=((j+1:Nat):Int) by omega,wF]
 have le:=Zn (n:=m-dn+1) (k:=j+1) (by omega)
 rw [e2,e3]
 exact⟨kt,by omega,by omega,by omega,by omega⟩
theorem YS {number k:Int}{F b:Nat} (hk:1≤k) (h0:0≤number) (hb:(number*fac k.toNat).natAbs<2 ^ b) (hF:(b:Int)≤(F:Int)*k):number<ch ((2:Int) ^ F+k-1+1) k:=by
 obtain⟨j,hj⟩:∃j:Nat,k=(j:Int):=⟨k.toNat,by omega⟩
 obtain⟨r,hr⟩:∃r:Nat,number=(r:Int):=⟨number.toNat,by omega⟩
 subst hj hr
 rw [Int.toNat_natCast,XX,← Int.natCast_mul,Int.natAbs_natCast] at hb
 have hF':b≤F*j:=by
  have:((F*j:Nat):Int)=(F:Int)*(j:Int):=Int.natCast_mul _ _
  omega
 have s:=Jq (number:=r) (k:=j) (f:=F) (Nat.lt_of_lt_of_le hb (Nat.pow_le_pow_right (by decide) hF'))
 have e:(2:Int) ^ F+(j:Int)-1+1=((2 ^ F+j:Nat):Int):=by
  rw [Int.natCast_add,Int.natCast_pow]
  show _=(2:Int) ^ F+(j:Int)
  omega
 rw [e,wF]
 exact Int.ofNat_lt.mpr s
end Bw
namespace Bw
open PySem L2
open Builtin.Int (intBits)
variable {P:Program}{w:World}{K:W.Frag}{mg:Str→Option Value}{base:Heap}
noncomputable def xY:Sp:=fun vs H Q _=>∃n k:Int,vs=[.int n,.int k]∧0≤n∧0≤k∧k≤1000∧intBits n≤100000∧Q (.int (ch n k)) H
noncomputable def QL:Sp:=fun vs H Q _=>∃a b:Int,vs=[.int a,.int b]∧0<b∧Q (.int ((a+b-1) / b)) H
noncomputable def X3:Sp:=fun vs H Q _=>∃k number:Int,vs=[.int k,.int number]∧1≤k∧k≤60∧0≤number∧intBits number≤50000∧∀t:Int,k-1≤t→number<ch (t+1) k→intBits t≤60000→Q (.int t) H
theorem zq {x:Int}{m:Nat} (h1:0≤x) (h2:x<(2:Int) ^ m):intBits x≤m:=by
 refine intBits_le_iff.mpr ?_
 have e:((2 ^ m:Nat):Int)=(2:Int) ^ m:=by
  rw [Int.natCast_pow];rfl
 rw [← e] at h2
 omega
theorem zc {x:Int}{m n:Nat} (h:intBits x≤m) (hm:m≤n):intBits x≤n:=Nat.le_trans h hm
theorem Zc {n:Int}{k m:Nat} (h:intBits n≤m) (hn:0≤n):intBits (ch n k)≤m*k+1:=by
 refine intBits_le_of_natAbs (y:=n ^ k) ?_ (intBits_pow_le h k)
 unfold ch
 rw [Int.toNat_natCast]
 have e:n=((n.toNat:Nat):Int):=by omega
 have e2:(n ^ k).natAbs=n.toNat ^ k:=by
  rw [Int.natAbs_pow]
  congr 1
  omega
 rw [e2]
 have:=Jo n.toNat k
 omega
theorem Jr:∀i:Nat,i≤64→intBits (fac i)≤7*i+1
 | 0,_=>by decide
 | i+1,hi=>by
  rw [Zm]
  exact zc (intBits_mul_le (m:=7*i+1) (n:=7) (Jr i (by omega)) (zq (by omega) (by omega))) (by omega)
end Bw
namespace L2
open PySem PySem.Spec PyProof.Rows
noncomputable def LL (H:Hp) (p:Addr) (nss:List (List Int)):Prop:=∃as:List Addr,H p=some (.lst (as.map V.ref))∧Paired (fun b (ns:List Int)=>H b=some (.lst (ns.map V.int))) as nss
noncomputable def LLm (H:Hp) (p:Addr) (nss:List (List Int)):Prop:=∃as:List Addr,H p=some (.lst (as.map V.ref))∧Paired (fun b (ns:List Int)=>b≠p∧H b=some (.lst (ns.map V.int))) as nss
theorem wG {α β:Type}{F G:α→β→Prop} (h:∀a b,F a b→G a b):∀{as:List α}{bs:List β},Paired F as bs→Paired G as bs
 | _,_,.nil=>.nil
 | _,_,.cons x y=>.cons (h _ _ x) (wG h y)
theorem LL.same {H H':Hp}{p:Addr}{nss:List (List Int)} (s:Same H H') (h:LL H p nss):LL H' p nss:=by
 obtain⟨as,e,q⟩:=h
 exact⟨as,s _ _ e,wG (fun _ _ z=>s _ _ z) q⟩
theorem LLm.push {H H':Hp}{pm t:Addr}{bs:List Addr}{nss:List (List Int)}{ns:List Int} (h2:Paired (fun b (ns:List Int)=>b≠pm∧H b=some (.lst (ns.map V.int))) bs nss) (sm:Same H H') (ht:H' t=some (.lst (ns.map V.int))) (hne:t≠pm) :
  LLm (upd H' pm (.lst (bs.map V.ref++[V.ref t]))) pm (nss++[ns]):=by
 refine⟨bs++[t],by rw [upd_same,List.map_append];rfl,Paired.snoc (wG (fun b n z=>⟨z.1,by rw [upd_ne z.1];exact sm _ _ z.2⟩) h2) ⟨hne,?_⟩⟩
 ·rw [upd_ne hne];exact ht
end L2
namespace L2
open PySem PySem.Spec PyProof.Rows
open PySem.W (hideAll of_hideAll hideAll_get)
noncomputable def CXE (P:Program) (w:World):CXT:=fun outer H s E e s'=>∃(x:Addr) (C a0:Value) (H':Hp) (B:Heap),e=.ref x∧s'.os=s.os∧AllBare s'.gens∧Heap.FlyingW B outer x C a0 s'.heap ∧
 (∀h3,B.StaysIn h3→s'.heap.UpToSlots h3→Un (frs outer) [] H H' s.heap h3∧HOk P w H' h3)∧s.heap.get? x=none∧H' x=none∧E C none H'
theorem vz {K:W.Frag}{h:Heap}{C:Addr}{bmB:List Value}{newId:String} (X:K.In h) (q:W.excIn K C bmB newId=true) :
  ∃bm N nm q bs hdct sn sub ab col dd k0 k1 k2 k3 k5 mN,h.get? C=some (excClassObj nm q C N bs bm hdct sn sub ab col dd k0 k1 k2 k3 k5 newId)∧h.Ns N mN∧mN "__init__"=none∧OwnTail h bmB bm∧∀v b,W.mroIn K C v=some b→(Value.ref C::bm).contains v=b:=by
 unfold W.excIn at q
 split at q
 ·rename_i dd cd sl ho
  split at q
  ·rename_i C' bm k0 k1 k2 k3 n k5 hm hs
   simp only [Bool.and_eq_true,beq_iff_eq,Bool.not_eq_true'] at q
   obtain⟨⟨⟨⟨⟨rfl,rfl⟩,hdel⟩,ht⟩,hok⟩,hni⟩:=q
   obtain⟨nm,bs,mro,ns,qn,hd,sn,sub,ab,col,del⟩:=cd
   dsimp only at hm hdel hok hni
   subst hm hdel
   have hsl:sl=#[k0,k1,k2,k3,some (.builtin n),k5]:=by
    obtain⟨l⟩:=sl
    simp only at hs
    rw [hs]
   subst hsl
   exact⟨bm,ns,nm,qn,bs,hd,sn,sub,ab,col,dd,k0,k1,k2,k3,k5,_,X _ _ ho,.of_isNs (W.isNs_of_in X hok),W.nsMap_none_of_in X hok hni,W.tail_of_in X ht,fun v b e=>by
    unfold W.mroIn W.clsIn at e
    rw [ho] at e
    simpa using e⟩
  ·cases q
 ·cases q
theorem ObjOk.there {P:Program}{w:World}{H:Hp}{h:Heap}{a:Addr}{o:HO} (x:ObjOk P w H h a o):∃ob,h.get? a=some ob:=by
 cases o with
 | lst xs=>obtain⟨_,_,_,_,e⟩:=x;exact⟨_,e⟩
 | tup xs=>obtain⟨_,_,_,ob,e,_⟩:=x;exact⟨_,e⟩
 | dK kvs=>obtain⟨_,_,_,_,o,_,_,e,_⟩:=x;exact⟨_,e⟩
 | dT kvs=>obtain⟨_,_,_,_,o,_,_,e,_⟩:=x;exact⟨_,e⟩
 | set S n=>obtain⟨o,_,_,_,e,_⟩:=x;exact⟨_,e⟩
 | ins C dx fs=>obtain⟨_,_,_,e,_⟩:=x;exact⟨_,e⟩
 | own y=>obtain⟨_,e⟩:=x;exact⟨_,e⟩
 | xd fs=>obtain⟨_,⟨_,_,_,e,_⟩,_⟩:=x;exact⟨_,e⟩
 | rng lo hi=>obtain⟨_,_,_,e⟩:=x;exact⟨_,e⟩
 | frz ob u=>obtain⟨e,_⟩:=x;exact⟨_,e⟩
 | tbl ps=>exact⟨_,(show h.get? a=some _ from x)⟩
 | met f y=>exact⟨_,(show h.get? a=some _ from x)⟩
 | ext φ=>obtain⟨_,⟨_,e⟩,_⟩:=x;exact⟨_,e⟩
section
variable {P:Program}{w:World}{K:W.Frag}{mg:Str→Option Value}{base:Heap}{N:List Str}{qual:Str}{scope:Scope}{f:Addr}{cdv:Value}{A:Around}{outer:List Env}{s s2:Shared}{H H1:Hp}{E:XK}{pins:List (Addr×Obj)}{σ:St}
theorem stands (I:Inv (cxOf (CXE P w) P w K mg base N qual scope f cdv A outer s H E) pins σ H1 s2){h3:Heap} (hst:(hideAll s2.heap (frs (envOfC qual scope s.heap.objs.size f cdv::outer))).StaysIn h3) (up:s2.heap.UpToSlots h3) :
  Un (frs outer) [] H H1 s.heap h3∧HOk P w H1 h3:=by
 have kk:∀b o,s2.heap.get? b=some o→b ∉ frs (envOfC qual scope s.heap.objs.size f cdv::outer)→h3.get? b=some o:=fun b o e hb=>hst b o (hideAll_get _ e hb)
 have frz:∀b,b∈frs (envOfC qual scope s.heap.objs.size f cdv::outer)→b=s.heap.objs.size∨b∈frs outer:=fun b hb=>by
  unfold frs at hb
  rw [List.filterMap_cons] at hb
  exact List.mem_cons.mp hb
 have YT:∀b o,s.heap.get? b=some o→b ∉ frs outer→b ∉ frs (envOfC qual scope s.heap.objs.size f cdv::outer):=fun b o e hb z=>by
  rcases frz b z with q | q
  ·exact absurd (Heap.lt_size e) (by rw [q];exact Nat.lt_irrefl _)
  ·exact hb q
 have U:=I.base
 have stk:=I.stack
 refine⟨⟨fun b o e n hb hx=>kk b o (U.keep b o e n hb hx) (YT b o e hb),fun b o e n hb hx=>?_,fun b o e n hx=>U.free b o e n hx,fun b o e hx=>?_,U.tups,U.frzs,U.tbls⟩,fun a u e=>?_⟩
 ·obtain⟨sl,q⟩:=U.slot b o e n hb hx
  obtain⟨_,o2,ho2,hd2⟩:=I.ok.funs.mem hb
  have ho2':s.heap.get? b=some o2:=ho2
  rw [e] at ho2'
  cases ho2'
  obtain⟨sl2,q2⟩:=up b _ q hd2
  exact⟨sl2,q2⟩
 ·obtain⟨o2,q⟩:=U.there b o e hx
  by_cases hb:b∈frs (envOfC qual scope s.heap.objs.size f cdv::outer)
  ·obtain⟨_,o3,ho3,hd3⟩:=stk.mem hb
   obtain⟨sl,q3⟩:=up b _ ho3 hd3
   exact⟨_,q3⟩
  ·exact⟨_,kk b o2 q hb⟩
 ·refine(I.hok a u e).stay (fun b v hb q=>kk b v q fun z=>?_) (fun _ q=>q) fun _ _ q=>q
  have hn:=I.stkFree b z
  rcases hb with r | r
  ·rw [r] at hn;rw [hn] at e;cases e
  ·rw [hn] at r;cases r
theorem Wu {h':Heap}{e:Addr}{C:Value}{vs:List Value} (I:Inv (cxOf (CXE P w) P w K mg base N qual scope f cdv A outer s H E) pins σ H1 s2) (m:Heap.MadeExcOf s2.heap h' e C vs) (h:E C none H1) :
  (cxOf (CXE P w) P w K mg base N qual scope f cdv A outer s H E).xe (.ref e) { s2 with heap:=h' }:=by
 show wpAny (model P w) (A.deeper (envOfC qual scope s.heap.objs.size f cdv)) (leaving (envOfC qual scope s.heap.objs.size f cdv) (.ref e)) (fun _ s''=>CXE P w outer H s E (.ref e) s'') (fun e' s''=>CXE P w outer H s E e' s'') { s2 with heap:=h' }
 have stk:=I.stack
 refine wpAny_leaves_madeW (s:={ s2 with heap:=h' }) (base:=hideAll s2.heap (frs (envOfC qual scope s.heap.objs.size f cdv::outer))) (h:=s2.heap) I.ok.frames rfl (fun b o q=>of_hideAll _ q) (W.funFrames_hide stk fun env he b hb=>List.mem_filterMap.mpr ⟨env,he,hb⟩) m fun h'' t fl tup bt ups=>?_
 have up1:s2.heap.UpToSlots h'':=(Heap.UpToSlots.of_keeps m.keeps).trans ups
 refine⟨e,C,.ref t,H1,_,rfl,I.os,I.bare,fl,fun h3 st3 up3=>stands I st3 (up1.trans up3),?_,?_,h⟩
 ·have en:=m.new
  cases q:s.heap.get? e with
  | none=>rfl
  | some o=>
   obtain⟨o2,q2⟩:=I.base.there e o q (by show e ∉ ([]:List Addr);simp)
   rw [en] at q2;cases q2
 ·cases q:H1 e with
  | none=>rfl
  | some u=>
   obtain⟨ob,q2⟩:=ObjOk.there (I.hok e u q)
   rw [m.new] at q2;cases q2
theorem Yt {b:Addr}{o:Obj} (e:s.heap.get? b=some o) (hb:b ∉ frs outer):b ∉ frs (envOfC qual scope s.heap.objs.size f cdv::outer):=fun z=>by
 have z':b∈s.heap.objs.size::frs outer:=by
  unfold frs at z ⊢
  rw [List.filterMap_cons] at z
  exact z
 rcases List.mem_cons.mp z' with q | q
 ·exact absurd (Heap.lt_size e) (by rw [q];exact Nat.lt_irrefl _)
 ·exact hb q
theorem Wv {x:Addr} {s':Shared}{e:Value} {E':XK} (I:Inv (cxOf (CXE P w) P w K mg base N qual scope f cdv A outer s H E) pins σ H1 s2) (hx:CXE P w (envOfC qual scope s.heap.objs.size f cdv::outer) H1 s2 E' e s') (h:∀C H',E' C none H'→E C none H') :
  (cxOf (CXE P w) P w K mg base N qual scope f cdv A outer s H E).xe e s':=by
 obtain⟨x,C,a0,H',B,rfl,os,bare,fl,st,xn,xh,q⟩:=hx
 show wpAny (model P w) (A.deeper (envOfC qual scope s.heap.objs.size f cdv)) (leaving (envOfC qual scope s.heap.objs.size f cdv) (.ref x)) (fun _ s''=>CXE P w outer H s E (.ref x) s'') (fun e' s''=>CXE P w outer H s E e' s'') s'
 refine wpAny_leaves_onW I.ok.frames rfl fl fun h'' fl2 up=>?_
 have U:=I.base
 refine⟨x,C,a0,H',B,rfl,os.trans I.os,bare,fl2,fun h3 st3 up3=>?_,?_,xh,h C H' q⟩
 ·obtain⟨u,ok⟩:=st h3 st3 (up.trans up3)
  refine⟨⟨fun b o e n hb hx=>u.keep b o (U.keep b o e n hb hx) (U.free b o e n hx) (Yt e hb) hx,fun b o e n hb hx=>?_,fun b o e n hx=>?_,fun b o e hx=>?_,fun b xs e=>u.tups b xs (U.tups b xs e),fun b o v e=>u.frzs b o v (U.frzs b o v e),fun b ps e=>?_⟩,ok⟩
  ·obtain⟨sl,q1⟩:=U.slot b o e n hb hx
   have hb':b∈frs (envOfC qual scope s.heap.objs.size f cdv::outer):=by
    unfold frs;rw [List.filterMap_cons];exact List.mem_cons_of_mem _ hb
   obtain⟨sl2,q2⟩:=u.slot b _ q1 (U.free b o e n hx) hb' hx
   exact⟨sl2,q2⟩
  ·obtain⟨o2,q2⟩:=U.there b o e hx
   exact u.free b o2 q2 (U.free b o e n hx) hx
  ·obtain⟨o2,q2⟩:=U.there b o e hx
   exact u.there b o2 q2 hx
  ·obtain⟨m1,q1⟩:=U.tbls b ps e
   obtain⟨m2,q2⟩:=u.tbls b _ q1
   exact⟨m1++m2,by rw [q2,Array.append_assoc]⟩
 ·cases q1:s.heap.get? x with
  | none=>rfl
  | some o=>
   obtain⟨o2,q2⟩:=U.there x o q1 (by show x ∉ ([]:List Addr);simp)
   rw [xn] at q2;cases q2
end
section
variable {P:Program}{w:World}{K:W.Frag}{mg:Str→Option Value}{base:Heap}
noncomputable def FnE (P:Program) (w:World) (K:W.Frag) (mg:Str→Option Value) (base:Heap) (k:Nat) (x:Str) (ps:List Str) (sp:Sp):Prop:=
 ∃f fd,FnOk P w K mg base (CXE P w) k f fd ps sp∧W.keepIn K (.ref f)=true∧Binds K fd ps []∧mg x=some (.ref f)
noncomputable def Kd (C:Addr) (E:XK) (t:TA):TS:=fun _ σ H=>t σ H fun vs H1=>vs.length≤sizeLine∧E (.ref C) none H1
theorem vP {N:List Str}{qual:Str}{scope:Scope}{f:Addr}{cdv:Value}{A:Around}{outer:List Env}{s:Shared}{H:Hp}{E:XK}{xn:Str}{C:Addr}{bmB:List Value}{B newId initId:String}{e:Expr}{es:List Expr}{t:TA}{np cpos pos:Pos}
  (FB:ExcBaseFacts B newId initId bmB) (hq:W.excIn K C bmB newId=true) (hg:Gl (cxOf (CXE P w) P w K mg base N qual scope f cdv A outer s H E) xn) (hm:mg xn=some (.ref C)) (ha:PA (cxOf (CXE P w) P w K mg base N qual scope f cdv A outer s H E) (e::es) t)
  (hd:(xn == ("__debug__":Str))=false:=by decide)
  (he:starEach (e::es) (cxOf (CXE P w) P w K mg base N qual scope f cdv A outer s H E).env=(false,eval e (cxOf (CXE P w) P w K mg base N qual scope f cdv A outer s H E).env)::starEach es (cxOf (CXE P w) P w K mg base N qual scope f cdv A outer s H E).env:=by rfl)
  (hpl:(backTo cpos (starEach es (cxOf (CXE P w) P w K mg base N qual scope f cdv A outer s H E).env)).any (·.1)=false:=by rfl) :
  PS (cxOf (CXE P w) P w K mg base N qual scope f cdv A outer s H E) (.Raise (some (.Call (.Name xn np) (e::es) [] cpos)) none pos) (Kd C E t):=by
 intro pins s1 σ H0 D I h
 obtain⟨bm,N',nm,q,bs,hdct,sn,sub,ab,col,dd,k0,k1,k2,k3,k5,mN,hC,hN,hni,TL,_⟩:=vz I.mod.kin hq
 refine wpAny_Raise_call_subT (C:=C) (nm:=nm) (q:=q) (N:=N') (bs:=bs) (bm:=bm) (hdct:=hdct) (sn:=sn) (sub:=sub) (ab:=ab) (col:=col) (dd:=dd) (k0:=k0) (k1:=k1) (k2:=k2) (k3:=k3) (k5:=k5)
  FB (mN:=mN) (TL.hasType FB.hasBase) (I.ok.hd rfl) (by rw [he];show (false || (backTo cpos (starEach es _)).any (·.1))=false;rw [hpl];rfl) hni (ld_glob I hg hm ⟨rfl,?_⟩ hd)
 have hs:=ha cpos pins s1 σ H0 _ I h
 rw [he] at hs ⊢
 exact Calls.evalArgs_plain (thn hs fun us s2 x=>by
  obtain⟨vs,H1,I1,r1,z,q1⟩:=x
  exact⟨rfl,by rw [← r1.length];exact z,I1.bk _ _ hC,hN.keeps I1.bk,TL.keeps I1.bk,fun h' x m=>Wu I1 m q1⟩)
theorem Fun.okE {x qual:Str}{st:Stmt}{f:Addr}{fd:FuncData}{N ps:List Str}{k:Nat}{sp:Sp} (F:Fun K x qual st f fd) (S:FnScope N ps (defScope st)) (len:∀vs H Q E,sp vs H Q E→vs.length=ps.length)
  (hbody:∀(cdv:Value) (A:Around) (outer:List Env) (s:Shared) (H:Hp) (vs:List V) (Q:VK) (E:XK),Room k (A.deeper (envOfC qual (defScope st) s.heap.objs.size f cdv))→sp vs H Q E →
   ∃t,PSs (cxOf (CXE P w) P w K mg base N qual (defScope st) f cdv A outer s H E) (defBody st) t∧t { nx:=fun _ H'=>Q .non H',rt:=Q } (start N vs) H):FnOk P w K mg base (CXE P w) (k+1) f fd ps sp:=by
 obtain⟨oc,od,kV,doc,pm,an,cdv,ct,osl,rfl,lk,hcd⟩:=F.ex
 exact fn_of lk hcd S len fun A outer s H vs Q E hr hsp=>hbody cdv A outer s H vs Q E hr hsp
theorem Def.fnE {x:Str}{st:Stmt}{N ps:List Str}{k:Nat}{sp:Sp} (D:Def K mg x st ps) (S:FnScope N ps (defScope st)) (len:∀vs H Q E,sp vs H Q E→vs.length=ps.length)
  (hbody:∀(f:Addr) (cdv:Value) (A:Around) (outer:List Env) (s:Shared) (H:Hp) (vs:List V) (Q:VK) (E:XK),Room k (A.deeper (envOfC x (defScope st) s.heap.objs.size f cdv))→sp vs H Q E →
   ∃t,PSs (cxOf (CXE P w) P w K mg base N x (defScope st) f cdv A outer s H E) (defBody st) t∧t { nx:=fun _ H'=>Q .non H',rt:=Q } (start N vs) H):FnE P w K mg base (k+1) x ps sp:=by
 obtain⟨f,fd,F,b,m⟩:=D
 exact⟨f,fd,F.okE S len (hbody f),F.kp,b,m⟩
end
section
variable {M:Model}{A:Around}{E:Value→Shared→Prop}{h:Heap}{g:Array GenState}{d:Drawn}{t:Nat}{os:OsState}
noncomputable def jm (h:Heap) (C:Addr) (bm:List Value):Prop:=∃N nm q bs hdct sn sub ab col dd k0 k1 k2 k3 k5 newId,h.get? C=some (excClassObj nm q C N bs bm hdct sn sub ab col dd k0 k1 k2 k3 k5 newId)∧bm.contains (.type "BaseException")=true
end
section
variable {X:Cx}{pins:List (Addr×Obj)}{σ:St}{H:Hp}{s:Shared}
theorem Vv {M:Model}{A:Around}{E:Value→Shared→Prop}{i:Nat}{x:Str}{v:V}{Q:Unit→Shared→Prop} (I:Inv X pins σ H s) (hN:X.N.Nodup) (hi:X.N[i]?=some x) (hk:X.env.kindOf x=some .local) (hs':X.env.scope.names.lookup x=some .local) (hv:σ[i]?=some (some v))
  (h:∀s',Inv X pins (σ.set i none) H s'→Q () s'):wpAny M A (unbindName X.env x) Q E s:=by
 obtain⟨m,hn,hl⟩:=id I.loc
 have hcls:(X.env.scope.kind == .class || (X.env.scope.kind == .module && X.env.locals != X.env.globals))=false:=by rw [I.ok.kind];rfl
 have hiσ:i < σ.length:=by rw [I.len];exact(List.getElem?_eq_some_iff.mp hi).1
 have cne:=I.cne
 obtain⟨u,_,lk⟩:=hl i x v hi hv (.inl hs')
 have mx:m x=some u:=by
  rcases lk with ⟨_,e⟩ | ⟨k,_⟩
  ·exact e
  ·rw [hk] at k;rcases k with k | k <;> cases k
 refine wpAny_unbindName_local hk hn mx hcls fun h' u' hn' hs=>?_
 obtain⟨oL,_,_,hoL,_⟩:=id hn
 refine h _ ⟨I.ok,I.os,I.bare,⟨fun b o e n hb hx=>?_,fun b o e n hb hx=>?_,I.base.free,fun b o e hx=>?_,I.base.tups,I.base.frzs,I.base.tbls⟩,⟨_,hn',fun j y v' e1 e2 e3=>?_⟩,fun y c e=>?_,I.free,I.freeC,fun p hp=>?_,fun b ob e=>?_,by simpa using I.len⟩
 ·exact(hs.2 b (Nat.ne_of_lt (Nat.lt_of_lt_of_le (Heap.lt_size e) I.ok.above))).trans (I.base.keep b o e n hb hx)
 ·obtain⟨sl,e1⟩:=I.base.slot b o e n hb hx
  exact⟨sl,(hs.2 b (Nat.ne_of_lt (Nat.lt_of_lt_of_le (Heap.lt_size e) I.ok.above))).trans e1⟩
 ·obtain⟨o',e1⟩:=I.base.there b o e hx
  exact⟨o',(hs.2 b (Nat.ne_of_lt (Nat.lt_of_lt_of_le (Heap.lt_size e) I.ok.above))).trans e1⟩
 ·by_cases hj:j=i
  ·subst hj
   rw [List.getElem?_set_self hiσ] at e2
   cases e2
  ·rw [List.getElem?_set_ne (Ne.symm hj)] at e2
   obtain⟨u2,r',q⟩:=hl j y v' e1 e2 e3
   refine⟨u2,r',?_⟩
   rcases q with ⟨k,e⟩ | ⟨k,c,e,z⟩
   ·refine .inl ⟨k,?_⟩
    have:y≠x:=fun e=>hj (nodup_ix hN e1 (e ▸ hi))
    simp [this,e]
   ·exact .inr ⟨k,c,e,z.sameBut hs (cne y c e)⟩
 ·obtain⟨w',z⟩:=I.cell y c e
  exact⟨w',z.sameBut hs (cne y c e)⟩
 ·obtain⟨a,b,c,d,e⟩:=I.pin p hp
  exact⟨(hs.2 p.1 c).trans a,b,c,d,e⟩
 ·refine(I.hok b ob e).stay (fun c w' hc q=>(hs.2 c ?_).trans q) (fun _ q=>q) fun _ _ q=>q
  rintro rfl
  rcases hc with rfl | hc
  ·rw [I.free] at e;cases e
  ·rw [I.free] at hc;cases hc
abbrev Cx.inX (X:Cx) (x:Addr):Cx:={ X with A:=X.A.mark (some (.ref x)),calm:=false,xe:=fun _ _=>False }
theorem Inv.inX (I:Inv X pins σ H s) (x:Addr):Inv (X.inX x) pins σ H s:=
 ⟨⟨I.ok.mod,I.ok.kind,I.ok.glob,I.ok.blt,I.ok.above,I.ok.inj,I.ok.has,I.ok.cab,fun z=>Bool.noConfusion z,I.ok.frames,I.ok.stk,I.ok.exf,I.ok.bs,I.ok.bsz,I.ok.noex,I.ok.exfs,I.ok.funs,I.ok.frf⟩,I.os,I.bare,I.base,I.loc,I.cell,I.free,I.freeC,I.pin,I.hok,I.len⟩
theorem Inv.outX {x:Addr} (hh:X.calm=true→X.A.handled=none) (I:Inv (X.inX x) pins σ H s):Inv X pins σ H s:=
 ⟨⟨I.ok.mod,I.ok.kind,I.ok.glob,I.ok.blt,I.ok.above,I.ok.inj,I.ok.has,I.ok.cab,hh,I.ok.frames,I.ok.stk,I.ok.exf,I.ok.bs,I.ok.bsz,I.ok.noex,I.ok.exfs,I.ok.funs,I.ok.frf⟩,I.os,I.bare,I.base,I.loc,I.cell,I.free,I.freeC,I.pin,I.hok,I.len⟩
noncomputable def vQ (x:Addr) (C:Value):HO:=.ext fun h=>∃o,h.get? x=some o∧o.cls=C
theorem Xc {x:Addr}{C:Value} {H':Hp}{s6:Shared}{o:Obj} (I:Inv X pins σ H s) (ho:s6.os=s.os) (hg:AllBare s6.gens) (u:Un (frs X.stack) [] H H' s.heap s6.heap) (ok:HOk X.prog X.w H' s6.heap) (xn:s.heap.get? x=none) (xh:H' x=none) (he:s6.heap.get? x=some o) (hc:o.cls=C) :
  Inv X pins σ (upd H' x (vQ x C)) s6:=by
 have ne:∀b q,s.heap.get? b=some q→b≠x:=fun b q e z=>by rw [z,xn] at e;cases e
 refine I.call' (ch:=[]) ho ⟨u.keep,u.slot,fun b q e n hx=>by rw [upd_ne (ne b q e)];exact u.free b q e n hx,u.there,fun b xs e=>by rw [upd_ne (ne_of_none (u.tups b xs e) xh)];exact u.tups b xs e,fun b q v e=>by rw [upd_ne (ne_of_none (u.frzs b q v e) xh)];exact u.frzs b q v e,fun b ps e=>?_⟩ ?_ hg (fun b z=>absurd z (by simp))
 ·obtain⟨more,q⟩:=u.tbls b ps e
  exact⟨more,by rw [upd_ne (ne_of_none q xh)];exact q⟩
 ·intro b v e
  by_cases hb:b=x
  ·subst hb
   rw [upd_same] at e
   cases e
   exact⟨⟨o,he,hc⟩,⟨o,he⟩,fun h1 h2 ⟨o1,e1,c1⟩ k=>⟨o1,k o1 e1,c1⟩⟩
  ·rw [upd_ne hb] at e
   exact(ok b v e).stay (fun _ _ _ q=>q) (fun c q=>by rw [upd_ne (ne_of_none q xh)];exact q) fun c xs q=>by rw [upd_ne (ne_of_none q xh)];exact q
end
end L2
namespace L2
open PySem PySem.Spec PyProof.Rows
noncomputable def Ite (K:W.Frag) (l:Addr) (N:Nat):It:=
  ⟨fun i H=>∃xs x,SqL K H l xs∧xs.length=N∧xs[i]?=some x,
   fun i H v H'=>∃t,H t=none∧v=.ref t∧∀xs x,SqL K H l xs→xs[i]?=some x→H'=upd H t (.tup [.int i,x]),
   fun i H=>i=N∧∃xs,SqL K H l xs∧xs.length=N⟩
theorem Xd {P:Program}{w:World}{K:W.Frag}{elts:List Expr}{x1:Nat}{tp:Pos} (l e it:Addr) (N:Nat) (hei:e≠it) (hle:l≠e) (hli:l≠it) :
  Turn P w K (.Tuple elts x1 tp) (Ite K l N) [e,it] e (fun i h=>(∃old,IsEnum h e it i old)∧h.IsListIter it l i) where
 mem:=by simp
 obj:=fun i h ⟨⟨old,h1⟩,h2⟩ c hc=>by
  simp only [List.mem_cons,List.not_mem_nil,or_false] at hc
  rcases hc with z | z
  ·subst z;exact⟨_,h1,fun v q=>by have q':Data.fields _=Data.cell v:=q;cases q'⟩
  ·subst z
   obtain⟨o,ho,_,hd⟩:=h2
   exact⟨o,ho,fun v q=>by rw [hd] at q;cases q⟩
 keep:=fun i h h' ⟨⟨old,h1⟩,h2⟩ k=>⟨⟨old,k e (by simp) _ h1⟩,h2.at fun o z=>k it (by simp) o z⟩
 item:=by
  intro X hP hw hK hc i pins s σ H E I hf ⟨⟨old,h1⟩,h2⟩ ⟨xs,x,q1,hN,hx⟩
  subst hP hw hK
  obtain⟨it1,v1,p1,z1⟩:=I.list q1
  have hl1:=v1.length
  have hsz:it1.toArray.size=N:=by rw [List.size_toArray];omega
  have hi:i<N:=by have:=(List.getElem?_eq_some_iff.mp hx).1;omega
  obtain⟨u1,e1,r1⟩:=v1.get hx
  have D:=Draws.list (prog:=X.prog) (w:=X.w) (A:=X.A.in1) (I.ok.hd hc) it l hli it1.toArray
  rw [hsz] at D
  refine wpAny_pyNext_enum_itemD D h1 ⟨h2,p1.isList⟩ hi hei (by simp only [List.mem_cons,List.not_mem_nil,or_false,not_or];exact⟨hei,Ne.symm hle⟩) fun u h' tk hu g1 gst gT gs k=>?_
  refine⟨_,rfl,wpAny_letOwnedTupleGo_enum g1 fun h'' g1' sb=>?_⟩
  have hzT:s.heap.objs.size≠e:=Nat.ne_of_gt (Heap.lt_size h1)
  have eu:u=u1:=by
   have hu':it1[i]?=some u:=by simpa using hu
   rw [e1] at hu'
   exact(Option.some.inj hu').symm
  subst eu
  have gT':IsTup h'' s.heap.objs.size [Value.int i tk,u].toArray:=⟨_,sb.extBut _ _ hzT gT,rfl,_,rfl⟩
  have hlz:∀{c:Addr}{o:Obj},c≠e→h'.get? c=some o→h''.get? c=some o:=fun hcz z=>sb.extBut _ _ hcz z
  refine⟨.ref s.heap.objs.size,upd H s.heap.objs.size (.tup [.int i,x]),I.turnsT (ch:=[e,it]) (t':=tk+1) (fun c hcm=>hf c hcm) (fun c o hcn z=>?_) (Nat.le_refl _) (.cons ⟨tk,rfl⟩ (.cons r1 .nil)) gT' (by show 2≤sizeLine;decide),rfl,
   ⟨_,I.hok.fresh (Nat.le_refl _),rfl,fun xs' x' w1 w2=>?_⟩,⟨⟨_,g1'⟩,gst.1.at fun o z=>hlz (Ne.symm hei) z⟩,fun c hcm=>?_⟩
  ·simp only [List.mem_cons,List.not_mem_nil,or_false,not_or] at hcn
   exact hlz hcn.1 (k c o hcn.1 hcn.2 z)
  ·have a1:=I.list_inj w1 q1
   subst a1
   rw [hx] at w2
   cases w2
   rfl
  ·obtain⟨o,z,_⟩:∃o,s.heap.get? c=some o∧True:=by
    simp only [List.mem_cons,List.not_mem_nil,or_false] at hcm
    rcases hcm with z | z
    ·subst z;exact⟨_,h1,trivial⟩
    ·subst z;obtain⟨o,ho,_⟩:=h2;exact⟨o,ho,trivial⟩
   rw [upd_ne (Nat.ne_of_lt (Heap.lt_size z))]
   exact(hf c hcm).1
 done:=by
  intro X hP hw hK hc i pins s σ H E I hf ⟨⟨old,h1⟩,h2⟩ ⟨hi,xs,q1,hN⟩
  subst hP hw hK hi
  obtain⟨it1,v1,p1,z1⟩:=I.list q1
  have hl1:=v1.length
  have hsz:it1.toArray.size=i:=by rw [List.size_toArray];omega
  have D:=Draws.list (prog:=X.prog) (w:=X.w) (A:=X.A.in1) (I.ok.hd hc) it l hli it1.toArray
  rw [hsz] at D
  refine wpAny_pyNext_enum_endD D h1 ⟨h2,p1.isList⟩ fun h' k=>⟨rfl,I.turns (ch:=[e,it]) (t':=s.toks) hf fun c o hcn z=>?_⟩
  simp only [List.mem_cons,List.not_mem_nil,or_false,not_or] at hcn
  exact k c o hcn.2 z
 self:=fun _ _ _ _ _ st h=>let ⟨⟨_,z⟩,_⟩:=st;wpAny_pyIter_enum z h
section
variable {X:Cx}
noncomputable def YW (K:W.Frag) (ta:TA):TI:=fun σ H R=>ta σ H fun vs H1=>∃a xs,vs=[.ref a]∧SqL K H1 a xs∧R (Ite K a xs.length) H1
theorem wZ {a:Expr}{ta:TA}{p pos:Pos}{elts:List Expr}{x1:Nat}{tp:Pos} (hg:Gl X "enumerate") (hm:X.mg "enumerate"=none) (ha:PA X [a] ta)
  (hs:starEach [a] X.env=(false,eval a X.env)::starEach [] X.env:=by rfl) (hs2:(backTo pos (starEach [] X.env)).any (·.1)=false:=by rfl) :
  PI X (.Tuple elts x1 tp) (.Call (.Name "enumerate" p) [a] [] pos) (YW X.K ta):=by
 intro pins s σ H R I h
 refine Call_ (ld_blt I hg hm Ji (PyProof.Rows.callWith_type1 (thn (ha pos pins s σ H _ I h) fun us s1 ⟨vs,H1,I1,r1,q1⟩=>?_) hs hs2))
 obtain⟨l,xs,e,q1,q⟩:=q1
 subst e
 obtain⟨u,rfl,w1⟩:=vals1 r1
 cases w1
 obtain⟨its,v1,p1,z1⟩:=I1.list q1
 have hl:l<s1.heap.objs.size:=by obtain⟨_,_,e,_⟩:=p1;exact Heap.lt_size e
 refine call_enumerate_list p1.isList fun h' g1 g2 gs k=>?_
 refine wpAny_pyIter_enum g1 ?_
 refine⟨s1.heap.objs.size+1,[s1.heap.objs.size+1,s1.heap.objs.size],_,_,H1,rfl,I1.kept (t':=s1.toks) k,Xd l _ s1.heap.objs.size xs.length ?_ ?_ ?_,⟨⟨_,g1⟩,g2⟩,fun c hcm=>?_,q⟩
 ·exact Nat.succ_ne_self _
 ·exact Nat.ne_of_lt (Nat.lt_succ_of_lt hl)
 ·exact Nat.ne_of_lt hl
 ·have hc:s1.heap.objs.size≤c:=by
   simp only [List.mem_cons,List.not_mem_nil,or_false] at hcm
   rcases hcm with e | e
   ·rw [e];exact Nat.le_succ _
   ·rw [e];exact Nat.le_refl _
  exact I1.fpOk hc (I1.hok.fresh hc)
theorem Js (hc:X.calm=true):CallR X (.builtin "sum") (fun xs H Q=>∃(p:Addr) (ns:List Int),xs=[.ref p]∧SqL X.K H p (ns.map V.int)∧Q (.int ns.sum) H):=by
 intro pins s σ H xs us Q I r h
 obtain⟨p,ns,rfl,hq,q⟩:=h
 obtain⟨u,rfl,ru⟩:=vals1 r
 cases ru
 obtain⟨its,hl,hi,hz⟩:=I.ints hq
 obtain⟨xs,hx⟩:=hi.allInts.items
 have hl':s.heap.IsList p (intItems xs):=hx ▸ hl
 refine sum_intListG (I.ok.hd hc) hl' fun h' tk t' hk=>?_
 have e1:ns=xs.toList.map (·.1):=by
  rw [← nums_intItems,← hx]
  exact(show numsOf its.toArray.toList=ns from hi.numsOf).symm
 have e2:preSum (numAt xs) xs.size=ns.sum:=by
  rw [preSum_eq,List.take_of_length_le (by simp),e1]
 rw [e2]
 exact⟨.int _,H,I.kept (t':=tk) hk,⟨_,rfl⟩,q⟩
end
theorem Yu:bootBuiltins "sum"=some (.builtin "sum"):=by decide +kernel
theorem wH {K:W.Frag}{a acc:Addr}{xs:List V}{own:Nat}{ix:List Nat}{g:TG}{te:TE}{σ:St}{H1:Hp}{Q:VK} (f:Nat→V) (hq1:SqL K H1 a xs) (hn:H1 acc=none) (hz:xs.length≤sizeLine)
  (step:∀(i:Nat) (x:V) (t:Addr) (H:Hp) (R:VK),xs[i]?=some x→Same H1 H→H t=some (.tup [.int i,x])→R (f i) H→g (.ref t) (ji own ix σ) H fun σ4 H4=>σ4.drop own=ix.map (fun i=>(σ[i]?).getD none)∧te σ4 H4 R)
  (hd:∀H',Same H1 H'→H' acc=some (.lst ((List.range xs.length).map f))→Q (.ref acc) H'):Zj (Ite K a xs.length) own ix g Zb te σ H1 acc Q:=by
 refine⟨fun i m ys H=>m=xs.length-i∧i≤xs.length∧ys=(List.range i).map f∧Same H1 H∧H acc=some (.lst ys),⟨xs.length,by simp,Nat.zero_le _,rfl,Same.new hn,upd_same⟩,?_⟩
 rintro i m zs H ⟨rfl,hi,rfl,sm,ha⟩
 refine⟨ha,?_⟩
 by_cases hlt:i<xs.length
 ·refine .inr ⟨⟨xs,xs[i],sm.seq hq1,rfl,List.getElem?_eq_getElem hlt⟩,by rw [List.length_map,List.length_range];omega,fun v H3 ⟨t,ht,hv,hy⟩=>?_⟩
  have e:=hy xs _ (sm.seq hq1) (List.getElem?_eq_getElem hlt)
  subst hv e
  have ha3:(upd H t (.tup [.int i,xs[i]])) acc=some (.lst ((List.range i).map f)):=by rw [upd_ne (ne_of_none ha ht)];exact ha
  exact step i _ t _ _ (List.getElem?_eq_getElem hlt) (sm.put ht) upd_same ⟨ha3,_,by omega,rfl,hlt,by rw [List.range_succ,List.map_append];rfl,(sm.put ht).wr hn,upd_same⟩
 ·have e:i=xs.length:=by omega
  subst e
  exact .inl ⟨⟨rfl,xs,sm.seq hq1,rfl⟩,hd H sm ha⟩
theorem Ke {K:PySem.W.Frag}{a:Addr}{xs:List V}{g:TG}{tb:TS}{D:Ends}{σ:St}{H:Hp} (Pv:Nat→St→Hp→Prop) (h0:Pv 0 σ H) (hl:∀i σ H,Pv i σ H→SqL K H a xs)
  (hs:∀(i:Nat) x t σ H,xs[i]?=some x→Pv i σ H→H t=none→g (.ref t) σ (upd H t (.tup [.int i,x])) fun σ2 H2=>tb { D with nx:=Pv (i+1),ct:=Pv (i+1),bk:=D.nx } σ2 H2) (hd:∀σ H,Pv xs.length σ H→D.nx σ H) :
  ∃W:Nat→Nat→St→Hp→Prop,(∃m,W 0 m σ H)∧∀i m σ H,W i m σ H →
   ((Ite K a xs.length).stop i H∧D.nx σ H)∨((Ite K a xs.length).go i H∧∃N:St→Hp→Prop,(∀σ' H',N σ' H'→∃m',m'<m∧W (i+1) m' σ' H')∧∀x H',(Ite K a xs.length).yld i H x H'→g x σ H' fun σ2 H2=>tb { D with nx:=N,ct:=N,bk:=D.nx } σ2 H2):=by
 refine⟨fun i m σ H=>m=xs.length-i∧i≤xs.length∧Pv i σ H,⟨_,rfl,Nat.zero_le _,h0⟩,?_⟩
 rintro i m σ H ⟨rfl,hi,p⟩
 have q1:=hl i σ H p
 by_cases hlt:i<xs.length
 ·refine .inr ⟨⟨xs,xs[i],q1,rfl,List.getElem?_eq_getElem hlt⟩,Pv (i+1),fun σ' H' p'=>⟨_,by omega,rfl,hlt,p'⟩,fun v H3 ⟨t,ht,hv,hy⟩=>?_⟩
  have e:=hy xs _ q1 (List.getElem?_eq_getElem hlt)
  subst hv e
  exact hs i _ t σ H (List.getElem?_eq_getElem hlt) p ht
 ·have e:i=xs.length:=by omega
  subst e
  exact .inl ⟨⟨rfl,xs,q1,rfl⟩,hd σ H p⟩
end L2
namespace L2
open PySem PySem.Spec PyProof.Rows PySem.W PySem.Calls
section
variable {prog:Program}{w:World}{A:Around}{E:Value→Shared→Prop}{s:Shared}{K:Frag}{x C:Addr}{ox:Obj}
structure xK (K:Frag) (C:Addr):Prop where
 ga:findIn K (.ref C) "__getattribute__"=some (some (.builtin "BaseException.__getattribute__"))
 hk:findIn K (.ref C) "__getattr__"=some none
 cl:findIn K (.ref C) "__class__"=some (some (.builtin "object.__class__"))
 gt:specialIn K (.builtin "object.__class__") "__get__"=some (some (.builtin "getset_descriptor.__get__"))
 tk:takesIn K (.builtin "object.__class__")=some true
 mo:mroIn K C (.type "object")=some true
 mb:mroIn K C (.type "BaseException")=some true
open PySem.Builtin PySem.Builtin.ObjectAttr in
theorem Xe {M : Model} {h : Heap} (X : K.In h) (L : xK K C) : Looks M h (find (.ref x) (.ref C) "__class__") (Found.bind (.builtin "getset_descriptor.__get__") (.builtin "object.__class__")) := by
  have L1 := looks_findIn (M := M) X L.cl
  have L2 : Looks M h (getOf (some (.builtin "object.__class__"))) (some (.builtin "getset_descriptor.__get__")) := looks_specialIn X L.gt
  have L3 := looks_takesIn (M := M) X L.tk
  exact L1.andThen (L2.andThen ((show Looks M h (dataDescriptor? (some (.builtin "object.__class__")) (some (.builtin "getset_descriptor.__get__"))) (some (.builtin "getset_descriptor.__get__", .builtin "object.__class__")) from L3.andThen .now).andThen (Looks.tag .now)))
theorem Kf {M:Model}{nameV:Value}{Q:Unit→Shared→Prop}{h:Heap}{g:Array GenState}{d:Drawn}{t:Nat}{os:OsState} (X:K.In h) (L:xK K C) (hx:h.get? x=some ox) (hc:ox.cls=.ref C) (hq:Q () ⟨h,g,d,t,os⟩) :
  wpAny M A (checkBuiltinCall "BaseException.__getattribute__" ⟨[.ref x,nameV],[]⟩) Q E ⟨h,g,d,t,os⟩:=by
 have hk:builtinKind "BaseException.__getattribute__"=some .slot:=by decide +kernel
 have hsplit:splitId "BaseException.__getattribute__"=some ("BaseException","__getattribute__"):=by decide +kernel
 have ha:=F.args_bexc_ga (.ref x) nameV
 have LT:Looks M h (typeOf (.ref x)) (.ref C):=hc ▸ (Looks.ld hx).andThen .now
 have LI:Looks M h (isInstance (.ref x) (.type "BaseException")) true:=LT.andThen (looks_mroIn X L.mb)
 simp only [checkBuiltinCall,hk,hsplit]
 refine wpAny_bind (LI.at ?_)
 repeat (first | assumption | wp_step)
open PySem.Builtin PySem.Builtin.ObjectAttr PySem.Builtin.Getset_descriptor in
theorem Xf {tp : Value} {R : Result → Shared → Prop} (X : K.In s.heap) (L : xK K C) (hx : s.heap.get? x = some ox) (hc : ox.cls = .ref C)
    (h : R (.ok (.ret (.ref C))) s) : codeAny (model prog w) A (.call (.builtin "getset_descriptor.__get__") ⟨[.builtin "object.__class__", .ref x, tp], []⟩) R s := by
  obtain ⟨hh, g, dr, t, os⟩ := s
  have L0 : Looks (model prog w) hh (typeOf (.ref x)) (.ref C) := hc ▸ (Looks.ld hx).andThen .now
  have L1 := looks_mroIn (M := model prog w) X L.mo
  refine codeAny_call_builtin KF.slot_gs.plain KF.entry_gs (KF.slot_gs.check _ _ _ _ _ _ _ _ KF.type_class (KF.args_gs _ _ _) ?_)
  unfold Builtin.«getset_descriptor.__get__» descrGet
  rw [dga_obj]
  refine wpAny_bind (wpAny_pure ?_)
  unfold descrGetter descrCheckInstance descrNameAndClass isInstance
  simp only [KF.owner_class]
  repeat lk
  refine ⟨Code.quiet_builtin _ (by decide +kernel), codeAny_builtin KF.entry_class ?_⟩
  unfold Builtin.«object.__class__» shownTypeOf
  repeat lk
  exact h
theorem Vw {Q:Option Value→Shared→Prop} (X:K.In s.heap) (L:xK K C) (hx:s.heap.get? x=some ox) (hc:ox.cls=.ref C) (h:Q (some (.ref C)) { s with toks:=s.toks+1 }):wpAny (model prog w) A (getAttr? (.ref x) "__class__") Q E s:=by
 obtain⟨hh,g,d,t,os⟩:=s
 have L0:Looks (model prog w) hh (typeOf (.ref x)) (.ref C):=hc ▸ (Looks.ld hx).andThen .now
 have L1:=looks_findIn (M:=model prog w) X L.ga
 have L2:=looks_findIn (M:=model prog w) X L.hk
 unfold getAttr? getAttrBy? getAttrBy
 refine wpAny_bind (wpAny_mkText (wpAny_bind (wpAny_attempt (wpAny_holding (wpAny_bind (L0.at (wpAny_bind (L1.at ?_))))))))
 show wpAny _ _ (getAttrByItsOwn _ _ _ _ _ _) _ _ _
 unfold getAttrByItsOwn hookBefore
 refine wpAny_bind ?_
 show wpAny _ _ (typeLookup (.ref C) "__getattr__") _ _ _
 refine L2.at ?_
 refine wpAny_bind (wpAny_attempt (wpAny_holding ?_))
 show wpAny _ _ (boundAndCalled (.builtin "BaseException.__getattribute__") (.ref x) (.str "__class__" t)) _ _ _
 unfold boundAndCalled
 refine wpAny_bind (wpAny_of_eq (F.excAttr_ValueError.ga.bind (.ref x)) ?_)
 show wpAny _ _ (call (.builtin "BaseException.__getattribute__") [.ref x,.str "__class__" t]) _ _ _
 refine wpAny_call (codeAny_call_builtin F.excAttr_ValueError.ga.plain F.entry_bexc_ga (Kf (t:=t+1) X L hx hc ?_))
 unfold Builtin.«object.__getattribute__»
 refine wpAny_bind (wpAny_of_eq (a:=(Value.ref x,[Value.str "__class__" t])) rfl ?_)
 refine wpAny_bind (wpAny_of_eq (a:=Str.ofString "__class__") rfl ?_)
 refine wpAny_bind (L0.at (wpAny_bind ((Xe X L).at ?_)))
 show wpAny _ _ (holding [.builtin "object.__class__"] (call (.builtin "getset_descriptor.__get__") [.builtin "object.__class__",.ref x,.ref C]) >>= ret) _ _ _
 refine wpAny_bind (wpAny_holding (wpAny_call (Xf (s:=⟨hh,g,d,t+1,os⟩) X L hx hc (wpAny_pure ?_))))
 exact handed_on rfl (wpAny_pure h)
end
section
variable {K:Frag}{x C:Addr}
theorem Kg (L:xK K C):KitX K (.ref x) (.ref C) (fun h=>∃o,h.get? x=some o∧o.cls=.ref C) where
 ty:=fun M h _ p=>by
  obtain⟨o,h1,h2⟩:=p
  exact h2 ▸ (Looks.ld h1).andThen .now
 it:=fun _ _ X _=>by
  obtain⟨cd,hcd,_⟩:=Option.bind_eq_some_iff.mp (show (clsIn K C).bind _=some true from L.mo)
  unfold clsIn at hcd
  split at hcd
  ·rename_i c' d' cd' sl' ho
   intro A' Q' E' s' k q
   unfold isType loadHead
   exact wpAny_bind (wpAny_loadPart (k _ _ (X _ _ ho)) (wpAny_pure q))
  ·cases hcd
 ne:=fun h tp dd its n sl X htp=>by
  obtain⟨cd,hcd,_⟩:=Option.bind_eq_some_iff.mp (show (clsIn K C).bind _=some true from L.mo)
  refine Bool.eq_false_iff.mpr fun q=>?_
  have e:C=tp:=Value.ref.inj (beq_iff_eq.mp q)
  subst e
  unfold clsIn at hcd
  split at hcd
  ·rename_i c' d' cd' sl' ho
   have z:=(X _ _ ho).symm.trans htp
   cases z
  ·cases hcd
 ca:=fun X p k=>by
  obtain⟨o,h1,h2⟩:=p
  exact Vw X L h1 h2 k
end
inductive XTy (K:W.Frag) (H:Hp):V→Value→Prop where
 | of {x:V}{t:Value} (h:TyOf K H x t):XTy K H x t
 | exc {a C:Addr} (L:xK K C) (h:H a=some (vQ a (.ref C))):XTy K H (.ref a) (.ref C)
section
variable {X:Cx}
theorem qd:CallR X (.builtin "isinstance") (fun xs H Q=>∃(x c:V) (u t:Value) (b:Bool),xs=[x,c]∧(∀u',RelV c u'→u'=u)∧XTy X.K H x t∧kitOne X.K t u=some b∧Q (.bl b) H):=by
 intro pins s σ H xs us Q I r h
 obtain⟨x,c,u,t,b,rfl,hu,ty,e,q⟩:=h
 obtain⟨u1,u2,rfl,r1,r2⟩:=vals2 r
 have e2:=hu u2 r2
 subst e2
 cases ty with
 | of ty=>exact isinst_ok I r1 ty e fun tk=>⟨.bl b,H,I.tok tk,rfl,q⟩
 | @exc a C L hx=>
  cases (show u1=Value.ref a from r1)
  obtain⟨⟨o,ho,hc⟩,_,_⟩:=(show ObjOk X.prog X.w H s.heap a (vQ a (.ref C)) from I.hok a _ hx)
  exact kia_one (Kg L) I.kIn ⟨o,ho,hc⟩ e (fun z=>nomatch z) fun tk=>⟨.bl b,H,I.tok tk,rfl,q⟩
end
noncomputable def QM (X:Cx) (G:St→Value→Hp→Prop):Prop:=∀(pins:List (Addr×Obj)) (σ:St) (H:Hp) (s:Shared) (e:Value) (s':Shared),Inv X pins σ H s→CXE X.prog X.w X.stack H s (fun C _ H'=>G σ C H') e s'→X.xe e s'
noncomputable def zaK (sp:Sp) (G:St→Value→Hp→Prop) (t:TA):TE:=fun σ H Q=>t σ H fun vs H1=>sp vs H1 Q fun C _ H'=>G σ C H'
section
variable {X:Cx}{k:Nat}{x:Str}{ps:List Str}{sp:Sp}{p pos:Pos}{e:Expr}{es:List Expr}{t:TA}{G:St→Value→Hp→Prop}
theorem Zo (F:FnE X.prog X.w X.K X.mg X.base k x ps sp) (hr:Room k X.A) (hg:Gl X x) (hx:QM X G) (ha:PA X (e::es) t) (hdb:(x == ("__debug__":Str))=false:=by decide)
  (he:starEach (e::es) X.env=(false,eval e X.env)::starEach es X.env:=by rfl) (hpl:(backTo pos (starEach es X.env)).any (·.1)=false:=by rfl) :
  PE X (.Call (.Name x p) (e::es) [] pos) (zaK sp G t):=by
 obtain⟨f,fd,F,kp,b,m⟩:=F
 intro pins s σ H Q I h
 refine wpAny_Call_Name_kw (ld_glob I hg m ?_ hdb)
 refine W.callWith_K (h₀:=X.base) I.ok.mod.kin kp (thn (ha pos pins s σ H _ I h) fun us s1 ⟨vs,H1,I1,r,q⟩=>⟨I1.kIn,?_⟩) he hpl
 have hl:us.length=ps.length:=by rw [← r.length];exact F.len _ _ _ _ q
 have bb:=b s1 us I1.kIn (by rw [List.append_nil];exact hl)
 rw [List.append_nil] at bb
 refine wpAny_call (codeAny_mono (F.run X.A X.stack s1 H1 ⟨us,[]⟩ us vs Q _ hr I1.env0 bb r q) fun rr s' hq=>?_)
 cases rr with
 | error e=>exact hx pins σ H1 s1 e s' I1 hq
 | ok fl=>
  cases fl with
  | ret u=>exact I1.after hq
  | next=>exact False.elim hq
  | brk=>exact False.elim hq
  | cont=>exact False.elim hq
end
theorem Zd {P:Program}{w:World}{K:W.Frag}{mg:Str→Option Value}{base:Heap}{N:List Str}{qual:Str}{scope:Scope}{f:Addr}{cdv:Value}{A:Around}{outer:List Env}{s:Shared}{H:Hp}{E:XK} :
  QM (cxOf (CXE P w) P w K mg base N qual scope f cdv A outer s H E) (fun _ C H'=>E C none H'):=
 fun _ _ _ _ _ _ I h=>Wv (x:=0) I h fun _ _ z=>z
abbrev Cx.pinned (X:Cx) (pn:List (Addr×Obj)):Cx:={ X with pn:=pn }
theorem Inv.intoPn {X:Cx}{pins:List (Addr×Obj)}{σ:St}{H:Hp}{s:Shared} (I:Inv X pins σ H s):Inv (X.pinned (X.pn++pins)) [] σ H s:=
 ⟨⟨I.ok.mod,I.ok.kind,I.ok.glob,I.ok.blt,I.ok.above,I.ok.inj,I.ok.has,I.ok.cab,I.ok.hd,I.ok.frames,I.ok.stk,I.ok.exf,I.ok.bs,I.ok.bsz,I.ok.noex,I.ok.exfs,I.ok.funs,I.ok.frf⟩,I.os,I.bare,I.base,I.loc,I.cell,I.free,I.freeC,fun p hp=>I.pin p (by rw [List.append_nil] at hp;exact hp),I.hok,I.len⟩
theorem Inv.outPn {X:Cx}{pins vR:List (Addr×Obj)}{σ:St}{H:Hp}{s:Shared} (I:Inv (X.pinned (X.pn++pins)) vR σ H s):Inv X pins σ H s:=
 ⟨⟨I.ok.mod,I.ok.kind,I.ok.glob,I.ok.blt,I.ok.above,I.ok.inj,I.ok.has,I.ok.cab,I.ok.hd,I.ok.frames,I.ok.stk,I.ok.exf,I.ok.bs,I.ok.bsz,I.ok.noex,I.ok.exfs,I.ok.funs,I.ok.frf⟩,I.os,I.bare,I.base,I.loc,I.cell,I.free,I.freeC,fun p hp=>I.pin p (List.mem_append_left _ hp),I.hok,I.len⟩
theorem vM {M:Model}{A:Around}{E:Value→Shared→Prop}{h:Heap}{g:Array GenState}{d:Drawn}{t:Nat}{os:OsState}{x C CB:Addr}{ox:Obj}{bm bm2:List Value}{Q:Bool→Shared→Prop} (hC:jm h C bm) (hB:jm h CB bm2) (hx:h.get? x=some ox) (hxc:ox.cls=.ref C)
  (hm:(Value.ref C::bm).contains (.ref CB)=true) (hq:Q true ⟨h,g,d,t,os⟩):wpAny M A (excMatches (.ref x) (.ref CB)) Q E ⟨h,g,d,t,os⟩:=by
 obtain⟨N,nm,q,bs,hdct,sn,sub,ab,col,dd,k0,k1,k2,k3,k5,newId,hC,hb⟩:=hC
 obtain⟨N',nm',q',bs',hdct',sn',sub',ab',col',dd',k0',k1',k2',k3',k5',newId',hB,hb'⟩:=hB
 have hcB:(Value.ref CB::bm2).contains (.type "BaseException")=true:=by rw [List.contains_cons,hb',Bool.or_true]
 have f:=tc_notTuple
 unfold excMatches
 repeat (first | (with_reducible refine wpAny_loadPart_at hx ?_;rw [hxc]) | with_reducible refine wpAny_loadPart_at hB ?_ | (with_reducible refine wpAny_isSubtype_exc hB ?_;rw [hcB]) | (with_reducible refine wpAny_isSubtype_exc hC ?_;rw [hm]) | wp_step)
 exact hq
noncomputable def zaL (K:W.Frag) (CB:Addr) (i:Nat) (tb:(St→Value→Hp→Prop)→TS) (t2:TS):TS:=fun D σ H=>tb (fun σ1 Cv H'=>∃(C:Addr) (bmB:List Value) (newId:String),Cv=.ref C∧W.excIn K C bmB newId=true∧bmB.contains (.type "BaseException")=true∧W.mroIn K C (.ref CB)=some true ∧
 ∀x,H' x=none→t2 { nx:=fun σ3 H3=>D.nx ((σ3.set i (some .non)).set i none) H3,rt:=fun _ _=>False } (σ1.set i (some (.ref x))) (upd H' x (vQ x (.ref C)))) D σ H
theorem Ww {X:Cx}{n xn:Str}{tb:(St→Value→Hp→Prop)→TS}{t2:TS}{CB:Addr}{i:Nat}{body:List Stmt}{b2:Stmt}{bs2:List Stmt}{np pos2 pos:Pos}{bmC:List Value}{idC:String}
  (hst:X.stack=X.env::X.outer) (hfr:X.env.frame=some X.env.locals) (hN:X.N.Nodup) (hi:X.N[i]?=some n) (hl:X.env.scope.names.lookup n=some .local) (hkl:X.env.kindOf n=some .local)
  (hgC:Gl X xn) (hmC:X.mg xn=some (.ref CB)) (hqB:W.excIn X.K CB bmC idC=true) (hbB:bmC.contains (.type "BaseException")=true)
  (hb:∀(pn:List (Addr×Obj)) (xe:Value→Shared→Prop) (G:St→Value→Hp→Prop),QM ((X.pinned pn).wish xe) G→PSs ((X.pinned pn).wish xe) body (tb G)) (hb2:∀x,PSs (X.inX x) (b2::bs2) t2)
  (hdC:(xn == ("__debug__":Str))=false:=by decide) :
  PS X.nox (.Try body [.ExceptHandler (some (.Name xn np)) (some n) (b2::bs2) pos2] [] [] pos) (zaL X.K CB i tb t2):=by
 intro pins s σ H D I h
 have I0:Inv X pins σ H s:=I.unwish
 refine wpAny_Try_except (wpAny_mono (hb (X.pn++pins) (fun e s'=>∃(vR:List (Addr×Obj)) (σ1:St) (H1:Hp) (s1:Shared),Inv (X.pinned (X.pn++pins)) vR σ1 H1 s1∧CXE X.prog X.w X.stack H1 s1 (fun Cv _ H'=>∃(C:Addr) (bmB:List Value) (newId:String),Cv=.ref C∧W.excIn X.K C bmB newId=true∧bmB.contains (.type "BaseException")=true∧W.mroIn X.K C (.ref CB)=some true ∧
   ∀x,H' x=none→t2 { nx:=fun σ3 H3=>D.nx ((σ3.set i (some .non)).set i none) H3,rt:=fun _ _=>False } (σ1.set i (some (.ref x))) (upd H' x (vQ x (.ref C)))) e s') _ (fun vR σ1 H1 s1 e s' I1 z=>⟨vR,σ1,H1,s1,I1.unwish,z⟩) [] s σ H D (I0.intoPn.wish _) h) (fun fl s1 x=>?_) fun e s' x=>?_)
 ·cases fl with
  | next=>
   obtain⟨σ',H',I',q⟩:=x
   exact wpAny_execs_nil ⟨σ',H',I'.unwish.outPn.wish _,q⟩
  | brk=>
   obtain⟨σ',H',I',q⟩:=x
   exact⟨σ',H',I'.unwish.outPn.wish _,q⟩
  | cont=>
   obtain⟨σ',H',I',q⟩:=x
   exact⟨σ',H',I'.unwish.outPn.wish _,q⟩
  | ret u=>
   obtain⟨v,σ',H',I',r,q⟩:=x
   exact⟨v,σ',H',I'.unwish.outPn.wish _,r,q⟩
 ·obtain⟨vR,σ1,H1,s1,I1',x,Cv,a0,H',B,rfl,os,bare,fl,st,xn',xh,C,bmB,newId,rfl,hq,hbase,hmro,q2⟩:=x
  have I1:Inv X pins σ1 H1 s1:=I1'.outPn
  have fl':Heap.FlyingW B (X.env::X.outer) x (.ref C) a0 s'.heap:=by rw [← hst];exact fl
  have hfs:X.A.frames=some (X.env::X.outer):=by rw [← hst];exact I.ok.frames
  refine wpAny_looks_onW hfs hfr fl' fun h₄ held up4=>wpAny_landsW held fun h₅ fl5 up5=>?_
  have u05:=up4.trans up5
  obtain⟨un5,ok5⟩:=st h₅ fl5.1 u05
  have I5:Inv X pins σ1 H' { s' with heap:=h₅ }:=I1.call' (ch:=[]) os un5 ok5 bare (fun b z=>absurd z (by simp))
  obtain⟨ob,hob,hobc⟩:=fl5.there
  obtain⟨bm,N',nm,qn,bs,hdct,sn,sub,ab,col,dd,k0,k1,k2,k3,k5,mN,hC,hNs,hni,TL,mro⟩:=vz I5.kIn hq
  obtain⟨bm',N'',nm',qn',bs',hdct',sn',sub',ab',col',dd',k0',k1',k2',k3',k5',mN',hB',hNs',hni',TL',mro'⟩:=vz I5.kIn hqB
  refine wpAny_handleBy_cons (codeAny_handlers_test (Calls.Name_function_global I.ok.kind hgC (Calls.loadGlobal_global (by rw [I.ok.glob];exact(I.ok.mod.glob.keeps fun b o e=>I5.bk b o e)) hmC ?_) hdC)) (by intro q;cases q)
  refine vM ⟨N',nm,qn,bs,hdct,sn,sub,ab,col,dd,k0,k1,k2,k3,k5,newId,hC,TL.hasType hbase⟩ ⟨N'',nm',qn',bs',hdct',sn',sub',ab',col',dd',k0',k1',k2',k3',k5',_,hB',TL'.hasType hbB⟩ hob hobc (mro _ _ hmro) (codeAny_handlers_suite_as ?_)
  refine lands_againW fl5 fun h₇ fl7 up7=>?_
  obtain⟨un7,ok7⟩:=st h₇ fl7.1 (u05.trans up7)
  obtain⟨ob7,hob7,hc7⟩:=fl7.there
  have I7:Inv X.nox pins σ1 (upd H' x (vQ x (.ref C))) { s' with heap:=h₇ }:=Xc (I1.wish _) os bare un7 ok7 xn' xh hob7 hc7
  refine store_ok I7 hN hi (.inl hl) (v:=.ref x) rfl (fun s8 I8=>?_) (.inr hl)
  refine wpAny_mono (hb2 x pins s8 _ _ _ (I8.unwish.inX x) (q2 x xh)) (fun fl9 s9 x9=>?_) fun _ _ z=>False.elim z
  have hh:X.nox.calm=true→X.nox.A.handled=none:=I.ok.hd
  cases fl9 with
  | next=>
   obtain⟨σ3,H3,I9,q9⟩:=x9
   have I9':Inv X.nox pins σ3 H3 s9:=(Inv.outX (X:=X) hh I9).wish _
   have hi3:i < σ3.length:=by rw [I9'.len];exact(List.getElem?_eq_some_iff.mp hi).1
   refine wpAny_bind (wpAny_bindName (store_ok I9' hN hi (.inl hl) (v:=.non) (u:=.none) rfl (fun s10 I10=>?_) (.inr hl)))
   unfold unbindBehindTheSuite
   exact wpAny_onRaise (Vv I10 hN hi hkl hl (List.getElem?_set_self hi3) fun s11 I11=>⟨_,_,I11,q9⟩)
  | ret u=>obtain⟨_,_,_,_,_,z⟩:=x9;exact False.elim z
  | brk=>obtain⟨_,_,_,z⟩:=x9;exact False.elim z
  | cont=>obtain⟨_,_,_,z⟩:=x9;exact False.elim z
end L2
namespace L2
open PySem PySem.Spec PyProof.Rows
section
variable {X:Cx}
variable {a b:Expr}{ta tb:TE}{pos:Pos}
variable {tA tB':TT}{rest:List Expr}
end
section
variable {X:Cx}{CX:CXT}{k:Nat}{f C:Addr}{fd:FuncData}{ps ks:List Str}{sp:Sp}{E:XK}{x m:Str}{p pos apos kpos:Pos}{e o:Expr}{es:List Expr}{kws:List Keyword}{te ta:TE}{t tk:TA}{nm:Option Str}
variable {g:List Value→List Value→List Value}{gV:List V→List V→List V}
end
section
variable {κ:Type} [DecidableEq κ]
noncomputable def valV (kvs:List (κ×V)) (k:κ):Option V:=(kvs.find? fun kv=>decide (kv.1=k)).map (·.2)
noncomputable def putK (kvs:List (κ×V)) (k:κ) (v:V):List (κ×V):=
 if (kvs.any fun kv=>decide (kv.1=k))=true then kvs.map (fun kv=>if kv.1=k then (kv.1,v) else kv) else kvs++[(k,v)]
noncomputable def dropK (kvs:List (κ×V)) (k:κ):List (κ×V):=kvs.filter fun kv=>decide (kv.1≠k)
theorem valV_pos {p:κ×V}{r:List (κ×V)}{k:κ} (e:p.1=k):valV (p::r) k=some p.2:=by simp [valV,List.find?_cons,e]
theorem valV_neg {p:κ×V}{r:List (κ×V)}{k:κ} (e:¬p.1=k):valV (p::r) k=valV r k:=by simp [valV,List.find?_cons,e]
theorem valV_any (k:κ):∀kvs:List (κ×V),(kvs.any fun kv=>decide (kv.1=k))=(valV kvs k).isSome
 | []=>rfl
 | p::r=>by
  rw [List.any_cons]
  by_cases e:p.1=k
  ·simp only [valV_pos e,decide_eq_true e,Bool.true_or,Option.isSome_some]
  ·rw [valV_neg e,decide_eq_false e,Bool.false_or];exact valV_any k r
theorem valV_map (k j:κ) (y:V):∀kvs:List (κ×V),valV (kvs.map fun kv=>if kv.1=k then (kv.1,y) else kv) j=(valV kvs j).map fun x=>if j=k then y else x
 | []=>rfl
 | p::r=>by
  have ih:=valV_map k j y r
  rw [List.map_cons]
  by_cases h:p.1=k
  ·rw [if_pos h]
   by_cases e:p.1=j
   ·rw [valV_pos (p:=(p.1,y)) e,valV_pos e,Option.map_some,if_pos (e.symm.trans h)]
   ·rw [valV_neg (p:=(p.1,y)) e,valV_neg e,ih]
  ·rw [if_neg h]
   by_cases e:p.1=j
   ·rw [valV_pos (p:=p) e,valV_pos e,Option.map_some,if_neg (fun z=>h (e.trans z))]
   ·rw [valV_neg (p:=p) e,valV_neg e,ih]
theorem valV_snoc (k j:κ) (y:V):∀kvs:List (κ×V),valV kvs k=none→valV (kvs++[(k,y)]) j=if j=k then some y else valV kvs j
 | [],_=>by
  by_cases e:k=j
  ·rw [if_pos e.symm];exact valV_pos (p:=(k,y)) e
  ·rw [if_neg (fun z=>e z.symm)];exact valV_neg (p:=(k,y)) e
 | p::r,hn=>by
  rw [List.cons_append]
  have hk:¬p.1=k:=fun z=>by rw [valV_pos z] at hn;cases hn
  rw [valV_neg hk] at hn
  have ih:=valV_snoc k j y r hn
  by_cases e:p.1=j
  ·rw [valV_pos e,valV_pos e,if_neg (fun z=>hk (e.trans z))]
  ·rw [valV_neg e,valV_neg e,ih]
theorem valV_put (kvs:List (κ×V)) (k j:κ) (y:V):valV (putK kvs k y) j=if j=k then some y else valV kvs j:=by
 unfold putK
 by_cases a:(kvs.any fun kv=>decide (kv.1=k))=true
 ·rw [if_pos a,valV_map]
  rw [valV_any] at a
  by_cases e:j=k
  ·obtain⟨x,hx⟩:=Option.isSome_iff_exists.mp a
   rw [if_pos e,e,hx,Option.map_some,if_pos rfl]
  ·rw [if_neg e]
   cases valV kvs j with
   | none=>rfl
   | some x=>rw [Option.map_some,if_neg e]
 ·rw [if_neg a]
  refine valV_snoc k j y kvs ?_
  rw [valV_any] at a
  cases q:valV kvs k with
  | none=>rfl
  | some x=>rw [q] at a;exact(a rfl).elim
theorem length_putK (kvs:List (κ×V)) (k:κ) (v:V):(putK kvs k v).length≤kvs.length+1:=by
 unfold putK
 split
 ·rw [List.length_map];omega
 ·rw [List.length_append,List.length_cons,List.length_nil];omega
theorem putK_new {kvs:List (κ×V)}{k:κ} (v:V) (h:valV kvs k=none):putK kvs k v=kvs++[(k,v)]:=by
 unfold putK
 rw [valV_any,h]
 exact if_neg (by decide)
theorem RelO.isSome_eq {o:Option V}{u:Option Value} (r:RelO o u):o.isSome=u.isSome:=by
 cases o with
 | none=>cases u with
  | none=>rfl
  | some _=>exact(show False from r).elim
 | some _=>cases u with
  | none=>exact(show False from r).elim
  | some _=>rfl
theorem RelO.getD {o:Option V}{u:Option Value}{d:V} {d':Value} (r:RelO o u) (rd:RelV d d'):RelV (o.getD d) (u.getD d'):=by
 cases o with
 | none=>cases u with
  | none=>exact rd
  | some _=>exact(show False from r).elim
 | some _=>cases u with
  | none=>exact(show False from r).elim
  | some _=>exact r
theorem KV.val {kvs:List (κ×V)}{vs:List (κ×Value)} (r:KV kvs vs) (k:κ):RelO (valV kvs k) (valueAt vs k):=by
 unfold KV at r
 induction r with
 | nil=>exact True.intro
 | @cons p q ps qs h t ih=>
  obtain⟨h1,h2⟩:=h
  by_cases e:p.1=k
  ·have e':q.1=k:=h1.symm.trans e
   have b:valueAt (q::qs) k=some q.2:=by simp [valueAt,List.find?_cons,e']
   rw [valV_pos e,b];exact h2
  ·have e':¬q.1=k:=fun z=>e (h1.trans z)
   have b:valueAt (q::qs) k=valueAt qs k:=by simp [valueAt,List.find?_cons,e']
   rw [valV_neg e,b];exact ih
theorem KV.any {kvs:List (κ×V)}{vs:List (κ×Value)} (r:KV kvs vs) (k:κ):(kvs.any fun kv=>decide (kv.1=k))=vs.any fun kv=>decide (kv.1=k):=by
 unfold KV at r
 induction r with
 | nil=>rfl
 | cons h t ih=>rw [List.any_cons,List.any_cons,ih,h.1]
theorem KV.repl {kvs:List (κ×V)}{vs:List (κ×Value)} (r:KV kvs vs) (k:κ){y:V}{u:Value} (ry:RelV y u) :
  KV (kvs.map fun kv=>if kv.1=k then (kv.1,y) else kv) (vs.map fun kv=>if kv.1=k then (kv.1,u) else kv):=by
 unfold KV at r ⊢
 induction r with
 | nil=>exact .nil
 | @cons p q ps qs h t ih=>
  rw [List.map_cons,List.map_cons]
  refine .cons ?_ ih
  obtain⟨h1,h2⟩:=h
  by_cases e:p.1=k
  ·rw [if_pos e,if_pos (h1.symm.trans e)];exact⟨h1,ry⟩
  ·rw [if_neg e,if_neg (fun z=>e (h1.trans z))];exact⟨h1,h2⟩
theorem KV.put {kvs:List (κ×V)}{vs:List (κ×Value)} (r:KV kvs vs) (k:κ){y:V}{u:Value} (ry:RelV y u):KV (putK kvs k y) (stored vs k u):=by
 unfold putK stored
 rw [r.any k]
 by_cases e:(vs.any fun kv=>decide (kv.1=k))=true
 ·rw [if_pos e,if_pos e];exact r.repl k ry
 ·rw [if_neg e,if_neg e];exact Paired.snoc r ⟨rfl,ry⟩
theorem KV.drop {kvs:List (κ×V)}{vs:List (κ×Value)} (r:KV kvs vs) (k:κ):KV (dropK kvs k) (without vs k):=by
 unfold KV at r ⊢
 unfold dropK without
 induction r with
 | nil=>exact .nil
 | @cons p q ps qs h t ih=>
  obtain⟨h1,h2⟩:=h
  rw [List.filter_cons,List.filter_cons]
  by_cases e:p.1=k
  ·have a:¬decide (p.1≠k)=true:=by simp [e]
   have b:¬decide (q.1≠k)=true:=by simp [h1.symm.trans e]
   rw [if_neg a,if_neg b];exact ih
  ·have e':¬q.1=k:=fun z=>e (h1.trans z)
   have a:decide (p.1≠k)=true:=by simp [e]
   have b:decide (q.1≠k)=true:=by simp [e']
   rw [if_pos a,if_pos b];exact .cons ⟨h1,h2⟩ ih
theorem KV.length {kvs:List (κ×V)}{vs:List (κ×Value)} (r:KV kvs vs):kvs.length=vs.length:=Paired.length r
end
theorem kV_is {P:Program}{w:World}{k:Key}{u:Value} (r:RelV (kV k) u):(mixKind P w).is k u=true:=by
 cases k with
 | inl i=>obtain⟨t,e⟩:=(show ∃t,u=Value.int i t from r);subst e;exact mixKind_int P w i t
 | inr x=>obtain⟨t,e⟩:=(show ∃t,u=Value.str x t from r);subst e;exact mixKind_str P w x t
theorem items_are {P:Program}{w:World}:∀{ks:List Key}{us:List Value},Vals (ks.map kV) us→ItemsAre (mixKind P w) ks us
 | [],_,r=>by rw [List.map_nil] at r;cases r;exact .nil
 | k::ks,_,r=>by
  rw [List.map_cons] at r
  cases r with
  | cons h t=>exact .cons (kV_is h) (items_are t)
abbrev KT (H:Hp):List (List Key×V)→List (List Key×Addr×Value)→Prop:=Paired fun p q=>p.1=q.1∧H q.2.1=some (.tup (p.1.map kV))∧RelV p.2 q.2.2
theorem KT.val {H:Hp}{kvs:List (List Key×V)}{xs:List (List Key×Addr×Value)} (r:KT H kvs xs) (k:List Key):RelO (valV kvs k) ((atKey xs k).map (·.2)):=by
 induction r with
 | nil=>exact True.intro
 | @cons p q ps qs h t ih=>
  obtain⟨h1,_,h2⟩:=h
  by_cases e:p.1=k
  ·have e':q.1=k:=h1.symm.trans e
   have b:atKey (q::qs) k=some q.2:=by simp [atKey,List.find?_cons,e']
   rw [valV_pos e,b];exact h2
  ·have e':¬q.1=k:=fun z=>e (h1.trans z)
   have b:atKey (q::qs) k=atKey qs k:=by simp [atKey,List.find?_cons,e']
   rw [valV_neg e,b];exact ih
theorem KT.repl {H:Hp}{kvs:List (List Key×V)}{xs:List (List Key×Addr×Value)} (r:KT H kvs xs) (k:List Key){y:V}{u:Value} (ry:RelV y u) :
  KT H (kvs.map fun kv=>if kv.1=k then (kv.1,y) else kv) (xs.map (putAt k u)):=by
 induction r with
 | nil=>exact .nil
 | @cons p q ps qs h t ih=>
  rw [List.map_cons,List.map_cons]
  refine .cons ?_ ih
  obtain⟨h1,h2,h3⟩:=h
  unfold putAt
  by_cases e:p.1=k
  ·rw [if_pos e,if_pos (h1.symm.trans e)];exact⟨h1,h2,ry⟩
  ·rw [if_neg e,if_neg (fun z=>e (h1.trans z))];exact⟨h1,h2,h3⟩
theorem KT.put {H:Hp}{kvs:List (List Key×V)}{xs:List (List Key×Addr×Value)} (r:KT H kvs xs) (k:List Key){b:Addr}{y:V}{u:Value} (hb:H b=some (.tup (k.map kV))) (ry:RelV y u) :
  KT H (putK kvs k y) (storedH xs k b u):=by
 have e:(kvs.any fun kv=>decide (kv.1=k))=(atKey xs k).isSome:=by
  rw [valV_any,(r.val k).isSome_eq,Option.isSome_map]
 unfold putK storedH
 rw [e]
 by_cases q:(atKey xs k).isSome=true
 ·rw [if_pos q,if_pos q];exact r.repl k ry
 ·rw [if_neg q,if_neg q];exact Paired.snoc r ⟨rfl,hb,ry⟩
theorem KT.keeps {H H':Hp}{kvs:List (List Key×V)}{xs:List (List Key×Addr×Value)} (r:KT H kvs xs) (ht:∀b ys,H b=some (.tup ys)→H' b=some (.tup ys)):KT H' kvs xs:=
 Paired.mapP r fun _ _ z=>⟨z.1,ht _ _ z.2.1,z.2.2⟩
section
variable {P:Program}{w:World}{H:Hp}{h:Heap}{a:Addr}
theorem rd_of {u:HO} (ok:HOk P w H h) (e:Rd H a u):ObjOk P w H h a u:=e.ok ok
theorem dk_rd {kvs:List (Key×V)} (ok:HOk P w H h) (e:Rd H a (.dK kvs)):kvs.length≤sizeLine∧(a == sysModules)=false∧∃vs,KV kvs vs∧h.DictOf (mixKind P w) a vs:=
 show ObjOk P w H h a (.dK kvs) from rd_of ok e
theorem dk_of {kvs:List (Key×V)} (ok:HOk P w H h) (e:H a=some (.dK kvs)):kvs.length≤sizeLine∧(a == sysModules)=false∧∃vs,KV kvs vs∧h.DictOf (mixKind P w) a vs:=dk_rd ok (.inl e)
theorem key_of {ks:List Key} (ok:HOk P w H h) (e:H a=some (.tup (ks.map kV))):(tupleKind (mixKind P w)).is h ks a:=by
 obtain⟨_,its,r,o,h1,h2,n,h3⟩:=(show ObjOk P w H h a (.tup (ks.map kV)) from ok a _ e)
 exact⟨o,its.toArray,n,h1,h2,h3,by simpa using items_are r⟩
theorem dt_rd {kvs:List (List Key×V)} (ok:HOk P w H h) (e:Rd H a (.dT kvs)):kvs.length≤sizeLine∧(a == sysModules)=false ∧
  ∃xs,KT H kvs xs∧h.DictOfH (tupleKind (mixKind P w)) a xs:=by
 obtain⟨z,y,xs,r,o,es,ep,h1,h2,h3,h4,h5⟩:=(show ObjOk P w H h a (.dT kvs) from rd_of ok e)
 refine⟨z,y,xs,r,o,es,ep,h1,h2,h3,h4,fun x hx=>?_,h5⟩
 have all:∀{l:List (List Key×V)}{m:List (List Key×Addr×Value)},KT H l m→∀x∈m,(tupleKind (mixKind P w)).is h x.1 x.2.1:=by
  intro l m q
  induction q with
  | nil=>intro x hx;exact nomatch hx
  | @cons p q ps qs hq t ih=>
   intro x hx
   rcases List.mem_cons.mp hx with e | hx
   ·subst e
    exact key_of ok (by rw [← hq.1];exact hq.2.1)
   ·exact ih x hx
 exact all r x hx
end
noncomputable def DGet (H:Hp) (a:Addr) (y:V) (r:Option V):Prop:=
 (∃kvs k,Rd H a (.dK kvs)∧y=kV k∧r=valV kvs k)∨∃kvs k b,Rd H a (.dT kvs)∧y=.ref b∧H b=some (.tup (k.map kV))∧r=valV kvs k
noncomputable def DPut (H:Hp) (a:Addr) (y v:V) (H':Hp):Prop:=
 (∃kvs k,H a=some (.dK kvs)∧y=kV k∧kvs.length<sizeLine∧H'=upd H a (.dK (putK kvs k v))) ∨
 ∃kvs k b,H a=some (.dT kvs)∧y=.ref b∧H b=some (.tup (k.map kV))∧kvs.length<sizeLine∧H'=upd H a (.dT (putK kvs k v))
theorem DGet.k {H:Hp}{a:Addr}{kvs:List (Key×V)}{k:Key} (e:H a=some (.dK kvs)):DGet H a (kV k) (valV kvs k):=.inl ⟨kvs,k,.inl e,rfl,rfl⟩
theorem DGet.t {H:Hp}{a b:Addr}{kvs:List (List Key×V)}{k:List Key} (e:H a=some (.dT kvs)) (eb:H b=some (.tup (k.map kV))):DGet H a (.ref b) (valV kvs k):=.inr ⟨kvs,k,b,.inl e,rfl,eb,rfl⟩
theorem DPut.k {H:Hp}{a:Addr}{kvs:List (Key×V)}{k:Key}{v:V} (e:H a=some (.dK kvs)) (hl:kvs.length<sizeLine):DPut H a (kV k) v (upd H a (.dK (putK kvs k v))):=.inl ⟨kvs,k,e,rfl,hl,rfl⟩
theorem DPut.t {H:Hp}{a b:Addr}{kvs:List (List Key×V)}{k:List Key}{v:V} (e:H a=some (.dT kvs)) (eb:H b=some (.tup (k.map kV))) (hl:kvs.length<sizeLine) :
  DPut H a (.ref b) v (upd H a (.dT (putK kvs k v))):=.inr ⟨kvs,k,b,e,rfl,eb,hl,rfl⟩
section
variable {X:Cx}{pins:List (Addr×Obj)}{σ:St}{H:Hp}{s:Shared}{a:Addr}{y v:V}{u r:Value}{o:Option V}{A:Around}{E:Value→Shared→Prop}
theorem Inv.big (I:Inv X pins σ H s):sysModules<s.heap.objs.size:=by
 have h:mainGlobals<s.heap.objs.size:=(I.mod.glob.keeps I.bk).lt
 exact Nat.lt_trans (by decide) h
theorem d_write {h':Heap} {t':Nat}{ob:HO} (I:Inv X pins σ H s) (mu:Mut (H a)) (hs:Heap.SameBut a s.heap h') (he:∃q,h'.get? a=some q) (new:ObjOk X.prog X.w (upd H a ob) h' a ob) :
  Inv X pins σ (upd H a ob) { s with heap:=h',toks:=t' }:=
 I.write (x:=a) (e:=a) mu (.inl rfl) (fun b q hb z=>(hs.2 b hb).trans z) he new
theorem dk_new {P:Program}{w:World} {H':Hp} {h':Heap}{kvs:List (Key×V)}{vs:List (Key×Value)} (z:kvs.length≤sizeLine) (hd:(a == sysModules)=false) (rel:KV kvs vs) (dd:h'.DictOf (mixKind P w) a vs) :
  ObjOk P w H' h' a (.dK kvs):=⟨z,hd,vs,rel,dd⟩
end
section
variable {X:Cx}{pins:List (Addr×Obj)}{σ:St}{H:Hp}{s:Shared}{a:Addr}{kvs:List (Key×V)}{k:Key}{u:Value}{A:Around}{E:Value→Shared→Prop}
end
section
variable {X:Cx}{o i e value:Expr} {pos pos' tpos:Pos}{td ty tv:TE}
end
theorem dk_empty {P:Program}{w:World}{H:Hp} (h:Heap) (hb:sysModules<h.objs.size):ObjOk P w H (h.push { cls:=.type "dict",data:=.dict #[] }) h.objs.size (.dK []):=
 ⟨Nat.zero_le _,beq_eq_false_iff_ne.mpr (Ne.symm (Nat.ne_of_lt hb)),[],.nil,Heap.DictOf.new h⟩
noncomputable def tDNewK:TE:=fun _ H Q=>∀p,H p=none→Q (.ref p) (upd H p (.dK []))
section
variable {X:Cx}{pos:Pos}
theorem pe_dnewK:PE X (.Dict [] [] pos) tDNewK:=fun pins s σ H Q I h=>
 wpAny_Dict_empty ⟨.ref s.heap.objs.size,_,I.laid (a:=s.heap.objs.size) (o:=.dK []) (t':=s.toks) (fun _ _ q=>Heap.get?_push_of_some _ q) (Nat.le_refl _) (dk_empty s.heap I.big),rfl,h _ (I.hok.fresh (Nat.le_refl _))⟩
end
noncomputable def mergeK (kvs more:List (Key×V)):List (Key×V):=more.foldl (fun acc kv=>putK acc kv.1 kv.2) kvs
theorem KV.merge:∀{more:List (Key×V)}{rs:List (Key×Value)}{kvs:List (Key×V)}{vs:List (Key×Value)},KV more rs→KV kvs vs→KV (mergeK kvs more) (merged vs rs):=by
 intro more rs kvs vs r
 unfold KV at r
 induction r generalizing kvs vs with
 | nil=>intro q;exact q
 | @cons p q ps qs h t ih=>
  intro r0
  have e:KV (putK kvs p.1 p.2) (stored vs q.1 q.2):=by
   have:=r0.put p.1 h.2
   rw [← h.1];exact this
  exact ih e
structure M1 (X:Cx) (o:Expr) (m:Str) (apos:Pos) (e:Expr) (cpos:Pos):Prop where
 base:attributeBase o m X.env (eval o X.env)=eval o X.env
 few:((backTo cpos (starEach [e] X.env)).all (fun x=>!x.1) && (backToKw cpos (keywordEach [] X.env)).all (fun x=>x.1.isSome)
  && decide (([e]:List Expr).length+([]:List Keyword).length+(if ([]:List Keyword).isEmpty then 0 else 1)<30))=true
 line:(apos.endLine == cpos.line)=true
 trees:backTo cpos (starEach [e] X.env)=[(false,eval e X.env)]
structure M2 (X:Cx) (o:Expr) (m:Str) (apos:Pos) (e f:Expr) (cpos:Pos):Prop where
 base:attributeBase o m X.env (eval o X.env)=eval o X.env
 few:((backTo cpos (starEach [e,f] X.env)).all (fun x=>!x.1) && (backToKw cpos (keywordEach [] X.env)).all (fun x=>x.1.isSome)
  && decide (([e,f]:List Expr).length+([]:List Keyword).length+(if ([]:List Keyword).isEmpty then 0 else 1)<30))=true
 line:(apos.endLine == cpos.line)=true
 trees:backTo cpos (starEach [e,f] X.env)=[(false,eval e X.env),(false,eval f X.env)]
noncomputable def IsD (H:Hp) (a:Addr):Prop:=(∃kvs,Rd H a (.dK kvs))∨∃kvs,Rd H a (.dT kvs)
theorem isD_at {X:Cx}{pins:List (Addr×Obj)}{σ:St}{H:Hp}{s:Shared}{a:Addr} (I:Inv X pins σ H s) (d:IsD H a) :
  s.TypeIs (.ref a) "dict"∧(∀b,Value.ref a=.ref b→∃ob,s.heap.get? b=some ob∧ob.dict=none)∧(a == sysModules)=false:=by
 rcases d with ⟨kvs,e⟩ | ⟨kvs,e⟩
 ·obtain⟨_,hd,vs,_,dd⟩:=dk_rd I.hok e
  refine⟨dd.typeIs,fun b q=>?_,hd⟩
  cases q
  obtain⟨ob,_,_,h1,h2,_⟩:=dd
  exact⟨ob,h1,h2.2.1⟩
 ·obtain⟨_,hd,xs,_,dd⟩:=dt_rd I.hok e
  refine⟨dd.typeIs,fun b q=>?_,hd⟩
  cases q
  obtain⟨ob,_,_,h1,h2,_⟩:=dd
  exact⟨ob,h1,h2.2.1⟩
section
variable {X:Cx}{pins:List (Addr×Obj)}{σ:St}{H:Hp}{s:Shared}{a:Addr}{y d:V}{u r:Value}{o:Option V}{A:Around}{E:Value→Shared→Prop}
theorem d_get2 {Q:Value→Shared→Prop} (hu:A.units+1<cLine) (I:Inv X pins σ H s) (g:DGet H a y o) (ry:RelV y u) (rd:RelV d r) (h:∀w' s',Inv X pins σ H s'→RelV (o.getD d) w'→Q w' s') :
  wpAny (model X.prog X.w) A (call (.builtin "dict.get") [.ref a,u,r]) Q E s:=by
 rcases g with ⟨kvs,k,e,ey,l⟩ | ⟨kvs,k,b,e,ey,eb,l⟩
 ·subst ey
  obtain⟨z,hd,vs,rel,dd⟩:=dk_rd I.hok e
  refine call_meetsIn PySem.F.slot_dict_get dd.typeIs PySem.F.entry_dict_get (PySem.F.args_dict_get_3 _ _ _) (meets_dict_get_default (mixKind X.prog X.w) a (kV_is ry) hd r) ⟨_,dd.mapOf,h _ _ (I.tok _) ?_⟩
  rw [l]
  exact(rel.val k).getD rd
 ·subst ey
  cases (show u=Value.ref b from ry)
  obtain⟨z,hd,xs,rel,dd⟩:=dt_rd I.hok e
  refine call_meetsIn PySem.F.slot_dict_get dd.typeIs PySem.F.entry_dict_get (PySem.F.args_dict_get_3 _ _ _) (meetsH_dict_get_default (tupleKind (mixKind X.prog X.w)) a b hd r) ⟨tupleKind_room_in1 hu,k,xs,key_of I.hok eb,dd,h _ _ (I.tok _) ?_⟩
  rw [l]
  exact(rel.val k).getD rd
end
noncomputable def tDGet2 (td ty tx:TE):TE:=fun σ H Q=>td σ H fun x H1=>∃a,x=.ref a∧IsD H1 a∧ty σ H1 fun y H2=>tx σ H2 fun z H3=>∃o,DGet H3 a y o∧Q (o.getD z) H3
section
variable {X:Cx}{o e f:Expr}{apos cpos:Pos}{td ty tx:TE}
theorem pe_dget2 (hu:X.A.units+1<cLine) (ho:PE X o td) (he:PE X e ty) (hf:PE X f tx) (m:M2 X o "get" apos e f cpos):PE X (.Call (.Attribute o "get" apos) [e,f] [] cpos) (tDGet2 td ty tx):=by
 intro pins s σ H Q I h
 refine wpAny_Call_method m.base m.few m.line PySem.F.plainAttrs_dict PySem.F.slot_dict_get PySem.F.type_dict_get (thn (ho pins s σ H _ I h) fun u s1 ⟨x,H1,I1,rx,a,ex,d,q1⟩=>?_)
 subst ex
 obtain rfl:u=Value.ref a:=rx
 obtain⟨t1,t2,_⟩:=isD_at I1 d
 refine⟨t1,t2,?_⟩
 rw [m.trees]
 refine Calls.callWith_builtin rfl (Calls.evalArgs_plain (Calls.spliced_cons (thn (he pins s1 σ H1 _ I1 q1) fun iv s2 ⟨y,H2,I2,ry,q2⟩=>
  Calls.spliced_cons (thn (hf pins s2 σ H2 _ I2 q2) fun fv s3 ⟨z,H3,I3,rz,ov,g,q3⟩=>Calls.spliced_nil ?_))))
 exact d_get2 hu I3 g ry rz fun w' s4 I4 rw'=>⟨_,H3,I4,rw',q3⟩
end
section
variable {X:Cx}{pins:List (Addr×Obj)}{σ:St}{H:Hp}{s:Shared}{a:Addr}{kvs:List (Key×V)}{A:Around}{E:Value→Shared→Prop}
end
section
variable {X:Cx}{pins:List (Addr×Obj)}{σ:St}{H:Hp}{s:Shared}{a:Addr}{y:V}{u:Value}{A:Around}{E:Value→Shared→Prop}
end
end L2
namespace Att
open PySem PySem.W PySem.Calls PyProof.Rows
end Att
namespace L2
open PySem PySem.Spec PyProof.Rows
section
variable {X:Cx}
end
section
variable {κ:Type} [DecidableEq κ]
end
theorem Kh:typeLookup (.type "list_reverseiterator") (Str.ofString "__len__")=pure none:=by with_unfolding_all rfl
theorem Wx:typeLookup (.type "list_reverseiterator") (Str.ofString "__length_hint__")=pure (some (.builtin "list_reverseiterator.__length_hint__")):=by with_unfolding_all rfl
theorem Kl:splitId "list_reverseiterator.__length_hint__"=some ("list_reverseiterator","__length_hint__"):=by with_unfolding_all rfl
theorem YX:isSubtype (.type "list_reverseiterator") (.type "list_reverseiterator")=pure true:=by with_unfolding_all rfl
theorem Km {prog:Program}{w:World}{A:Around}{E:Value→Shared→Prop}{s:Shared}{I:Addr}{Q:Bool→Shared→Prop} (ty:s.TypeIs (.ref I) "list_reverseiterator") (q:Q false s):wpAny (model prog w) A (Builtin.List.listLengthHint (.ref I)) Q E s:=by
 unfold Builtin.List.listLengthHint
 refine wpAny_bind (wpAny_specialOf ty Kh ?_)
 dsimp only
 rw [if_neg (by with_unfolding_all decide)]
 simp only [Option.isSome_none,Bool.false_eq_true,↓reduceIte]
 refine wpAny_bind (wpAny_specialOf ty Wx ?_)
 dsimp only
 rw [Kl]
 dsimp only
 refine wpAny_bind (wpAny_isInstance ty YX ?_)
 simp only [Bool.not_true,Bool.false_eq_true,↓reduceIte]
 rw [if_pos (by with_unfolding_all decide),if_neg (by with_unfolding_all decide)]
 exact wpAny_pure q
section
variable {X:Cx}
theorem Wy:MtR X "str.find" (fun x vs H Q=>∃a b,x=.str a∧vs=[.str b]∧Q (.int (Txt.find a b)) H):=by
 intro pins s σ H x xs v us Q I rx rs h
 obtain⟨a,b,rfl,rfl,q⟩:=h
 obtain⟨t,rfl⟩:=rx
 obtain⟨u,rfl,w1⟩:=vals1 rs
 obtain⟨t',rfl⟩:=w1
 exact SC.find ⟨.int (Txt.find a b),H,I.tok _,⟨_,rfl⟩,q⟩
theorem Xg {ys:List Str}:∀{us:List Value},Vals (ys.map V.str) us→StrsAre us ys:=by
 induction ys with
 | nil=>intro us r;rw [List.map_nil] at r;cases r;exact .nil
 | cons n ns ih=>
  intro us r
  rw [List.map_cons] at r
  cases r with
  | cons r1 r2=>
   obtain⟨t,e⟩:=r1
   subst e
   exact .cons n t (ih r2)
theorem Wz:OpR X (binaryOp .Mult) (fun x y H Q=>∃a n,x=.str a∧y=.int n∧MulOk a n∧Q (.str (Txt.mul a n)) H):=by
 intro pins s σ H x y v u Q I rx ry h
 obtain⟨a,n,rfl,rfl,ok,q⟩:=h
 obtain⟨t,rfl⟩:=rx
 obtain⟨t',rfl⟩:=ry
 exact SB.mul ok fun _ _=>⟨.str (Txt.mul a n),H,I.tok _,⟨_,rfl⟩,q⟩
noncomputable def Its (x:Str):It:=⟨fun i _=>i<x.cps.size,fun i H v H'=>H'=H∧∃c,x.cps[i]?=some c∧v=.str ⟨#[c]⟩,fun i _=>x.cps.size≤i⟩
theorem Qj {P:Program}{w:World}{K:PySem.W.Frag}{tg:Expr} (it:Addr) (x:Str) (t:Tok) (T:String) (hT:["enumerate","zip","dict_itemiterator","dict_reverseitemiterator","odict_iterator","itertools.zip_longest","itertools.pairwise"].contains T=false)
  (W:∀A:Around,A.handled=none→Walks P w A it [it] [it] x.cps.size (SignAt x) (fun i h=>h.IsStrIter it T x t i))
  (hself:∀(A:Around) (i:Nat) (s:Shared) (Q:Value→Shared→Prop) (E:Value→Shared→Prop),s.heap.IsStrIter it T x t i→Q (.ref it) s→wpAny (model P w) A (pyIter (.ref it)) Q E s) :
  Turn P w K tg (Its x) [it] it (fun i h=>i≤x.cps.size∧h.IsStrIter it T x t i) where
 mem:=by simp
 obj:=fun i h st b hb=>by
  have e:b=it:=by simpa using hb
  subst e
  obtain⟨_,o,e,c,d⟩:=st
  exact⟨o,e,fun v z=>by rw [d] at z;cases z⟩
 keep:=fun i h h' st k=>by
  obtain⟨hi,o,e,c,d⟩:=st
  exact⟨hi,o,k it (by simp) o e,c,d⟩
 item:=by
  intro X hP hw hK hc i pins s σ H E I hf st hg
  subst hP hw hK
  obtain⟨f0,f1,f2,f3,f4,f5⟩:=hf it (by simp)
  refine(W X.A (I.ok.hd hc)).item i s _ _ hg st.2 fun v h' tk hv st' kk=>?_
  obtain⟨c,u,hcc,rfl⟩:=hv
  have I1:Inv X pins σ H { s with heap:=h',toks:=tk }:=I.turned (fun b o hb e=>kk b o (by simpa using hb) e) f0 f1 f3 f4 f5
  obtain⟨o,e,cc,d⟩:=id st'
  exact⟨_,rfl,go_of (s:={ s with heap:=h',toks:=tk }) e cc d hT ⟨.str ⟨#[c]⟩,H,I1,⟨u,rfl⟩,⟨rfl,c,hcc,rfl⟩,⟨hg,st'⟩,fun b hb=>(hf b hb).1⟩⟩
 done:=by
  intro X hP hw hK hc i pins s σ H E I hf st hg
  subst hP hw hK
  obtain⟨f0,f1,f2,f3,f4,f5⟩:=hf it (by simp)
  have e:i=x.cps.size:=Nat.le_antisymm st.1 hg
  subst e
  exact(W X.A (I.ok.hd hc)).done s _ _ st.2 fun h' tk kk=>⟨rfl,I.turned (t':=tk) (fun b o hb e=>kk b o (by simpa using hb) e) f0 f1 f3 f4 f5⟩
 self:=fun A i s Q E st h=>hself A i s Q E st.2 h
noncomputable def zaM (tl:TE):TI:=fun σ H R=>tl σ H fun x H1=>∃a,x=.str a∧R (Its a) H1
theorem WD {tg l:Expr}{tl:TE} (hl:PE X l tl):PI X tg l (zaM tl):=by
 intro pins s σ H R I h
 refine thn (hl pins s σ H _ I h) fun v s1 ⟨x,H1,I1,r1,q1⟩=>?_
 obtain⟨a,rfl,q⟩:=q1
 obtain⟨t,rfl⟩:=r1
 have fp:∀b∈[s1.heap.objs.size],FpOk X pins H1 b:=fun b hb=>by
  have e:b=s1.heap.objs.size:=by simpa using hb
  subst e
  exact I1.fpOk (Nat.le_refl _) (I1.hok.fresh (Nat.le_refl _))
 cases ha:a.cps.all (·<128)
 ·exact wpAny_pyIter_wide ha ⟨s1.heap.objs.size,[s1.heap.objs.size],_,_,H1,rfl,I1.kept (t':=s1.toks) fun b o e=>Heap.get?_push_of_some _ e,
   Qj _ a t "str_iterator" (by decide) (fun A hA=>Walks.strWide hA _ a t) (fun A i s Q E st h=>wpAny_pyIter_striter_wide st h),⟨Nat.zero_le _,_,Heap.get?_push_size _ rfl,rfl,rfl⟩,fp,q⟩
 ·exact wpAny_pyIter_ascii ha ⟨s1.heap.objs.size,[s1.heap.objs.size],_,_,H1,rfl,I1.kept (t':=s1.toks) fun b o e=>Heap.get?_push_of_some _ e,
   Qj _ a t "str_ascii_iterator" (by decide) (fun A hA=>Walks.strAscii hA _ a t) (fun A i s Q E st h=>wpAny_pyIter_striter_ascii st h),⟨Nat.zero_le _,_,Heap.get?_push_size _ rfl,rfl,rfl⟩,fp,q⟩
theorem Ko {x:Str}{g:TG}{tb:TS}{D:Ends}{σ:St}{H:Hp} (Pv:Nat→St→Hp→Prop) (h0:Pv 0 σ H)
  (hs:∀i c σ H,x.cps[i]?=some c→Pv i σ H→g (.str ⟨#[c]⟩) σ H fun σ2 H2=>tb { D with nx:=Pv (i+1),ct:=Pv (i+1),bk:=D.nx } σ2 H2) (hd:∀σ H,Pv x.cps.size σ H→D.nx σ H) :
  ∃W:Nat→Nat→St→Hp→Prop,(∃m,W 0 m σ H)∧∀i m σ H,W i m σ H →
   ((Its x).stop i H∧D.nx σ H)∨((Its x).go i H∧∃N:St→Hp→Prop,(∀σ' H',N σ' H'→∃m',m'<m∧W (i+1) m' σ' H')∧∀v H',(Its x).yld i H v H'→g v σ H' fun σ2 H2=>tb { D with nx:=N,ct:=N,bk:=D.nx } σ2 H2):=by
 refine⟨fun i m σ H=>m=x.cps.size-i∧i≤x.cps.size∧Pv i σ H,⟨x.cps.size,by simp,Nat.zero_le _,h0⟩,?_⟩
 rintro i m σ H ⟨rfl,hi,p⟩
 by_cases hlt:i<x.cps.size
 ·refine .inr ⟨hlt,Pv (i+1),fun σ' H' p'=>⟨x.cps.size-(i+1),by omega,rfl,hlt,p'⟩,fun v H' y=>?_⟩
  obtain⟨e,c,hc,e2⟩:=y
  subst e e2
  exact hs i c σ _ hc p
 ·have e:i=x.cps.size:=by omega
  subst e
  exact .inl ⟨Nat.le_refl _,hd σ H p⟩
theorem Jt {prog:Program}{w:World}{A:Around}{E:Value→Shared→Prop}{s:Shared}{I:Addr}{fp wr:List Addr}{G:Array GenState→Array GenState→Prop}{n:Nat}{P:Nat→Value→Prop}{St:Nat→Shared→Prop}{Q:List Value→Shared→Prop}
  (W:WalksS prog w A.in1 I fp wr G n P St) (hT:∀i s,St i s→s.TypeIs (.ref I) "list_reverseiterator") (hst:St 0 s) (hfp:∀b∈fp,b<s.heap.objs.size) (hI:I∈fp)
  (hQ:∀s' acc,Moved wr G s s'→ItemsOf P acc n→Q acc.toList s') (hn:n≤sizeLine):wpAny (model prog w) A (collect (.ref I)) Q E s:=by
 have hSf:s.heap.objs.size ∉ fp:=fun hm=>Nat.lt_irrefl _ (hfp _ hm)
 have hSI:s.heap.objs.size≠I:=fun e=>hSf (e ▸ hI)
 unfold collect
 refine wpAny_bind (wpAny_runValue (codeAny_builtin F.entry_proto_collect ?_))
 rw [Around.under_plainId F.plain_proto_collect _]
 show wpAny _ A.in1 (newList [] >>= fun l=>again (.builtin "list.__iadd__" ⟨[l,.ref I],[]⟩)) _ _ s
 refine wpAny_bind (wpAny_newObj_type ?_)
 refine wpAny_pure ⟨plainId_quiet F.plain_list_iadd _,codeAny_builtin F.entry_list_iadd ?_⟩
 rw [Around.under_plainId F.plain_list_iadd _]
 have hst₁:=W.frame 0 s (s.heap.push { cls:=.type "list",data:=.seq ([]:List Value).toArray }) s.toks hst (Nat.le_refl _) fun b _ o e=>Heap.get?_push_of_some _ e
 have hS₁:(s.heap.push { cls:=.type "list",data:=.seq ([]:List Value).toArray }).get? s.heap.objs.size=some { cls:=.type "list",data:=.seq ([]:List Value).toArray }:=Heap.get?_push_size _ rfl
 have h1:Builtin.List.listSameRef (.ref s.heap.objs.size) (.ref I)=false:=by simp [Builtin.List.listSameRef,hSI]
 show wpAny _ A.in1 (Builtin.List.listExtendWith (.ref s.heap.objs.size) (.ref I) (.ref s.heap.objs.size)) _ _ _
 unfold Builtin.List.listExtendWith
 refine wpAny_bind (wpAny_typeOf (hT 0 _ hst₁) ?_)
 rw [if_neg (by rw [h1];decide)]
 refine wpAny_bind (W.self 0 _ _ _ hst₁ ?_)
 refine wpAny_bind (wpAny_holding (Km (hT 0 _ hst₁) ?_))
 rw [if_neg (by decide)]
 refine wpAny_pure ⟨plainId_quiet F.plain_extend_loop _,codeAny_extend_loopS W hn _ hSf _ n 0 _ _ _ rfl (Nat.zero_le _) hst₁ hS₁ (ItemsOf.nil P) fun s' acc' c' hm hS' hacc=>?_⟩
 show wpAny _ A (load s.heap.objs.size >>= _) _ _ s'
 refine wpAny_bind (wpAny_load hS' ?_)
 exact wpAny_pure (hQ s' acc' (Moved.drop_new (o:={ cls:=.type "list",data:=.seq ([]:List Value).toArray }) (tk:=s.toks) hm (Nat.le_refl _)) hacc)
theorem Kp {prog:Program}{w:World}{A:Around}{E:Value→Shared→Prop}{s:Shared}{x:Str}{t:Tok}{Q:Value→Shared→Prop}
 {I:Addr}{fp wr:List Addr}{G:Array GenState→Array GenState→Prop}{n:Nat}{P:Nat→Value→Prop}{St:Nat→Shared→Prop} (W:WalksS prog w A.in1.in1 I fp wr G n P St) (hT:∀i s,St i s→s.TypeIs (.ref I) "list_reverseiterator") (hst:St 0 s) (hfp:∀b∈fp,b<s.heap.objs.size) (hI:I∈fp)
  (hstr:∀i v,P i v→∃y u,v=Value.str y u)
  (hq:∀s' (l:List (Str×Tok)),Moved wr G s s'→ItemsOf P (strValues l).toArray n→JoinOk x (l.map (·.1))=true∧∀t' k,Q (.str (Txt.join x (l.map (·.1))) t') { s' with toks:=k })
  (hsz:n≤sizeLine) :
  wpAny (model prog w) A (call (.builtin "str.join") [.str x t,.ref I]) Q E s:=by
 refine wpAny_call (codeAny_call_builtin F.slot_str_join.plain F.entry_str_join (F.slot_str_join.check _ _ _ _ _ _ _ _ (typeIs_str _ _ _) (F.args_str_join_2 _ _) ?_))
 rw [join_tree_other]
 refine wpAny_bind (wpAny_typeOf (hT 0 s hst) ?_)
 show wpAny _ A.in1 ((pyIter (.ref I)).tryCatch _ >>= fun it=>collect it >>= fun items=>PySem.joinTail x items) _ _ s
 refine wpAny_bind (wpAny_tryCatch (W.of_in1.self 0 s _ _ hst ?_))
 refine wpAny_bind (Jt W hT hst hfp hI (fun s' acc hm hacc=>?_) hsz)
 obtain⟨l,hl⟩:=exists_strValues acc.toList fun v hv=>by
  obtain⟨j,hj,rfl⟩:=Array.mem_iff_getElem.mp (Array.mem_toList_iff.mp hv)
  exact hstr j _ (hacc.2 j _ (Array.getElem?_eq_getElem hj))
 rw [← hl]
 have hacc':ItemsOf P (strValues l).toArray n:=by rw [hl];simpa using hacc
 obtain⟨hok,hpost⟩:=hq s' l hm hacc'
 unfold JoinOk at hok
 rw [Bool.not_eq_true'] at hok
 have g:Gives (PySem.joinTail x (strValues l)) (joinMade x l):=by
  have g0:=gives_joinTail x l hok
  cases l with
  | nil=>exact g0
  | cons p r=>cases r with
   | nil=>exact g0
   | cons q r'=>exact g0
 exact g prog w A (wants Q E) s' (post_join l ⟨joinFit_length hok,hpost⟩)
noncomputable def Kq (K:W.Frag) (to:TE) (ta:TA):TE:=fun σ H Q=>to σ H fun x H1=>ta σ H1 fun vs H2=>∃(sep:Str) (l:Addr) (ys:List Str),x=.str sep∧vs=[.ref l]∧SqL K H2 l (ys.map V.str)∧(ys.map (·.length)).sum+ys.length*sep.length≤16777216∧Q (.str (Txt.join sep ys.reverse)) H2
theorem Xh {o a:Expr}{to:TE}{ta:TA}{p2 pos2 apos cpos:Pos} (hc:X.calm=true) (hg2:Gl X "reversed") (hm2:X.mg "reversed"=none) (ho:PE X o to) (ht:∀σ H Q,to σ H Q→to σ H fun x H1=>(∃sep,x=.str sep)∧Q x H1) (ha:PA X [a] ta)
  (hbase:attributeBase o "join" X.env (eval o X.env)=eval o X.env:=by rfl)
  (hfew:((backTo cpos (starEach [.Call (.Name "reversed" p2) [a] [] pos2] X.env)).all (fun x=>!x.1) && (backToKw cpos (keywordEach [] X.env)).all (fun x=>x.1.isSome)
   && decide (([.Call (.Name "reversed" p2) [a] [] pos2]:List Expr).length+([]:List Keyword).length+(if ([]:List Keyword).isEmpty then 0 else 1)<30))=true:=by rfl)
  (hline:(apos.endLine == cpos.line)=true:=by rfl)
  (hs:starEach [.Call (.Name "reversed" p2) [a] [] pos2] X.env=(false,eval (.Call (.Name "reversed" p2) [a] [] pos2) X.env)::starEach [] X.env:=by rfl) (hs2:(backTo cpos (starEach [] X.env)).any (·.1)=false:=by rfl)
  (hs3:starEach [a] X.env=(false,eval a X.env)::starEach [] X.env:=by rfl) (hs4:(backTo pos2 (starEach [] X.env)).any (·.1)=false:=by rfl) :
  PE X (.Call (.Attribute o "join" apos) [.Call (.Name "reversed" p2) [a] [] pos2] [] cpos) (Kq X.K to ta):=by
 intro pins s σ H Q I h
 refine wpAny_Call_method_late hbase hfew hline rfl (thn (ho pins s σ H _ I (ht σ H _ h)) fun v s1 ⟨x,H1,I1,r1,⟨sep0,esep⟩,q1⟩=>?_)
 subst esep
 obtain⟨t1,rfl⟩:=r1
 refine⟨"str","str.join",F.plainAttrs_str,F.slot_str_join,F.type_str_join,typeIs_str s1 sep0 t1,(fun b e=>nomatch e),?_⟩
 rw [hs]
 refine Calls.callWith_builtin (by show (false || (backTo cpos (starEach [] X.env)).any (·.1))=false;rw [hs2] <;> rfl) (Calls.evalArgs_plain ?_)
 show wpAny _ _ (spliced ((false,eval (.Call (.Name "reversed" p2) [a] [] pos2) X.env)::backTo cpos (starEach [] X.env))) _ _ s1
 refine Calls.spliced_cons (Call_ (ld_blt I1 hg2 hm2 Zh (PyProof.Rows.callWith_type1 (thn (ha pos2 pins s1 σ H1 _ I1 q1) fun us s2 ⟨vs,H2,I2,r2,q2⟩=>?_) hs3 hs4)))
 obtain⟨sep,l,ys,e0,e,hq,hz,q⟩:=q2
 cases e0
 subst e
 obtain⟨u,rfl,w1⟩:=vals1 r2
 cases w1
 obtain⟨its,v1,p1,z1⟩:=I2.list hq
 have hl:l<s2.heap.objs.size:=by obtain⟨_,_,e,_⟩:=p1;exact Heap.lt_size e
 have hlen:=v1.length
 refine call_reversed_list p1.isList ?_
 refine Calls.spliced_nil ?_
 have hne:l≠s2.heap.objs.size:=Nat.ne_of_lt hl
 have hsz:(s2.heap.push (revObj l ((its.toArray.size:Int)-1))).objs.size=s2.heap.objs.size+1:=Heap.size_push ..
 have hr:(s2.heap.push (revObj l ((its.toArray.size:Int)-1))).get? s2.heap.objs.size=some (revObj l ((its.toArray.size:Int)-1)):=Heap.get?_push_size _ rfl
 have W:=(PySem.Walks.listRev (prog:=X.prog) (w:=X.w) (A:=X.A.in1.in1) (I.ok.hd hc) s2.heap.objs.size l hne its.toArray).toS
 have SA:StrsAre its ys:=Xg v1
 obtain⟨ls,els,eys⟩:=strsAre_values SA
 refine Kp W (fun i s st=>st.2.1.typeIs) ⟨Nat.zero_le _,⟨_,hr,rfl,?_⟩,?_⟩ (fun b hb=>?_) (by simp) (fun i v hv=>?_) (fun s' lv m it=>?_) (by rw [List.size_toArray];omega)
 ·show Data.fields #[Value.ref l,rawInt ((its.toArray.size:Int)-1)]=Data.fields #[Value.ref l,rawInt ((its.toArray.size:Int)-1-((0:Nat):Int))]
  rw [show (its.toArray.size:Int)-1-((0:Nat):Int)=(its.toArray.size:Int)-1 by omega]
 ·obtain⟨o,ho,rr⟩:=p1.isList
  exact⟨o,Heap.get?_push_of_some _ ho,rr⟩
 ·show b<(s2.heap.push (revObj l ((its.toArray.size:Int)-1))).objs.size
  rw [hsz]
  simp only [List.mem_cons,List.not_mem_nil,or_false] at hb
  rcases hb with e | e
  ·rw [e];exact Nat.lt_succ_self _
  ·rw [e];exact Nat.lt_succ_of_lt hl
 ·have hm:=List.mem_of_getElem? (by simpa using hv:its[its.toArray.size-1-i]?=some v)
  rw [els] at hm
  obtain⟨pr,_,e⟩:=List.mem_map.mp hm
  exact⟨_,_,e.symm⟩
 ·have elv:strValues lv=its.reverse:=by
   apply List.ext_getElem?
   intro j
   have h1:=it.1
   by_cases hj:j<its.length
   ·have hj2:j<(strValues lv).length:=by have:(strValues lv).toArray.size=its.toArray.size:=h1;simp only [List.size_toArray] at this;omega
    have:=it.2 j (strValues lv)[j] (by simp [List.getElem?_eq_getElem hj2])
    rw [List.size_toArray] at this
    rw [List.getElem?_reverse hj,List.getElem?_eq_getElem hj2]
    simpa using this.symm
   ·have h2:(strValues lv).length=its.length:=by simpa using h1
    rw [List.getElem?_eq_none (by omega),List.getElem?_eq_none (by rw [List.length_reverse];omega)]
  have em:lv.map (·.1)=ys.reverse:=by
   have e1:strValues lv=strValues ls.reverse:=by rw [elv,els];simp [strValues]
   have e2:∀(a b:List (Str×Tok)),strValues a=strValues b→a.map (·.1)=b.map (·.1):=by
    intro a
    induction a with
    | nil=>intro b e;cases b with
     | nil=>rfl
     | cons _ _=>simp [strValues] at e
    | cons p r ih=>intro b e;cases b with
     | nil=>simp [strValues] at e
     | cons p' r'=>
      simp only [strValues,List.map_cons,List.cons.injEq] at e
      have e3:=e.1
      injection e3 with e4 _
      rw [List.map_cons,List.map_cons,e4,ih r' e.2]
   rw [e2 _ _ e1,List.map_reverse,eys]
  refine⟨by rw [em];exact joinOk_of (by rw [List.map_reverse,List.sum_reverse,List.length_reverse];exact hz),fun t' k=>?_⟩
  rw [em]
  have es:({ s' with toks:=k }:Shared)={ s2 with heap:=s'.heap,toks:=k }:=by
   have g:=m.gens
   have d:=m.drawn
   have o:=m.os
   cases s'
   simp only at g d o
   subst g d o
   rfl
  rw [es]
  have kp:∀b u,s2.heap.get? b=some u→s'.heap.get? b=some u:=fun b u e=>m.heap b u (by
   have:=Heap.lt_size e
   simp only [List.mem_cons,List.not_mem_nil,or_false]
   exact fun z=>by rw [z] at this;exact Nat.lt_irrefl _ this) (Heap.get?_push_of_some _ e)
  exact⟨.str (Txt.join sep0 ys.reverse),H2,I2.kept (t':=k) kp,⟨_,rfl⟩,q⟩
end
end L2
namespace L2
open PySem PySem.Spec PyProof.Rows PySem.SeqAt
noncomputable def dV:V→PyData
 | .bl b=>.bool b
 | .int i=>.int i
 | .str x=>.str x
 | _=>.none
section
variable {X:Cx}
end
end L2
namespace L2
open PySem PySem.Spec PyProof.Rows
end L2
namespace SB
open PySem PyProof.Rows
abbrev kx (p:Keyed):Int:=numOf p.1
abbrev LE (x y:Keyed):Prop:=kx x≤kx y
structure MI (W out U V:List Keyed):Prop where
 so:out.Pairwise LE
 su:U.Pairwise LE
 sv:V.Pairwise LE
 ou:∀x∈out,∀y∈U,LE x y
 ov:∀x∈out,∀y∈V,LE x y
 pm:(out++U++V).Perm W
theorem MI.takeU {W out U1 U2 V:List Keyed} (h:MI W out (U1++U2) V) (c:∀x∈U1,∀y∈V,LE x y):MI W (out++U1) U2 V:=by
 obtain⟨so,su,sv,ou,ov,pm⟩:=h
 have s:=List.pairwise_append.mp su
 refine⟨List.pairwise_append.mpr ⟨so,s.1,fun x hx y hy=>ou x hx y (List.mem_append_left _ hy)⟩,s.2.1,sv,fun x hx y hy=>?_,fun x hx y hy=>?_,by simpa only [List.append_assoc] using pm⟩
 ·rcases List.mem_append.mp hx with z | z
  ·exact ou x z y (List.mem_append_right _ hy)
  ·exact s.2.2 x z y hy
 ·rcases List.mem_append.mp hx with z | z
  ·exact ov x z y hy
  ·exact c x z y hy
theorem MI.takeV {W out U V1 V2:List Keyed} (h:MI W out U (V1++V2)) (c:∀x∈V1,∀y∈U,LE x y):MI W (out++V1) U V2:=by
 obtain⟨so,su,sv,ou,ov,pm⟩:=h
 have s:=List.pairwise_append.mp sv
 refine⟨List.pairwise_append.mpr ⟨so,s.1,fun x hx y hy=>ov x hx y (List.mem_append_left _ hy)⟩,su,s.2.1,fun x hx y hy=>?_,fun x hx y hy=>?_,?_⟩
 ·rcases List.mem_append.mp hx with z | z
  ·exact ou x z y hy
  ·exact c x z y hy
 ·rcases List.mem_append.mp hx with z | z
  ·exact ov x z y (List.mem_append_right _ hy)
  ·exact s.2.2 x z y hy
 ·refine List.Perm.trans ?_ pm
  simp only [List.append_assoc]
  refine List.Perm.append_left _ ?_
  rw [← List.append_assoc,← List.append_assoc]
  exact List.Perm.append_right _ List.perm_append_comm
structure Mg (W m:List Keyed):Prop where
 so:m.Pairwise LE
 pm:m.Perm W
theorem MI.fin {W out U V:List Keyed} (h:MI W out U V) (c:∀x∈U,∀y∈V,LE x y):Mg W (out++U++V):=by
 obtain⟨so,su,sv,ou,ov,pm⟩:=h
 refine⟨List.pairwise_append.mpr ⟨List.pairwise_append.mpr ⟨so,su,ou⟩,sv,fun x hx y hy=>?_⟩,pm⟩
 rcases List.mem_append.mp hx with z | z
 ·exact ov x z y hy
 ·exact c x z y hy
theorem MI.fin' {W out U V:List Keyed} (h:MI W out U V) (c:∀x∈V,∀y∈U,LE x y):Mg W (out++V++U):=by
 obtain⟨so,su,sv,ou,ov,pm⟩:=h
 refine⟨List.pairwise_append.mpr ⟨List.pairwise_append.mpr ⟨so,sv,ov⟩,su,fun x hx y hy=>?_⟩,List.Perm.trans ?_ pm⟩
 ·rcases List.mem_append.mp hx with z | z
  ·exact ou x z y hy
  ·exact c x z y hy
 ·simp only [List.append_assoc]
  exact List.Perm.append_left _ List.perm_append_comm
structure MJ (W U V O:List Keyed):Prop where
 so:O.Pairwise LE
 su:U.Pairwise LE
 sv:V.Pairwise LE
 uo:∀x∈U,∀y∈O,LE x y
 vo:∀x∈V,∀y∈O,LE x y
 pm:(U++V++O).Perm W
theorem MJ.takeU {W U1 U2 V O:List Keyed} (h:MJ W (U1++U2) V O) (c:∀x∈V,∀y∈U2,LE x y):MJ W U1 V (U2++O):=by
 obtain⟨so,su,sv,uo,vo,pm⟩:=h
 have s:=List.pairwise_append.mp su
 refine⟨List.pairwise_append.mpr ⟨s.2.1,so,fun x hx y hy=>uo x (List.mem_append_right _ hx) y hy⟩,s.1,sv,fun x hx y hy=>?_,fun x hx y hy=>?_,?_⟩
 ·rcases List.mem_append.mp hy with z | z
  ·exact s.2.2 x hx y z
  ·exact uo x (List.mem_append_left _ hx) y z
 ·rcases List.mem_append.mp hy with z | z
  ·exact c x hx y z
  ·exact vo x hx y z
 ·refine List.Perm.trans ?_ pm
  simp only [List.append_assoc]
  refine List.Perm.append_left _ ?_
  rw [← List.append_assoc,← List.append_assoc]
  exact List.Perm.append_right _ List.perm_append_comm
theorem MJ.takeV {W U V1 V2 O:List Keyed} (h:MJ W U (V1++V2) O) (c:∀x∈U,∀y∈V2,LE x y):MJ W U V1 (V2++O):=by
 obtain⟨so,su,sv,uo,vo,pm⟩:=h
 have s:=List.pairwise_append.mp sv
 refine⟨List.pairwise_append.mpr ⟨s.2.1,so,fun x hx y hy=>vo x (List.mem_append_right _ hx) y hy⟩,su,s.1,fun x hx y hy=>?_,fun x hx y hy=>?_,by simpa only [List.append_assoc] using pm⟩
 ·rcases List.mem_append.mp hy with z | z
  ·exact c x hx y z
  ·exact uo x hx y z
 ·rcases List.mem_append.mp hy with z | z
  ·exact s.2.2 x hx y z
  ·exact vo x (List.mem_append_left _ hx) y z
theorem MJ.fin {W U V O:List Keyed} (h:MJ W U V O) (c:∀x∈U,∀y∈V,LE x y):Mg W (U++V++O):=by
 obtain⟨so,su,sv,uo,vo,pm⟩:=h
 refine⟨List.pairwise_append.mpr ⟨List.pairwise_append.mpr ⟨su,sv,c⟩,so,fun x hx y hy=>?_⟩,pm⟩
 rcases List.mem_append.mp hx with z | z
 ·exact uo x z y hy
 ·exact vo x z y hy
theorem MJ.fin' {W U V O:List Keyed} (h:MJ W U V O) (c:∀x∈V,∀y∈U,LE x y):Mg W (V++U++O):=by
 obtain⟨so,su,sv,uo,vo,pm⟩:=h
 refine⟨List.pairwise_append.mpr ⟨List.pairwise_append.mpr ⟨sv,su,c⟩,so,fun x hx y hy=>?_⟩,List.Perm.trans (List.Perm.append_right _ List.perm_append_comm) pm⟩
 rcases List.mem_append.mp hx with z | z
 ·exact vo x z y hy
 ·exact uo x z y hy
section
variable {prog:Program}{w:World}{A:Around}{E:Value→Shared→Prop}{s:Shared}
noncomputable def IK (x:Keyed):Prop:=∃n t,x.1=.int n t
theorem IK.eq {x:Keyed} (h:IK x):∃t,x=(.int (kx x) t,x.2):=by
 obtain⟨n,t,e⟩:=h
 refine⟨t,?_⟩
 unfold kx
 rw [e]
 exact Prod.ext e rfl
theorem Xi {st:SortSt}{x y:Keyed}{Q:Option Bool→SortSt→Prop} (hk:kindOf st=oneType') (hx:IK x) (hy:IK y) (h:Q (some (decide (kx x<kx y))) st):wpS (model prog w) A E s (lt' x y) Q st:=by
 obtain⟨t,ex⟩:=hx.eq
 obtain⟨u,ey⟩:=hy.eq
 rw [lt'_eq]
 refine wpS_bind (wpS_get ?_)
 rw [hk,ex,ey,keyLt'_oneType]
 refine wpS_bind (wpS_lift (wpAny_attempt (oneLt_int ⟨rfl,?_⟩)))
 exact wpS_pure h
theorem QQ {st:SortSt}{x y:Keyed}{Q:Option Bool→SortSt→Prop} (hk:kindOf st=oneType') (hx:IK x) (hy:IK y) (h:kx x<kx y→Q (some true) st) (h':¬kx x<kx y→Q (some false) st):wpS (model prog w) A E s (lt' x y) Q st:=by
 refine Xi hk hx hy ?_
 by_cases e:kx x<kx y
 ·rw [decide_eq_true e];exact h e
 ·rw [decide_eq_false e];exact h' e
theorem zx {st:SortSt}{arr:Array Keyed}{i:Nat}{x:Keyed}{Q:Keyed→SortSt→Prop} (hx:arr[i]?=some x) (h:Q x st):wpS (model prog w) A E s (elem' arr i) Q st:=by
 rw [elem'_eq,hx]
 exact wpS_pure h
noncomputable def xM:Bool→Keyed→Array Keyed→Nat→Nat→Nat→StateT SortSt Sem (Option Nat):=sortPriv% PySem.Builtin.gallop
noncomputable def Zq:Array Keyed→Array Keyed→StateT SortSt Sem (Array Keyed):=sortPriv% PySem.Builtin.mergeLo
noncomputable def Zr:Array Keyed→Array Keyed→StateT SortSt Sem (Array Keyed):=sortPriv% PySem.Builtin.mergeHi
noncomputable def kZ (left:Bool) (key:Keyed) (arr:Array Keyed) (base i:Nat):StateT SortSt Sem (Option Bool):=do
 let x ← elem' arr (base+i)
 if left then lt' x key else return (← lt' key x).map (!·)
theorem Xj (left:Bool) (key:Keyed) (arr:Array Keyed) (base n hint:Nat):xM left key arr base n hint=(do
 let mut la:=0
 let mut of:=1
 let mut lw:=0
 let mut hg:=0
 let some rg ← kZ left key arr base hint | return none
 if rg then
  let mx:=n-hint
  for _ in [0:n] do
   if of ≥ mx then break
   let some mo ← kZ left key arr base (hint+of) | return none
   if !mo then break
   la:=of
   of:=2*of+1
  lw:=hint+la+1
  hg:=hint+min of mx
 else
  let mx:=hint+1
  for _ in [0:n] do
   if of ≥ mx then break
   let some fo ← kZ left key arr base (hint-of) | return none
   if fo then break
   la:=of
   of:=2*of+1
  lw:=hint+1-min of mx
  hg:=hint-la
 for _ in [0:n] do
  if lw ≥ hg then break
  let m:=lw+(hg-lw) / 2
  let some mo ← kZ left key arr base m | return none
  if mo then lw:=m+1 else hg:=m
 return some hg):=rfl
noncomputable def bb (left:Bool) (key:Keyed) (arr:Array Keyed) (base i:Nat):Bool:=if left then decide (K arr (base+i)<kx key) else !decide (kx key<K arr (base+i))
theorem vA {st:SortSt}{left:Bool}{key:Keyed}{arr:Array Keyed}{base i:Nat}{Q:Option Bool→SortSt→Prop} (hk:kindOf st=oneType') (hkey:IK key) (hx:∃x,arr[base+i]?=some x∧IK x) (h:Q (some (bb left key arr base i)) st):wpS (model prog w) A E s (kZ left key arr base i) Q st:=by
 obtain⟨x,hx,ix⟩:=hx
 unfold kZ
 refine wpS_bind (zx hx ?_)
 have e:K arr (base+i)=kx x:=by unfold K;rw [hx]
 cases left with
 | true=>
  rw [if_pos rfl]
  refine Xi hk ix hkey ?_
  unfold bb at h
  rw [e] at h
  exact h
 | false=>
  rw [if_neg (by decide)]
  refine wpS_bind (Xi hk hkey ix (wpS_pure ?_))
  unfold bb at h
  rw [e] at h
  exact h
theorem WF {left:Bool}{key:Keyed}{arr:Array Keyed}{base n i j:Nat} (hs:∀i j,i≤j→j<n→K arr (base+i)≤K arr (base+j)) (hij:i≤j) (hj:j<n) (h:bb left key arr base j=true):bb left key arr base i=true:=by
 have:=hs i j hij hj
 unfold bb at h ⊢
 cases left with
 | true=>
  rw [if_pos rfl,decide_eq_true_eq] at h ⊢
  omega
 | false=>
  rw [if_neg (by decide),Bool.not_eq_true',decide_eq_false_iff_not] at h ⊢
  omega
theorem jJ {st:SortSt}{left:Bool}{key:Keyed}{arr:Array Keyed}{base n hint:Nat}{Q:Option Nat→SortSt→Prop} (hk:kindOf st=oneType') (hkey:IK key) (hA:∀i,i<n→∃x,arr[base+i]?=some x∧IK x) (hs:∀i j,i≤j→j<n→K arr (base+i)≤K arr (base+j)) (hh:hint<n)
  (h:∀k,k≤n→(∀i,i<k→bb left key arr base i=true)→(∀i,k≤i→i<n→bb left key arr base i=false)→Q (some k) st):wpS (model prog w) A E s (xM left key arr base n hint) Q st:=by
 have mono:∀{i j},i≤j→j<n→bb left key arr base j=true→bb left key arr base i=true:=fun a b c=>WF hs a b c
 have mono':∀{i j},i≤j→j<n→bb left key arr base i=false→bb left key arr base j=false:=fun {i j} a b c=>by
  cases hj:bb left key arr base j with
  | false=>rfl
  | true=>rw [mono a b hj] at c;cases c
 rw [Xj]
 refine wpS_bind (vA hk hkey (hA _ hh) ?_)
 cases hb:bb left key arr base hint
 case' true=>
  dsimp only
  rw [if_pos rfl]
  refine wpS_bind (wpS_mono (wpS_forRange (I:=fun x c st'=>st'=st∧∃la of,c=(none,la,of)∧la<of∧x+1≤of∧hint+la<n∧bb left key arr base (hint+la)=true)
   (Q:=fun c st'=>st'=st∧∃la of,c=(none,la,of)∧la<of∧hint+la<n∧bb left key arr base (hint+la)=true∧(of ≥ n-hint∨bb left key arr base (hint+of)=false)) ?s1 ?f1 ⟨rfl,0,1,rfl,by decide,by decide,hh,hb⟩) ?p1)
  case s1=>
   rintro x c st' _ hx ⟨rfl,la,of,rfl,h1,h2,h3,h4⟩
   dsimp only
   by_cases hge:of ≥ n-hint
   ·rw [if_pos hge]
    exact wpS_pure ⟨rfl,_,_,rfl,h1,h3,h4,.inl hge⟩
   ·rw [if_neg hge]
    refine wpS_bind (vA hk hkey (hA _ (by omega)) ?_)
    cases hb2:bb left key arr base (hint+of) with
    | true=>
     simp only [Bool.not_true,Bool.false_eq_true,if_false]
     exact wpS_pure ⟨rfl,_,_,rfl,by omega,by omega,by omega,hb2⟩
    | false=>
     simp only [Bool.not_false,if_true]
     exact wpS_pure ⟨rfl,_,_,rfl,h1,h3,h4,.inr hb2⟩
  case f1=>
   rintro c st' ⟨rfl,la,of,rfl,h1,h2,h3,h4⟩
   exact⟨rfl,_,_,rfl,h1,h3,h4,.inl (by omega)⟩
  rintro c st' ⟨rfl,la,of,rfl,h1,h3,h4,h5⟩
  dsimp only
  have g1:∀i,i<hint+la+1→bb left key arr base i=true:=fun i hi=>mono (by omega) h3 h4
  have g2:∀i,hint+min of (n-hint)≤i→i<n→bb left key arr base i=false:=fun i hi hin=>by
   rcases h5 with z | z
   ·omega
   ·by_cases y:of ≥ n-hint
    ·omega
    ·exact mono' (by omega) hin z
  have g3:hint+la+1≤hint+min of (n-hint):=by omega
  have g4:hint+min of (n-hint)≤n:=by omega
  generalize hint+la+1=lw at g1 g3 ⊢
  generalize hint+min of (n-hint)=hg at g2 g3 g4 ⊢
 case' false=>
  dsimp only
  rw [if_neg (by decide)]
  refine wpS_bind (wpS_mono (wpS_forRange (I:=fun x c st'=>st'=st∧∃la of,c=(none,la,of)∧la<of∧x+1≤of∧la≤hint∧bb left key arr base (hint-la)=false)
   (Q:=fun c st'=>st'=st∧∃la of,c=(none,la,of)∧la<of∧la≤hint∧bb left key arr base (hint-la)=false∧(of ≥ hint+1∨bb left key arr base (hint-of)=true)) ?s2 ?f2 ⟨rfl,0,1,rfl,by decide,by decide,by omega,hb⟩) ?p2)
  case s2=>
   rintro x c st' _ hx ⟨rfl,la,of,rfl,h1,h2,h3,h4⟩
   dsimp only
   by_cases hge:of ≥ hint+1
   ·rw [if_pos hge]
    exact wpS_pure ⟨rfl,_,_,rfl,h1,h3,h4,.inl hge⟩
   ·rw [if_neg hge]
    refine wpS_bind (vA hk hkey (hA _ (by omega)) ?_)
    cases hb2:bb left key arr base (hint-of) with
    | true=>
     simp only [if_true]
     exact wpS_pure ⟨rfl,_,_,rfl,h1,h3,h4,.inr hb2⟩
    | false=>
     simp only [Bool.false_eq_true,if_false]
     exact wpS_pure ⟨rfl,_,_,rfl,by omega,by omega,by omega,hb2⟩
  case f2=>
   rintro c st' ⟨rfl,la,of,rfl,h1,h2,h3,h4⟩
   exact⟨rfl,_,_,rfl,h1,h3,h4,.inl (by omega)⟩
  rintro c st' ⟨rfl,la,of,rfl,h1,h3,h4,h5⟩
  dsimp only
  have g1:∀i,i<hint+1-min of (hint+1)→bb left key arr base i=true:=fun i hi=>by
   rcases h5 with z | z
   ·omega
   ·by_cases y:of ≥ hint+1
    ·omega
    ·exact mono (by omega) (by omega) z
  have g2:∀i,hint-la≤i→i<n→bb left key arr base i=false:=fun i hi hin=>mono' hi hin h4
  have g3:hint+1-min of (hint+1)≤hint-la:=by omega
  have g4:hint-la≤n:=by omega
  generalize hint+1-min of (hint+1)=lw at g1 g3 ⊢
  generalize hint-la=hg at g2 g3 g4 ⊢
 all_goals
  refine wpS_bind (wpS_mono (wpS_forRange (I:=fun x c st''=>st''=st'∧∃lw hg,c=(none,lw,hg)∧lw≤hg∧hg≤n∧hg-lw≤n-x∧(∀i,i<lw→bb left key arr base i=true)∧(∀i,hg≤i→i<n→bb left key arr base i=false))
   (Q:=fun c st''=>st''=st'∧∃lw hg,c=(none,lw,hg)∧hg≤n∧(∀i,i<hg→bb left key arr base i=true)∧(∀i,hg≤i→i<n→bb left key arr base i=false)) ?_ ?_ ⟨rfl,lw,hg,rfl,g3,g4,by omega,g1,g2⟩) ?_)
  ·rintro x c st'' _ hx ⟨rfl,lw,hg,rfl,hl,hn,hm,h1,h2⟩
   dsimp only
   by_cases hge:lw ≥ hg
   ·rw [if_pos hge]
    have:lw=hg:=by omega
    subst this
    exact wpS_pure ⟨rfl,_,_,rfl,hn,h1,h2⟩
   ·rw [if_neg hge]
    refine wpS_bind (vA hk hkey (hA _ (by omega)) ?_)
    cases hb:bb left key arr base (lw+(hg-lw) / 2) with
    | true=>
     simp only [if_true]
     exact wpS_pure ⟨rfl,_,_,rfl,by omega,hn,by omega,fun i hi=>mono (by omega) (by omega) hb,h2⟩
    | false=>
     simp only [Bool.false_eq_true,if_false]
     exact wpS_pure ⟨rfl,_,_,rfl,by omega,by omega,by omega,h1,fun i hi hin=>mono' hi hin hb⟩
  ·rintro c st'' ⟨rfl,lw,hg,rfl,hl,hn,hm,h1,h2⟩
   have:lw=hg:=by omega
   subst this
   exact⟨rfl,_,_,rfl,hn,h1,h2⟩
  ·rintro c st'' ⟨rfl,lw,hg,rfl,hn,h1,h2⟩
   exact wpS_pure (h hg hn h1 h2)
end
noncomputable def Qk:Nat→StateT SortSt Sem Unit:=sortPriv% PySem.Builtin.setMinGallop
theorem Kr (g:Nat):Qk g=modify fun x=>SortSt.mk' (kindOf x) (arrOf x) (pendingOf x) g (failedOf x):=rfl
theorem Ju (a b:Array Keyed):Zq a b=(do
 rule "list.sort.merge-lo"
 let tt:=a.size+b.size
 let dn (o:Array Keyed) (i j:Nat):=o++a.extract i a.size++b.extract j b.size
 let lA (o:Array Keyed) (i j:Nat):=o++b.extract j b.size++a.extract i a.size
 let mut o:Array Keyed:=#[← elem' b 0]
 let mut ia:=0
 let mut ib:=1
 if ib == b.size then return dn o ia ib
 if ia+1 == a.size then return lA o ia ib
 let mut mg:=gallopOf (← get)
 for _ in [0:tt] do
  let mut ac:=0
  let mut bc:=0
  for _ in [0:tt] do
   let some bW ← lt' (← elem' b ib) (← elem' a ia) | return dn o ia ib
   if bW then
    o:=o.push (← elem' b ib)
    ib:=ib+1
    bc:=bc+1
    ac:=0
    if ib == b.size then return dn o ia ib
    if bc ≥ mg then break
   else
    o:=o.push (← elem' a ia)
    ia:=ia+1
    ac:=ac+1
    bc:=0
    if ia+1 == a.size then return lA o ia ib
    if ac ≥ mg then break
  rule "list.sort.gallop"
  mg:=mg+1
  for _ in [0:tt] do
   if mg > 1 then mg:=mg-1
   Qk mg
   let some k ← xM false (← elem' b ib) a ia (a.size-ia) 0 | return dn o ia ib
   ac:=k
   if k > 0 then
    o:=o++a.extract ia (ia+k)
    ia:=ia+k
    if ia+1 == a.size then return lA o ia ib
    if ia == a.size then return dn o ia ib
   o:=o.push (← elem' b ib)
   ib:=ib+1
   if ib == b.size then return dn o ia ib
   let some k ← xM true (← elem' a ia) b ib (b.size-ib) 0 | return dn o ia ib
   bc:=k
   if k > 0 then
    o:=o++b.extract ib (ib+k)
    ib:=ib+k
    if ib == b.size then return dn o ia ib
   o:=o.push (← elem' a ia)
   ia:=ia+1
   if ia+1 == a.size then return lA o ia ib
   if ac<7 && bc<7 then break
  mg:=mg+1
  Qk mg
 unsupported "internal:list.sort.merge-bound"):=rfl
theorem Jv (a b:Array Keyed):Zr a b=(do
 rule "list.sort.merge-hi"
 let tt:=a.size+b.size
 let dn (o:Array Keyed) (i j:Nat):=a.extract 0 i++b.extract 0 j++o.reverse
 let fB (o:Array Keyed) (i j:Nat):=b.extract 0 j++a.extract 0 i++o.reverse
 let mut na:=a.size-1
 let mut nb:=b.size
 let mut o:Array Keyed:=#[← elem' a na]
 if na == 0 then return dn o na nb
 if nb == 1 then return fB o na nb
 let mut mg:=gallopOf (← get)
 for _ in [0:tt] do
  let mut ac:=0
  let mut bc:=0
  for _ in [0:tt] do
   let some aW ← lt' (← elem' b (nb-1)) (← elem' a (na-1)) | return dn o na nb
   if aW then
    na:=na-1
    o:=o.push (← elem' a na)
    ac:=ac+1
    bc:=0
    if na == 0 then return dn o na nb
    if ac ≥ mg then break
   else
    nb:=nb-1
    o:=o.push (← elem' b nb)
    bc:=bc+1
    ac:=0
    if nb == 1 then return fB o na nb
    if bc ≥ mg then break
  rule "list.sort.gallop"
  mg:=mg+1
  for _ in [0:tt] do
   if mg > 1 then mg:=mg-1
   Qk mg
   let some p ← xM false (← elem' b (nb-1)) a 0 na (na-1) | return dn o na nb
   let k:=na-p
   ac:=k
   if k > 0 then
    o:=o++(a.extract p na).reverse
    na:=p
    if na == 0 then return dn o na nb
   nb:=nb-1
   o:=o.push (← elem' b nb)
   if nb == 1 then return fB o na nb
   let some p ← xM true (← elem' a (na-1)) b 0 nb (nb-1) | return dn o na nb
   let k:=nb-p
   bc:=k
   if k > 0 then
    o:=o++(b.extract p nb).reverse
    nb:=p
    if nb == 1 then return fB o na nb
    if nb == 0 then return dn o na nb
   na:=na-1
   o:=o.push (← elem' a na)
   if na == 0 then return dn o na nb
   if ac<7 && bc<7 then break
  mg:=mg+1
  Qk mg
 unsupported "internal:list.sort.merge-bound"):=rfl
structure Pre (a b:Array Keyed):Prop where
 ka:∀x∈a.toList,IK x
 kb:∀x∈b.toList,IK x
 sa:a.toList.Pairwise LE
 sb:b.toList.Pairwise LE
 na:0<a.size
 nb:0<b.size
 lo:∀x,b[0]?=some x→∀y∈a.toList,LE x y
 hi:∀x,a[a.size-1]?=some x→∀y∈b.toList,LE y x
noncomputable def GS (st st':SortSt):Prop:=kindOf st'=kindOf st∧arrOf st'=arrOf st∧pendingOf st'=pendingOf st∧failedOf st'=failedOf st
theorem GS.refl (st:SortSt):GS st st:=⟨rfl,rfl,rfl,rfl⟩
theorem GS.trans {a b c:SortSt} (h:GS a b) (h':GS b c):GS a c:=⟨h'.1.trans h.1,h'.2.1.trans h.2.1,h'.2.2.1.trans h.2.2.1,h'.2.2.2.trans h.2.2.2⟩
theorem Xk {a:Array Keyed}{i:Nat}{x:Keyed} (h:a[i]?=some x):a.toList[i]?=some x:=by rw [Array.getElem?_toList];exact h
theorem Yv {a:Array Keyed}{i:Nat}{x:Keyed} (h:a[i]?=some x):a.toList.drop i=x::a.toList.drop (i+1):=by
 obtain⟨hi,e⟩:=List.getElem?_eq_some_iff.mp (Xk h)
 rw [List.drop_eq_getElem_cons hi,e]
theorem Yw {a:Array Keyed}{i:Nat}{x:Keyed} (h:a[i]?=some x):a.toList.take (i+1)=a.toList.take i++[x]:=by
 rw [List.take_add_one,Xk h]
 rfl
theorem WK {a:Array Keyed}{j:Nat}{y:Keyed} (h:y∈a.toList.drop j):∃i,j≤i∧i<a.size∧a[i]?=some y∧kx y=K a i:=by
 obtain⟨k,hk⟩:=List.getElem?_of_mem h
 rw [List.getElem?_drop] at hk
 have hl:=(List.getElem?_eq_some_iff.mp hk).1
 rw [Array.length_toList] at hl
 rw [Array.getElem?_toList] at hk
 exact⟨j+k,by omega,hl,hk,by unfold K;rw [hk]⟩
theorem X4 {a:Array Keyed}{j:Nat}{y:Keyed} (h:y∈a.toList.take j):∃i,i<j∧i<a.size∧a[i]?=some y∧kx y=K a i:=by
 obtain⟨k,hk⟩:=List.getElem?_of_mem h
 have hl:=(List.getElem?_eq_some_iff.mp hk).1
 rw [List.length_take,Array.length_toList] at hl
 rw [List.getElem?_take,if_pos (by omega),Array.getElem?_toList] at hk
 exact⟨k,by omega,by omega,hk,by unfold K;rw [hk]⟩
theorem wg {a:Array Keyed} (h:a.toList.Pairwise LE){i j:Nat} (hij:i≤j) (hj:j<a.size):K a i≤K a j:=by
 rcases Nat.lt_or_eq_of_le hij with z | z
 ·have hi:i<a.size:=by omega
  have e1:K a i=kx a[i]:=K_eq hi
  have e2:K a j=kx a[j]:=K_eq hj
  rw [e1,e2]
  have:=List.pairwise_iff_getElem.mp h i j (by rw [Array.length_toList];omega) (by rw [Array.length_toList];omega) z
  exact this
 ·subst z;exact Int.le_refl _
theorem jj {a:Array Keyed} (h:∀x∈a.toList,IK x){i:Nat} (hi:i<a.size):∃x,a[i]?=some x∧IK x:=⟨a[i],getElem?_pos _ i hi,h _ (by simp)⟩
section
variable {W V:List Keyed}{o a b:Array Keyed}{ia ib k:Nat}{x:Keyed}
theorem Ks (h:MI W o.toList (a.toList.drop ia) V) (hx:a[ia]?=some x) (c:∀y∈V,LE x y):MI W (o.push x).toList (a.toList.drop (ia+1)) V:=by
 rw [Yv hx] at h
 rw [Array.toList_push]
 exact MI.takeU (U1:=[x]) h fun z hz y hy=>by rw [List.mem_singleton.mp hz];exact c y hy
theorem Xl (h:MI W o.toList V (b.toList.drop ib)) (hx:b[ib]?=some x) (c:∀y∈V,LE x y):MI W (o.push x).toList V (b.toList.drop (ib+1)):=by
 rw [Yv hx] at h
 rw [Array.toList_push]
 exact MI.takeV (V1:=[x]) h fun z hz y hy=>by rw [List.mem_singleton.mp hz];exact c y hy
theorem yz {a:Array Keyed}{i k:Nat}{z:Keyed} (hz:z∈(a.toList.drop i).take k):∃j,j<k∧i+j<a.size∧kx z=K a (i+j):=by
 obtain⟨j,hj⟩:=List.getElem?_of_mem hz
 have hl:=(List.getElem?_eq_some_iff.mp hj).1
 rw [List.length_take,List.length_drop,Array.length_toList] at hl
 rw [List.getElem?_take,if_pos (by omega),List.getElem?_drop,Array.getElem?_toList] at hj
 exact⟨j,by omega,by omega,by unfold K;rw [hj]⟩
theorem Jw (a:Array Keyed) (i k:Nat):(a.extract i (i+k)).toList=(a.toList.drop i).take k:=by
 rw [Array.toList_extract,List.extract_eq_take_drop,show i+k-i=k by omega]
theorem wj (a:Array Keyed) (i:Nat):(a.extract i a.size).toList=a.toList.drop i:=by
 rw [Array.toList_extract,List.extract_eq_take_drop]
 exact List.take_of_length_le (by rw [List.length_drop,Array.length_toList];omega)
theorem wk (a:Array Keyed) (i:Nat):(a.extract 0 i).toList=a.toList.take i:=by
 rw [Array.toList_extract,List.extract_eq_take_drop,List.drop_zero,Nat.sub_zero]
theorem zaN (h:MI W o.toList (a.toList.drop ia) V) (c:∀j,j<k→∀y∈V,K a (ia+j)≤kx y):MI W (o++a.extract ia (ia+k)).toList (a.toList.drop (ia+k)) V:=by
 rw [← List.take_append_drop k (a.toList.drop ia)] at h
 have:=MI.takeU h fun z hz y hy=>by
  obtain⟨j,hj,_,e⟩:=yz hz
  show kx z≤kx y
  rw [e]
  exact c j hj y hy
 rw [List.drop_drop] at this
 rw [Array.toList_append,Jw]
 exact this
theorem zaO (h:MI W o.toList V (b.toList.drop ib)) (c:∀j,j<k→∀y∈V,K b (ib+j)≤kx y):MI W (o++b.extract ib (ib+k)).toList V (b.toList.drop (ib+k)):=by
 rw [← List.take_append_drop k (b.toList.drop ib)] at h
 have:=MI.takeV h fun z hz y hy=>by
  obtain⟨j,hj,_,e⟩:=yz hz
  show kx z≤kx y
  rw [e]
  exact c j hj y hy
 rw [List.drop_drop] at this
 rw [Array.toList_append,Jw]
 exact this
theorem X5 (h:MI W o.toList (a.toList.drop ia) (b.toList.drop ib)) (e:ib=b.size):Mg W (o++a.extract ia a.size++b.extract ib b.size).toList:=by
 rw [Array.toList_append,Array.toList_append,wj,wj]
 refine h.fin fun x _ y hy=>?_
 rw [e,List.drop_of_length_le (by rw [Array.length_toList];exact Nat.le_refl _)] at hy
 cases hy
theorem zaP (h:MI W o.toList (a.toList.drop ia) (b.toList.drop ib)) (e:ia=a.size):Mg W (o++a.extract ia a.size++b.extract ib b.size).toList:=by
 rw [Array.toList_append,Array.toList_append,wj,wj]
 refine h.fin fun x hx y _=>?_
 rw [e,List.drop_of_length_le (by rw [Array.length_toList];exact Nat.le_refl _)] at hx
 cases hx
theorem X6 (pre:Pre a b) (h:MI W o.toList (a.toList.drop ia) (b.toList.drop ib)) (e:ia+1=a.size):Mg W (o++b.extract ib b.size++a.extract ia a.size).toList:=by
 rw [Array.toList_append,Array.toList_append,wj,wj]
 refine h.fin' fun x hx y hy=>?_
 obtain⟨i,hi1,hi2,hi3,_⟩:=WK hy
 have:i=a.size-1:=by omega
 subst this
 exact pre.hi y hi3 x (List.mem_of_mem_drop hx)
theorem Ze {a:Array Keyed} (h:a.toList.Pairwise LE){i:Nat}{x:Keyed} (hx:a[i]?=some x){y:Keyed} (hy:y∈a.toList.drop i):LE x y:=by
 obtain⟨j,h1,h2,h3,h4⟩:=WK hy
 show kx x≤kx y
 rw [h4,show kx x=K a i by unfold K;rw [hx]]
 exact wg h h1 h2
end
section
variable {prog:Program}{w:World}{A:Around}{E:Value→Shared→Prop}{s:Shared}
theorem wu {st:SortSt}{g:Nat}{Q:Unit→SortSt→Prop} (h:∀st',GS st st'→Q () st'):wpS (model prog w) A E s (Qk g) Q st:=by
 rw [Kr]
 exact wpS_modify (h _ ⟨rfl,rfl,rfl,rfl⟩)
noncomputable def LoI (a b o:Array Keyed) (ia ib:Nat):Prop:=MI (a.toList++b.toList) o.toList (a.toList.drop ia) (b.toList.drop ib)∧ia+1<a.size∧ib<b.size
theorem jn1 {P:Nat→Prop}{R:Prop} (g:(∀i,P i)→R) (b:∀i,P i):R:=g b
theorem jn {α:Type}{C P:α→Nat→Nat→Prop}{R:Prop} (g:(∀o i k,C o i k→P o i k)→R) (b:∀o i k,C o i k→P o i k):R:=g b
theorem Ql {left:Bool}{key:Keyed}{arr:Array Keyed}{base i:Nat} (h:bb left key arr base i=true):K arr (base+i)≤kx key:=by
 unfold bb at h
 split at h
 ·exact Int.le_of_lt (of_decide_eq_true h)
 ·exact Int.not_lt.mp (of_decide_eq_false (Bool.not_eq_true' _ ▸ h))
theorem Qm {left:Bool}{key:Keyed}{arr:Array Keyed}{base i:Nat} (h:bb left key arr base i=false):kx key≤K arr (base+i):=by
 unfold bb at h
 split at h
 ·exact Int.not_lt.mp (of_decide_eq_false h)
 ·exact Int.le_of_lt (of_decide_eq_true (Bool.not_eq_false' _ ▸ h))
theorem qL {st:SortSt}{α:Type}{c:Prop} [Decidable c] {x y:StateT SortSt Sem α}{Q:α→SortSt→Prop} (h1:c→wpS (model prog w) A E s x Q st) (h2:¬c→wpS (model prog w) A E s y Q st):wpS (model prog w) A E s (if c then x else y) Q st:=by
 by_cases e:c
 ·rw [if_pos e];exact h1 e
 ·rw [if_neg e];exact h2 e
theorem zU {st:SortSt}{α:Type}{i j:Nat}{x y:StateT SortSt Sem α}{Q:α→SortSt→Prop} (h1:i=j→wpS (model prog w) A E s x Q st) (h2:i≠j→wpS (model prog w) A E s y Q st):wpS (model prog w) A E s (if (i == j)=true then x else y) Q st:=
 qL (fun e=>h1 (eq_of_beq e)) fun e=>h2 fun z=>e (beq_iff_eq.mpr z)
theorem Jx {st:SortSt}{a b:Array Keyed}{Q:Array Keyed→SortSt→Prop} (hk:kindOf st=oneType') (pre:Pre a b)
  (h:∀m st',Mg (a.toList++b.toList) m.toList→GS st st'→Q m st'):wpS (model prog w) A E s (Zq a b) Q st:=by
 rw [Ju]
 refine wpS_bind (wpS_lift (wpAny_rule ⟨rfl,?_⟩))
 obtain⟨b0,hb0,_⟩:=jj pre.kb pre.nb
 refine wpS_bind (zx hb0 ?_)
 dsimp only
 have h0:MI (a.toList++b.toList) (#[]:Array Keyed).toList (a.toList.drop 0) (b.toList.drop 0):=⟨List.Pairwise.nil,pre.sa,pre.sb,(fun _ z=>nomatch z),(fun _ z=>nomatch z),List.Perm.refl _⟩
 have h1:MI (a.toList++b.toList) (#[b0]:Array Keyed).toList (a.toList.drop 0) (b.toList.drop 1):=Xl h0 hb0 fun y hy=>pre.lo b0 hb0 y hy
 refine zU (fun e1=>wpS_pure (h _ _ (X5 h1 e1) (GS.refl _))) fun e1=>?_
 refine zU (fun e2=>wpS_pure (h _ _ (X6 pre h1 e2) (GS.refl _))) fun e2=>?_
 have na:=pre.na
 have nb:=pre.nb
 have L1:LoI a b #[b0] 0 1:=⟨h1,by omega,by omega⟩
 refine wpS_bind (wpS_get ?_)
 generalize gallopOf st=mg0
 refine wpS_bind (wpS_mono (wpS_forRange (I:=fun x c st'=>GS st st'∧∃o ia ib mg,c=(none,o,ia,ib,mg)∧LoI a b o ia ib∧x≤ia+ib)
  (Q:=fun c st'=>GS st st'∧∃m o ia ib mg,c=(some m,o,ia,ib,mg)∧Mg (a.toList++b.toList) m.toList) ?step ?fin ⟨GS.refl _,_,_,_,_,rfl,L1,by omega⟩) ?post)
 case post=>
  rintro c st' ⟨g,m,o,ia,ib,mg,rfl,hm⟩
  exact wpS_pure (h m st' hm g)
 case fin=>
  rintro c st' ⟨g,o,ia,ib,mg,rfl,⟨_,h2,h3⟩,hx⟩
  exfalso
  omega
 case step=>
  rintro x c st1 _ hx ⟨g1,o1,ia1,ib1,mg1,rfl,L1,p1⟩
  dsimp only
  have hk1:kindOf st1=oneType':=g1.1.trans hk
  refine wpS_bind (wpS_mono (wpS_forRange (I:=fun y c st'=>st'=st1∧∃o ia ib ac bc,c=(none,o,ia,ib,ac,bc)∧LoI a b o ia ib∧ia+ib=ia1+ib1+y)
   (Q:=fun c st'=>st'=st1∧((∃m o ia ib ac bc,c=(some m,o,ia,ib,ac,bc)∧Mg (a.toList++b.toList) m.toList)∨(∃o ia ib ac bc,c=(none,o,ia,ib,ac,bc)∧LoI a b o ia ib∧ia1+ib1+1≤ia+ib))) ?s2 ?f2 ⟨rfl,_,_,_,_,_,rfl,L1,by omega⟩) ?p2)
  case f2=>
   rintro c st' ⟨rfl,o,ia,ib,ac,bc,rfl,⟨m1,m2,m3⟩,hy⟩
   exfalso
   omega
  case s2=>
   rintro y c st' _ hy ⟨rfl,o,ia,ib,ac,bc,rfl,⟨m1,m2,m3⟩,hp⟩
   dsimp only
   obtain⟨bx,hbx,kbx⟩:=jj pre.kb m3
   obtain⟨ax,hax,kax⟩:=jj pre.ka (show ia<a.size by omega)
   refine wpS_bind (zx hbx (wpS_bind (zx hax (wpS_bind (QQ hk1 kbx kax (fun hw=>?_) fun hw=>?_)))))
   ·refine wpS_bind (zx hbx ?_)
    have M:=Xl m1 hbx fun z hz=>Int.le_trans (Int.le_of_lt hw) (Ze pre.sa hax hz)
    refine zU (fun e1=>wpS_pure ⟨rfl,.inl ⟨_,_,_,_,_,_,rfl,X5 M e1⟩⟩) fun e1=>?_
    have L:LoI a b (o.push bx) ia (ib+1):=⟨M,m2,by omega⟩
    exact qL (fun _=>wpS_pure ⟨rfl,.inr ⟨_,_,_,_,_,rfl,L,by omega⟩⟩) fun _=>wpS_pure ⟨rfl,_,_,_,_,_,rfl,L,by omega⟩
   ·refine wpS_bind (zx hax ?_)
    have M:=Ks m1 hax fun z hz=>Int.le_trans (Int.not_lt.mp hw) (Ze pre.sb hbx hz)
    refine zU (fun e1=>wpS_pure ⟨rfl,.inl ⟨_,_,_,_,_,_,rfl,X6 pre M e1⟩⟩) fun e1=>?_
    have L:LoI a b (o.push ax) (ia+1) ib:=⟨M,by omega,m3⟩
    exact qL (fun _=>wpS_pure ⟨rfl,.inr ⟨_,_,_,_,_,rfl,L,by omega⟩⟩) fun _=>wpS_pure ⟨rfl,_,_,_,_,_,rfl,L,by omega⟩
  case p2=>
   rintro c st' ⟨rfl,⟨m,o,ia,ib,ac,bc,rfl,hm⟩ | ⟨o2,ia2,ib2,ac2,bc2,rfl,L2,p2⟩⟩
   ·exact wpS_pure ⟨g1,_,_,_,_,_,rfl,hm⟩
   ·dsimp only
    refine wpS_bind (wpS_lift (wpAny_rule ⟨rfl,?_⟩))
    refine wpS_bind (wpS_mono (wpS_forRange (I:=fun y c st''=>GS st st''∧∃o ia ib mg ac bc,c=(none,o,ia,ib,mg,ac,bc)∧LoI a b o ia ib∧ia2+ib2≤ia+ib)
     (Q:=fun c st''=>GS st st''∧((∃m o ia ib mg ac bc,c=(some m,o,ia,ib,mg,ac,bc)∧Mg (a.toList++b.toList) m.toList)∨(∃o ia ib mg ac bc,c=(none,o,ia,ib,mg,ac,bc)∧LoI a b o ia ib∧ia2+ib2≤ia+ib))) ?s3 (fun c st''=>.imp_right .inr) ⟨g1,_,_,_,_,_,_,rfl,L2,by omega⟩) ?p3)
    case p3=>
     rintro c st'' ⟨g,⟨m,o,ia,ib,mg,ac,bc,rfl,hm⟩ | ⟨o3,ia3,ib3,mg3,ac3,bc3,rfl,L3,p3⟩⟩
     ·exact wpS_pure ⟨g,_,_,_,_,_,rfl,hm⟩
     ·dsimp only
      exact wpS_bind (wu fun st3 g3=>wpS_pure ⟨g.trans g3,_,_,_,_,rfl,L3,by omega⟩)
    case s3=>
     rintro y c st'' _ hy ⟨g,o,ia,ib,mg,ac,bc,rfl,⟨m1,m2,m3⟩,hp⟩
     dsimp only
     obtain⟨bx,hbx,kbx⟩:=jj pre.kb m3
     apply jn1
     case g=>
      intro G
      refine qL (fun _=>?_) fun _=>?_
      ·generalize mg-1=m
       exact G m
      ·exact G mg
     case b=>
     intro m
     refine wpS_bind (wu fun st3 g3=>?_)
     have gg:=g.trans g3
     have hk3:kindOf st3=oneType':=gg.1.trans hk
     refine wpS_bind (zx hbx (wpS_bind (jJ hk3 kbx (fun i hi=>jj pre.ka (by omega)) (fun i j hij hj=>wg pre.sa (by omega) (by omega)) (by omega) fun k k1 k2 k3=>?_)))
     dsimp only
     have c2:∀z∈a.toList.drop (ia+k),LE bx z:=fun z hz=>by
      obtain⟨i,h1,h2,h3,h4⟩:=WK hz
      have:=Qm (k3 (i-ia) (by omega) (by omega))
      rwa [show ia+(i-ia)=i by omega,← h4] at this
     have M:=zaN (k:=k) m1 fun j hj z hz=>Int.le_trans (Ql (k2 j hj)) (Ze pre.sb hbx hz)
     apply jn (C:=fun(o':Array Keyed) i' _=>MI (a.toList++b.toList) o'.toList (a.toList.drop i') (b.toList.drop ib)∧i'+1<a.size∧(∀z∈a.toList.drop i',LE bx z)∧ia2+ib2≤i'+ib)
     case g=>
      intro G
      refine qL (fun hkp=>?_) fun hkp=>?_
      ·refine zU (fun e1=>wpS_pure ⟨gg,.inl ⟨_,_,_,_,_,_,_,rfl,X6 pre M e1⟩⟩) fun e1=>?_
       refine zU (fun e2=>wpS_pure ⟨gg,.inl ⟨_,_,_,_,_,_,_,rfl,zaP M e2⟩⟩) fun e2=>?_
       have hia:ia+k+1<a.size:=by omega
       have hp':ia2+ib2≤ia+k+ib:=by omega
       have M':=M
       have c3:=c2
       generalize o++a.extract ia (ia+k)=o' at M' ⊢
       generalize ia+k=ia' at M' hia c3 hp' ⊢
       generalize k=k'
       exact G o' ia' k' ⟨M',hia,c3,hp'⟩
      ·exact G o ia k ⟨m1,m2,(by rw [show k=0 by omega] at c2;exact c2),hp⟩
     case b=>
     rintro o' ia' k' ⟨M',hia,c3,hp'⟩
     refine wpS_bind (zx hbx ?_)
     have N:=Xl M' hbx c3
     refine zU (fun e1=>wpS_pure ⟨gg,.inl ⟨_,_,_,_,_,_,_,rfl,X5 N e1⟩⟩) fun e1=>?_
     obtain⟨ax,hax,kax⟩:=jj pre.ka (show ia'<a.size by omega)
     refine wpS_bind (zx hax (wpS_bind (jJ hk3 kax (fun i hi=>jj pre.kb (by omega)) (fun i j hij hj=>wg pre.sb (by omega) (by omega)) (by omega) fun kk q1 q2 q3=>?_)))
     dsimp only
     have d2:∀z∈b.toList.drop (ib+1+kk),LE ax z:=fun z hz=>by
      obtain⟨i,h1,h2,h3,h4⟩:=WK hz
      have:=Qm (q3 (i-(ib+1)) (by omega) (by omega))
      rwa [show ib+1+(i-(ib+1))=i by omega,← h4] at this
     have R:=zaO (k:=kk) N fun j hj z hz=>Int.le_trans (Ql (q2 j hj)) (Ze pre.sa hax hz)
     apply jn (C:=fun(o':Array Keyed) i' _=>MI (a.toList++b.toList) o'.toList (a.toList.drop ia') (b.toList.drop i')∧i'<b.size∧(∀z∈b.toList.drop i',LE ax z)∧ia2+ib2≤ia'+i')
     case g=>
      intro G
      refine qL (fun hkq=>?_) fun hkq=>?_
      ·refine zU (fun e2=>wpS_pure ⟨gg,.inl ⟨_,_,_,_,_,_,_,rfl,X5 R e2⟩⟩) fun e2=>?_
       have hib:ib+1+kk<b.size:=by omega
       have hp2:ia2+ib2≤ia'+(ib+1+kk):=by omega
       have R':=R
       have d3:=d2
       generalize o'.push bx++b.extract (ib+1) (ib+1+kk)=o'' at R' ⊢
       generalize ib+1+kk=ib' at R' hib d3 hp2 ⊢
       generalize kk=k'
       exact G o'' ib' k' ⟨R',hib,d3,hp2⟩
      ·exact G _ _ kk ⟨N,by omega,(by rw [show kk=0 by omega] at d2;exact d2),by omega⟩
     case b=>
     rintro o'' ib' k'' ⟨R',hib,d3,hp2⟩
     refine wpS_bind (zx hax ?_)
     have F:=Ks R' hax d3
     refine zU (fun e1=>wpS_pure ⟨gg,.inl ⟨_,_,_,_,_,_,_,rfl,X6 pre F e1⟩⟩) fun e1=>?_
     have L:LoI a b (o''.push ax) (ia'+1) ib':=⟨F,by omega,hib⟩
     exact qL (fun _=>wpS_pure ⟨gg,.inr ⟨_,_,_,_,_,_,rfl,L,by omega⟩⟩) fun _=>wpS_pure ⟨gg,_,_,_,_,_,_,rfl,L,by omega⟩
end
section
variable {W V:List Keyed}{o a b:Array Keyed}{na nb p:Nat}{x:Keyed}
theorem QR (h:MJ W (a.toList.take (na+1)) V o.toList.reverse) (hx:a[na]?=some x) (c:∀y∈V,LE y x):MJ W (a.toList.take na) V (o.push x).toList.reverse:=by
 rw [Yw hx] at h
 rw [Array.toList_push,List.reverse_append]
 exact MJ.takeU (U2:=[x]) h fun y hy z hz=>by rw [List.mem_singleton.mp hz];exact c y hy
theorem X7 (h:MJ W V (b.toList.take (nb+1)) o.toList.reverse) (hx:b[nb]?=some x) (c:∀y∈V,LE y x):MJ W V (b.toList.take nb) (o.push x).toList.reverse:=by
 rw [Yw hx] at h
 rw [Array.toList_push,List.reverse_append]
 exact MJ.takeV (V2:=[x]) h fun y hy z hz=>by rw [List.mem_singleton.mp hz];exact c y hy
theorem vB {a:Array Keyed}{p n:Nat} (hp:p≤n):a.toList.take n=a.toList.take p++(a.extract p n).toList:=by
 rw [Array.toList_extract,List.extract_eq_take_drop,← List.drop_take]
 have:=List.take_append_drop p (a.toList.take n)
 rw [List.take_take,Nat.min_eq_left hp] at this
 exact this.symm
theorem part_mem {a:Array Keyed}{p n:Nat}{z:Keyed} (hz:z∈(a.extract p n).toList):∃i,p≤i∧i<n∧i<a.size∧kx z=K a i:=by
 rw [Array.toList_extract,List.extract_eq_take_drop] at hz
 obtain⟨j,h1,h2,h3⟩:=yz hz
 exact⟨p+j,by omega,by omega,h2,h3⟩
theorem YZ (h:MJ W (a.toList.take na) V o.toList.reverse) (hp:p≤na) (c:∀i,p≤i→i<na→∀y∈V,kx y≤K a i):MJ W (a.toList.take p) V (o++(a.extract p na).reverse).toList.reverse:=by
 rw [vB hp] at h
 rw [Array.toList_append,List.reverse_append,Array.toList_reverse,List.reverse_reverse]
 refine MJ.takeU h fun y hy z hz=>?_
 obtain⟨i,h1,h2,h3,h4⟩:=part_mem hz
 show kx y≤kx z
 rw [h4]
 exact c i h1 h2 y hy
theorem Y0 (h:MJ W V (b.toList.take nb) o.toList.reverse) (hp:p≤nb) (c:∀i,p≤i→i<nb→∀y∈V,kx y≤K b i):MJ W V (b.toList.take p) (o++(b.extract p nb).reverse).toList.reverse:=by
 rw [vB hp] at h
 rw [Array.toList_append,List.reverse_append,Array.toList_reverse,List.reverse_reverse]
 refine MJ.takeV h fun y hy z hz=>?_
 obtain⟨i,h1,h2,h3,h4⟩:=part_mem hz
 show kx y≤kx z
 rw [h4]
 exact c i h1 h2 y hy
theorem QS (h:MJ W (a.toList.take na) (b.toList.take nb) o.toList.reverse) (e:na=0):Mg W (a.extract 0 na++b.extract 0 nb++o.reverse).toList:=by
 rw [Array.toList_append,Array.toList_append,wk,wk,Array.toList_reverse]
 refine h.fin fun x hx y _=>?_
 rw [e,List.take_zero] at hx
 cases hx
theorem Y4 (h:MJ W (a.toList.take na) (b.toList.take nb) o.toList.reverse) (e:nb=0):Mg W (a.extract 0 na++b.extract 0 nb++o.reverse).toList:=by
 rw [Array.toList_append,Array.toList_append,wk,wk,Array.toList_reverse]
 refine h.fin fun x _ y hy=>?_
 rw [e,List.take_zero] at hy
 cases hy
theorem QT (pre:Pre a b) (h:MJ W (a.toList.take na) (b.toList.take nb) o.toList.reverse) (e:nb=1):Mg W (b.extract 0 nb++a.extract 0 na++o.reverse).toList:=by
 rw [Array.toList_append,Array.toList_append,wk,wk,Array.toList_reverse]
 refine h.fin' fun x hx y hy=>?_
 obtain⟨i,hi1,hi2,hi3,_⟩:=X4 hx
 have:i=0:=by omega
 subst this
 exact pre.lo x hi3 y (List.mem_of_mem_take hy)
theorem Zf {a:Array Keyed} (h:a.toList.Pairwise LE){i:Nat}{x:Keyed} (hx:a[i]?=some x){y:Keyed} (hy:y∈a.toList.take (i+1)):LE y x:=by
 obtain⟨j,h1,h2,h3,h4⟩:=X4 hy
 show kx y≤kx x
 rw [h4,show kx x=K a i by unfold K;rw [hx]]
 have hi:i<a.size:=by
  by_cases z:i<a.size
  ·exact z
  ·rw [getElem?_neg _ i z] at hx;cases hx
 exact wg h (by omega) hi
end
section
variable {prog:Program}{w:World}{A:Around}{E:Value→Shared→Prop}{s:Shared}
noncomputable def HiI (a b o:Array Keyed) (na nb:Nat):Prop:=MJ (a.toList++b.toList) (a.toList.take na) (b.toList.take nb) o.toList.reverse∧1≤na∧na<a.size∧2≤nb∧nb≤b.size
theorem Jy {st:SortSt}{a b:Array Keyed}{Q:Array Keyed→SortSt→Prop} (hk:kindOf st=oneType') (pre:Pre a b)
  (h:∀m st',Mg (a.toList++b.toList) m.toList→GS st st'→Q m st'):wpS (model prog w) A E s (Zr a b) Q st:=by
 rw [Jv]
 refine wpS_bind (wpS_lift (wpAny_rule ⟨rfl,?_⟩))
 have na0:=pre.na
 have nb0:=pre.nb
 obtain⟨al,hal,_⟩:=jj pre.ka (show a.size-1<a.size by omega)
 refine wpS_bind (zx hal ?_)
 dsimp only
 have h0:MJ (a.toList++b.toList) (a.toList.take (a.size-1+1)) (b.toList.take b.size) (#[]:Array Keyed).toList.reverse:=by
  rw [show a.size-1+1=a.toList.length by rw [Array.length_toList];omega,List.take_length,show b.size=b.toList.length from (Array.length_toList).symm,List.take_length]
  exact⟨List.Pairwise.nil,pre.sa,pre.sb,(fun _ _ _ z=>nomatch z),(fun _ _ _ z=>nomatch z),by rw [show (#[]:Array Keyed).toList.reverse=[] from rfl,List.append_nil]⟩
 have h1:MJ (a.toList++b.toList) (a.toList.take (a.size-1)) (b.toList.take b.size) (#[al]:Array Keyed).toList.reverse:=QR h0 hal fun y hy=>pre.hi al hal y (List.mem_of_mem_take hy)
 refine zU (fun e1=>wpS_pure (h _ _ (QS h1 e1) (GS.refl _))) fun e1=>?_
 refine zU (fun e2=>wpS_pure (h _ _ (QT pre h1 e2) (GS.refl _))) fun e2=>?_
 have L1:HiI a b #[al] (a.size-1) b.size:=⟨h1,by omega,by omega,by omega,Nat.le_refl _⟩
 refine wpS_bind (wpS_get ?_)
 generalize gallopOf st=mg0
 refine wpS_bind (wpS_mono (wpS_forRange (I:=fun x c st'=>GS st st'∧∃na nb o mg,c=(none,na,nb,o,mg)∧HiI a b o na nb∧na+nb+x≤a.size+b.size)
  (Q:=fun c st'=>GS st st'∧∃m na nb o mg,c=(some m,na,nb,o,mg)∧Mg (a.toList++b.toList) m.toList) ?step ?fin ⟨GS.refl _,_,_,_,_,rfl,L1,by omega⟩) ?post)
 case post=>
  rintro c st' ⟨g,m,na,nb,o,mg,rfl,hm⟩
  exact wpS_pure (h m st' hm g)
 case fin=>
  rintro c st' ⟨g,na,nb,o,mg,rfl,⟨_,h2,h3,h4,h5⟩,hx⟩
  exfalso
  omega
 case step=>
  rintro x c st1 _ hx ⟨g1,na1,nb1,o1,mg1,rfl,L1,p1⟩
  dsimp only
  have hk1:kindOf st1=oneType':=g1.1.trans hk
  refine wpS_bind (wpS_mono (wpS_forRange (I:=fun y c st'=>st'=st1∧∃na nb o ac bc,c=(none,na,nb,o,ac,bc)∧HiI a b o na nb∧na+nb+y=na1+nb1)
   (Q:=fun c st'=>st'=st1∧((∃m na nb o ac bc,c=(some m,na,nb,o,ac,bc)∧Mg (a.toList++b.toList) m.toList)∨(∃na nb o ac bc,c=(none,na,nb,o,ac,bc)∧HiI a b o na nb∧na+nb+1≤na1+nb1))) ?s2 ?f2 ⟨rfl,_,_,_,_,_,rfl,L1,by omega⟩) ?p2)
  case f2=>
   rintro c st' ⟨rfl,na,nb,o,ac,bc,rfl,⟨m1,m2,m3,m4,m5⟩,hy⟩
   obtain⟨_,n2,n3,n4,n5⟩:=L1
   exfalso
   omega
  case s2=>
   rintro y c st' _ hy ⟨rfl,na,nb,o,ac,bc,rfl,⟨m1,m2,m3,m4,m5⟩,hp⟩
   dsimp only
   obtain⟨n',rfl⟩:∃n',na=n'+1:=⟨na-1,by omega⟩
   obtain⟨k',rfl⟩:∃k',nb=k'+1:=⟨nb-1,by omega⟩
   simp only [Nat.add_sub_cancel]
   obtain⟨bx,hbx,kbx⟩:=jj pre.kb (show k'<b.size by omega)
   obtain⟨ax,hax,kax⟩:=jj pre.ka (show n'<a.size by omega)
   refine wpS_bind (zx hbx (wpS_bind (zx hax (wpS_bind (QQ hk1 kbx kax (fun hw=>?_) fun hw=>?_)))))
   ·refine wpS_bind (zx hax ?_)
    have M:=QR m1 hax fun z hz=>Int.le_trans (Zf pre.sb hbx hz) (Int.le_of_lt hw)
    refine zU (fun e1=>wpS_pure ⟨rfl,.inl ⟨_,_,_,_,_,_,rfl,QS M e1⟩⟩) fun e1=>?_
    have L:HiI a b (o.push ax) n' (k'+1):=⟨M,by omega,by omega,m4,m5⟩
    exact qL (fun _=>wpS_pure ⟨rfl,.inr ⟨_,_,_,_,_,rfl,L,by omega⟩⟩) fun _=>wpS_pure ⟨rfl,_,_,_,_,_,rfl,L,by omega⟩
   ·refine wpS_bind (zx hbx ?_)
    have M:=X7 m1 hbx fun z hz=>Int.le_trans (Zf pre.sa hax hz) (Int.not_lt.mp hw)
    refine zU (fun e1=>wpS_pure ⟨rfl,.inl ⟨_,_,_,_,_,_,rfl,QT pre M e1⟩⟩) fun e1=>?_
    have L:HiI a b (o.push bx) (n'+1) k':=⟨M,m2,m3,by omega,by omega⟩
    exact qL (fun _=>wpS_pure ⟨rfl,.inr ⟨_,_,_,_,_,rfl,L,by omega⟩⟩) fun _=>wpS_pure ⟨rfl,_,_,_,_,_,rfl,L,by omega⟩
  case p2=>
   rintro c st' ⟨rfl,⟨m,na,nb,o,ac,bc,rfl,hm⟩ | ⟨na2,nb2,o2,ac2,bc2,rfl,L2,p2⟩⟩
   ·exact wpS_pure ⟨g1,_,_,_,_,_,rfl,hm⟩
   ·dsimp only
    refine wpS_bind (wpS_lift (wpAny_rule ⟨rfl,?_⟩))
    refine wpS_bind (wpS_mono (wpS_forRange (I:=fun y c st''=>GS st st''∧∃na nb o mg ac bc,c=(none,na,nb,o,mg,ac,bc)∧HiI a b o na nb∧na+nb≤na2+nb2)
     (Q:=fun c st''=>GS st st''∧((∃m na nb o mg ac bc,c=(some m,na,nb,o,mg,ac,bc)∧Mg (a.toList++b.toList) m.toList)∨(∃na nb o mg ac bc,c=(none,na,nb,o,mg,ac,bc)∧HiI a b o na nb∧na+nb≤na2+nb2))) ?s3 (fun c st''=>.imp_right .inr) ⟨g1,_,_,_,_,_,_,rfl,L2,by omega⟩) ?p3)
    case p3=>
     rintro c st'' ⟨g,⟨m,na,nb,o,mg,ac,bc,rfl,hm⟩ | ⟨na3,nb3,o3,mg3,ac3,bc3,rfl,L3,p3⟩⟩
     ·exact wpS_pure ⟨g,_,_,_,_,_,rfl,hm⟩
     ·dsimp only
      exact wpS_bind (wu fun st3 g3=>wpS_pure ⟨g.trans g3,_,_,_,_,rfl,L3,by omega⟩)
    case s3=>
     rintro y c st'' _ hy ⟨g,na,nb,o,mg,ac,bc,rfl,⟨m1,m2,m3,m4,m5⟩,hp⟩
     dsimp only
     obtain⟨k',rfl⟩:∃k',nb=k'+1:=⟨nb-1,by omega⟩
     simp only [Nat.add_sub_cancel]
     obtain⟨bx,hbx,kbx⟩:=jj pre.kb (show k'<b.size by omega)
     apply jn1
     case g=>
      intro G
      refine qL (fun _=>?_) fun _=>?_
      ·generalize mg-1=m
       exact G m
      ·exact G mg
     case b=>
     intro m
     refine wpS_bind (wu fun st3 g3=>?_)
     have gg:=g.trans g3
     have hk3:kindOf st3=oneType':=gg.1.trans hk
     refine wpS_bind (zx hbx (wpS_bind (jJ hk3 kbx (fun i hi=>by rw [Nat.zero_add];exact jj pre.ka (by omega)) (fun i j hij hj=>by rw [Nat.zero_add,Nat.zero_add];exact wg pre.sa hij (by omega)) (by omega) fun p q1 q2 q3=>?_)))
     dsimp only
     have c2:∀z∈a.toList.take p,LE z bx:=fun z hz=>by
      obtain⟨i,h1,h2,h3,h4⟩:=X4 hz
      have:=Ql (q2 i h1)
      rwa [Nat.zero_add,← h4] at this
     have M:=YZ (p:=p) m1 q1 fun i hi hin z hz=>Int.le_trans (Zf pre.sb hbx hz) (Nat.zero_add i ▸ Qm (q3 i hi hin))
     apply jn (C:=fun(o':Array Keyed) i' _=>MJ (a.toList++b.toList) (a.toList.take i') (b.toList.take (k'+1)) o'.toList.reverse∧1≤i'∧i'<a.size∧(∀z∈a.toList.take i',LE z bx)∧i'+(k'+1)≤na2+nb2)
     case g=>
      intro G
      refine qL (fun hkp=>?_) fun hkp=>?_
      ·refine zU (fun e1=>wpS_pure ⟨gg,.inl ⟨_,_,_,_,_,_,_,rfl,QS M e1⟩⟩) fun e1=>?_
       have hia:1≤p:=by omega
       have hib:p<a.size:=by omega
       have hp':p+(k'+1)≤na2+nb2:=by omega
       have M':=M
       generalize o++(a.extract p na).reverse=o',na-p=k at M' ⊢
       have c3:=c2
       generalize p=p' at M' hia hib c3 hp' ⊢
       exact G o' p' k ⟨M',hia,hib,c3,hp'⟩
      ·have k0:p=na:=by omega
       exact G o na _ ⟨m1,m2,m3,k0 ▸ c2,hp⟩
     case b=>
     rintro o' na' kp ⟨M',hia,hib,c3,hp'⟩
     refine wpS_bind (zx hbx ?_)
     have N:=X7 M' hbx c3
     refine zU (fun e1=>wpS_pure ⟨gg,.inl ⟨_,_,_,_,_,_,_,rfl,QT pre N e1⟩⟩) fun e1=>?_
     obtain⟨n',rfl⟩:∃n',na'=n'+1:=⟨na'-1,by omega⟩
     simp only [Nat.add_sub_cancel]
     obtain⟨ax,hax,kax⟩:=jj pre.ka (show n'<a.size by omega)
     refine wpS_bind (zx hax (wpS_bind (jJ hk3 kax (fun i hi=>by rw [Nat.zero_add];exact jj pre.kb (by omega)) (fun i j hij hj=>by rw [Nat.zero_add,Nat.zero_add];exact wg pre.sb hij (by omega)) (by omega) fun r u1 u2 u3=>?_)))
     dsimp only
     have d2:∀z∈b.toList.take r,LE z ax:=fun z hz=>by
      obtain⟨i,h1,h2,h3,h4⟩:=X4 hz
      have:=Ql (u2 i h1)
      rwa [Nat.zero_add,← h4] at this
     have R:=Y0 (p:=r) N u1 fun i hi hin z hz=>Int.le_trans (Zf pre.sa hax hz) (Nat.zero_add i ▸ Qm (u3 i hi hin))
     apply jn (C:=fun(o':Array Keyed) i' _=>MJ (a.toList++b.toList) (a.toList.take (n'+1)) (b.toList.take i') o'.toList.reverse∧2≤i'∧i'≤b.size∧(∀z∈b.toList.take i',LE z ax)∧n'+1+i'≤na2+nb2)
     case g=>
      intro G
      refine qL (fun hkq=>?_) fun hkq=>?_
      ·refine zU (fun e2=>wpS_pure ⟨gg,.inl ⟨_,_,_,_,_,_,_,rfl,QT pre R e2⟩⟩) fun e2=>?_
       refine zU (fun e4=>wpS_pure ⟨gg,.inl ⟨_,_,_,_,_,_,_,rfl,Y4 R e4⟩⟩) fun e4=>?_
       have hb2:2≤r:=by omega
       have hb3:r≤b.size:=by omega
       have hp2:n'+1+r≤na2+nb2:=by omega
       have R':=R
       generalize o'.push bx++(b.extract r k').reverse=o'',k'-r=k at R' ⊢
       have d3:=d2
       generalize r=r' at R' hb2 hb3 d3 hp2 ⊢
       exact G o'' r' k ⟨R',hb2,hb3,d3,hp2⟩
      ·have k0:r=k':=by omega
       exact G _ k' _ ⟨N,by omega,by omega,k0 ▸ d2,by omega⟩
     case b=>
     rintro o'' nb' kr ⟨R',hb2,hb3,d3,hp2⟩
     refine wpS_bind (zx hax ?_)
     have F:=QR R' hax d3
     refine zU (fun e3=>wpS_pure ⟨gg,.inl ⟨_,_,_,_,_,_,_,rfl,QS F e3⟩⟩) fun e3=>?_
     have L:HiI a b (o''.push ax) n' nb':=⟨F,by omega,by omega,hb2,hb3⟩
     exact qL (fun _=>wpS_pure ⟨gg,.inr ⟨_,_,_,_,_,_,rfl,L,by omega⟩⟩) fun _=>wpS_pure ⟨gg,_,_,_,_,_,_,rfl,L,by omega⟩
end
theorem Jz (i:Nat):mergeAt' i=(do
 let x ← get
 let (some (sa,na,pw),some (sb,nb,_)):=((pendingOf x)[i]?,(pendingOf x)[i+1]?) | unsupported "internal:list.sort.pending"
 set (setPending x (((pendingOf x).setIfInBounds i (sa,na+nb,pw)).eraseIdxIfInBounds (i+1)))
 let some k ← xM false (← elem' (arrOf x) sb) (arrOf x) sa na 0 | return false
 let (sa,na):=(sa+k,na-k)
 if na == 0 then return true
 let some nb ← xM true (← elem' (arrOf x) (sa+na-1)) (arrOf x) sb nb (nb-1) | return false
 if nb == 0 then return true
 let u:=(arrOf x).extract sa sb
 let v:=(arrOf x).extract sb (sb+nb)
 let m ← if na≤nb then Zq u v else Zr u v
 modify fun x=>setArr x (m.toList.zipIdx.foldl (fun c (p,j)=>c.setIfInBounds (sa+j) p) (arrOf x))
 return (failedOf (← get)).isNone):=rfl
theorem JB (s:Nat):∀(l:List Keyed) (j0:Nat) (xs:Array Keyed),s+j0+l.length≤xs.size→((l.zipIdx j0).foldl (fun c p=>c.setIfInBounds (s+p.2) p.1) xs).toList=xs.toList.take (s+j0)++l++xs.toList.drop (s+j0+l.length)
 | [],j0,xs,_=>by simp
 | x::r,j0,xs,h=>by
  rw [List.length_cons] at h
  rw [List.zipIdx_cons,List.foldl_cons,JB s r (j0+1) _ (by rw [Array.size_setIfInBounds];omega)]
  have e:(xs.setIfInBounds (s+j0) x).toList=xs.toList.set (s+j0) x:=Array.toList_setIfInBounds ..
  show List.take (s+(j0+1)) (xs.setIfInBounds (s+j0) x).toList++r++List.drop (s+(j0+1)+r.length) (xs.setIfInBounds (s+j0) x).toList=_
  rw [e,show s+(j0+1)=s+j0+1 by omega,List.take_add_one,List.getElem?_set_self (by rw [Array.length_toList];omega),List.take_set_of_le (Nat.le_refl _),List.drop_set_of_lt (by omega),List.length_cons,show s+j0+1+r.length=s+j0+(r.length+1) by omega]
  simp
noncomputable def zg (xs:Array Keyed) (lo hi:Nat):Prop:=∀i j,lo≤i→i≤j→j<hi→K xs i≤K xs j
noncomputable def yR (xs ys:Array Keyed) (lo hi:Nat):Prop:=∀k,k<lo∨hi≤k→K ys k=K xs k
theorem Xm {xs:Array Keyed}{i:Nat}{x:Keyed} (h:xs.toList[i]?=some x):K xs i=kx x:=by
 rw [Array.getElem?_toList] at h
 unfold K
 rw [h]
theorem Yx {xs:Array Keyed}{lo hi j:Nat}{x:Keyed} (h:(xs.extract lo hi)[j]?=some x):kx x=K xs (lo+j):=by
 have h:=Xk h
 rw [Array.toList_extract,List.extract_eq_take_drop,List.getElem?_take] at h
 split at h
 ·rw [List.getElem?_drop] at h
  exact(Xm h).symm
 ·cases h
theorem Zt {xs:Array Keyed}{lo hi:Nat} (h:zg xs lo hi) (hb:hi≤xs.size):(xs.extract lo hi).toList.Pairwise LE:=by
 rw [Array.toList_extract,List.extract_eq_take_drop,List.pairwise_iff_getElem]
 intro i j hi' hj hij
 rw [List.length_take,List.length_drop,Array.length_toList] at hi' hj
 have e:∀k (hk:k<((xs.toList.drop lo).take (hi-lo)).length),kx ((xs.toList.drop lo).take (hi-lo))[k]=K xs (lo+k):=fun k hk=>by
  rw [List.length_take,List.length_drop,Array.length_toList] at hk
  refine(Xm ?_).symm
  rw [← List.getElem?_drop,List.getElem?_eq_getElem (by rw [List.length_drop,Array.length_toList];omega),List.getElem_take]
 show kx _≤kx _
 rw [e,e]
 exact h _ _ (by omega) (by omega) (by omega)
section
variable {prog:Program}{w:World}{A:Around}{E:Value→Shared→Prop}{s:Shared}
theorem WL {st st':SortSt}{Q:PUnit→SortSt→Prop} (h:Q ⟨⟩ st'):wpS (model prog w) A E s (set st':StateT SortSt Sem PUnit) Q st:=by
 unfold wpS
 rw [StateT.run_set]
 exact wpAny_pure ⟨rfl,h⟩
theorem JC {st:SortSt}{i sa na pw nb pw2:Nat}{Q:Bool→SortSt→Prop} (hk:kindOf st=oneType') (hf:failedOf st=none) (hI:∀x∈(arrOf st).toList,IK x)
  (hp1:(pendingOf st)[i]?=some (sa,na,pw)) (hp2:(pendingOf st)[i+1]?=some (sa+na,nb,pw2)) (n1:1≤na) (n2:1≤nb) (hb:sa+na+nb≤(arrOf st).size)
  (s1:zg (arrOf st) sa (sa+na)) (s2:zg (arrOf st) (sa+na) (sa+na+nb))
  (h:∀st',kindOf st'=oneType'→failedOf st'=none→(arrOf st').Perm (arrOf st)→yR (arrOf st) (arrOf st') sa (sa+na+nb)→zg (arrOf st') sa (sa+na+nb)→pendingOf st'=((pendingOf st).setIfInBounds i (sa,na+nb,pw)).eraseIdxIfInBounds (i+1)→Q true st') :
  wpS (model prog w) A E s (mergeAt' i) Q st:=by
 rw [Jz]
 refine wpS_bind (wpS_get ?_)
 rw [hp1,hp2]
 dsimp only
 refine wpS_bind (WL ?_)
 generalize hst:setPending st (((pendingOf st).setIfInBounds i (sa,na+nb,pw)).eraseIdxIfInBounds (i+1))=st1
 have k1:kindOf st1=oneType':=by rw [← hst];exact hk
 have f1:failedOf st1=none:=by rw [← hst];exact hf
 have a1:arrOf st1=arrOf st:=by rw [← hst]
 have p1:pendingOf st1=((pendingOf st).setIfInBounds i (sa,na+nb,pw)).eraseIdxIfInBounds (i+1):=by rw [← hst]
 clear hst
 generalize arrOf st=xs at *
 obtain⟨b0,hb0,kb0⟩:=jj hI (show sa+na<xs.size by omega)
 have eb0:K xs (sa+na)=kx b0:=Xm (Xk hb0)
 refine wpS_bind (zx hb0 (wpS_bind (jJ k1 kb0 (fun j hj=>jj hI (by omega)) (fun j l hjl hl=>s1 _ _ (by omega) (by omega) (by omega)) (by omega) fun k q1 q2 q3=>?_)))
 dsimp only
 have Y5:∀u,sa≤u→u<sa+k→K xs u≤K xs (sa+na):=fun u h1 h2=>by
  have:=Ql (q2 (u-sa) (by omega))
  rwa [show sa+(u-sa)=u by omega,← eb0] at this
 have Yy:∀u,sa+k≤u→u<sa+na→K xs (sa+na)≤K xs u:=fun u h1 h2=>by
  have:=Qm (q3 (u-sa) (by omega) (by omega))
  rwa [show sa+(u-sa)=u by omega,← eb0] at this
 have two:(∀u v,sa≤u→u<sa+na→sa+na≤v→v<sa+na+nb→K xs u≤K xs v)→wpS (model prog w) A E s (pure true) Q st1:=fun c=>by
  refine wpS_pure (h st1 k1 f1 (by rw [a1]) (by rw [a1];exact fun _ _=>rfl) ?_ p1)
  rw [a1]
  intro u v hu huv hv
  by_cases y1:v<sa+na
  ·exact s1 u v hu huv y1
  ·by_cases y2:sa+na≤u
   ·exact s2 u v y2 huv hv
   ·exact c u v hu (by omega) (by omega) hv
 refine zU (fun e1=>two fun u v h1 h2 h3 h4=>Int.le_trans (Y5 u h1 (by omega)) (s2 _ _ (Nat.le_refl _) h3 h4)) fun e1=>?_
 rw [show sa+k+(na-k)-1=sa+na-1 by omega]
 obtain⟨al,hal,kal⟩:=jj hI (show sa+na-1<xs.size by omega)
 have eal:K xs (sa+na-1)=kx al:=Xm (Xk hal)
 refine wpS_bind (zx hal (wpS_bind (jJ k1 kal (fun j hj=>jj hI (by omega)) (fun j l hjl hl=>s2 _ _ (by omega) (by omega) (by omega)) (by omega) fun r u1 u2 u3=>?_)))
 dsimp only
 have zcG:∀u,sa+na≤u→u<sa+na+r→K xs u≤K xs (sa+na-1):=fun u h1 h2=>by
  have:=Ql (u2 (u-(sa+na)) (by omega))
  rwa [show sa+na+(u-(sa+na))=u by omega,← eal] at this
 have Yz:∀u,sa+na+r≤u→u<sa+na+nb→K xs (sa+na-1)≤K xs u:=fun u h1 h2=>by
  have:=Qm (u3 (u-(sa+na)) (by omega) (by omega))
  rwa [show sa+na+(u-(sa+na))=u by omega,← eal] at this
 refine zU (fun e2=>two fun u v h1 h2 h3 h4=>Int.le_trans (s1 u (sa+na-1) h1 (by omega) (by omega)) (Yz v (by omega) h4)) fun e2=>?_
 have szU:(xs.extract (sa+k) (sa+na)).size=na-k:=by rw [Array.size_extract];omega
 have szV:(xs.extract (sa+na) (sa+na+r)).size=r:=by rw [Array.size_extract];omega
 have pre:Pre (xs.extract (sa+k) (sa+na)) (xs.extract (sa+na) (sa+na+r)):=by
  refine⟨fun x hx=>hI x ?_,fun x hx=>hI x ?_,Zt (fun u v hu huv hv=>s1 u v (by omega) huv hv) (by omega),Zt (fun u v hu huv hv=>s2 u v hu huv (by omega)) (by omega),by omega,by omega,fun x hx y hy=>?_,fun x hx y hy=>?_⟩
  ·rw [Array.toList_extract,List.extract_eq_take_drop] at hx
   exact List.mem_of_mem_drop (List.mem_of_mem_take hx)
  ·rw [Array.toList_extract,List.extract_eq_take_drop] at hx
   exact List.mem_of_mem_drop (List.mem_of_mem_take hx)
  ·have ex:kx x=K xs (sa+na):=by have:=Yx (lo:=sa+na) (j:=0) hx;exact this
   obtain⟨j,h1,h2,_,h3⟩:=part_mem hy
   show kx x≤kx y
   rw [ex,h3]
   exact Yy j h1 h2
  ·have ex:kx x=K xs (sa+na-1):=by
    have:=Yx hx
    rw [szU,show sa+k+(na-k-1)=sa+na-1 by omega] at this
    exact this
   obtain⟨j,h1,h2,_,h3⟩:=part_mem hy
   show kx y≤kx x
   rw [ex,h3]
   exact zcG j h1 h2
 have fin:∀(m:Array Keyed) (st2:SortSt),Mg ((xs.extract (sa+k) (sa+na)).toList++(xs.extract (sa+na) (sa+na+r)).toList) m.toList→GS st1 st2 →
   wpS (model prog w) A E s (do
    modify fun x=>setArr x (m.toList.zipIdx.foldl (fun c x=>c.setIfInBounds (sa+k+x.2) x.1) (arrOf x))
    let y ← get
    pure (failedOf y).isNone) Q st2:=by
  intro m st2 hm g
  refine wpS_bind (wpS_modify (wpS_bind (wpS_get ?_)))
  have ml:m.toList.length=na-k+r:=by rw [hm.pm.length_eq,List.length_append,Array.length_toList,Array.length_toList,szU,szV]
  have al2:arrOf st2=xs:=g.2.1.trans a1
  have ef:failedOf st2=none:=g.2.2.2.trans f1
  rw [al2]
  have L:(m.toList.zipIdx.foldl (fun c x=>c.setIfInBounds (sa+k+x.2) x.1) xs).toList=xs.toList.take (sa+k)++m.toList++xs.toList.drop (sa+na+r):=by
   have:=JB (sa+k) m.toList 0 xs (by omega)
   rw [Nat.add_zero,ml,show sa+k+(na-k+r)=sa+na+r by omega] at this
   exact this
  generalize m.toList.zipIdx.foldl (fun c x=>c.setIfInBounds (sa+k+x.2) x.1) xs=ys at L ⊢
  have kL:∀j,j<sa+k→K ys j=K xs j:=fun j hj=>by
   refine K_congr ?_
   rw [← Array.getElem?_toList,L,← Array.getElem?_toList,List.append_assoc,List.getElem?_append_left (by rw [List.length_take,Array.length_toList];omega),List.getElem?_take,if_pos hj]
  have kR:∀j,sa+na+r≤j→K ys j=K xs j:=fun j hj=>by
   refine K_congr ?_
   have hl:(xs.toList.take (sa+k)++m.toList).length=sa+na+r:=by rw [List.length_append,List.length_take,Array.length_toList,ml];omega
   rw [← Array.getElem?_toList,L,← Array.getElem?_toList,List.getElem?_append_right (by omega),hl,List.getElem?_drop,show sa+na+r+(j-(sa+na+r))=j by omega]
  have kM:∀j,sa+k≤j→j<sa+na+r→∃z,m.toList[j-(sa+k)]?=some z∧K ys j=kx z:=fun j h1 h2=>by
   have hj:j-(sa+k)<m.toList.length:=by omega
   refine⟨_,List.getElem?_eq_getElem hj,Xm ?_⟩
   have hl:(xs.toList.take (sa+k)).length=sa+k:=by rw [List.length_take,Array.length_toList];omega
   rw [L,List.append_assoc,List.getElem?_append_right (by omega),hl,List.getElem?_append_left hj,List.getElem?_eq_getElem hj]
  have mb:∀z∈m.toList,K xs (sa+na)≤kx z∧∀j,sa+na+r≤j→j<sa+na+nb→kx z≤K xs j:=fun z hz=>by
   rcases List.mem_append.mp (hm.pm.mem_iff.mp hz) with y | y
   ·obtain⟨l,h1,h2,_,h3⟩:=part_mem y
    rw [h3]
    exact⟨Yy l h1 h2,fun j hj1 hj2=>Int.le_trans (s1 l (sa+na-1) (by omega) (by omega) (by omega)) (Yz j hj1 hj2)⟩
   ·obtain⟨l,h1,h2,_,h3⟩:=part_mem y
    rw [h3]
    exact⟨s2 _ l (Nat.le_refl _) h1 (by omega),fun j hj1 hj2=>s2 l j h1 (by omega) hj2⟩
  have zaQ:ys.Perm xs:=by
   rw [Array.perm_iff_toList_perm,L]
   have e:xs.toList=xs.toList.take (sa+k)++((xs.extract (sa+k) (sa+na)).toList++(xs.extract (sa+na) (sa+na+r)).toList)++xs.toList.drop (sa+na+r):=by
    rw [← List.append_assoc,← vB (show sa+k≤sa+na by omega),← vB (show sa+na≤sa+na+r by omega),List.take_append_drop]
   refine List.Perm.trans ?_ (List.Perm.of_eq e.symm)
   exact List.Perm.append_right _ (List.Perm.append_left _ hm.pm)
  show wpS _ _ _ _ (pure (failedOf st2).isNone) _ _
  rw [ef]
  refine wpS_pure (h _ (g.1.trans k1) ef zaQ ?_ ?_ (g.2.2.1.trans p1))
  ·intro j hj
   rcases hj with y | y
   ·exact kL j (by omega)
   ·exact kR j (by omega)
  ·intro u v hu huv hv
   by_cases c1:v<sa+k
   ·rw [kL u (by omega),kL v c1]
    exact s1 u v hu huv (by omega)
   by_cases c2:v<sa+na+r
   ·obtain⟨zv,hzv,ev⟩:=kM v (by omega) c2
    rw [ev]
    by_cases c3:u<sa+k
    ·rw [kL u c3]
     exact Int.le_trans (Y5 u hu c3) (mb zv (List.mem_of_getElem? hzv)).1
    ·obtain⟨zu,hzu,eu⟩:=kM u (by omega) (by omega)
     rw [eu]
     rcases Nat.lt_or_eq_of_le huv with y | y
     ·obtain⟨hu1,hu2⟩:=List.getElem?_eq_some_iff.mp hzu
      obtain⟨hv1,hv2⟩:=List.getElem?_eq_some_iff.mp hzv
      have:=List.pairwise_iff_getElem.mp hm.so _ _ hu1 hv1 (by omega)
      rw [hu2,hv2] at this
      exact this
     ·subst y
      rw [hzu] at hzv
      cases hzv
      exact Int.le_refl _
   ·rw [kR v (by omega)]
    by_cases c3:u<sa+k
    ·rw [kL u c3]
     exact Int.le_trans (Y5 u hu c3) (s2 _ _ (Nat.le_refl _) (by omega) hv)
    ·by_cases c4:u<sa+na+r
     ·obtain⟨zu,hzu,eu⟩:=kM u (by omega) c4
      rw [eu]
      exact(mb zu (List.mem_of_getElem? hzu)).2 v (by omega) hv
     ·rw [kR u (by omega)]
      exact s2 u v (by omega) huv hv
 exact qL (fun _=>wpS_bind (Jx k1 pre fin)) fun _=>wpS_bind (Jy k1 pre fin)
end
structure SG (a₀:Array Keyed) (p:Array (Nat×Nat×Nat)) (st:SortSt):Prop where
 perm:(arrOf st).Perm a₀
 kind:kindOf st=oneType'
 fail:failedOf st=none
 pend:pendingOf st=p
theorem SG.size {a₀:Array Keyed}{p:Array (Nat×Nat×Nat)}{st:SortSt} (h:SG a₀ p st):(arrOf st).size=a₀.size:=h.perm.size_eq
theorem SG.arr {a₀:Array Keyed}{p:Array (Nat×Nat×Nat)}{st:SortSt} (h:SG a₀ p st){xs:Array Keyed} (hp:xs.Perm (arrOf st)):SG a₀ p (setArr st xs):=⟨hp.trans h.perm,h.kind,h.fail,h.pend⟩
theorem SG.ik {a₀:Array Keyed}{p:Array (Nat×Nat×Nat)}{st:SortSt} (h:SG a₀ p st) (h0:IntKeys a₀):∀x∈(arrOf st).toList,IK x:=fun x hx=>h0 x ((Array.perm_iff_toList_perm.mp h.perm).mem_iff.mp hx)
noncomputable def vN (xs:Array Keyed) (lo k:Nat):Prop:=∀i j,lo≤i→i≤j→j<lo+k→K xs j≤K xs i
section
variable {prog:Program}{w:World}{A:Around}{E:Value→Shared→Prop}{s:Shared}{a₀:Array Keyed}{p:Array (Nat×Nat×Nat)}
theorem ww {st:SortSt}{i j:Nat}{Q:Option Bool→SortSt→Prop} (hB:SG a₀ p st) (h0:IntKeys a₀) (hi:i<a₀.size) (hj:j<a₀.size)
  (h:K (arrOf st) i<K (arrOf st) j→Q (some true) st) (h':¬K (arrOf st) i<K (arrOf st) j→Q (some false) st):wpS (model prog w) A E s (ltAt' i j) Q st:=by
 obtain⟨x,hx,kx1⟩:=jj (hB.ik h0) (show i<(arrOf st).size by rw [hB.size];exact hi)
 obtain⟨y,hy,kx2⟩:=jj (hB.ik h0) (show j<(arrOf st).size by rw [hB.size];exact hj)
 rw [ltAt'_eq]
 refine wpS_bind (wpS_get ?_)
 rw [Xm (Xk hx),Xm (Xk hy)] at h h'
 exact wpS_bind (zx hx (wpS_bind (zx hy (QQ hB.kind kx1 kx2 h h'))))
theorem w6 {st:SortSt}{i j:Nat}{Q:Unit→SortSt→Prop} (hB:SG a₀ p st) (h:∀st',SG a₀ p st'→arrOf st'=mirror (arrOf st) i j ((j-i) / 2)→Q () st'):wpS (model prog w) A E s (reverseSlice' i j) Q st:=wpS_reverse (h _ (hB.arr (mirror_perm _ _ _ _)) rfl)
theorem vN.snoc {xs:Array Keyed}{lo x:Nat} (h:vN xs lo x) (h1:K xs (lo+x)≤K xs (lo+x-1)):vN xs lo (x+1):=fun i j hi hij hj=>by
 by_cases hjx:j<lo+x
 ·exact h i j hi hij hjx
 ·rw [show j=lo+x by omega]
  by_cases hi':i=lo+x
  ·subst hi';exact Int.le_refl _
  ·exact Int.le_trans h1 (h i (lo+x-1) hi (by omega) (by omega))
theorem ZW {st:SortSt}{lo nrem:Nat}{Q:Option Nat→SortSt→Prop} (h0:IntKeys a₀) (hn:lo+nrem≤a₀.size) (h1:1≤nrem) (hB:SG a₀ p st)
  (h:∀m st',SG a₀ p st'→1≤m→m≤nrem→zg (arrOf st') lo (lo+m)→yR (arrOf st) (arrOf st') lo (lo+nrem)→Q (some m) st') :
  wpS (model prog w) A E s (countRun' lo nrem) Q st:=by
 have asc:∀{xs:Array Keyed}{x:Nat},1≤x→zg xs lo (lo+x)→¬K xs (lo+x)<K xs (lo+x-1)→zg xs lo (lo+(x+1)):=by
  intro xs x hx hs hl i j hi hij hj
  by_cases hjx:j<lo+x
  ·exact hs i j hi hij hjx
  ·have hj':j=lo+x:=by omega
   subst hj'
   by_cases hi':i=lo+x
   ·subst hi';exact Int.le_refl _
   ·exact Int.le_trans (hs i (lo+x-1) hi (by omega) (by omega)) (Int.not_lt.mp hl)
 rw [countRun'_eq]
 refine wpS_bind (wpS_mono (wpS_forRange (I:=fun x c st'=>st'=st∧c=(none,x)∧zg (arrOf st) lo (lo+x))
  (Q:=fun c st'=>st'=st∧∃n,c=(none,n)∧1≤n∧n≤nrem∧zg (arrOf st) lo (lo+n)∧(n=nrem∨K (arrOf st) (lo+n)<K (arrOf st) (lo+n-1))) ?s1 ?f1 ⟨rfl,rfl,fun i j hi hij hj=>by rw [show i=j by omega];exact Int.le_refl _⟩) ?p1)
 case f1=>
  rintro c st' ⟨rfl,rfl,hs⟩
  rw [show max 1 nrem=nrem by omega] at hs ⊢
  exact⟨rfl,_,rfl,h1,Nat.le_refl _,hs,.inl rfl⟩
 case s1=>
  rintro x c st' hax hxn ⟨rfl,rfl,hs⟩
  dsimp only
  refine wpS_bind (ww hB h0 (by omega) (by omega) (fun hl=>?_) fun hl=>?_)
  ·exact wpS_pure ⟨rfl,_,rfl,hax,by omega,hs,.inr hl⟩
  ·exact wpS_pure ⟨rfl,rfl,asc hax hs hl⟩
 case p1=>
  rintro c st' ⟨rfl,n,rfl,n1,n2,hs,hor⟩
  dsimp only
  by_cases hnn:n=nrem
  ·rw [if_pos (by simpa using hnn)]
   exact wpS_pure (h n st' hB n1 n2 hs (fun _ _=>rfl))
  rw [if_neg (by simpa using hnn)]
  have hlt:=hor.resolve_left hnn
  have sz:=hB.size
  obtain⟨xs0,hx0⟩:∃xs0,xs0=arrOf st':=⟨_,rfl⟩
  rw [← hx0] at h
  have hn1:n+1≤nrem:=by omega
  by_cases hgt:n > 1
  case' neg=>
   rw [if_neg hgt]
   have n1':n=1:=by omega
   have B2:SG a₀ p st':=hB
   have O2:yR xs0 (arrOf st') lo (lo+nrem):=fun _ _=>by rw [hx0]
   have NI:vN (arrOf st') lo (n+1):=vN.snoc (fun i j hi hij hj=>by rw [show i=j by omega];exact Int.le_refl _) (Int.le_of_lt hlt)
   generalize st'=st2 at B2 O2 NI ⊢
  case' pos=>
   rw [if_pos hgt]
   refine wpS_bind (ww hB h0 (by omega) (by omega) (fun hr=>?_) fun hr=>?_)
   ·exact wpS_pure (h n st' hB n1 n2 hs (fun _ _=>by rw [hx0]))
   have hall:∀k,lo≤k→k<lo+n→K (arrOf st') k=K (arrOf st') (lo+n-1):=fun k k1 k2=>by
    have a1:=hs lo k (Nat.le_refl _) k1 k2
    have a2:=hs k (lo+n-1) k1 (by omega) (by omega)
    omega
   refine wpS_bind (w6 hB fun st2 B2 e2=>?_)
   have hKm:=K_mirror_equal (xs:=arrOf st') (i:=lo) (j:=lo+n) (by omega) hall
   rw [← e2] at hKm
   have O2:yR xs0 (arrOf st2) lo (lo+nrem):=fun k _=>by rw [hx0];exact hKm k
   have NI:vN (arrOf st2) lo (n+1):=vN.snoc (fun i j hi hij hj=>by rw [hKm,hKm,hall i hi (by omega),hall j (by omega) hj];exact Int.le_refl _) (by rw [hKm,hKm];exact Int.le_of_lt hlt)
  all_goals
   clear hB hs hor hlt sz hx0
   refine wpS_bind (wpS_lift (wpAny_rule ⟨rfl,?_⟩))
   refine wpS_bind (wpS_mono (wpS_forRange (I:=fun x c st3=>∃neq,c=(none,x,neq)∧SG a₀ p st3∧yR xs0 (arrOf st3) lo (lo+nrem)∧vN (arrOf st3) lo x∧neq+1≤x∧(∀i,lo+x-(neq+1)≤i→i<lo+x→K (arrOf st3) i=K (arrOf st3) (lo+x-1)))
    (Q:=fun c st3=>∃m neq,c=(none,m,neq)∧n+1≤m∧m≤nrem∧SG a₀ p st3∧yR xs0 (arrOf st3) lo (lo+nrem)∧vN (arrOf st3) lo m∧neq+1≤m∧(∀i,lo+m-(neq+1)≤i→i<lo+m→K (arrOf st3) i=K (arrOf st3) (lo+m-1))) ?_ ?_ ⟨0,rfl,B2,O2,NI,by omega,fun i z1 z2=>by rw [show i=lo+(n+1)-1 by omega]⟩) ?_)
   ·rintro x c st3 hax hxn ⟨neq,rfl,B3,O3,N3,q3,e3⟩
    dsimp only
    have sz3:=B3.size
    refine wpS_bind (ww B3 h0 (by omega) (by omega) (fun hl=>?_) fun hl=>?_)
    ·have step1:∀xs:Array Keyed,(∀k,K xs k=K (arrOf st3) k)→vN xs lo (x+1):=fun xs hk=>vN.snoc (fun i j a b c=>by rw [hk,hk];exact N3 i j a b c) (by rw [hk,hk];exact Int.le_of_lt hl)
     by_cases hq:neq > 0
     ·rw [if_pos hq]
      have hKm:=K_mirror_equal (xs:=arrOf st3) (i:=lo+x-(neq+1)) (j:=lo+x) (by omega) e3
      exact wpS_bind (w6 B3 fun st4 B4 e4=>wpS_pure (by rw [← e4] at hKm;exact⟨0,rfl,B4,fun k hk=>(hKm k).trans (O3 k hk),step1 _ hKm,by omega,fun i z1 z2=>by rw [show i=lo+(x+1)-1 by omega]⟩))
     ·rw [if_neg hq]
      exact wpS_pure ⟨0,rfl,B3,O3,step1 _ (fun _=>rfl),by omega,fun i z1 z2=>by rw [show i=lo+(x+1)-1 by omega]⟩
    ·refine wpS_bind (ww B3 h0 (by omega) (by omega) (fun hg=>?_) fun hg=>?_)
     ·exact wpS_pure ⟨_,_,rfl,hax,by omega,B3,O3,N3,q3,e3⟩
     ·have heq:K (arrOf st3) (lo+x)=K (arrOf st3) (lo+x-1):=by omega
      refine wpS_pure ⟨neq+1,rfl,B3,O3,N3.snoc (by omega),by omega,fun i z1 z2=>?_⟩
      rw [show lo+(x+1)-1=lo+x by omega]
      by_cases hix:i=lo+x
      ·subst hix;rfl
      ·rw [heq];exact e3 i (by omega) (by omega)
   ·rintro c st3 ⟨neq,rfl,B3,O3,N3,q3,e3⟩
    rw [show max (n+1) nrem=nrem by omega] at N3 q3 e3 ⊢
    exact⟨_,_,rfl,hn1,Nat.le_refl _,B3,O3,N3,q3,e3⟩
   ·rintro c st3 ⟨m,neq,rfl,hm1,hm2,B3,O3,N3,q3,e3⟩
    dsimp only
    have sz3:=B3.size
    by_cases hq:neq > 0
    case' pos=>
     rw [if_pos hq]
     refine wpS_bind (w6 B3 fun st4 B4 e4=>?_)
     have hKm:=K_mirror_equal (xs:=arrOf st3) (i:=lo+m-(neq+1)) (j:=lo+m) (by omega) e3
     rw [← e4] at hKm
     have O4:yR xs0 (arrOf st4) lo (lo+nrem):=fun k hk=>(hKm k).trans (O3 k hk)
     have N4:vN (arrOf st4) lo m:=fun i j hi hij hj=>by
      rw [hKm,hKm]
      exact N3 i j hi hij hj
     clear e4 hKm
    case' neg=>
     rw [if_neg hq]
     have B4:=B3
     have O4:=O3
     have N4:=N3
     generalize st3=st4 at B4 O4 N4 ⊢
    all_goals
     have sz4:=B4.size
     refine wpS_bind (w6 B4 fun st5 B5 e5=>?_)
     have hKr:∀k,K (arrOf st5) k=if lo≤k∧k<lo+m then K (arrOf st4) (lo+(lo+m)-1-k) else K (arrOf st4) k:=fun k=>by rw [e5];exact K_mirror (by omega) k
     have O5:yR xs0 (arrOf st5) lo (lo+nrem):=fun k hk=>by
      rw [hKr,if_neg (by omega)]
      exact O4 k hk
     have S5:zg (arrOf st5) lo (lo+m):=fun i j hi hij hj=>by
      rw [hKr,hKr,if_pos (by omega),if_pos (by omega)]
      exact N4 _ _ (by omega) (by omega) (by omega)
     refine wpS_bind (wpS_mono (wpS_forRange (I:=fun x c st'=>st'=st5∧c=(none,x)∧zg (arrOf st5) lo (lo+x))
      (Q:=fun c st'=>st'=st5∧∃n,c=(none,n)∧1≤n∧n≤nrem∧zg (arrOf st5) lo (lo+n)) ?_ ?_ ⟨rfl,rfl,S5⟩) ?_)
     ·rintro x c st' hax hxn ⟨rfl,rfl,hs⟩
      dsimp only
      refine wpS_bind (ww B5 h0 (by omega) (by omega) (fun hl=>?_) fun hl=>?_)
      ·exact wpS_pure ⟨rfl,_,rfl,by omega,by omega,hs⟩
      ·exact wpS_pure ⟨rfl,rfl,asc (by omega) hs hl⟩
     ·rintro c st' ⟨rfl,rfl,hs⟩
      rw [show max m nrem=nrem by omega] at hs ⊢
      exact⟨rfl,_,rfl,h1,Nat.le_refl _,hs⟩
     ·rintro c st' ⟨rfl,n5,rfl,z1,z2,hs⟩
      exact wpS_pure (h n5 st' B5 z1 z2 hs O5)
end
noncomputable def Runs (xs:Array Keyed):List (Nat×Nat×Nat)→Nat→Nat→Prop
 | [],a,b=>a=b
 | (s,n,_)::r,a,b=>s=a∧1≤n∧zg xs s (s+n)∧Runs xs r (s+n) b
theorem Runs.le {xs:Array Keyed}:∀{l:List (Nat×Nat×Nat)}{a b:Nat},Runs xs l a b→a+l.length≤b
 | [],a,b,h=>by cases h;simp
 | (s,n,_)::r,a,b,⟨h1,h2,_,h4⟩=>by
  have:=Runs.le h4
  rw [List.length_cons]
  omega
theorem zg.congr {xs ys:Array Keyed}{lo hi:Nat} (h:zg xs lo hi) (e:∀k,lo≤k→k<hi→K ys k=K xs k):zg ys lo hi:=fun i j hi' hij hj=>by
 rw [e i hi' (by omega),e j (by omega) hj]
 exact h i j hi' hij hj
theorem Runs.congr {xs ys:Array Keyed}:∀{l:List (Nat×Nat×Nat)}{a b:Nat},Runs xs l a b→(∀k,a≤k→k<b→K ys k=K xs k)→Runs ys l a b
 | [],_,_,h,_=>h
 | (s,n,_)::r,a,b,⟨h1,h2,h3,h4⟩,e=>by
  have:=h4.le
  exact⟨h1,h2,h3.congr fun k k1 k2=>e k (by omega) (by omega),Runs.congr h4 fun k k1 k2=>e k (by omega) k2⟩
theorem Runs.snoc {xs:Array Keyed}{q n:Nat}:∀{l:List (Nat×Nat×Nat)}{a b:Nat},Runs xs l a b→1≤n→zg xs b (b+n)→Runs xs (l++[(b,n,q)]) a (b+n)
 | [],a,b,h,h1,h2=>by cases h;exact⟨rfl,h1,h2,rfl⟩
 | (s,m,_)::r,a,b,⟨g1,g2,g3,g4⟩,h1,h2=>⟨g1,g2,g3,Runs.snoc g4 h1 h2⟩
theorem Runs.pow {xs:Array Keyed}{q:Nat}:∀{l:List (Nat×Nat×Nat)}{a b:Nat} (k:Nat),Runs xs l a b→Runs xs (l.modify k fun x=>(x.1,x.2.1,q)) a b
 | [],_,_,_,h=>by simpa using h
 | (s,m,z)::r,a,b,0,⟨g1,g2,g3,g4⟩=>by
  rw [List.modify_zero_cons]
  exact⟨g1,g2,g3,g4⟩
 | (s,m,z)::r,a,b,k+1,⟨g1,g2,g3,g4⟩=>by
  rw [List.modify_succ_cons]
  exact⟨g1,g2,g3,Runs.pow k g4⟩
theorem Runs.at {xs:Array Keyed}:∀{l:List (Nat×Nat×Nat)}{a b:Nat}{j:Nat},Runs xs l a b→j+1<l.length→∃s n pw m pw2,l[j]?=some (s,n,pw)∧l[j+1]?=some (s+n,m,pw2)∧1≤n∧1≤m∧a≤s∧s+n+m≤b∧zg xs s (s+n)∧zg xs (s+n) (s+n+m)∧∀ys:Array Keyed,yR xs ys s (s+n+m)→zg ys s (s+n+m)→Runs ys ((l.set j (s,n+m,pw)).eraseIdx (j+1)) a b
 | [],_,_,_,_,h=>by simp at h
 | [_],_,_,j,_,h=>by simp at h
 | (s,n,pw)::(s2,m,pw2)::r,a,b,0,⟨g1,g2,g3,g4,g5,g6,g7⟩,_=>by
  subst g4
  have:=g7.le
  refine⟨s,n,pw,m,pw2,rfl,rfl,g2,g5,by omega,by omega,g3,g6,fun ys hy hs=>?_⟩
  show Runs ys ((s,n+m,pw)::r) a b
  refine⟨g1,by omega,by rw [show s+(n+m)=s+n+m by omega];exact hs,?_⟩
  rw [show s+(n+m)=s+n+m by omega]
  exact g7.congr fun k k1 k2=>hy k (.inr k1)
 | (s0,n0,p0)::y::r,a,b,j+1,⟨g1,g2,g3,g4⟩,hj=>by
  obtain⟨s,n,pw,m,pw2,e1,e2,h1,h2,h3,h4,h5,h6,h7⟩:=Runs.at (j:=j) g4 (by simpa using hj)
  refine⟨s,n,pw,m,pw2,by simpa using e1,by simpa using e2,h1,h2,by omega,h4,h5,h6,fun ys hy hs=>?_⟩
  have:=h7 ys hy hs
  show Runs ys ((s0,n0,p0)::(((y::r).set j (s,n+m,pw)).eraseIdx (j+1))) a b
  exact⟨g1,g2,g3.congr fun k k1 k2=>hy k (.inl (by omega)),this⟩
section
variable {prog:Program}{w:World}{A:Around}{E:Value→Shared→Prop}{s:Shared}{a₀:Array Keyed}{p:Array (Nat×Nat×Nat)}
theorem yS {st:SortSt}{lo n ok:Nat}{Q:Bool→SortSt→Prop} (h0:IntKeys a₀) (hn:lo+n≤a₀.size) (hok:ok≤n) (hB:SG a₀ p st) (hs:zg (arrOf st) lo (lo+ok))
  (h:∀st',SG a₀ p st'→zg (arrOf st') lo (lo+n)→yR (arrOf st) (arrOf st') lo (lo+n)→Q true st'):wpS (model prog w) A E s (binarySort' lo n ok) Q st:=by
 rw [binarySort'_eq]
 obtain⟨xs0,hx0⟩:∃xs0,xs0=arrOf st:=⟨_,rfl⟩
 rw [← hx0] at h
 refine wpS_bind (wpS_mono (wpS_forRange (I:=fun k c st'=>c=(none,())∧SG a₀ p st'∧yR xs0 (arrOf st') lo (lo+n)∧zg (arrOf st') lo (lo+min k n))
  (Q:=fun c st'=>c=(none,())∧SG a₀ p st'∧yR xs0 (arrOf st') lo (lo+n)∧zg (arrOf st') lo (lo+n)) ?step ?fin ?init) ?post)
 case post=>
  rintro c st' ⟨rfl,hB',hO,hs'⟩
  exact wpS_pure (h st' hB' hs' hO)
 case init=>
  refine⟨rfl,hB,fun _ _=>by rw [hx0],fun i j hi hij hj=>?_⟩
  by_cases e:ok=0
  ·rw [show i=j by omega];exact Int.le_refl _
  ·exact hs i j hi hij (by omega)
 case fin=>
  rintro c st' ⟨hc,hB',hO,hs'⟩
  refine⟨hc,hB',hO,?_⟩
  rwa [show min (max (max ok 1) n) n=n by omega] at hs'
 case step=>
  rintro k c st' hak hkn ⟨rfl,hB',hO,hs'⟩
  rw [show min k n=k by omega] at hs'
  have sz:=hB'.size
  refine wpS_bind (wpS_mono (wpS_forRange (I:=fun x c st''=>st''=st'∧∃l r,c=(none,l,r)∧l≤r∧r≤k∧r-l≤k-x ∧
    (∀i,i<l→K (arrOf st') (lo+i)≤K (arrOf st') (lo+k))∧(∀i,r≤i→i<k→K (arrOf st') (lo+k)<K (arrOf st') (lo+i)))
   (Q:=fun c st''=>st''=st'∧∃l r,c=(none,l,r)∧l≤k ∧
    (∀i,i<l→K (arrOf st') (lo+i)≤K (arrOf st') (lo+k))∧(∀i,l≤i→i<k→K (arrOf st') (lo+k)<K (arrOf st') (lo+i))) ?istep ?ifin ?iinit) ?ipost)
  case iinit=>exact⟨rfl,0,k,rfl,by omega,by omega,by omega,fun i hi=>by omega,fun i h1 h2=>by omega⟩
  case ifin=>
   rintro c st'' ⟨rfl,l,r,rfl,hlr,hrk,hm,hlo,hhi⟩
   have:l=r:=by omega
   subst this
   exact⟨rfl,l,l,rfl,hrk,hlo,hhi⟩
  case istep=>
   rintro x c st'' _ hxk ⟨rfl,l,r,rfl,hlr,hrk,hm,hlo,hhi⟩
   dsimp only
   by_cases hge:l ≥ r
   ·rw [if_pos hge]
    have:l=r:=by omega
    subst this
    exact wpS_pure ⟨rfl,l,l,rfl,hrk,hlo,hhi⟩
   ·rw [if_neg hge]
    refine wpS_bind (ww hB' h0 (by omega) (by omega) (fun hl=>?_) fun hl=>?_)
    ·refine wpS_pure ⟨rfl,l,(l+r) / 2,rfl,by omega,by omega,by omega,hlo,fun i h1 h2=>?_⟩
     exact Int.lt_of_lt_of_le hl (hs' _ _ (by omega) (by omega) (by omega))
    ·refine wpS_pure ⟨rfl,(l+r) / 2+1,r,rfl,by omega,by omega,by omega,fun i h1=>?_,hhi⟩
     exact Int.le_trans (hs' (lo+i) (lo+(l+r) / 2) (by omega) (by omega) (by omega)) (Int.not_lt.mp hl)
  case ipost=>
   rintro c st'' ⟨rfl,l,r,rfl,hlk,hlo,hhi⟩
   show wpS _ _ _ _ (do moveDown' (lo+k) (lo+l);pure (ForInStep.yield (none,()))) _ _
   rw [moveDown'_eq]
   have kB:∀j,K (bubble (arrOf st'') (lo+k) (lo+k-(lo+l))) j=if j=lo+k-(lo+k-(lo+l)) then K (arrOf st'') (lo+k) else if lo+k-(lo+k-(lo+l))<j∧j≤lo+k then K (arrOf st'') (j-1) else K (arrOf st'') j:=fun j=>K_bubble (by omega) (by omega) j
   rw [show lo+k-(lo+k-(lo+l))=lo+l by omega] at kB
   refine wpS_bind (wpS_modify (wpS_pure ⟨rfl,hB'.arr (bubble_perm _ _ _),fun j hj=>?_,?_⟩))
   ·refine Eq.trans ?_ (hO j hj)
    show K (bubble _ _ _) j=_
    rw [kB,if_neg (by omega),if_neg (by omega)]
   ·rw [show min (k+1) n=k+1 by omega]
    intro i j hi hij hj
    show K (bubble _ _ _) i≤K (bubble _ _ _) j
    rw [kB,kB]
    by_cases i1:i=lo+l
    ·rw [if_pos i1]
     by_cases j1:j=lo+l
     ·rw [if_pos j1];exact Int.le_refl _
     ·rw [if_neg j1,if_pos (by omega)]
      have:=hhi (j-1-lo) (by omega) (by omega)
      rw [show lo+(j-1-lo)=j-1 by omega] at this
      exact Int.le_of_lt this
    ·rw [if_neg i1]
     by_cases i2:lo+l<i
     ·rw [if_pos (by omega),if_neg (by omega),if_pos (by omega)]
      exact hs' _ _ (by omega) (by omega) (by omega)
     ·rw [if_neg (by omega)]
      by_cases j1:j=lo+l
      ·rw [if_pos j1]
       have:=hlo (i-lo) (by omega)
       rw [show lo+(i-lo)=i by omega] at this
       exact this
      ·rw [if_neg j1]
       by_cases j2:lo+l<j
       ·rw [if_pos (by omega)]
        exact hs' _ _ (by omega) (by omega) (by omega)
       ·rw [if_neg (by omega)]
        exact hs' _ _ (by omega) (by omega) (by omega)
end
section
variable {prog:Program}{w:World}{A:Around}{E:Value→Shared→Prop}{s:Shared}{a₀:Array Keyed}
structure SR (a₀:Array Keyed) (st:SortSt) (lo:Nat):Prop where
 perm:(arrOf st).Perm a₀
 kind:kindOf st=oneType'
 fail:failedOf st=none
 runs:Runs (arrOf st) (pendingOf st).toList 0 lo
 le:lo≤a₀.size
theorem SR.sg {st:SortSt}{lo:Nat} (h:SR a₀ st lo):SG a₀ (pendingOf st) st:=⟨h.perm,h.kind,h.fail,rfl⟩
theorem SR.len {st:SortSt}{lo:Nat} (h:SR a₀ st lo):(pendingOf st).size≤lo:=by
 have:=h.runs.le
 rw [Array.length_toList] at this
 omega
theorem Zu {st:SortSt}{lo j hi:Nat}{Q:Bool→SortSt→Prop} (h0:IntKeys a₀) (hB:SR a₀ st lo) (hj:j+1<(pendingOf st).size) (hS:zg (arrOf st) lo hi)
  (h:∀st',SR a₀ st' lo→(pendingOf st').size+1=(pendingOf st).size→zg (arrOf st') lo hi→Q true st'):wpS (model prog w) A E s (mergeAt' j) Q st:=by
 obtain⟨sa,na,pw,nb,pw2,e1,e2,n1,n2,_,g4,g5,g6,g7⟩:=Runs.at (j:=j) hB.runs (by rw [Array.length_toList];exact hj)
 rw [Array.getElem?_toList] at e1 e2
 have sz:(arrOf st).size=a₀.size:=hB.perm.size_eq
 have hle:=hB.le
 refine JC hB.kind hB.fail (hB.sg.ik h0) e1 e2 n1 n2 (by omega) g5 g6 fun st' k' f' p' o' s' pd'=>?_
 refine h st' ⟨p'.trans hB.perm,k',f',?_,hB.le⟩ ?_ (hS.congr fun k k1 k2=>o' k (.inr (by omega)))
 ·have:=g7 (arrOf st') o' s'
  rw [pd',Array.toList_eraseIdxIfInBounds,Array.toList_setIfInBounds]
  exact this
 ·have e:(pendingOf st').toList=((pendingOf st).toList.set j (sa,na+nb,pw)).eraseIdx (j+1):=by rw [pd',Array.toList_eraseIdxIfInBounds,Array.toList_setIfInBounds]
  have:=congrArg List.length e
  rw [Array.length_toList,List.length_eraseIdx,List.length_set,Array.length_toList,if_pos hj] at this
  omega
theorem ZX {st:SortSt}{Q:Unit→SortSt→Prop} (h0:IntKeys a₀) (hB:SBase a₀ st) (h2:2≤a₀.size)
  (h:∀st',(arrOf st').Perm a₀→failedOf st'=none→SortedTo (arrOf st') a₀.size→Q () st'):wpS (model prog w) A E s sortRuns' Q st:=by
 have B0:SR a₀ st 0:=⟨hB.perm,hB.kind,hB.failed,by rw [hB.pend];rfl,Nat.zero_le _⟩
 rw [sortRuns'_eq]
 refine wpS_bind (wpS_get ?_)
 dsimp only
 simp only [hB.size]
 generalize minRun' a₀.size a₀.size 0=mr
 refine wpS_bind (wpS_mono (wpS_forRange (I:=fun x c st'=>∃lo,c=(none,lo)∧SR a₀ st' lo∧x≤lo)
  (Q:=fun c st'=>c=(none,a₀.size)∧SR a₀ st' a₀.size) ?step ?fin ⟨0,rfl,B0,Nat.le_refl _⟩) ?post)
 case fin=>
  rintro c st' ⟨lo,rfl,B,hx⟩
  have:=B.le
  have e:lo=a₀.size:=by omega
  subst e
  exact⟨rfl,B⟩
 case step=>
  rintro x c st1 _ hx ⟨lo,rfl,B,hxl⟩
  dsimp only
  have hle:=B.le
  by_cases hge:lo ≥ a₀.size
  ·rw [if_pos hge]
   have e:lo=a₀.size:=by omega
   subst e
   exact wpS_pure ⟨rfl,B⟩
  rw [if_neg hge]
  refine wpS_bind (ZW h0 (by omega) (by omega) B.sg fun m st2 B2 m1 m2 S2 O2=>?_)
  dsimp only
  have R2:SR a₀ st2 lo:=⟨B2.perm,B2.kind,B2.fail,by rw [B2.pend];exact B.runs.congr fun k _ k2=>O2 k (.inl k2),hle⟩
  by_cases hlt:m<mr
  case' pos=>
   rw [if_pos hlt]
   refine wpS_bind (wpS_lift (wpAny_rule ⟨rfl,?_⟩))
   refine wpS_bind (yS h0 (by omega) (by omega) R2.sg S2 fun st3 B3 S3 O3=>?_)
   simp only [Bool.not_true,Bool.false_eq_true,if_false]
   have R3:SR a₀ st3 lo:=⟨B3.perm,B3.kind,B3.fail,by rw [B3.pend];exact R2.runs.congr fun k _ k2=>O3 k (.inl k2),hle⟩
   have n1:1≤min (a₀.size-lo) mr:=by omega
   have n2:lo+min (a₀.size-lo) mr≤a₀.size:=by omega
   generalize min (a₀.size-lo) mr=n at S3 n1 n2 ⊢
  case' neg=>
   rw [if_neg hlt]
   have R3:=R2
   have S3:=S2
   have n1:=m1
   have n2:lo+m≤a₀.size:=by omega
   generalize st2=st3 at R3 S3 ⊢
   generalize m=n at S3 n1 n2 ⊢
  all_goals
   refine wpS_bind (wpS_get ?_)
   have push:∀st4:SortSt,SR a₀ st4 lo→zg (arrOf st4) lo (lo+n)→SR a₀ (setPending st4 ((pendingOf st4).push (lo,n,0))) (lo+n):=fun st4 R4 S4=>
    ⟨R4.perm,R4.kind,R4.fail,by show Runs (arrOf st4) ((pendingOf st4).push _).toList 0 _;rw [Array.toList_push];exact R4.runs.snoc n1 S4,n2⟩
   cases hbk:(pendingOf st3).back? with
   | none=>
    dsimp only
    exact wpS_bind (wpS_modify (wpS_pure ⟨_,rfl,push st3 R3 S3,by omega⟩))
   | some t=>
    obtain⟨s1,q1,z1⟩:=t
    dsimp only
    generalize power' a₀.size (2*s1+q1) (2*s1+q1+q1+n) a₀.size=pw
    refine wpS_bind (wpS_mono (wpS_forRange (I:=fun _ c st4=>c=(none,())∧SR a₀ st4 lo∧zg (arrOf st4) lo (lo+n))
     (Q:=fun c st4=>c=(none,())∧SR a₀ st4 lo∧zg (arrOf st4) lo (lo+n)) ?_ (fun _ _ y=>y) ⟨rfl,R3,S3⟩) ?_)
    ·rintro y c st4 _ hy ⟨rfl,R4,S4⟩
     refine wpS_bind (wpS_get ?_)
     by_cases hp:(pendingOf st4).size > 1
     ·rw [if_pos hp]
      cases hq:(pendingOf st4)[(pendingOf st4).size-2]? with
      | none=>
       dsimp only
       exact wpS_pure ⟨rfl,R4,S4⟩
      | some u=>
       obtain⟨u1,u2,older⟩:=u
       dsimp only
       by_cases ho:older≤pw
       ·rw [if_pos ho]
        exact wpS_pure ⟨rfl,R4,S4⟩
       ·rw [if_neg ho]
        refine wpS_bind (Zu h0 R4 (by omega) S4 fun st5 R5 _ S5=>?_)
        simp only [Bool.not_true,Bool.false_eq_true,if_false]
        exact wpS_pure ⟨rfl,R5,S5⟩
     ·rw [if_neg hp]
      dsimp only
      exact wpS_pure ⟨rfl,R4,S4⟩
    ·rintro c st4 ⟨rfl,R4,S4⟩
     dsimp only
     refine wpS_bind (wpS_modify ?_)
     have R5:SR a₀ (setPending st4 ((pendingOf st4).modify ((pendingOf st4).size-1) fun x=>(x.1,x.2.1,pw))) lo:=
      ⟨R4.perm,R4.kind,R4.fail,by show Runs (arrOf st4) ((pendingOf st4).modify _ _).toList 0 _;rw [Array.toList_modify];exact R4.runs.pow _,hle⟩
     exact wpS_bind (wpS_modify (wpS_pure ⟨_,rfl,push _ R5 S4,by omega⟩))
 case post=>
  rintro c st1 ⟨rfl,R1⟩
  dsimp only
  refine wpS_bind (wpS_mono (wpS_forRange (I:=fun x c st2=>c=(none,())∧SR a₀ st2 a₀.size∧(pendingOf st2).size≤max 1 (a₀.size-x))
   (Q:=fun c st2=>c=(none,())∧SR a₀ st2 a₀.size∧(pendingOf st2).size≤1) ?_ ?_ ⟨rfl,R1,by have:=R1.len;omega⟩) ?_)
  ·rintro x c st2 _ hx ⟨rfl,R2,p2⟩
   refine wpS_bind (wpS_get ?_)
   by_cases hp:(pendingOf st2).size≤1
   ·rw [if_pos hp]
    exact wpS_pure ⟨rfl,R2,hp⟩
   rw [if_neg hp]
   try dsimp only
   have hS:zg (arrOf st2) a₀.size a₀.size:=fun i j a b c=>by omega
   split
   all_goals
    refine wpS_bind (Zu h0 R2 (by split <;> omega) hS fun st3 R3 l3 _=>?_)
    simp only [Bool.not_true,Bool.false_eq_true,if_false]
    exact wpS_pure ⟨rfl,R3,by omega⟩
  ·rintro c st2 ⟨rfl,R2,p2⟩
   exact⟨rfl,R2,by omega⟩
  ·rintro c st2 ⟨rfl,R2,p2⟩
   refine wpS_pure (h st2 R2.perm R2.fail ?_)
   have hr:=R2.runs
   match hl:(pendingOf st2).toList,hr with
   | [],hr=>
    have:(0:Nat)=a₀.size:=hr
    omega
   | [(s1,n1,_)],⟨g1,g2,g3,g4⟩=>
    have e:s1+n1=a₀.size:=g4
    subst g1
    intro i j hij hj
    exact g3 i j (Nat.zero_le _) hij (by omega)
   | _::_::_,_=>
    have:(pendingOf st2).toList.length≤1:=by rw [Array.length_toList];exact p2
    rw [hl] at this
    simp at this
end
section
variable {prog:Program}{w:World}{A:Around}{E:Value→Shared→Prop}{s:Shared}
theorem Y6 {α:Type}:∀{l:List α},¬l.length<2→∃x y r,l=x::y::r
 | [],h=>absurd (by decide:(0:Nat)<2) h
 | [_],h=>absurd (by decide:(1:Nat)<2) h
 | x::y::r,_=>⟨x,y,r,rfl⟩
theorem Xn {a:Addr}{vs:List Value}{ns:List Int}{n:Nat}{P:Fin→Shared→Prop} (ho:s.heap.get? a=some (seqObj "list" vs.toArray n)) (hI:IntsAre vs ns) (hz:vs.length≤sizeLine)
  (h:∀(o:Array Value) (ms:List Int),IntsAre o.toList ms→ms.Perm ns→ms.Pairwise (·≤·)→P (.done (.ret .none)) { s with heap:=sortedHeap s.heap a vs o }) :
  wpAny (model prog w) A (Builtin.«list.sort» ⟨[.ref a],[]⟩) P E s:=by
 have ha:a<s.heap.objs.size:=Heap.lt_size ho
 obtain⟨e1,ho1⟩:∃e1,(s.heap.update a (Obj.mapSeq fun _=>(#[]:Array Value))).get? a=some (seqObj "list" #[] e1):=⟨_,get?_update_seq ho fun _=>#[]⟩
 rw [list_sort_plain]
 refine wpAny_bind (listItems_at ho rfl ?_)
 refine wpAny_bind (listUpdate_at ho rfl ?_ (by rw [List.size_toArray];exact hz) (Nat.zero_le _))
 refine wpAny_bind (seqEpoch_at ho1 rfl ?_)
 refine wpAny_bind (wpAny_newTuple ?_ (by show vs.length≤_;exact hz))
 refine wpAny_bind (wpAny_newList ?_ (Nat.zero_le _))
 refine wpAny_holding ?_
 show wpAny (model prog w) A _ P E { s with heap:=((s.heap.update a (Obj.mapSeq fun _=>(#[]:Array Value))).push (seqObj "tuple" vs.toArray 0)).push (seqObj "list" #[] 0) }
 dsimp only
 have ho6:(((s.heap.update a (Obj.mapSeq fun _=>(#[]:Array Value))).push (seqObj "tuple" vs.toArray 0)).push (seqObj "list" #[] 0)).get? a=some (seqObj "list" #[] e1):=Heap.get?_push_of_some _ (Heap.get?_push_of_some _ ho1)
 have fin:∀c:Array Keyed,c.Perm (pairsOf vs)→SortedTo c (pairsOf vs).size→P (.done (.ret .none)) { s with heap:=sortedHeap s.heap a vs (c.map (·.2)) }:=fun c hp hs=>by
  obtain⟨ms,h1,h2,h3⟩:=sorted_out hI hp hs
  exact h _ ms h1 h2 h3
 by_cases h2:vs.toArray.size<2
 ·rw [if_pos h2,if_pos h2]
  refine wpAny_bind (wpAny_pure ?_)
  rw [StateT.run_pure]
  refine wpAny_bind (wpAny_pure ?_)
  dsimp only
  refine wpAny_bind (seqEpoch_at ho6 rfl ?_)
  refine wpAny_bind (listUpdate_at ho6 rfl ?_ (Nat.zero_le _) (by rw [Array.size_map];show (pairsOf vs).size≤_;rw [pairsOf_size];exact Nat.le_succ_of_le hz))
  simp only [bne_self_eq_false,Bool.false_eq_true,if_false]
  rw [List.size_toArray] at h2
  refine wpAny_pure (fin (pairsOf vs) (Array.Perm.refl _) fun i j hij hj=>?_)
  rw [pairsOf_size] at hj
  rw [show i=j by omega]
  exact Int.le_refl _
 ·rw [if_neg h2,if_neg h2]
  rw [List.size_toArray] at h2
  have kk:keyKind' vs.toArray=pure oneType':=by
   obtain⟨x,y,r,rfl⟩:=Y6 h2
   exact keyKind_ints hI
  rw [kk]
  refine wpAny_bind (wpAny_pure ?_)
  refine wpAny_bind (wpAny_mono (ZX (a₀:=pairsOf vs) (st:=SortSt.mk' oneType' (vs.toArray.zip vs.toArray) #[] 7 none)
   (Q:=fun _ st=>(arrOf st).Perm (pairsOf vs)∧failedOf st=none∧SortedTo (arrOf st) (pairsOf vs).size) hI.intKeys ⟨Array.Perm.refl _,rfl,rfl,rfl⟩ (by rw [pairsOf_size];omega) fun st c1 c2 c3=>⟨c1,c2,c3⟩) ?_ fun _ _ e=>e)
  rintro⟨⟨⟩,st⟩ s' ⟨rfl,hp,hf,hs⟩
  dsimp only
  refine wpAny_bind (seqEpoch_at ho6 rfl ?_)
  refine wpAny_bind (listUpdate_at ho6 rfl ?_ (Nat.zero_le _) (Nat.le_trans (Nat.le_of_eq ((Array.size_map ..).trans (hp.size_eq.trans (pairsOf_size _)))) (Nat.le_succ_of_le hz)))
  rw [hf]
  simp only [bne_self_eq_false,Bool.false_eq_true,if_false]
  exact wpAny_pure (fin (arrOf st) hp hs)
theorem sortedB {l:Addr}{vs:List Value}{ns:List Int}{Q:Value→Shared→Prop} (hl:s.heap.IsList l vs.toArray) (hI:IntsAre vs ns) (hz:vs.length≤sizeLine)
  (h:∀(o:Array Value) (ms:List Int),IntsAre o.toList ms→ms.Perm ns→ms.Pairwise (·≤·)→Q (.ref (s.heap.objs.size+1)) { s with heap:=sortedAll s.heap vs o }) :
  wpAny (model prog w) A (call (.builtin "sorted") [.ref l]) Q E s:=by
 refine Calls.call_function_entry kind_sorted plain_sorted entry_sorted (args_sorted1 _) ?_
 unfold Builtin.«sorted»
 refine wpAny_bind (m:=checkCount "sorted" 1 1 _) (wpAny_pure ?_)
 refine wpAny_bind (collect_list hl ?_ hz)
 refine wpAny_bind (wpAny_newList ?_ (by show vs.length≤_;exact hz))
 have hsz:((s.heap.push (seqObj "list" #[] 0)).update s.heap.objs.size (Obj.mapSeq (·++vs.toArray))).objs.size=s.heap.objs.size+1:=by
  rw [Heap.size_update,size_push']
 have hoL:(((s.heap.push (seqObj "list" #[] 0)).update s.heap.objs.size (Obj.mapSeq (·++vs.toArray))).push (seqObj "list" vs.toArray 0)).get? (s.heap.objs.size+1)=some (seqObj "list" vs.toArray 0):=by
  rw [← hsz];exact Heap.get?_push_size _ rfl
 show wpAny _ _ _ _ _ { s with heap:=((s.heap.push (seqObj "list" #[] 0)).update s.heap.objs.size (Obj.mapSeq (·++vs.toArray))).push (seqObj "list" vs.toArray 0) }
 rw [hsz]
 refine wpAny_bind (wpAny_holding (wpAny_call_entry slot_list_sort ⟨_,hoL,rfl⟩ entry_list_sort (Xn hoL hI hz fun o ms c1 c2 c3=>⟨_,rfl,?_⟩) (args_list_sort _)))
 exact wpAny_pure ⟨_,rfl,h o ms c1 c2 c3⟩
end
end SB
namespace L2
open PySem PyProof.Rows
section
variable {X:Cx}
theorem wA:CallR X (.builtin "sorted") (fun xs H Q=>∃(p:Addr) (ns:List Int),xs=[.ref p]∧SqL X.K H p (ns.map V.int)∧∀(l:Addr) (ms:List Int),H l=none→ms.Perm ns→ms.Pairwise (·≤·)→Q (.ref l) (upd H l (.lst (ms.map V.int)))):=by
 intro pins s σ H xs us Q I r h
 obtain⟨p,ns,rfl,hq,q⟩:=h
 obtain⟨u,rfl,ru⟩:=vals1 r
 cases ru
 obtain⟨vs,hl,hi,hz⟩:=I.ints hq
 refine SB.sortedB hl hi (by rw [hi.length];exact hz) fun out ms a1 a2 a3=>?_
 obtain⟨e,he⟩:=sortedAll_at s.heap vs out
 have new:ObjOk X.prog X.w (upd H (s.heap.objs.size+1) (.lst (ms.map V.int))) (sortedAll s.heap vs out) (s.heap.objs.size+1) (.lst (ms.map V.int)):=⟨by rw [List.length_map,a2.length_eq];exact hz,out.toList,e,vals_ints a1,by simpa [seqObj] using he⟩
 exact⟨.ref (s.heap.objs.size+1),_,I.laid (t':=s.toks) (fun _ _=>sortedAll_old) (Nat.le_succ _) new,rfl,q _ ms (I.hok.fresh (Nat.le_succ _)) a2 a3⟩
end
end L2
namespace L2
open PySem PySem.Spec PyProof.Rows
open PySem.W (hideAll of_hideAll hideAll_get)
noncomputable def yU (h:Heap) (e:Addr):Prop:=∃o vs,h.get? e=some o∧o.data=.fields vs∧vs[2]?=some Value.none
section
variable {M:Model}{A:Around}{E:Value→Shared→Prop}{s:Shared}{B:Heap}{env:Env}{outer:List Env}{L e:Addr}{oe:Obj}{vs:Array Value}{head cls a0:Value}{hadNext:Bool}{Q:Unit→Shared→Prop}
theorem Ku (hfr:A.frames=some (env::outer)) (fr:s.heap.FunFrames B (env::outer)) (hf:env.frame=some L) (he:s.heap.get? e=some oe) (kb:B.StaysIn s.heap) (en:B.get? e=none) (hd:oe.data=.fields vs) (h0:vs[0]?=some a0) (h2:vs[2]?=some .none)
  (q:∀h',Heap.NotedW B (env::outer) e oe.cls a0 (rawInt L) s.heap h'→yU h' e→Q () { s with heap:=h' }) :
  wpAny M A (do let a ← frameOf env;let pl ← entryPlaceOf L hadNext;let b ← EntryCells.newEntry head a .none (rawInt L) .none pl;setField (.ref e) 1 b) Q E s:=by
 have z2:2<vs.size:=(Array.getElem?_eq_some_iff.mp h2).1
 have nofr:e ∉ (env::outer).filterMap (·.frame):=fun m=>by
  obtain⟨_,o,ho,nf⟩:=fr.mem m
  rw [he] at ho
  cases ho
  exact nf vs hd
 refine wpAny_bind (wpAny_frameOf_fun hfr fr hf fun h1 so=>wpAny_bind (wpAny_entryPlaceOf fun pl hpl=>?_))
 unfold EntryCells.newEntry newFields
 refine wpAny_bind (wpAny_newObj_type ?_ (hpl.sizeOk5 _ _ _ _ _))
 have tz:∃ts:Array Value,([head,.ref L,.none,rawInt L,.none]++(if pl.isEmpty then List.replicate 6 Value.none else pl)).toArray=ts∧ts[3]?=some (rawInt L):=⟨_,rfl,by simp⟩
 obtain⟨ts,et,t3⟩:=tz
 rw [et]
 have e1:h1.get? e=some oe:=(so.2.1 e nofr).trans he
 have k1:B.StaysIn h1:=fun b o hb=>(so.2.1 b fun m=>by rw [(fr.mem m).1] at hb;cases hb).trans (kb b o hb)
 have Te:h1.objs.size≠e:=Nat.ne_of_gt (Heap.lt_size e1)
 refine wpAny_setField (Heap.get?_push_of_some _ e1) hd (by omega) ?_
 have d3:=Obj.data_mapFields hd (·.setIfInBounds 1 (Value.ref h1.objs.size))
 have g3:=Heap.get?_update_self (Obj.mapFields (·.setIfInBounds 1 (Value.ref h1.objs.size))) (Heap.get?_push_of_some ⟨.type "traceback",none,.fields ts,#[]⟩ e1) (Obj.isFreed_of_fields d3)
 have T3:=(Heap.get?_update_other (h1.push ⟨.type "traceback",none,.fields ts,#[]⟩) (Obj.mapFields (·.setIfInBounds 1 (Value.ref h1.objs.size))) (Ne.symm Te)).trans (Heap.get?_push_size h1 rfl)
 have stays:∀b o,b≠e→h1.get? b=some o→((h1.push ⟨.type "traceback",none,.fields ts,#[]⟩).update e (Obj.mapFields (·.setIfInBounds 1 (Value.ref h1.objs.size)))).get? b=some o:=fun b o n hb=>by
  rw [Heap.get?_update_other _ _ (Ne.symm n)]
  exact Heap.get?_push_of_some _ hb
 have nrc:∀b o,s.heap.get? b=some o→(∀ws,o.data≠.fields ws)→b≠e:=fun b o hb nf z=>by
  rw [z,he] at hb
  cases hb
  exact nf vs hd
 refine q _ ⟨fun b o hb=>stays b o (fun z=>by rw [z,en] at hb;cases hb) (k1 b o hb),fr.of_keeps fun b o hb nf=>?_,?_,fun b o hb nf=>?_⟩ ⟨_,_,g3,d3,by rw [Array.getElem?_setIfInBounds_ne (by decide)];exact h2⟩
 ·obtain⟨sl,hs⟩:=so.2.2 b o hb
  exact⟨_,stays b _ (nrc b o hb nf) hs,rfl⟩
 ·exact⟨_,_,h1.objs.size,_,_,g3,⟨Obj.cls_mapFields _ _,by rw [Array.getElem?_setIfInBounds_ne (by decide)];exact h0⟩,d3,by simp [show 1<vs.size by omega],k1.fresh,Te,T3,rfl,t3⟩
 ·obtain⟨sl,hs⟩:=so.2.2 b o hb
  exact⟨sl,stays b _ (nrc b o hb nf) hs⟩
theorem QV {l:List Env}{fl:Value} (kb:B.StaysIn s.heap) (fr:s.heap.FunFrames B l) (ht:s.heap.TracedAtW B e cls a0 fl) (cx:yU s.heap e)
  (q:∀h',B.StaysIn h'→h'.FunFrames B l→h'.TracedW B e cls a0→s.heap.UpToSlots h'→yU h' e→Q () { s with heap:=h' }):wpAny M A (setFlight (.ref e) none) Q E s:=by
 obtain⟨oe,vs,T,oT,ts,he,hc,hd,h1,nT,Te,hT,dT,h3⟩:=ht
 have z3:3<ts.size:=(Array.getElem?_eq_some_iff.mp h3).1
 have oth:∀b,b≠T→(s.heap.update T (Obj.mapFields (·.setIfInBounds 3 ((none:Option Addr).elim Value.none fun f=>rawInt f)))).get? b=s.heap.get? b:=fun b n=>Heap.get?_update_other _ _ (Ne.symm n)
 have nrc:∀b o,s.heap.get? b=some o→(∀ws,o.data≠.fields ws)→b≠T:=fun b o hb nf z=>by
  rw [z,hT] at hb
  cases hb
  exact nf ts dT
 unfold setFlight
 refine wpAny_bind (wpAny_field he hd h1 ?_)
 rw [if_pos (show (Value.ref T != Value.none)=true from by simp)]
 refine wpAny_setField hT dT z3 (q _ (fun b o hb=>(oth b fun z=>by rw [z,nT] at hb;cases hb).trans (kb b o hb)) (fr.of_keeps fun b o hb nf=>⟨o,(oth b (nrc b o hb nf)).trans hb,rfl⟩) ?_ (fun b o hb nf=>⟨o.slots,(oth b (nrc b o hb nf)).trans hb⟩) ?_)
 ·exact⟨oe,vs,T,_,_,(oth e (Ne.symm Te)).trans he,hc,hd,h1,nT,Te,Heap.get?_update_self _ hT (Obj.isFreed_of_fields (Obj.data_mapFields dT _)),Obj.data_mapFields dT _,by simp [z3]⟩
 ·obtain⟨o2,v2,g2,d2,c2⟩:=cx
  exact⟨o2,v2,(oth e (Ne.symm Te)).trans g2,d2,c2⟩
theorem QW {h:Heap}{args:List Value} (hfr:A.frames=some (env::outer)) (hf:env.frame=some L) (kb:B.StaysIn h) (fr:h.FunFrames B (env::outer)) (m:Heap.MadeExcOf h s.heap e cls args)
  (q:∀h' t,Heap.FlyingW B outer e cls (.ref t) h'→s.heap.UpToSlots h'→yU h' e→Q () { s with heap:=h' }):wpAny M A (leaving env (.ref e)) Q E s:=by
 obtain⟨t,he,_,_⟩:=m.there
 have en:B.get? e=none:=by
  cases z:B.get? e with
  | none=>rfl
  | some o=>have:=kb e o z;rw [m.new] at this;cases this
 unfold leaving noteFrame
 simp only [hf]
 refine wpAny_bind (wpAny_bind (wpAny_field (x:=.none) he rfl rfl ?_))
 rw [if_neg (by decide)]
 refine Ku (a0:=.ref t) hfr (fr.of_keeps fun b o hb _=>⟨o,m.keeps b o hb,rfl⟩) hf he (fun b o hb=>m.keeps b o (kb b o hb)) en rfl rfl rfl fun h1 n1 c1=>?_
 obtain⟨k1,f1,t1,u1⟩:=n1
 refine QV (s:={ s with heap:=h1 }) k1 f1 t1 c1 fun h2 k2 f2 t2 u2 c2=>?_
 obtain⟨_,_,f2⟩:=f2
 exact q h2 t ⟨k2,en,f2,t2⟩ (Heap.UpToSlots.trans u1 u2) c2
theorem Y7 (hfr:A.frames=some (env::outer)) (hf:env.frame=some L) (fl:Heap.FlyingW B (env::outer) e cls a0 s.heap) (cx:yU s.heap e)
  (q:∀h',Heap.HeldW B (env::outer) e cls a0 L h'→s.heap.UpToSlots h'→yU h' e→Q () { s with heap:=h' }):wpAny M A (noteFrame (.ref e) env) Q E s:=by
 obtain⟨kb,en,fr,oe,vs,T,oT,ts,he,⟨rfl,h0⟩,hd,h1,nT,Te,hT,dT,h3⟩:=fl
 obtain⟨o2,v2,g2,d2,c2⟩:=cx
 rw [he] at g2
 cases g2
 rw [hd] at d2
 cases d2
 unfold noteFrame
 simp only [hf]
 refine wpAny_bind (wpAny_field he hd h1 ?_)
 rw [if_pos (show (Value.ref T != Value.none)=true from by simp)]
 refine wpAny_bind (wpAny_field hT dT h3 ?_)
 rw [if_neg (show ¬((Value.none == rawInt L)=true) from by simp [rawInt])]
 refine wpAny_bind (wpAny_setField hT dT (Array.getElem?_eq_some_iff.mp h3).1 ?_)
 have oth:∀b,b≠T→(s.heap.update T (Obj.mapFields (·.setIfInBounds 3 Value.none))).get? b=s.heap.get? b:=fun b n=>Heap.get?_update_other _ _ (Ne.symm n)
 have nrc:∀b o,s.heap.get? b=some o→(∀ws,o.data≠.fields ws)→b≠T:=fun b o hb nf z=>by
  rw [z,hT] at hb
  cases hb
  exact nf ts dT
 refine Ku (s:={ s with heap:=s.heap.update T (Obj.mapFields (·.setIfInBounds 3 Value.none)) }) hfr (fr.of_keeps fun b o hb nf=>⟨o,(oth b (nrc b o hb nf)).trans hb,rfl⟩) hf ((oth e (Ne.symm Te)).trans he) (fun b o hb=>(oth b fun z=>by rw [z,nT] at hb;cases hb).trans (kb b o hb)) en hd h0 c2 fun h2 n2 cx2=>?_
 obtain⟨k2,f2,t2,u2⟩:=n2
 exact q h2 ⟨k2,en,f2,t2⟩ (fun b o hb nf=>u2 b o ((oth b (nrc b o hb nf)).trans hb) nf) cx2
theorem Y8 {l:List Env} (hh:Heap.HeldW B l e cls a0 L s.heap) (cx:yU s.heap e) (q:∀h',Heap.FlyingW B l e cls a0 h'→s.heap.UpToSlots h'→yU h' e→Q () { s with heap:=h' }):wpAny M A (setFlight (.ref e) none) Q E s:=by
 obtain⟨f1,f2,f3,f4⟩:=hh
 exact QV f1 f3 f4 cx fun h' k1 k2 k3 k4 k5=>q h' ⟨k1,f2,k2,k3⟩ k4 k5
theorem QX {l:List Env} (fl:Heap.FlyingW B l e cls a0 s.heap) (cx:yU s.heap e) (q:∀h',Heap.FlyingW B l e cls a0 h'→s.heap.UpToSlots h'→yU h' e→Q () { s with heap:=h' }):wpAny M A (setFlight (.ref e) none) Q E s:=by
 obtain⟨f1,f2,f3,f4⟩:=fl
 exact QV f1 f3 f4.at cx fun h' k1 k2 k3 k4 k5=>q h' ⟨k1,f2,k2,k3⟩ k4 k5
end
noncomputable def CXF (P:Program) (w:World):CXT:=fun outer H s E e s'=>CXE P w outer H s E e s'∧∃x,e=.ref x∧yU s'.heap x
section
variable {P:Program}{w:World}{K:W.Frag}{mg:Str→Option Value}{base:Heap}{N:List Str}{qual:Str}{scope:Scope}{f:Addr}{cdv:Value}{A:Around}{outer:List Env}{s s2:Shared}{H H1:Hp}{E:XK}{pins:List (Addr×Obj)}{σ:St}
theorem Kv {h':Heap}{e:Addr}{C:Value}{vs:List Value} (I:Inv (cxOf (CXF P w) P w K mg base N qual scope f cdv A outer s H E) pins σ H1 s2) (m:Heap.MadeExcOf s2.heap h' e C vs) (h:E C none H1) :
  (cxOf (CXF P w) P w K mg base N qual scope f cdv A outer s H E).xe (.ref e) { s2 with heap:=h' }:=by
 have I':Inv (cxOf (CXE P w) P w K mg base N qual scope f cdv A outer s H E) pins σ H1 s2:=Inv.unwish (X:=cxOf (CXE P w) P w K mg base N qual scope f cdv A outer s H E) I
 show wpAny (model P w) (A.deeper (envOfC qual scope s.heap.objs.size f cdv)) (leaving (envOfC qual scope s.heap.objs.size f cdv) (.ref e)) (fun _ s''=>CXF P w outer H s E (.ref e) s'') (fun e' s''=>CXF P w outer H s E e' s'') { s2 with heap:=h' }
 have stk:=I.stack
 refine QW (s:={ s2 with heap:=h' }) (B:=hideAll s2.heap (frs (envOfC qual scope s.heap.objs.size f cdv::outer))) (h:=s2.heap) I.ok.frames rfl (fun b o q=>of_hideAll _ q) (W.funFrames_hide stk fun env he b hb=>List.mem_filterMap.mpr ⟨env,he,hb⟩) m fun h'' t fl ups cx=>?_
 have up1:s2.heap.UpToSlots h'':=(Heap.UpToSlots.of_keeps m.keeps).trans ups
 refine⟨⟨e,C,.ref t,H1,_,rfl,I.os,I.bare,fl,fun h3 st3 up3=>stands I' st3 (up1.trans up3),?_,?_,h⟩,e,rfl,cx⟩
 ·cases q:s.heap.get? e with
  | none=>rfl
  | some o=>
   obtain⟨o2,q2⟩:=I.base.there e o q (by show e ∉ ([]:List Addr);simp)
   rw [m.new] at q2;cases q2
 ·cases q:H1 e with
  | none=>rfl
  | some u=>
   obtain⟨ob,q2⟩:=ObjOk.there (I.hok e u q)
   rw [m.new] at q2;cases q2
end
section
variable {P:Program}{w:World}{K:W.Frag}{mg:Str→Option Value}{base:Heap}
noncomputable def FnF (P:Program) (w:World) (K:W.Frag) (mg:Str→Option Value) (base:Heap) (k:Nat) (x:Str) (ps:List Str) (sp:Sp):Prop:=
 ∃f fd,FnOk P w K mg base (CXF P w) k f fd ps sp∧W.keepIn K (.ref f)=true∧Binds K fd ps []∧mg x=some (.ref f)
theorem Qn {N:List Str}{qual:Str}{scope:Scope}{f:Addr}{cdv:Value}{A:Around}{outer:List Env}{s:Shared}{H:Hp}{E:XK}{xn:Str}{C:Addr}{bmB:List Value}{B newId initId:String}{e:Expr}{es:List Expr}{t:TA}{np cpos pos:Pos}
  (FB:ExcBaseFacts B newId initId bmB) (hq:W.excIn K C bmB newId=true) (hg:Gl (cxOf (CXF P w) P w K mg base N qual scope f cdv A outer s H E) xn) (hm:mg xn=some (.ref C)) (ha:PA (cxOf (CXF P w) P w K mg base N qual scope f cdv A outer s H E) (e::es) t)
  (hd:(xn == ("__debug__":Str))=false:=by decide)
  (he:starEach (e::es) (cxOf (CXF P w) P w K mg base N qual scope f cdv A outer s H E).env=(false,eval e (cxOf (CXF P w) P w K mg base N qual scope f cdv A outer s H E).env)::starEach es (cxOf (CXF P w) P w K mg base N qual scope f cdv A outer s H E).env:=by rfl)
  (hpl:(backTo cpos (starEach es (cxOf (CXF P w) P w K mg base N qual scope f cdv A outer s H E).env)).any (·.1)=false:=by rfl) :
  PS (cxOf (CXF P w) P w K mg base N qual scope f cdv A outer s H E) (.Raise (some (.Call (.Name xn np) (e::es) [] cpos)) none pos) (Kd C E t):=by
 intro pins s1 σ H0 D I h
 obtain⟨bm,N',nm,q,bs,hdct,sn,sub,ab,col,dd,k0,k1,k2,k3,k5,mN,hC,hN,hni,TL,_⟩:=vz I.mod.kin hq
 refine wpAny_Raise_call_subT (C:=C) (nm:=nm) (q:=q) (N:=N') (bs:=bs) (bm:=bm) (hdct:=hdct) (sn:=sn) (sub:=sub) (ab:=ab) (col:=col) (dd:=dd) (k0:=k0) (k1:=k1) (k2:=k2) (k3:=k3) (k5:=k5)
  FB (mN:=mN) (TL.hasType FB.hasBase) (I.ok.hd rfl) (by rw [he];show (false || (backTo cpos (starEach es _)).any (·.1))=false;rw [hpl];rfl) hni (ld_glob I hg hm ⟨rfl,?_⟩ hd)
 have hs:=ha cpos pins s1 σ H0 _ I h
 rw [he] at hs ⊢
 exact Calls.evalArgs_plain (thn hs fun us s2 x=>by
  obtain⟨vs,H1,I1,r1,z,q1⟩:=x
  exact⟨rfl,by rw [← r1.length];exact z,I1.bk _ _ hC,hN.keeps I1.bk,TL.keeps I1.bk,fun h' x m=>Kv I1 m q1⟩)
theorem Def.fnF {x:Str}{st:Stmt}{N ps:List Str}{k:Nat}{sp:Sp} (D:Def K mg x st ps) (S:FnScope N ps (defScope st)) (len:∀vs H Q E,sp vs H Q E→vs.length=ps.length)
  (hbody:∀(f:Addr) (cdv:Value) (A:Around) (outer:List Env) (s:Shared) (H:Hp) (vs:List V) (Q:VK) (E:XK),Room k (A.deeper (envOfC x (defScope st) s.heap.objs.size f cdv))→sp vs H Q E →
   ∃t,PSs (cxOf (CXF P w) P w K mg base N x (defScope st) f cdv A outer s H E) (defBody st) t∧t { nx:=fun _ H'=>Q .non H',rt:=Q } (start N vs) H):FnF P w K mg base (k+1) x ps sp:=by
 obtain⟨f,fd,F,b,m⟩:=D
 refine⟨f,fd,?_,F.kp,b,m⟩
 obtain⟨oc,od,kV,doc,pm,an,cdv,ct,osl,rfl,lk,hcd⟩:=F.ex
 exact fn_of lk hcd S len fun A outer s H vs Q E hr hsp=>hbody f cdv A outer s H vs Q E hr hsp
end
noncomputable def X8 (X:Cx) (G:St→Value→Hp→Prop):Prop:=∀(pins:List (Addr×Obj)) (σ:St) (H:Hp) (s:Shared) (e:Value) (s':Shared),Inv X pins σ H s→CXF X.prog X.w X.stack H s (fun C _ H'=>G σ C H') e s'→X.xe e s'
section
variable {X:Cx}{k:Nat}{x:Str}{ps:List Str}{sp:Sp}{p pos:Pos}{e:Expr}{es:List Expr}{t:TA}{G:St→Value→Hp→Prop}
theorem Y9 (F:FnF X.prog X.w X.K X.mg X.base k x ps sp) (hr:Room k X.A) (hg:Gl X x) (hx:X8 X G) (ha:PA X (e::es) t) (hdb:(x == ("__debug__":Str))=false:=by decide)
  (he:starEach (e::es) X.env=(false,eval e X.env)::starEach es X.env:=by rfl) (hpl:(backTo pos (starEach es X.env)).any (·.1)=false:=by rfl) :
  PE X (.Call (.Name x p) (e::es) [] pos) (zaK sp G t):=by
 obtain⟨f,fd,F,kp,b,m⟩:=F
 intro pins s σ H Q I h
 refine wpAny_Call_Name_kw (ld_glob I hg m ?_ hdb)
 refine W.callWith_K (h₀:=X.base) I.ok.mod.kin kp (thn (ha pos pins s σ H _ I h) fun us s1 ⟨vs,H1,I1,r,q⟩=>⟨I1.kIn,?_⟩) he hpl
 have hl:us.length=ps.length:=by rw [← r.length];exact F.len _ _ _ _ q
 have bb:=b s1 us I1.kIn (by rw [List.append_nil];exact hl)
 rw [List.append_nil] at bb
 refine wpAny_call (codeAny_mono (F.run X.A X.stack s1 H1 ⟨us,[]⟩ us vs Q _ hr I1.env0 bb r q) fun rr s' hq=>?_)
 cases rr with
 | error e=>exact hx pins σ H1 s1 e s' I1 hq
 | ok fl=>
  cases fl with
  | ret u=>exact I1.after hq
  | next=>exact False.elim hq
  | brk=>exact False.elim hq
  | cont=>exact False.elim hq
end
end L2
namespace L2
open PySem PySem.Spec PyProof.Rows
theorem ZZ:entryFor table "proto.unchain"=some Builtin.«proto.unchain»:=by kernel_rfl
section
variable {P:Program}{w:World}{A:Around}{E:Value→Shared→Prop}{h:Heap}{g:Array GenState}{d:Drawn}{t:Nat}{os:OsState}
theorem yc {e C:Addr}{bm:List Value}{di:Option Addr}{vs:Array Value}{sl:Array (Option Value)}{c:String}{Q:Value→Shared→Prop} (hC:jm h C bm) (he:h.get? e=some ⟨.ref C,di,.fields vs,sl⟩) (q:Q (.ref e) ⟨h,g,d,t,os⟩):wpAny (model P w) A (excFromValue (.ref e) c) Q E ⟨h,g,d,t,os⟩:=by
 obtain⟨N,nm,qn,bs,hdct,sn,sub,ab,col,dd,k0,k1,k2,k3,k5,newId,hC,hb⟩:=hC
 have hcB:(Value.ref C::bm).contains (.type "BaseException")=true:=by rw [List.contains_cons,hb,Bool.or_true]
 unfold excFromValue
 repeat (first | with_reducible refine wpAny_loadPart_at he ?_ | with_reducible refine wpAny_loadPart_at hC ?_ | (with_reducible refine wpAny_isSubtype_exc hC ?_;rw [hcB]) | wp_step)
 exact q
end
section
variable {P:Program}{w:World}{A:Around}{E:Value→Shared→Prop}{env:Env}{s:Shared}
noncomputable def JD (e x:Addr) (h:Heap):Heap:=((h.update e (Obj.mapFields (·.setIfInBounds 3 (Value.ref x)))).update e (Obj.mapFields (·.setIfInBounds 4 (Value.bool true)))).update e (Obj.mapFields (·.setIfInBounds 2 (Value.ref x)))
theorem j9 {h:Heap}{e b:Addr}{f:Obj→Obj} (n:b≠e):(h.update e f).get? b=h.get? b:=Heap.get?_update_other _ _ (Ne.symm n)
theorem xZ {h:Heap}{e:Addr}{c:Value}{di:Option Addr}{vs:Array Value}{sl:Array (Option Value)}{i:Nat}{v:Value} (he:h.get? e=some ⟨c,di,.fields vs,sl⟩):(h.update e (Obj.mapFields (·.setIfInBounds i v))).get? e=some ⟨c,di,.fields (vs.setIfInBounds i v),sl⟩:=Heap.get?_update_self _ he rfl
theorem jm.upd {h:Heap}{C e:Addr}{bm:List Value}{c:Value}{di:Option Addr}{vs:Array Value}{sl:Array (Option Value)}{f:Obj→Obj} (hC:jm h C bm) (he:h.get? e=some ⟨c,di,.fields vs,sl⟩):jm (h.update e f) C bm:=by
 obtain⟨N,nm,qn,bs,hdct,sn,sub,ab,col,dd,k0,k1,k2,k3,k5,newId,hC,hb⟩:=hC
 have n:C≠e:=fun z=>by rw [z,he] at hC;cases hC
 exact⟨N,nm,qn,bs,hdct,sn,sub,ab,col,dd,k0,k1,k2,k3,k5,newId,(j9 n).trans hC,hb⟩
theorem Xo {x C CX:Addr}{bm bmx:List Value}{xs cs:Sem Value}{Q:Flow→Shared→Prop} (hh:A.handled=some (.ref x))
  (h:wpAny (model P w) A xs (fun v s1=>∃e tt,v=.ref e∧wpAny (model P w) A cs (fun c s2=>c=.ref x∧x≠e∧jm s2.heap C bm∧s2.heap.get? e=some ⟨.ref C,none,.fields #[.ref tt,.none,.none,.none,.bool false,.none],#[]⟩∧jm s2.heap CX bmx ∧
   (∃di vs sl,s2.heap.get? x=some ⟨.ref CX,di,.fields vs,sl⟩∧vs[2]?=some Value.none)∧E (.ref e) { s2 with heap:=JD e x s2.heap }) E s1) E s) :
  wpAny (model P w) A (raiseStmt env (some xs) (some cs)) Q E s:=by
 unfold raiseStmt
 refine wpAny_bind (wpAny_mono h (fun v s1 h1=>?_) fun _ _ z=>z)
 obtain⟨e,tt,rfl,h1⟩:=h1
 refine wpAny_bind (wpAny_holding (wpAny_mono h1 (fun c s2 h2=>wpAny_bind (wpAny_pure ?_)) fun _ _ z=>z))
 obtain⟨rfl,nx,hC,he,hX,⟨di,vs,sl,hx,v2⟩,q⟩:=h2
 obtain⟨hp,gg,dd,tk,os⟩:=s2
 refine wpAny_bind (wpAny_holding (yc hC he ?_))
 dsimp only
 rw [if_neg (by simp)]
 refine wpAny_bind (wpAny_holding (yc hX hx ?_))
 have e1:=xZ (i:=3) (v:=.ref x) he
 have e2:=xZ (i:=4) (v:=.bool true) e1
 have e3:=xZ (i:=2) (v:=.ref x) e2
 refine wpAny_bind (wpAny_setField he rfl (by show 3<6;decide) (wpAny_bind (wpAny_setField e1 rfl (by show 4<6;decide) ?_)))
 have C2:=(hC.upd (f:=Obj.mapFields (·.setIfInBounds 3 (Value.ref x))) he).upd (f:=Obj.mapFields (·.setIfInBounds 4 (Value.bool true))) e1
 have x2:=((j9 (f:=Obj.mapFields (·.setIfInBounds 4 (Value.bool true))) nx).trans (j9 (f:=Obj.mapFields (·.setIfInBounds 3 (Value.ref x))) nx)).trans hx
 obtain⟨N,nm,qn,bs,hdct,sn,sub,ab,col,d0,k0,k1,k2,k3,k5,newId,hC3,hb⟩:=C2
 dsimp only at e2 x2 hC3 ⊢
 unfold raisedInstance
 repeat (first | with_reducible refine wpAny_loadPart_at e2 ?_ | with_reducible refine wpAny_loadPart_at hC3 ?_ | wp_step)
 unfold raiseNew
 refine wpAny_bind (wpAny_handled ?_)
 rw [hh]
 dsimp only
 rw [if_pos (show (Value.ref x != Value.ref e)=true by simp [nx])]
 refine wpAny_bind (wpAny_holding (wpAny_runValue (codeAny_builtin ZZ ?_)))
 unfold Builtin.«proto.unchain»
 refine wpAny_bind (wpAny_field x2 rfl v2 ?_)
 rw [if_pos (show (Value.none == Value.none)=true from rfl)]
 refine wpAny_pure ?_
 show wpAny (model P w) A (do setField (Value.ref e) 2 (Value.ref x);throw (Value.ref e)) Q E _
 exact wpAny_bind (wpAny_setField e2 rfl (by show 2<6;decide) (wpAny_throw q))
end
end L2
namespace L2
open PySem PySem.Spec PyProof.Rows
open PySem.W (hideAll of_hideAll hideAll_get)
section
variable {X:Cx}{pins:List (Addr×Obj)}{σ:St}{H:Hp}{s:Shared}
theorem Kw {h4:Heap} (I:Inv X pins σ H s) (st:(hideAll s.heap (frs X.stack)).StaysIn h4) (up:s.heap.UpToSlots h4):Inv X pins σ H { s with heap:=h4 }:=by
 have kk:∀b o,s.heap.get? b=some o→b ∉ frs X.stack→h4.get? b=some o:=fun b o e hb=>st b o (hideAll_get _ e hb)
 have sl:∀b o,s.heap.get? b=some o→b∈frs X.stack→∃sl,h4.get? b=some { o with slots:=sl }:=fun b o e hb=>by
  obtain⟨_,o2,ho2,hd2⟩:=I.stack.mem hb
  rw [e] at ho2
  cases ho2
  exact up b o e hd2
 refine I.call' (s':={ s with heap:=h4 }) (ch:=[]) rfl ⟨fun b o e _ hb _=>kk b o e hb,fun b o e _ hb _=>sl b o e hb,fun b o _ n _=>n,fun b o e _=>?_,fun _ _ e=>e,fun _ _ _ e=>e,fun _ ps e=>⟨#[],by rw [e];simp⟩⟩ (fun a u e=>?_) I.bare (fun b z=>absurd z (by simp))
 ·by_cases hb:b∈frs X.stack
  ·obtain⟨q,h⟩:=sl b o e hb
   exact⟨_,h⟩
  ·exact⟨o,kk b o e hb⟩
 ·refine(I.hok a u e).stay (fun b v hb q=>kk b v q fun z=>?_) (fun _ q=>q) fun _ _ q=>q
  have hn:=I.stkFree b z
  rcases hb with r | r
  ·rw [r] at hn;rw [hn] at e;cases e
  ·rw [hn] at r;cases r
end
section
variable {M:Model}{A:Around}{E:Value→Shared→Prop}{s:Shared}{B:Heap}{env:Env}{l:List Env}{L e:Addr}{cls a0:Value}
theorem Va {Q:Unit→Shared→Prop} (hh:Heap.HeldW B l e cls a0 L s.heap) (q:∀h',Heap.HeldW B l e cls a0 L h'→s.heap.UpToSlots h'→Q () { s with heap:=h' }):wpAny M A (setFlight (.ref e) (some L)) Q E s:=by
 obtain⟨kb,en,fr,oe,vs,T,oT,ts,he,hc,hd,h1,nT,Te,hT,dT,h3⟩:=hh
 have z3:3<ts.size:=(Array.getElem?_eq_some_iff.mp h3).1
 have oth:∀b,b≠T→(s.heap.update T (Obj.mapFields (·.setIfInBounds 3 (rawInt L)))).get? b=s.heap.get? b:=fun b n=>Heap.get?_update_other _ _ (Ne.symm n)
 have nrc:∀b o,s.heap.get? b=some o→(∀ws,o.data≠.fields ws)→b≠T:=fun b o hb nf z=>by
  rw [z,hT] at hb
  cases hb
  exact nf ts dT
 unfold setFlight
 refine wpAny_bind (wpAny_field he hd h1 ?_)
 rw [if_pos (show (Value.ref T != Value.none)=true from by simp)]
 exact wpAny_setField hT dT z3 (q _ ⟨fun b o hb=>(oth b fun z=>by rw [z,nT] at hb;cases hb).trans (kb b o hb),en,fr.of_keeps fun b o hb nf=>⟨o,(oth b (nrc b o hb nf)).trans hb,rfl⟩,oe,vs,T,_,_,(oth e (Ne.symm Te)).trans he,hc,hd,h1,nT,Te,Heap.get?_update_self _ hT (Obj.isFreed_of_fields (Obj.data_mapFields dT _)),Obj.data_mapFields dT _,by simp [z3]⟩ fun b o hb nf=>⟨o.slots,(oth b (nrc b o hb nf)).trans hb⟩)
theorem Zv {Q:Value→Shared→Prop} (hh:Heap.HeldW B l e cls a0 L s.heap) (q:∀T:Addr,Q (.ref T) s):wpAny M A (field (.ref e) 1) Q E s:=by
 obtain⟨_,_,_,oe,vs,T,oT,ts,he,_,hd,h1,_⟩:=hh
 exact wpAny_field he hd h1 (q T)
theorem zaR {α:Type}{what:String}{Q:α→Shared→Prop} (hf:env.frame=some L) (hh:Heap.HeldW B l e cls a0 L s.heap) (q:∀h',Heap.HeldW B l e cls a0 L h'→s.heap.UpToSlots h'→E (.ref e) { s with heap:=h' }):wpAny M A (PySem.passOn what (.ref e) env:Sem α) Q E s:=by
 unfold PySem.passOn
 refine wpAny_bind (Zv hh fun T=>?_)
 rw [if_neg (show ¬((Value.ref T == Value.none)=true) from by simp),hf]
 exact wpAny_bind (Va hh fun h' hh' up=>wpAny_throw (q h' hh' up))
theorem zaS (hf:env.frame=some L) (hh:Heap.HeldW B l e cls a0 L s.heap) (q:∀h',Heap.HeldW B l e cls a0 L h'→s.heap.UpToSlots h'→E (.ref e) { s with heap:=h' }):cameBackBy M A env E (.ref e) s:=by
 unfold cameBackBy
 refine wpAny_bind (Zv hh fun T=>?_)
 rw [if_neg (show ¬((Value.ref T == Value.none)=true) from by simp),hf]
 exact Va hh q
theorem zaa (hf:env.frame=some L) (hh:Heap.HeldW B l e cls a0 L s.heap) (q:E (.ref e) s):notedBy M A env E (.ref e) s:=wpAny_noteFrame_againW hf hh.2.2.2 q
theorem Zw {h h':Heap} (sb:Heap.SameBut L h h') (hL:∃o,h'.get? L=some o∧∀ws,o.data≠.fields ws):∀{l:List Env},h.FunFrames B l→h'.FunFrames B l
 | [],_=>trivial
 | _::_,⟨a,⟨L2,o,b,c,d,f⟩,r⟩=>by
  refine⟨a,?_,Zw sb hL r⟩
  by_cases z:L2=L
  ·obtain⟨o',h1,h2⟩:=hL
   exact⟨L2,o',b,c,by rw [z];exact h1,h2⟩
  ·exact⟨L2,o,b,c,(sb.2 L2 z).trans d,f⟩
theorem JF {h h':Heap} (hh:Heap.HeldW B l e cls a0 L h) (sb:Heap.SameBut L h h') (bL:B.get? L=none) (hL0:∃o,h.get? L=some o∧∀ws,o.data≠.fields ws) (hL:∃o,h'.get? L=some o∧∀ws,o.data≠.fields ws):Heap.HeldW B l e cls a0 L h':=by
 obtain⟨kb,en,fr,oe,vs,T,oT,ts,he,hc,hd,h1,nT,Te,hT,dT,h3⟩:=hh
 obtain⟨o0,g0,n0⟩:=hL0
 have ne:e≠L:=fun z=>by rw [z,g0] at he;cases he;exact n0 vs hd
 have nT':T≠L:=fun z=>by rw [z,g0] at hT;cases hT;exact n0 ts dT
 exact⟨fun b o hb=>(sb.2 b fun z=>by rw [z,bL] at hb;cases hb).trans (kb b o hb),en,Zw sb hL fr,oe,vs,T,oT,ts,(sb.2 e ne).trans he,hc,hd,h1,nT,Te,(sb.2 T nT').trans hT,dT,h3⟩
end
noncomputable def Ky (x:Addr) (C:Value):HO:=.ext fun h=>∃di vs sl,h.get? x=some ⟨C,di,.fields vs,sl⟩∧vs[2]?=some Value.none
section
variable {X:Cx}{pins:List (Addr×Obj)}{σ:St}{H:Hp}{s:Shared}
theorem JG {x:Addr}{C:Value} {H':Hp}{s6:Shared}{o:Obj} (I:Inv X pins σ H s) (ho:s6.os=s.os) (hg:AllBare s6.gens) (u:Un (frs X.stack) [] H H' s.heap s6.heap) (ok:HOk X.prog X.w H' s6.heap) (xn:s.heap.get? x=none) (xh:H' x=none) (he:s6.heap.get? x=some o) (hc:o.cls=C) (cx:yU s6.heap x) :
  Inv X pins σ (upd H' x (Ky x C)) s6:=by
 have ne:∀b q,s.heap.get? b=some q→b≠x:=fun b q e z=>by rw [z,xn] at e;cases e
 refine I.call' (ch:=[]) ho ⟨u.keep,u.slot,fun b q e n hx=>by rw [upd_ne (ne b q e)];exact u.free b q e n hx,u.there,fun b xs e=>by rw [upd_ne (ne_of_none (u.tups b xs e) xh)];exact u.tups b xs e,fun b q v e=>by rw [upd_ne (ne_of_none (u.frzs b q v e) xh)];exact u.frzs b q v e,fun b ps e=>?_⟩ ?_ hg (fun b z=>absurd z (by simp))
 ·obtain⟨more,q⟩:=u.tbls b ps e
  exact⟨more,by rw [upd_ne (ne_of_none q xh)];exact q⟩
 ·intro b v e
  by_cases hb:b=x
  ·subst hb
   rw [upd_same] at e
   cases e
   obtain⟨o2,vs,g2,d2,c2⟩:=cx
   rw [he] at g2
   cases g2
   obtain⟨oc,od,oda,osl⟩:=o
   dsimp only at hc d2
   subst hc d2
   exact⟨⟨od,vs,osl,he,c2⟩,⟨_,he⟩,fun h1 h2 ⟨di,vs,sl,e1,c1⟩ k=>⟨di,vs,sl,k _ e1,c1⟩⟩
  ·rw [upd_ne hb] at e
   exact(ok b v e).stay (fun _ _ _ q=>q) (fun c q=>by rw [upd_ne (ne_of_none q xh)];exact q) fun c xs q=>by rw [upd_ne (ne_of_none q xh)];exact q
end
section
variable {P:Program}{w:World}{K:W.Frag}{mg:Str→Option Value}{base:Heap}{N:List Str}{qual:Str}{scope:Scope}{f:Addr}{cdv:Value}{A:Around}{outer:List Env}{s s2:Shared}{H H1:Hp}{E:XK}{pins:List (Addr×Obj)}{σ:St}
theorem WM (I:Inv (cxOf (CXE P w) P w K mg base N qual scope f cdv A outer s H E) pins σ H1 s2){h3:Heap} (hst:(hideAll s2.heap (frs (envOfC qual scope s.heap.objs.size f cdv::outer))).StaysIn h3) (up:∀b o,s2.heap.get? b=some o→b≠s.heap.objs.size→(∀ws,o.data≠.fields ws)→∃sl,h3.get? b=some { o with slots:=sl }) :
  Un (frs outer) [] H H1 s.heap h3∧HOk P w H1 h3:=by
 have kk:∀b o,s2.heap.get? b=some o→b ∉ frs (envOfC qual scope s.heap.objs.size f cdv::outer)→h3.get? b=some o:=fun b o e hb=>hst b o (hideAll_get _ e hb)
 have nL:∀b o,s.heap.get? b=some o→b≠s.heap.objs.size:=fun b o e z=>absurd (Heap.lt_size e) (by rw [z];exact Nat.lt_irrefl _)
 have YT:∀b o,s.heap.get? b=some o→b ∉ frs outer→b ∉ frs (envOfC qual scope s.heap.objs.size f cdv::outer):=fun b o e hb=>Yt e hb
 have U:=I.base
 have stk:=I.stack
 refine⟨⟨fun b o e n hb hx=>kk b o (U.keep b o e n hb hx) (YT b o e hb),fun b o e n hb hx=>?_,fun b o e n hx=>U.free b o e n hx,fun b o e hx=>?_,U.tups,U.frzs,U.tbls⟩,fun a u e=>?_⟩
 ·obtain⟨sl,q⟩:=U.slot b o e n hb hx
  obtain⟨_,o2,ho2,hd2⟩:=I.ok.funs.mem hb
  have ho2':s.heap.get? b=some o2:=ho2
  rw [e] at ho2'
  cases ho2'
  obtain⟨sl2,q2⟩:=up b _ q (nL b o e) hd2
  exact⟨sl2,q2⟩
 ·obtain⟨o2,q⟩:=U.there b o e hx
  by_cases hb:b∈frs (envOfC qual scope s.heap.objs.size f cdv::outer)
  ·obtain⟨_,o3,ho3,hd3⟩:=stk.mem hb
   obtain⟨sl,q3⟩:=up b _ ho3 (nL b o e) hd3
   exact⟨_,q3⟩
  ·exact⟨_,kk b o2 q hb⟩
 ·refine(I.hok a u e).stay (fun b v hb q=>kk b v q fun z=>?_) (fun _ q=>q) fun _ _ q=>q
  have hn:=I.stkFree b z
  rcases hb with r | r
  ·rw [r] at hn;rw [hn] at e;cases e
  ·rw [hn] at r;cases r
theorem WN {s':Shared}{e:Addr}{C a0:Value} (I:Inv (cxOf (CXE P w) P w K mg base N qual scope f cdv A outer s H E) pins σ H1 s2) (en:s2.heap.get? e=none) (os:s'.os=s2.os) (bare:AllBare s'.gens)
  (hh:Heap.HeldW (hideAll s2.heap (frs (envOfC qual scope s.heap.objs.size f cdv::outer))) (envOfC qual scope s.heap.objs.size f cdv::outer) e C a0 s.heap.objs.size s'.heap)
  (up:∀b o,s2.heap.get? b=some o→b≠s.heap.objs.size→(∀ws,o.data≠.fields ws)→∃sl,s'.heap.get? b=some { o with slots:=sl }) (h:E C none H1) :
  (cxOf (CXE P w) P w K mg base N qual scope f cdv A outer s H E).xe (.ref e) s':=by
 show wpAny (model P w) (A.deeper (envOfC qual scope s.heap.objs.size f cdv)) (leaving (envOfC qual scope s.heap.objs.size f cdv) (.ref e)) (fun _ s''=>CXE P w outer H s E (.ref e) s'') (fun e' s''=>CXE P w outer H s E e' s'') s'
 unfold leaving
 refine wpAny_bind (wpAny_noteFrame_againW rfl hh.2.2.2 (wpAny_landsW hh fun h2 fl up2=>?_))
 obtain⟨k1,k2,⟨_,_,k3⟩,k4⟩:=fl
 refine⟨e,C,a0,H1,_,rfl,os.trans I.os,bare,⟨k1,k2,k3,k4⟩,fun h3 st3 up3=>WM I st3 fun b o hb nb nf=>?_,?_,?_,h⟩
 ·obtain⟨sl,q⟩:=up b o hb nb nf
  obtain⟨sl2,q2⟩:=up2 b _ q nf
  obtain⟨sl3,q3⟩:=up3 b _ q2 nf
  exact⟨sl3,q3⟩
 ·cases q:s.heap.get? e with
  | none=>rfl
  | some o=>
   obtain⟨o2,q2⟩:=I.base.there e o q (by show e ∉ ([]:List Addr);simp)
   rw [en] at q2;cases q2
 ·cases q:H1 e with
  | none=>rfl
  | some u=>
   obtain⟨ob,q2⟩:=ObjOk.there (I.hok e u q)
   rw [en] at q2;cases q2
end
section
variable {P:Program}{w:World}{A:Around}{E:Value→Shared→Prop}{s:Shared}{env:Env}
variable {nm q:Str}{C N:Addr}{bs bm bmB:List Value}{hdct:Bool}{sn:List Str}{sub:List Value}{ab:Bool}{col:Option Bool}{dd:Option Addr}{k0 k1 k2 k3 k5:Option Value}{B newId initId:String}
theorem Kz (F:ExcBaseFacts B newId initId bmB){mN:Str→Option Value}{x:Str}{np cpos:Pos}{args:List Expr}{Q:Value→Shared→Prop} (hplain:(backTo cpos (starEach args env)).any (·.1)=false) (hni:mN "__init__"=none)
  (h:wpAny (model P w) A (eval (.Name x np) env) (fun f s1=>f=.ref C∧wpAny (model P w) A (evalArgs (.ref C) true (backTo cpos (starEach args env)) []) (fun a s2=>a.kw=[]∧a.pos.length≤sizeLine∧s2.heap.get? C=some (excClassObj nm q C N bs bm hdct sn sub ab col dd k0 k1 k2 k3 k5 newId)∧s2.heap.Ns N mN∧OwnTail s2.heap bmB bm ∧
   ∀h' e,Heap.MadeExcOf s2.heap h' e (.ref C) a.pos→Q (.ref e) { s2 with heap:=h' }) E s1) E s):wpAny (model P w) A (eval (.Call (.Name x np) args [] cpos) env) Q E s:=by
 refine wpAny_Call_ofName (wpAny_mono h (fun f s1 h1=>?_) fun _ _ z=>z)
 obtain⟨rfl,h1⟩:=h1
 unfold callWith
 refine wpAny_bind (wpAny_holding (wpAny_mono h1 (fun a s2 h2=>wpAny_bind (wpAny_standAt ?_)) fun _ _ z=>z))
 obtain⟨ap,ak⟩:=a
 obtain⟨hk,hlen,hC,hn,T,h2⟩:=h2
 obtain rfl:ak=[]:=hk
 obtain⟨hp,g,d,tk,os⟩:=s2
 simp only [hplain]
 refine wpAny_bind (wpAny_keeperOf_exc hC ?_)
 exact wpAny_bind (wpAny_call_exc_subT (hrest:=hlen) F T hC hn hni fun h' e hm=>wpAny_bind (wpAny_holding (wpAny_point (wpAny_pure (h2 h' e hm)))))
end
section
variable {P:Program}{w:World}{K:W.Frag}{mg:Str→Option Value}{base:Heap}{N:List Str}{qual:Str}{scope:Scope}{f:Addr}{cdv:Value}{A:Around}{outer:List Env}{s0 s9:Shared}{H0 H9:Hp}{E:XK}{pins:List (Addr×Obj)}{σ:St}
theorem KC {X:Cx} (hX:X=cxOf (CXE P w) P w K mg base N qual scope f cdv A outer s0 H0 E) (I9:Inv X pins σ H9 s9){n:Str}{i:Nat}{pos2:Pos} {A':Around}{what:String} {h':Heap}{e x:Addr}{CR:Value}{args:List Value}{E1 E2:Value→Shared→Prop}
  (hA:A'.frames=some (X.env::outer)) (hN:N.Nodup) (hi:N[i]?=some n) (hl:scope.names.lookup n=some .local) (hkl:X.env.kindOf n=some .local) (hcl:X.env.cells.lookup n=none)
  (m:Heap.MadeExcOf s9.heap h' e CR args) (hE:E CR none H9) :
  wpAny (model P w) A' (noteFrame (.ref e) X.env) (fun _ s3=>wpAny (model P w) A' (do bindName X.env n Value.none;unbindBehindTheSuite X.env n pos2) (fun _ s4=>wpAny (model P w) A' (PySem.passOn what (.ref e) X.env:Sem Flow) (fun _ _=>False) (notedBy (model P w) A' X.env fun y s'=>cameBackBy (model P w) X.A X.env X.xe y s') s4) E1 s3) E2 { s9 with heap:=JD e x h' }:=by
 subst hX
 obtain⟨t,he,_,_⟩:=m.there
 have en9:s9.heap.get? e=none:=m.new
 have hf:(cxOf (CXE P w) P w K mg base N qual scope f cdv A outer s0 H0 E).env.frame=some s0.heap.objs.size:=rfl
 have e1:=xZ (i:=3) (v:=.ref x) he
 have e2:=xZ (i:=4) (v:=.bool true) e1
 have e3:=xZ (i:=2) (v:=.ref x) e2
 have he1:(JD e x h').get? e=_:=e3
 have keep:∀b o,s9.heap.get? b=some o→(JD e x h').get? b=some o:=fun b o q=>by
  have n:b≠e:=fun z=>by rw [z,en9] at q;cases q
  exact((j9 n).trans ((j9 n).trans (j9 n))).trans (m.keeps b o q)
 generalize JD e x h'=h1 at he1 keep ⊢
 have en:(hideAll s9.heap (frs (envOfC qual scope s0.heap.objs.size f cdv::outer))).get? e=none:=by
  cases z:(hideAll s9.heap (frs (envOfC qual scope s0.heap.objs.size f cdv::outer))).get? e with
  | none=>rfl
  | some o=>have:=of_hideAll _ z;rw [en9] at this;cases this
 have stk:=I9.stack
 have fr9:s9.heap.FunFrames (hideAll s9.heap (frs (envOfC qual scope s0.heap.objs.size f cdv::outer))) (envOfC qual scope s0.heap.objs.size f cdv::outer):=W.funFrames_hide stk fun env he b hb=>List.mem_filterMap.mpr ⟨env,he,hb⟩
 unfold noteFrame
 simp only [hf]
 refine wpAny_bind (wpAny_field (x:=.none) he1 rfl rfl ?_)
 rw [if_neg (by decide)]
 refine wpAny_entryW (s:={ s9 with heap:=h1 }) (a0:=.ref t) hA (fr9.of_keeps fun b o hb _=>⟨o,keep b o hb,rfl⟩) hf he1 (fun b o q=>keep b o (of_hideAll _ q)) en rfl (by show 1<6;decide) rfl fun h2 n2=>?_
 obtain⟨k2,f2,t2,u2⟩:=n2
 have held:Heap.HeldW (hideAll s9.heap (frs (envOfC qual scope s0.heap.objs.size f cdv::outer))) (envOfC qual scope s0.heap.objs.size f cdv::outer) e CR (.ref t) s0.heap.objs.size h2:=⟨k2,en,f2,t2⟩
 have I11:=Kw I9 k2 ((Heap.UpToSlots.of_keeps keep).trans u2)
 have zaT:s0.heap.objs.size∈(envOfC qual scope s0.heap.objs.size f cdv::outer).filterMap (·.frame):=List.mem_filterMap.mpr ⟨_,List.mem_cons_self,rfl⟩
 obtain⟨bL,oL2,hL2,nL2⟩:=f2.mem zaT
 refine wpAny_bind (wpAny_bindName (store_ok2 I11 hN hi (.inl hl) (v:=.non) (u:=.none) rfl (fun s12 I12 hsb=>?_) (.inr hl)))
 obtain⟨a,sb,ha⟩:=hsb
 have ea:a=s0.heap.objs.size:=by
  rcases ha with z | z
  ·exact z
  ·rw [hcl] at z;cases z
 subst ea
 obtain⟨_,oL12,hL12,nL12⟩:=I12.stack.mem zaT
 have zab:=JF held sb bL ⟨oL2,hL2,nL2⟩ ⟨oL12,hL12,nL12⟩
 unfold unbindBehindTheSuite
 obtain⟨mm,hn,hloc⟩:=id I12.loc
 have hcls:((envOfC qual scope s0.heap.objs.size f cdv).scope.kind == .class || ((envOfC qual scope s0.heap.objs.size f cdv).scope.kind == .module && (envOfC qual scope s0.heap.objs.size f cdv).locals != (envOfC qual scope s0.heap.objs.size f cdv).globals))=false:=by
  have kd:(envOfC qual scope s0.heap.objs.size f cdv).scope.kind=_:=I12.ok.kind
  rw [kd];rfl
 have hi3:i < σ.length:=by rw [I9.len];exact(List.getElem?_eq_some_iff.mp hi).1
 obtain⟨u,_,lk⟩:=hloc i n _ hi (List.getElem?_set_self hi3) (.inl hl)
 have mx:mm n=some u:=by
  rcases lk with ⟨_,e⟩ | ⟨k,_⟩
  ·exact e
  ·rw [hkl] at k;rcases k with k | k <;> cases k
 refine wpAny_onRaise (wpAny_unbindName_local hkl hn mx hcls fun h13 u' hn' hs=>?_)
 obtain⟨oL13,es13,ep13,hL13,d13,_⟩:=id hn'
 have zac:=JF zab hs bL ⟨oL12,hL12,nL12⟩ ⟨oL13,hL13,fun ws z=>by rw [d13] at z;cases z⟩
 refine zaR (s:={ s12 with heap:=h13 }) hf zac fun h14 held14 up14=>zaa hf held14 (zaS (s:={ s12 with heap:=h14 }) hf held14 fun h15 held15 up15=>?_)
 refine WN (s':={ s12 with heap:=h15 }) I9 en9 (I12.os.trans I9.os.symm) I12.bare held15 (fun b o hb nb nf=>?_) hE
 obtain⟨sl2,q2⟩:=u2 b o (keep b o hb) nf
 obtain⟨sl4,q4⟩:=up14 b _ ((hs.2 b nb).trans ((sb.2 b nb).trans q2)) nf
 obtain⟨sl5,q5⟩:=up15 b _ q4 nf
 exact⟨sl5,q5⟩
end
noncomputable def zaU (tb:(St→Value→Hp→Prop)→TS) (E:XK) (CN CR:Addr):TS:=fun D σ H=>tb (fun _ Cv H'=>Cv=.ref CN∧∀x,H' x=none→E (.ref CR) none (upd H' x (Ky x (.ref CN)))) D σ H
section
variable {P:Program}{w:World}{K:W.Frag}{mg:Str→Option Value}{base:Heap}{N:List Str}{qual:Str}{scope:Scope}{f:Addr}{cdv:Value}{A:Around}{outer:List Env}{s0:Shared}{H0:Hp}{E:XK}
theorem WP {X:Cx} (hX:X=cxOf (CXE P w) P w K mg base N qual scope f cdv A outer s0 H0 E){n xn yn tx:Str}{tb:(St→Value→Hp→Prop)→TS}{CN CR:Addr}{i kk:Nat}{body:List Stmt}{np yp tp ypos cp rp pos2 pos:Pos}{bmN bmR:List Value}{idN B newId initId:String}
  (hN:N.Nodup) (hi:N[i]?=some n) (hl:scope.names.lookup n=some .local) (hkl:X.env.kindOf n=some .local) (hcl:X.env.cells.lookup n=none)
  (hgN:Gl X xn) (hmN:mg xn=some (.ref CN)) (hqN:W.excIn K CN bmN idN=true) (hbN:bmN.contains (.type "BaseException")=true)
  (hgR:Gl X yn) (hmR:mg yn=some (.ref CR)) (FB:ExcBaseFacts B newId initId bmR) (hqR:W.excIn K CR bmR newId=true)
  (hb:∀(pn:List (Addr×Obj)) (xe:Value→Shared→Prop) (G:St→Value→Hp→Prop),X8 ((X.pinned pn).wish xe) G→PSs ((X.pinned pn).wish xe) body (tb G))
  (hdN:(xn == ("__debug__":Str))=false:=by decide) (hdR:(yn == ("__debug__":Str))=false:=by decide) (hdn:(n == ("__debug__":Str))=false:=by decide) :
  PS X (.Try body [.ExceptHandler (some (.Name xn np)) (some n) [.Raise (some (.Call (.Name yn yp) [.Constant (.str tx) kk tp] [] ypos)) (some (.Name n cp)) rp] pos2] [] [] pos) (zaU tb E CN CR):=by
 subst hX
 intro pins s σ H D I h
 have hfr:(envOfC qual scope s0.heap.objs.size f cdv).frame=some s0.heap.objs.size:=rfl
 refine wpAny_Try_except (wpAny_mono (hb _ (fun e s'=>∃(vR:List (Addr×Obj)) (σ1:St) (H1:Hp) (s1:Shared),Inv ((cxOf (CXE P w) P w K mg base N qual scope f cdv A outer s0 H0 E).pinned ((cxOf (CXE P w) P w K mg base N qual scope f cdv A outer s0 H0 E).pn++pins)) vR σ1 H1 s1∧CXF P w (envOfC qual scope s0.heap.objs.size f cdv::outer) H1 s1 (fun Cv _ H'=>Cv=.ref CN∧∀x,H' x=none→E (.ref CR) none (upd H' x (Ky x (.ref CN)))) e s') _ (fun vR σ1 H1 s1 e s' I1 z=>⟨vR,σ1,H1,s1,I1.unwish,z⟩) [] s σ H D (I.intoPn.wish _) h) (fun fl s1 x=>?_) fun e s' x=>?_)
 ·cases fl with
  | next=>
   obtain⟨σ',H',I',q⟩:=x
   exact wpAny_execs_nil ⟨σ',H',I'.unwish.outPn,q⟩
  | brk=>
   obtain⟨σ',H',I',q⟩:=x
   exact⟨σ',H',I'.unwish.outPn,q⟩
  | cont=>
   obtain⟨σ',H',I',q⟩:=x
   exact⟨σ',H',I'.unwish.outPn,q⟩
  | ret u=>
   obtain⟨v,σ',H',I',r,q⟩:=x
   exact⟨v,σ',H',I'.unwish.outPn,r,q⟩
 ·obtain⟨vR,σ1,H1,s1,I1',⟨x,Cv,a0,H',B,rfl,os,bare,fl,st,xn',xh,rfl,q2⟩,x',ex,cx⟩:=x
  cases ex
  have I1:Inv (cxOf (CXE P w) P w K mg base N qual scope f cdv A outer s0 H0 E) pins σ1 H1 s1:=I1'.outPn
  refine Y7 I.ok.frames hfr fl cx fun h4 held up4 cx4=>Y8 (s:={ s' with heap:=h4 }) held cx4 fun h5 fl5 up5 cx5=>?_
  have u05:=up4.trans up5
  obtain⟨un5,ok5⟩:=st h5 fl5.1 u05
  have I5:Inv (cxOf (CXE P w) P w K mg base N qual scope f cdv A outer s0 H0 E) pins σ1 H' { s' with heap:=h5 }:=I1.call' (ch:=[]) os un5 ok5 bare (fun b z=>absurd z (by simp))
  obtain⟨ob,hob,hobc⟩:=fl5.there
  obtain⟨bm,N',nm,qn,bs,hdct,sn,sub,ab,col,dd,k0,k1,k2,k3,k5,mN,hC,hNs,hni,TL,mro⟩:=vz I5.kIn hqN
  have cN5:jm h5 CN bm:=⟨N',nm,qn,bs,hdct,sn,sub,ab,col,dd,k0,k1,k2,k3,k5,_,hC,TL.hasType hbN⟩
  refine wpAny_handleBy_cons (codeAny_handlers_test (Calls.Name_function_global I.ok.kind hgN (Calls.loadGlobal_global (by rw [I.ok.glob];exact(I.ok.mod.glob.keeps fun b o e=>I5.bk b o e)) hmN ?_) hdN)) (by intro q;cases q)
  refine vM cN5 cN5 hob hobc (by simp) (codeAny_handlers_suite_as ?_)
  refine QX (s:={ s' with heap:=h5 }) fl5 cx5 fun h7 fl7 up7 cx7=>?_
  obtain⟨un7,ok7⟩:=st h7 fl7.1 (u05.trans up7)
  obtain⟨ob7,hob7,hc7⟩:=fl7.there
  have I7:Inv (cxOf (CXE P w) P w K mg base N qual scope f cdv A outer s0 H0 E) pins σ1 (upd H' x (Ky x (.ref CN))) { s' with heap:=h7 }:=JG I1 os bare un7 ok7 xn' xh hob7 hc7 cx7
  refine store_ok I7 hN hi (.inl hl) (v:=.ref x) rfl (fun s8 I8=>?_) (.inr hl)
  obtain⟨bm,N',nm,qn,bs,hdct,sn,sub,ab,col,dd,k0,k1,k2,k3,k5,mN,hCR,hNR,hniR,TLR,_⟩:=vz I8.mod.kin hqR
  obtain⟨bmx,N2,nm2,qn2,bs2,hdct2,sn2,sub2,ab2,col2,dd2,j0,j1,j2,j3,j5,mN2,hCN,_,_,TLN,_⟩:=vz I8.mod.kin hqN
  refine wpAny_execs_cons ?_
  rw [arm_exec_Raise]
  refine wpAny_bind (wpAny_standAt (Xo (x:=x) (C:=CR) (CX:=CN) (bm:=bm) (bmx:=bmx) rfl ?_))
  refine wpAny_bind (thn (Kz (C:=CR) (N:=N') (nm:=nm) (q:=qn) (bs:=bs) (bm:=bm) (hdct:=hdct) (sn:=sn) (sub:=sub) (ab:=ab) (col:=col) (dd:=dd) (k0:=k0) (k1:=k1) (k2:=k2) (k3:=k3) (k5:=k5) FB (mN:=mN) rfl hniR (ld_glob (I8.inX x) hgR hmR ⟨rfl,?_⟩ hdR)) fun v sv hv=>wpAny_bind (wpAny_standAt (wpAny_pure hv)))
  have hs:=(pa_cons (X:=(cxOf (CXE P w) P w K mg base N qual scope f cdv A outer s0 H0 E).inX x) (pe_str (x:=tx) (j:=kk) (pos:=tp)) pa_nil) ypos pins s8 _ _ (fun vs H9=>vs=[V.str tx]∧H9=upd H' x (Ky x (.ref CN))) (I8.inX x) ⟨rfl,rfl⟩
  refine Calls.evalArgs_plain (thn hs fun us s9 z=>?_)
  obtain⟨vs,H9,I9',r9,rfl,rfl⟩:=z
  have I9:=Inv.outX (X:=cxOf (CXE P w) P w K mg base N qual scope f cdv A outer s0 H0 E) I.ok.hd I9'
  refine⟨rfl,by rw [← r9.length];show 1≤sizeLine;decide,I9.bk _ _ hCR,hNR.keeps I9.bk,TLR.keeps I9.bk,fun h' e m=>?_⟩
  obtain⟨t,het,_,_⟩:=m.there
  have I10:=Kw I9 (fun b o q=>m.keeps b o (of_hideAll _ q)) (Heap.UpToSlots.of_keeps m.keeps)
  have hi3:i < σ1.length:=by rw [I7.len];exact(List.getElem?_eq_some_iff.mp hi).1
  obtain⟨mm,hn,hloc⟩:=I10.loc
  obtain⟨u,r,l⟩:=hloc i n _ hi (List.getElem?_set_self hi3) (.inl hl)
  have eu:u=.ref x:=r
  subst eu
  have mx:mm n=some (.ref x):=by
   rcases l with ⟨_,z⟩ | ⟨k,_⟩
   ·exact z
   ·rw [hkl] at k;rcases k with k | k <;> cases k
  have xo:=(I10.hok x _ upd_same).1
  have nx:x≠e:=fun z=>by
   obtain⟨di,vs,sl,g,_⟩:=(I9.hok x _ upd_same).1
   rw [z,m.new] at g;cases g
  refine⟨e,t,rfl,wpAny_bind (wpAny_Name (wpAny_loadName_local I.ok.kind hkl hn mx (wpAny_bind (wpAny_standAt (wpAny_pure ?_)))) hdn)⟩
  exact⟨rfl,nx,⟨N',nm,qn,bs,hdct,sn,sub,ab,col,dd,k0,k1,k2,k3,k5,_,I10.bk _ _ hCR,TLR.hasType FB.hasBase⟩,het,⟨N2,nm2,qn2,bs2,hdct2,sn2,sub2,ab2,col2,dd2,j0,j1,j2,j3,j5,_,I10.bk _ _ hCN,TLN.hasType hbN⟩,xo,KC rfl I9 (A':=(cxOf (CXE P w) P w K mg base N qual scope f cdv A outer s0 H0 E).A.mark (some (.ref x))) I.ok.frames hN hi hl hkl hcl m (q2 x xh)⟩
end
end L2
namespace L2
open PySem PySem.Spec PyProof.Rows
noncomputable def ItR (K:W.Frag) (l:Addr) (N:Nat):It:=
  ⟨fun i H=>∃xs x,SqL K H l xs∧xs.length=N∧i<N∧xs[N-1-i]?=some x,
   fun i H v H'=>H'=H∧∀xs x,SqL K H l xs→xs[N-1-i]?=some x→v=x,
   fun i H=>i=N∧∃xs,SqL K H l xs∧xs.length=N⟩
theorem KD {P:Program}{w:World}{K:W.Frag}{tg:Expr} (it l:Addr) (N:Nat) (hli:l≠it) :
  Turn P w K tg (ItR K l N) [it] it (fun i h=>h.IsRevIter it l ((N:Int)-1-(i:Int))) where
 mem:=by simp
 obj:=fun i h st b hb=>by
  have e:b=it:=by simpa using hb
  subst e
  obtain⟨o,e,c,d⟩:=st
  exact⟨o,e,fun v z=>by rw [d] at z;cases z⟩
 keep:=fun i h h' st k=>st.at fun o z=>k it (by simp) o z
 item:=by
  intro X hP hw hK hc i pins s σ H E I hf st hg
  subst hP hw hK
  obtain⟨xs,x,q1,hN,hi,hx⟩:=hg
  obtain⟨f0,f1,f2,f3,f4,f5⟩:=hf it (by simp)
  obtain⟨it1,v1,p1,z1⟩:=I.list q1
  obtain⟨u1,e1,r1⟩:=v1.get hx
  have e2:(N:Int)-1-(i:Int)=((N-1-i:Nat):Int):=by omega
  have hit:=st
  rw [e2] at hit
  refine wpAny_pyNext_rev_item hit p1.isList (x:=u1) (by simpa using e1) fun h' st' sb=>?_
  have e3:((N-1-i:Nat):Int)-1=(N:Int)-1-((i+1:Nat):Int):=by omega
  rw [e3] at st'
  have I1:Inv X pins σ H { s with heap:=h' }:=I.turned (t':=s.toks) (fun b o hb e=>(sb.2 b hb).trans e) f0 f1 f3 f4 f5
  obtain⟨o,e,cc,d⟩:=id st'
  refine⟨_,rfl,go_of (s:={ s with heap:=h' }) e cc d (by decide) ⟨x,H,I1,r1,⟨rfl,fun xs' x' w1 w2=>?_⟩,st',fun b hb=>(hf b hb).1⟩⟩
  have a1:=I.list_inj w1 q1
  subst a1
  rw [hx] at w2
  cases w2
  rfl
 done:=by
  intro X hP hw hK hc i pins s σ H E I hf st hg
  subst hP hw hK
  obtain⟨f0,f1,f2,f3,f4,f5⟩:=hf it (by simp)
  obtain⟨e,_⟩:=hg
  subst e
  have hit:=st
  rw [show (i:Int)-1-(i:Int)=-1 by omega] at hit
  exact wpAny_pyNext_rev_end (I.ok.hd hc) hit fun h' eb=>⟨rfl,I.turned (t':=s.toks) (fun b o hb e=>eb b o hb e) f0 f1 f3 f4 f5⟩
 self:=fun A i s Q E st h=>wpAny_pyIter_revIter st h
section
variable {X:Cx}
noncomputable def zcH (K:W.Frag) (ta:TA):TI:=fun σ H R=>ta σ H fun vs H1=>∃a xs,vs=[.ref a]∧SqL K H1 a xs∧R (ItR K a xs.length) H1
theorem zad {tg a:Expr}{ta:TA}{p pos:Pos} (hg:Gl X "reversed") (hm:X.mg "reversed"=none) (ha:PA X [a] ta) (hs:starEach [a] X.env=(false,eval a X.env)::starEach [] X.env:=by rfl) (hs2:(backTo pos (starEach [] X.env)).any (·.1)=false:=by rfl) :
  PI X tg (.Call (.Name "reversed" p) [a] [] pos) (zcH X.K ta):=by
 intro pins s σ H R I h
 refine Call_ (ld_blt I hg hm Zh (PyProof.Rows.callWith_type1 (thn (ha pos pins s σ H _ I h) fun us s1 ⟨vs,H1,I1,r1,q1⟩=>?_) hs hs2))
 obtain⟨l,xs,e,q1,q⟩:=q1
 subst e
 obtain⟨u,rfl,w1⟩:=vals1 r1
 cases w1
 obtain⟨its,v1,p1,z1⟩:=I1.list q1
 have hl:l<s1.heap.objs.size:=by obtain⟨_,_,e,_⟩:=p1;exact Heap.lt_size e
 have hlen:=v1.length
 refine call_reversed_list p1.isList ?_
 have hr:(s1.heap.push (revObj l ((its.toArray.size:Int)-1))).get? s1.heap.objs.size=some (revObj l ((its.toArray.size:Int)-1)):=Heap.get?_push_size _ rfl
 refine wpAny_pyIter_revIter (l:=l) (i:=(its.toArray.size:Int)-1) ⟨_,hr,rfl,rfl⟩ ?_
 refine⟨s1.heap.objs.size,[s1.heap.objs.size],_,_,H1,rfl,I1.kept (t':=s1.toks) fun b o e=>Heap.get?_push_of_some _ e,KD _ l xs.length (Nat.ne_of_lt hl),⟨_,hr,rfl,?_⟩,fun b hb=>?_,q⟩
 ·rw [List.size_toArray,← hlen]
  show Data.fields #[Value.ref l,rawInt ((xs.length:Int)-1)]=Data.fields #[Value.ref l,rawInt ((xs.length:Int)-1-((0:Nat):Int))]
  rw [show (xs.length:Int)-1-((0:Nat):Int)=(xs.length:Int)-1 by omega]
 ·have e:b=s1.heap.objs.size:=by simpa using hb
  subst e
  exact I1.fpOk (Nat.le_refl _) (I1.hok.fresh (Nat.le_refl _))
theorem WQ {K:PySem.W.Frag}{a:Addr}{xs:List V}{g:TG}{tb:TS}{D:Ends}{σ:St}{H:Hp} (Pv:Nat→St→Hp→Prop) (h0:Pv 0 σ H) (hl:∀i σ H,i≤xs.length→Pv i σ H→SqL K H a xs)
  (hs:∀i x σ H,xs.reverse[i]?=some x→Pv i σ H→g x σ H fun σ2 H2=>tb { D with nx:=Pv (i+1),ct:=Pv (i+1),bk:=D.nx } σ2 H2) (hd:∀σ H,Pv xs.length σ H→D.nx σ H) :
  ∃W:Nat→Nat→St→Hp→Prop,(∃m,W 0 m σ H)∧∀i m σ H,W i m σ H →
   ((ItR K a xs.length).stop i H∧D.nx σ H)∨((ItR K a xs.length).go i H∧∃N:St→Hp→Prop,(∀σ' H',N σ' H'→∃m',m'<m∧W (i+1) m' σ' H')∧∀x H',(ItR K a xs.length).yld i H x H'→g x σ H' fun σ2 H2=>tb { D with nx:=N,ct:=N,bk:=D.nx } σ2 H2):=by
 refine⟨fun i m σ H=>m=xs.length-i∧i≤xs.length∧Pv i σ H,⟨xs.length,by simp,Nat.zero_le _,h0⟩,?_⟩
 rintro i m σ H ⟨rfl,hi,p⟩
 have q:=hl i σ H hi p
 by_cases hlt:i<xs.length
 ·have hx:xs[xs.length-1-i]?=some (xs[xs.length-1-i]'(by omega)):=List.getElem?_eq_getElem (by omega)
  refine .inr ⟨⟨xs,_,q,rfl,hlt,hx⟩,Pv (i+1),fun σ' H' p'=>⟨xs.length-(i+1),by omega,rfl,hlt,p'⟩,fun x H' y=>?_⟩
  obtain⟨e,y⟩:=y
  subst e
  have ex:=y xs _ q hx
  subst ex
  refine hs i _ σ _ ?_ p
  rw [List.getElem?_reverse hlt]
  exact hx
 ·have e:i=xs.length:=by omega
  subst e
  exact .inl ⟨⟨rfl,xs,q,rfl⟩,hd σ H p⟩
end
end L2
namespace Bw
open PySem L2
open Builtin.Int (intBits)
variable {P:Program}{w:World}{K:W.Frag}{mg:Str→Option Value}{base:Heap}
def top (i:Nat):Stmt:=PySem.Challenge.pw_bellwrite_k80_other_talks.main.body.getD i (.Pass ⟨0,0,0,0⟩)
abbrev vd:Stmt:=top 1
abbrev jQ:Stmt:=top 2
abbrev jo:Stmt:=top 3
abbrev je:Stmt:=top 4
abbrev vf:Stmt:=top 15
abbrev jR:Stmt:=top 16
abbrev jq:Stmt:=top 17
abbrev jr:Stmt:=top 18
abbrev qt:Stmt:=top 19
abbrev jf:Stmt:=top 21
abbrev qe:Stmt:=top 22
abbrev xf:Stmt:=top 23
abbrev yd:Stmt:=top 24
abbrev qu:Stmt:=top 26
abbrev ye:Stmt:=top 27
abbrev qN:Stmt:=top 28
abbrev qO:Stmt:=top 32
abbrev xg:Stmt:=top 33
abbrev zY:Stmt:=top 34
abbrev jT:Stmt:=top 35
abbrev zE:Stmt:=top 36
abbrev qG:Stmt:=top 38
abbrev jt:Stmt:=top 39
abbrev ju:Stmt:=top 40
abbrev qw:Stmt:=top 41
abbrev jU:Stmt:=top 42
abbrev jw:Stmt:=top 43
abbrev qP:Stmt:=top 44
abbrev qH:Stmt:=top 45
abbrev jV:Stmt:=top 46
abbrev jg:Stmt:=top 47
abbrev qI:Stmt:=top 48
abbrev jh:Stmt:=top 49
abbrev yC:Stmt:=top 50
structure Txt (K:W.Frag) (mg:Str→Option Value):Prop where
 z_range:mg "range"=none
 z_isinstance:mg "isinstance"=none
 z_int:mg "int"=none
 z_bool:mg "bool"=none
 z_len:mg "len"=none
 z_list:mg "list"=none
 z_max:mg "max"=none
 z_min:mg "min"=none
 z_enumerate:mg "enumerate"=none
 z_str:mg "str"=none
 z_sorted:mg "sorted"=none
 z_sum:mg "sum"=none
 z_reversed:mg "reversed"=none
 z_ValueError:mg "ValueError"=none
noncomputable def cellOf (ns:List Int) (k:Int):Int:=ns.getD k.toNat 0
noncomputable def Xp (K:W.Frag):Sp:=fun vs H Q _=>∃(a:Addr) (ns:List Int) (k:Int),vs=[.ref a,.int k]∧SqL K H a (ns.map V.int)∧0≤k∧Q (.int (cellOf ns k)) H
structure zaV (row:List Int):Prop where
 inc:row.Pairwise (· < ·)
 nn:∀x∈row,0≤x
 sz:∀x∈row,x<2 ^ 200
theorem yD {ns:List Int}{k:Nat}{x:Int} (h:ns[k]?=some x):atI (ns.map V.int) (k:Int)=some (V.int x):=atI_nat (by rw [List.getElem?_map,h];rfl)
noncomputable def JH (ns:List Int) (lo hi:Option Int):List Int:=(ns.drop (HT.sIx ns.length 0 lo)).take (HT.sIx ns.length ns.length hi-HT.sIx ns.length 0 lo)
theorem WR (ns:List Int) (lo hi:Option Int):cutV (ns.map V.int) lo hi=(JH ns lo hi).map V.int:=by
 unfold cutV JH
 rw [List.length_map,List.map_take,List.map_drop]
abbrev bmV:List Value:=[.type "ValueError",.type "Exception",.type "BaseException",.type "object"]
theorem zae {P:Program}{w:World}{K:W.Frag}{mg:Str→Option Value}{base:Heap}{k:Nat}{x:Str}{ps:List Str}{sp:Sp} (F:FnE P w K mg base k x ps sp):Fn P w K mg base k x ps (fun vs H Q _=>sp vs H Q E0):=by
 obtain⟨f,fd,F,kp,b,m⟩:=F
 refine⟨f,fd,⟨fun vs H Q _ h=>F.len vs H Q E0 h,fun A outer s H args us vs Q E hr e0 hb r h=>codeAny_mono (F.run A outer s H args us vs Q E0 hr e0 hb r h) fun rr s' q=>?_⟩,kp,b,m⟩
 cases rr with
 | ok fl=>cases fl <;> exact q
 | error e=>
  obtain⟨_,_,_,_,_,_,_,_,_,_,_,_,z⟩:=q
  exact False.elim z
section
theorem yV:FnScope ["script","k"] ["script","k"] (defScope qG):=⟨rfl,rfl,rfl,by decide +kernel,rfl,by decide +kernel,by decide +kernel⟩
theorem Xq (D:Def K mg "_law_cell_at" qG ["script","k"]) (T:Txt K mg):Fn P w K mg base 1 "_law_cell_at" ["script","k"] (Xp K):=by
 refine D.fn yV (fun vs H Q E h=>?_) (fun f cdv A outer s H vs Q E hr h=>?_)
 ·obtain⟨n,k,c,rfl,_⟩:=h
  rfl
 ·obtain⟨a,ns,k,rfl,hS,k0,q⟩:=h
  refine⟨_,(pss_cons (ps_if (pt_cmpR vp (pv 1) (pe_callB call_len_seq (by rfl) T.z_len xJ (pa_cons (pv 0) pa_nil)) (nomark _))
    (pss_one (ps_ret (pe_ix ix_list (pv 0) (pv 1) (fun _ _=>rfl))))
    pss_nil)
   (pss_one (ps_ret pe_int))),?_⟩
  refine⟨_,rfl,_,rfl,_,_,rfl,.inl hS,_,_,rfl,rfl,_,rfl,?_⟩
  rw [List.length_map]
  refine ifD (fun h=>?_) (fun h=>?_)
  ·have hk:k.toNat<ns.length:=by omega
   have e:atI (ns.map V.int) k=some (V.int (cellOf ns k)):=by
    have:=yD (ns:=ns) (k:=k.toNat) (x:=cellOf ns k) (by unfold cellOf;rw [List.getD_eq_getElem?_getD,List.getElem?_eq_getElem hk];rfl)
    rwa [show ((k.toNat:Nat):Int)=k by omega] at this
   exact⟨_,rfl,_,rfl,_,_,_,_,rfl,rfl,hS,e,q⟩
  ·have e:cellOf ns k=0:=by
    unfold cellOf
    rw [List.getD_eq_getElem?_getD,List.getElem?_eq_none (by omega)]
    rfl
   rw [e] at q
   exact q
end
section
noncomputable def spLaw (K:W.Frag):Sp:=fun vs H Q _=>∃(a:Addr) (ns:List Int),vs=[.ref a]∧SqL K H a (ns.map V.int)∧ns.length≤63∧∀H',Q (.bl true) H'
end
section
theorem wy:FnScope ["n","k","ways","taken"] ["n","k"] (defScope vd):=⟨rfl,rfl,rfl,by decide +kernel,rfl,by decide +kernel,by decide +kernel⟩
theorem Vx (D:Def K mg "choose" vd ["n","k"]) (T:Txt K mg):Fn P w K mg base 1 "choose" ["n","k"] xY:=by
 refine D.fn wy (fun vs H Q E h=>?_) (fun f cdv A outer s H vs Q E hr h=>?_)
 ·obtain⟨n,k,rfl,_⟩:=h
  rfl
 ·obtain⟨n,k,rfl,hn,hk,hk2,hb,q⟩:=h
  refine⟨_,(pss_cons (ps_if (pt_cmpR jH (pv 1) (pv 0) (nomark _))
    (pss_one (ps_ret pe_int))
    pss_nil)
   (pss_cons (ps_set (i:=2) wy.nd rfl (Or.inl rfl) pe_int)
   (pss_cons (ps_for PassesOwn.never rfl (pi_range1 (by rfl) T.z_range (pa_cons (pv 1) pa_nil)) (pg_name (i:=3) wy.nd rfl (Or.inl rfl))
    (pss_one (ps_set (i:=2) wy.nd rfl (Or.inl rfl) (pe_op zR (pe_op z9 (pv 2) (pe_op zB (pv 0) (pv 3))) (pe_op zf (pv 3) pe_int)))))
   (pss_one (ps_ret (pv 2)))))),?_⟩
  refine⟨_,rfl,_,rfl,_,_,rfl,rfl,_,rfl,?_⟩
  refine ite2 (fun h=>?_) (fun h=>?_)
  ·have h':n<k:=of_decide_eq_true h
   have e:=wY hn h'
   rw [e] at q
   exact q
  ·have h':¬n<k:=fun z=>h (decide_eq_true z)
   refine⟨_,rfl,k,rfl,by omega,by omega,for_range (n:=k.toNat) (fun i σ H'=>∃v,σ=[some (.int n),some (.int k),some (.int (ch n i)),v]∧H'=H) ⟨none,?_,rfl⟩ ?_ ?_⟩
   ·have e:=kY n
    show _=[some (V.int n),some (V.int k),some (V.int (ch n 0)),none]
    rw [e]
    rfl
   ·rintro i σ H' hi ⟨v,rfl,rfl⟩
    have hi':(i:Int)<k:=by omega
    refine⟨_,rfl,_,rfl,_,rfl,_,_,rfl,rfl,_,_,rfl,rfl,?_,_,rfl,_,_,rfl,rfl,_,_,rfl,rfl,?_,?_⟩
    ·refine⟨100000*i+1,100000,Zc hb hn,?_,by omega⟩
     exact intBits_le_of_natAbs (by omega) hb
    ·exact⟨by omega,zq (by omega) (by omega)⟩
    ·have e:=XS (n:=n) (i:=i) (by omega)
     have e0:(0:Int)+(i:Int)=(i:Int):=by omega
     refine⟨some (.int (0+(i:Int))),?_,rfl⟩
     rw [e0,e]
     rfl
   ·rintro σ H' ⟨v,rfl,rfl⟩
    refine⟨_,rfl,?_⟩
    have e:((k.toNat:Nat):Int)=k:=by omega
    rw [e]
    exact q
end
section
theorem wB:FnScope ["number","divisor"] ["number","divisor"] (defScope je):=⟨rfl,rfl,rfl,by decide +kernel,rfl,by decide +kernel,by decide +kernel⟩
theorem Z0 (D:Def K mg "rounded_up" je ["number","divisor"]) (hP:P.given.tree=none):Fn P w K mg base 36 "rounded_up" ["number","divisor"] QL:=by
 refine D.fn wB (fun vs H Q E h=>?_) (fun f cdv A outer s H vs Q E hr h=>?_)
 ·obtain⟨n,k,rfl,_⟩:=h
  rfl
 ·obtain⟨a,b,rfl,hb,q⟩:=h
  refine⟨_,(pss_one (ps_ret (pe_op (Jf (V6 hP wB hr)) (pe_op zB (pe_op zf (pv 0) (pv 1)) pe_int) (pv 1)))),?_⟩
  exact⟨_,rfl,_,rfl,_,_,rfl,rfl,_,_,rfl,rfl,_,rfl,_,_,rfl,rfl,hb,q⟩
theorem jx:FnScope ["k","number","product","factor","figures"] ["k","number"] (defScope jo):=⟨rfl,rfl,rfl,by decide +kernel,rfl,by decide +kernel,by decide +kernel⟩
theorem QZ (D:Def K mg "above_top" jo ["k","number"]) (T:Txt K mg) (vC:Fn P w K mg base 36 "rounded_up" ["number","divisor"] QL):Fn P w K mg base 37 "above_top" ["k","number"] X3:=by
 refine D.fn jx (fun vs H Q E h=>?_) (fun f cdv A outer s H vs Q E hr h=>?_)
 ·obtain⟨n,k,rfl,_⟩:=h
  rfl
 ·obtain⟨k,number,rfl,k1,k60,n0,nb,q⟩:=h
  refine⟨_,(pss_cons (ps_set (i:=2) jx.nd rfl (Or.inl rfl) (pv 1))
   (pss_cons (ps_for PassesOwn.never rfl (pi_range2 (by rfl) T.z_range (pa_cons pe_int (pa_cons (pe_op zf (pv 0) pe_int) pa_nil))) (pg_name (i:=3) jx.nd rfl (Or.inl rfl))
    (pss_one (ps_set (i:=2) jx.nd rfl (Or.inl rfl) (pe_op z9 (pv 2) (pv 3)))))
   (pss_cons (ps_set (i:=4) jx.nd rfl (Or.inl rfl) (zJ vC (hr.mono (by decide)) (by rfl) (pa_cons (pe_bm0 PySem.F.plainAttrs_int PySem.F.slot_int_bit_length PySem.F.type_int_bit_length ZS (pv 2)) (pa_cons (pv 0) pa_nil))))
   (pss_one (ps_ret (pe_op zB (pe_op zf (pe_op Wo pe_int (pv 4)) (pv 0)) pe_int)))))),?_⟩
  have ek:((k.toNat:Nat):Int)=k:=by omega
  have pb:∀i:Nat,(i:Int)≤60→intBits (number*fac i)≤50000+(7*i+1):=fun i hi=>intBits_mul_le nb (Jr i (by omega))
  refine⟨_,rfl,_,rfl,_,_,rfl,rfl,1,k+1,rfl,⟨by omega,by omega,by omega,by omega⟩,for_range (lo:=1) (n:=(k+1-1).toNat) (fun i σ H2=>∃v,σ=[some (.int k),some (.int number),some (.int (number*fac i)),v,none]∧H2=H) ⟨none,?_,rfl⟩ ?_ ?_⟩
  ·show _=[some (V.int k),some (V.int number),some (V.int (number*1)),none,none]
   rw [Int.mul_one]
   rfl
  ·rintro i σ H2 hi ⟨v,rfl,rfl⟩
   have hi':(i:Int)<k:=by omega
   refine⟨_,rfl,_,rfl,_,_,rfl,rfl,⟨_,64,pb i (by omega),zq (by omega) (by omega),by omega⟩,some (.int (1+(i:Int))),?_,rfl⟩
   rw [Zm,← Int.mul_assoc,Int.add_comm (i:Int) 1]
   rfl
  ·rintro σ H2 ⟨v,rfl,rfl⟩
   have en:(k+1-1).toNat=k.toNat:=by omega
   rw [en]
   have pk:=pb k.toNat (by omega)
   have hsz:=intBits_le_iff.mp (Nat.le_refl (intBits (number*fac k.toNat)))
   refine⟨_,rfl,rfl,_,rfl,rfl,_,rfl,_,_,rfl,by omega,?_⟩
   generalize hbn:intBits (number*fac k.toNat)=b at pk hsz ⊢
   have d1:=Int.mul_ediv_add_emod ((b:Int)+k-1) k
   have d2:=Int.emod_nonneg ((b:Int)+k-1) (show k≠0 by omega)
   have d3:=Int.emod_lt_of_pos ((b:Int)+k-1) (show 0<k by omega)
   have f0:0≤((b:Int)+k-1) / k:=Int.ediv_nonneg (by omega) (by omega)
   have f1:((b:Int)+k-1) / k≤(b:Int)+k-1:=Int.ediv_le_self _ (by omega)
   generalize ((b:Int)+k-1) / k=fg at d1 f0 f1 ⊢
   generalize ((b:Int)+k-1) % k=r at d1 d2 d3
   refine⟨_,rfl,_,_,rfl,rfl,⟨f0,by omega,by decide⟩,_,rfl,_,_,rfl,rfl,_,_,rfl,rfl,?_⟩
   have ef:((fg.toNat:Nat):Int)=fg:=by omega
   have hp:(0:Int)<2 ^ fg.toNat:=Int.pow_pos (by decide)
   have ab:=YS (F:=fg.toNat) (b:=b) k1 n0 hsz (by rw [ef,Int.mul_comm];omega)
   have e1:(1:Int)*2 ^ fg.toNat=2 ^ fg.toNat:=Int.one_mul _
   rw [e1]
   refine q _ (by omega) ab ?_
   have hb2:intBits ((2:Int) ^ fg.toNat)≤fg.toNat+1:=by
    refine intBits_le_iff.mpr ?_
    rw [Int.natAbs_pow]
    exact Nat.pow_lt_pow_right (by decide) (by omega)
   refine zc (intBits_sub_le (m:=50600) (n:=64) (zc (intBits_add_le (m:=50599) (n:=64) (zc hb2 (by omega)) (zq (by omega) (by omega))) (by decide)) (by decide)) (by decide)
theorem KH (n k:Nat):(k+1)*C (n+1) (k+1)=(n+1)*C n k:=by
 have h:=QH n k
 rw [xR,Nat.mul_add,Nat.add_mul,Nat.add_mul,Nat.one_mul,Nat.one_mul,Nat.add_mul n 1,Nat.one_mul]
 rw [Nat.add_mul] at h
 omega
theorem Vy {t k:Int} (hk:1≤k) (ht:1≤t):ch t k*k / t=ch (t-1) (k-1):=by
 obtain⟨j,hj⟩:∃j:Nat,k=(j:Int)+1:=⟨(k-1).toNat,by omega⟩
 obtain⟨m,hm⟩:∃m:Nat,t=(m:Int)+1:=⟨(t-1).toNat,by omega⟩
 subst hj hm
 have e1:ch ((m:Int)+1) ((j:Int)+1)=(C (m+1) (j+1):Nat):=by
  rw [show ((m:Int)+1)=((m+1:Nat):Int) by omega,show ((j:Int)+1)=((j+1:Nat):Int) by omega,wF]
 have e2:ch ((m:Int)+1-1) ((j:Int)+1-1)=(C m j:Nat):=by
  rw [show ((m:Int)+1-1)=((m:Nat):Int) by omega,show ((j:Int)+1-1)=((j:Nat):Int) by omega,wF]
 rw [e1,e2]
 have a:=KH m j
 have a':((C (m+1) (j+1):Nat):Int)*((j:Int)+1)=((m:Int)+1)*((C m j:Nat):Int):=by
  rw [Int.mul_comm]
  exact_mod_cast a
 rw [a']
 exact Int.mul_ediv_cancel_left _ (by omega)
noncomputable def Qo:Sp:=fun vs H Q _=>∃start k number:Int,vs=[.int start,.int k,.int number]∧1≤k∧k≤60∧0≤number∧k-1≤start∧number<ch (start+1) k∧intBits start≤60000∧∀t:Int,Ys k number t→intBits t≤60000→Q (.int t) H
theorem qz:FnScope ["start","k","number","top","ways","most_off","step"] ["start","k","number"] (defScope jQ):=⟨rfl,rfl,rfl,by decide +kernel,rfl,by decide +kernel,by decide +kernel⟩
theorem JK (D:Def K mg "top_from" jQ ["start","k","number"]) (qx:Fn P w K mg base 1 "choose" ["n","k"] xY) (vC:Fn P w K mg base 36 "rounded_up" ["number","divisor"] QL) (hP:P.given.tree=none) :
  Fn P w K mg base 37 "top_from" ["start","k","number"] Qo:=by
 refine D.fn qz (fun vs H Q E h=>?_) (fun f cdv A outer s H vs Q E hr h=>?_)
 ·obtain⟨a,n,k,rfl,_⟩:=h
  rfl
 ·obtain⟨t0,k,number,rfl,k1,k60,n0,t1,t2,t3,q⟩:=h
  refine⟨_,(pss_cons (ps_set (i:=3) qz.nd rfl (Or.inl rfl) (pv 0))
   (pss_cons (ps_set (i:=4) qz.nd rfl (Or.inl rfl) (zJ qx (hr.mono (by decide)) (by rfl) (pa_cons (pv 3) (pa_cons (pv 1) pa_nil))))
   (pss_cons (ps_while PassesOwn.never (pt_cmpR jH (pv 4) (pv 2) (nomark _))
    (pss_cons (ps_set (i:=5) qz.nd rfl (Or.inl rfl) (pe_op (Jf (V6 hP qz (hr.mono (by decide)))) (pe_op z9 (pv 4) (pv 1)) (pv 3)))
    (pss_cons (ps_set (i:=6) qz.nd rfl (Or.inl rfl) (zJ vC (hr.mono (by decide)) (by rfl) (pa_cons (pe_op zB (pv 4) (pv 2)) (pa_cons (pv 5) pa_nil))))
    (pss_cons (ps_set (i:=3) qz.nd rfl (Or.inl rfl) (pe_op zB (pv 3) (pv 6)))
    (pss_one (ps_set (i:=4) qz.nd rfl (Or.inl rfl) (pe_ifExp (pt_cmpR yw (pv 6) pe_int (nomark _)) (pe_op zB (pv 4) (pv 5)) (zJ qx (hr.mono (by decide)) (by rfl) (pa_cons (pv 3) (pa_cons (pv 1) pa_nil))))))))))
   (pss_one (ps_ret (pv 3)))))),?_⟩
  refine⟨_,rfl,_,rfl,_,rfl,t0,k,rfl,by omega,by omega,by omega,zc t3 (by decide),?_⟩
  refine while_by (fun σ H2=>∃t v v',σ=[some (.int t0),some (.int k),some (.int number),some (.int t),some (.int (ch t k)),v,v']∧H2=H∧k-1≤t∧number<ch (t+1) k∧intBits t≤60000)
   (fun σ _=>match σ with | [_,_,_,some (.int t),_,_,_]=>t.toNat | _=>0) ⟨t0,none,none,rfl,rfl,t1,t2,t3⟩ ?_ ?_
  ·rintro σ H2 ⟨t,v,v',rfl,rfl,u1,u2,u3⟩
   refine⟨_,rfl,_,rfl,_,_,rfl,rfl,_,rfl,ifD (fun h=>?_) (fun h=>?_)⟩
   ·obtain⟨a1,a2,a3,a4,a5⟩:=Xb k1 n0 (by omega) h _ rfl
    have wb:intBits (ch t k)≤60000*60+1:=by
     have:=Zc (k:=k.toNat) u3 (by omega)
     rw [show ((k.toNat:Nat):Int)=k by omega] at this
     exact zc this (Nat.add_le_add_right (Nat.mul_le_mul_left _ (by omega)) _)
    refine⟨_,rfl,_,rfl,_,_,rfl,rfl,⟨_,64,wb,zq (by omega) (by omega),by decide⟩,_,rfl,_,_,rfl,rfl,by omega,?_⟩
    rw [Vy k1 (by omega)]
    have sb:ch (t-1) k=ch t k-ch (t-1) (k-1):=by
     have:=QJ (n:=t-1) (k:=k-1) (by omega) (by omega)
     rw [show t-1+1=t by omega,show k-1+1=k by omega] at this
     omega
    refine⟨_,rfl,_,rfl,_,_,rfl,rfl,_,rfl,ch t k-number,ch (t-1) (k-1),rfl,a2,?_⟩
    generalize (ch t k-number+ch (t-1) (k-1)-1) / ch (t-1) (k-1)=d at a3 a4 a5 ⊢
    have tb:intBits (t-d)≤60000:=intBits_le_of_natAbs (y:=t) (by omega) u3
    refine⟨_,rfl,_,rfl,_,_,rfl,rfl,_,rfl,_,_,rfl,rfl,_,rfl,ifD (fun e=>?_) (fun e=>?_)⟩
    ·subst e
     refine⟨_,rfl,_,rfl,_,_,rfl,rfl,⟨t-1,_,_,by rw [sb];rfl,rfl,a4,a5,tb⟩,?_⟩
     show (t-1).toNat<t.toNat
     omega
    ·refine⟨_,rfl,_,rfl,t-d,k,rfl,by omega,by omega,by omega,zc tb (by decide),?_⟩
     refine⟨⟨t-d,_,_,rfl,rfl,a4,a5,tb⟩,?_⟩
     show (t-d).toNat<t.toNat
     omega
   ·refine⟨_,rfl,q t ⟨u1,by omega,u2⟩ u3⟩
  ·intro σ H2 R R' m h
   obtain⟨v,e1,u,e2,i,j,e3,e4,b,e5,z⟩:=h
   exact⟨v,e1,u,e2,i,j,e3,e4,b,e5,m _ _ z⟩
end
noncomputable def zV (late:Int) (ns:List Int):List Int:=(List.range ns.length).map fun i=>(ns.getD i 0-(i:Int)) / (late+1)
noncomputable def jb (late:Int) (bs:List Int):List Int:=(List.range bs.length).map fun i=>bs.getD i 0*(late+1)+(i:Int)
theorem jW (late:Int) (ns:List Int):(zV late ns).length=ns.length:=by unfold zV;simp
theorem yf (late:Int) (ns:List Int):(jb late ns).length=ns.length:=by unfold jb;simp
theorem JL {late:Int}{ns:List Int}{i:Nat}{x:Int} (h:ns[i]?=some x):(zV late ns)[i]?=some ((x-(i:Int)) / (late+1)):=by
 have hi:=(List.getElem?_eq_some_iff.mp h).1
 unfold zV
 rw [List.getElem?_map,List.getElem?_range hi]
 simp [List.getD_eq_getElem?_getD,h]
theorem Vz {late:Int}{ns:List Int}{i:Nat}{y:Int} (h:(zV late ns)[i]?=some y):∃x,ns[i]?=some x∧y=(x-(i:Int)) / (late+1):=by
 have hi:=(List.getElem?_eq_some_iff.mp h).1
 rw [jW] at hi
 have g:=JL (late:=late) (List.getElem?_eq_getElem hi)
 rw [g] at h
 exact⟨_,List.getElem?_eq_getElem hi,(Option.some.inj h).symm⟩
structure WT (bs:List Int):Prop where
 inc:bs.Pairwise (·≤·)
 nn:∀x∈bs,0≤x
 sz:∀x∈bs,x<2 ^ 200
noncomputable def Szs (m:Nat) (ns:List Int):Prop:=∀x∈ns,intBits x≤m
theorem WT.szs {bs:List Int} (h:WT bs):Szs 200 bs:=fun x hx=>zq (h.nn x hx) (h.sz x hx)
theorem zaV.szs {bs:List Int} (h:zaV bs):Szs 200 bs:=fun x hx=>zq (h.nn x hx) (h.sz x hx)
section
noncomputable def Vb (K:W.Frag):Sp:=fun vs H Q _=>∃(a:Addr) (ns:List Int) (late:Int),vs=[.ref a,.int late]∧SqL K H a (ns.map V.int)∧ns.length≤1000∧0≤late∧intBits late≤8000 ∧
 ∀(p:Addr) (H':Hp),Same H H'→H p=none→H' p=some (.lst ((zV late ns).map V.int))→Q (.ref p) H'
end
section
theorem VB:FnScope ["row","late"] ["row","late"] (defScope vf):=⟨rfl,rfl,rfl,by decide +kernel,rfl,by decide +kernel,by decide +kernel⟩
theorem VD (D:Def K mg "box_of" vf ["row","late"]) (T:Txt K mg):Fn P w K mg base 1 "box_of" ["row","late"] (Vb K):=by
 refine D.fn VB (fun vs H Q E h=>?_) (fun f cdv A outer s H vs Q E hr h=>?_)
 ·obtain⟨a,ns,late,rfl,_⟩:=h
  rfl
 ·obtain⟨a,ns,late,rfl,hA,hl,l0,lb,q⟩:=h
  refine⟨_,(pss_one (ps_ret (wX (own:=["place","turn"]) (fr:=["late"]) (ix:=[1]) rfl ⟨rfl,rfl,rfl,rfl,rfl,rfl⟩ (wZ (by rfl) T.z_enumerate (pa_cons (pv 0) pa_nil)) (fun _ _ _ _ _=>(QG K (n:=2) rfl (pgs_cons (pg_name (i:=0) (show (["place","turn","late"]:List Str).Nodup by decide +kernel) rfl (Or.inl rfl)) (pgs_cons (pg_name (i:=1) (show (["place","turn","late"]:List Str).Nodup by decide +kernel) rfl (Or.inl rfl)) pgs_nil)))) (fun _ _ _ _ _=>vq) (fun _ _ _ _ _=>(pe_op zR (pe_op zB (pv 1) (pv 0)) (pe_op zf (pv 2) pe_int)))))),?_⟩
  have lb1:intBits (late+1)≤9000:=zc (intBits_add_le (m:=8000) (n:=1) lb (by decide)) (by decide)
  refine⟨_,rfl,a,_,rfl,hA,fun acc hacc=>wH (K:=K) (a:=a) (xs:=ns.map V.int) (fun i=>V.int ((ns.getD i 0-(i:Int)) / (late+1))) hA hacc ?_ ?_ ?_⟩
  ·rw [List.length_map];exact Nat.le_of_lt (small1000 hl)
  ·intro i x t H2 R hx sm ht hR
   rw [List.getElem?_map] at hx
   obtain⟨x',hx',rfl⟩:=Option.map_eq_some_iff.mp hx
   simp only [List.getD_eq_getElem?_getD,hx',Option.getD_some] at hR
   exact⟨t,_,rfl,SqT.of ht,rfl,_,_,rfl,_,_,rfl,rfl,rfl,_,rfl,_,rfl,_,_,rfl,rfl,_,rfl,_,_,rfl,rfl,_,_,rfl,rfl,⟨by omega,lb1⟩,hR⟩
  ·intro H2 sm ha
   rw [List.length_map] at ha
   refine q acc H2 sm hacc ?_
   rw [ha]
   unfold zV
   rw [List.map_map]
   rfl
end
section
noncomputable def Qp (K:W.Frag):Sp:=fun vs H Q _=>∃(a:Addr) (ns:List Int) (late:Int),vs=[.ref a,.int late]∧SqL K H a (ns.map V.int)∧ns.length≤1000∧intBits late≤8000∧Szs 70000 ns ∧
 ∀(p:Addr) (H':Hp),Same H H'→H p=none→H' p=some (.lst ((jb late ns).map V.int))→Q (.ref p) H'
theorem JM:FnScope ["box","late"] ["box","late"] (defScope jR):=⟨rfl,rfl,rfl,by decide +kernel,rfl,by decide +kernel,by decide +kernel⟩
theorem JN (D:Def K mg "bell_row" jR ["box","late"]) (T:Txt K mg):Fn P w K mg base 1 "bell_row" ["box","late"] (Qp K):=by
 refine D.fn JM (fun vs H Q E h=>?_) (fun f cdv A outer s H vs Q E hr h=>?_)
 ·obtain⟨a,ns,late,rfl,_⟩:=h
  rfl
 ·obtain⟨a,ns,late,rfl,hA,hl,lb,hz,q⟩:=h
  refine⟨_,(pss_one (ps_ret (wX (own:=["place","part"]) (fr:=["late"]) (ix:=[1]) rfl ⟨rfl,rfl,rfl,rfl,rfl,rfl⟩ (wZ (by rfl) T.z_enumerate (pa_cons (pv 0) pa_nil)) (fun _ _ _ _ _=>(QG K (n:=2) rfl (pgs_cons (pg_name (i:=0) (show (["place","part","late"]:List Str).Nodup by decide +kernel) rfl (Or.inl rfl)) (pgs_cons (pg_name (i:=1) (show (["place","part","late"]:List Str).Nodup by decide +kernel) rfl (Or.inl rfl)) pgs_nil)))) (fun _ _ _ _ _=>vq) (fun _ _ _ _ _=>(pe_op zf (pe_op z9 (pv 1) (pe_op zf (pv 2) pe_int)) (pv 0)))))),?_⟩
  have lb1:intBits (late+1)≤9000:=zc (intBits_add_le (m:=8000) (n:=1) lb (by decide)) (by decide)
  refine⟨_,rfl,a,_,rfl,hA,fun acc hacc=>wH (K:=K) (a:=a) (xs:=ns.map V.int) (fun i=>V.int (ns.getD i 0*(late+1)+(i:Int))) hA hacc ?_ ?_ ?_⟩
  ·rw [List.length_map];exact Nat.le_of_lt (small1000 hl)
  ·intro i x t H2 R hx sm ht hR
   rw [List.getElem?_map] at hx
   obtain⟨x',hx',rfl⟩:=Option.map_eq_some_iff.mp hx
   simp only [List.getD_eq_getElem?_getD,hx',Option.getD_some] at hR
   exact⟨t,_,rfl,SqT.of ht,rfl,_,_,rfl,_,_,rfl,rfl,rfl,_,rfl,_,rfl,_,_,rfl,rfl,_,_,rfl,rfl,⟨70000,9000,hz x' (List.mem_of_getElem? hx'),lb1,by decide⟩,_,rfl,_,_,rfl,rfl,hR⟩
  ·intro H2 sm ha
   rw [List.length_map] at ha
   refine q acc H2 sm hacc ?_
   rw [ha]
   unfold jb
   rw [List.map_map]
   rfl
end
noncomputable def jc (bs:List Int):Nat→Int
 | 0=>0
 | i+1=>jc bs i+ch (bs.getD i 0+(i:Int)) ((i:Int)+1)
noncomputable def vg (bs:List Int):Int:=jc bs bs.length
structure jd (bs:List Int):Prop where
 inc:bs.Pairwise (·≤·)
 nn:∀x∈bs,0≤x
theorem WT.is {bs:List Int} (h:WT bs):jd bs:=⟨h.inc,h.nn⟩
theorem Z1 (f:Nat→Int) (n:Nat):((List.range (n+1)).map f).sum=((List.range n).map f).sum+f n:=by
 rw [List.range_succ,List.map_append,List.sum_append]
 simp
theorem Qq (bs:List Int):∀n:Nat,jc bs n=((List.range n).map fun i=>ch (bs.getD i 0+(i:Int)) ((i:Int)+1)).sum
 | 0=>rfl
 | n+1=>by
  rw [Z1,← Qq bs n]
  rfl
theorem jd.get {bs:List Int} (B:jd bs){i j:Nat}{x y:Int} (h:i≤j) (hx:bs[i]?=some x) (hy:bs[j]?=some y):x≤y:=by
 obtain⟨h1,e1⟩:=List.getElem?_eq_some_iff.mp hx
 obtain⟨h2,e2⟩:=List.getElem?_eq_some_iff.mp hy
 rcases Nat.lt_or_eq_of_le h with z | z
 ·have:=List.pairwise_iff_getElem.mp B.inc i j h1 h2 z
  omega
 ·subst z;omega
theorem jd.nn' {bs:List Int} (B:jd bs){i:Nat}:0≤bs.getD i 0:=by
 rw [List.getD_eq_getElem?_getD]
 cases h:bs[i]? with
 | none=>exact Int.le_refl _
 | some x=>exact B.nn x (List.mem_of_getElem? h)
theorem jd.le' {bs:List Int} (B:jd bs){i j:Nat} (h:i≤j) (hj:j<bs.length):bs.getD i 0≤bs.getD j 0:=by
 have hi:i<bs.length:=by omega
 rw [List.getD_eq_getElem?_getD,List.getD_eq_getElem?_getD,List.getElem?_eq_getElem hi,List.getElem?_eq_getElem hj]
 exact B.get h (List.getElem?_eq_getElem hi) (List.getElem?_eq_getElem hj)
theorem jy (bs:List Int):∀n,0≤jc bs n
 | 0=>Int.le_refl _
 | n+1=>by
  have:=jy bs n
  have:=Qi (bs.getD n 0+(n:Int)) ((n:Int)+1)
  show 0≤jc bs n+_
  omega
theorem Zx {bs:List Int} (B:jd bs):∀(i:Nat) (c:Int),i≤bs.length→0≤c→(∀j,j<i→bs.getD j 0≤c)→jc bs i<ch (c+(i:Int)) (i:Int)
 | 0,c,_,_,_=>by
  show (0:Int)<ch (c+((0:Nat):Int)) 0
  rw [kY];decide
 | i+1,c,hi,hc,hb=>by
  have b0:=B.nn' (i:=i)
  have ih:=Zx B i (bs.getD i 0) (by omega) b0 (fun j hj=>B.le' (by omega) (by omega))
  have p:=QJ (n:=bs.getD i 0+(i:Int)) (k:=(i:Int)) (by omega) (by omega)
  have m:=QK (m:=bs.getD i 0+(i:Int)+1) (n:=c+((i+1:Nat):Int)) (k:=((i+1:Nat):Int)) (by have:=hb i (by omega);omega)
  rw [show ((i+1:Nat):Int)=(i:Int)+1 by omega] at m ⊢
  show jc bs i+ch (bs.getD i 0+(i:Int)) ((i:Int)+1) < _
  omega
theorem VF {bs:List Int} (B:jd bs){i:Nat} (hi:i<bs.length):Ys ((i:Int)+1) (jc bs (i+1)) (bs.getD i 0+(i:Int)):=by
 have b0:=B.nn' (i:=i)
 have a:=Zx B (i+1) (bs.getD i 0) hi b0 (fun j hj=>B.le' (by omega) hi)
 have n0:=jy bs i
 refine⟨by omega,?_,?_⟩
 ·show _≤jc bs i+_
  omega
 ·rw [show ((i+1:Nat):Int)=(i:Int)+1 by omega] at a
  rw [show bs.getD i 0+(i:Int)+1=bs.getD i 0+((i:Int)+1) by omega]
  exact a
section
noncomputable def YB (K:W.Frag):Sp:=fun vs H Q _=>∃(a:Addr) (bs:List Int),vs=[.ref a]∧SqL K H a (bs.map V.int)∧bs.length≤900∧(∀x∈bs,0≤x)∧Szs 70000 bs ∧
 ∀H',Same H H'→Q (.int (vg bs)) H'
theorem Z2:FnScope ["box"] ["box"] (defScope jf):=⟨rfl,rfl,rfl,by decide +kernel,rfl,by decide +kernel,by decide +kernel⟩
theorem Z3 (D:Def K mg "box_number" jf ["box"]) (T:Txt K mg) (qx:Fn P w K mg base 1 "choose" ["n","k"] xY):Fn P w K mg base 2 "box_number" ["box"] (YB K):=by
 refine D.fn Z2 (fun vs H Q E h=>?_) (fun f cdv A outer s H vs Q E hr h=>?_)
 ·obtain⟨a,bs,rfl,_⟩:=h
  rfl
 ·obtain⟨a,bs,rfl,hA,hl,nn,sz,q⟩:=h
  refine⟨_,(pss_one (ps_ret (pe_callB (Js rfl) (by rfl) T.z_sum Yu (pa_cons (wX (own:=["place","part"]) (fr:=[]) (ix:=[]) rfl ⟨rfl,rfl,rfl,rfl,rfl,rfl⟩ (wZ (by rfl) T.z_enumerate (pa_cons (pv 0) pa_nil)) (fun _ _ _ _ _=>(QG K (n:=2) rfl (pgs_cons (pg_name (i:=0) (show (["place","part"]:List Str).Nodup by decide +kernel) rfl (Or.inl rfl)) (pgs_cons (pg_name (i:=1) (show (["place","part"]:List Str).Nodup by decide +kernel) rfl (Or.inl rfl)) pgs_nil)))) (fun _ _ _ _ _=>vq) (fun _ _ _ _ _=>(zJ qx (hr.mono (by decide)) (by rfl) (pa_cons (pe_op zf (pv 1) (pv 0)) (pa_cons (pe_op zf (pv 0) pe_int) pa_nil))))) pa_nil)))),?_⟩
  refine⟨_,rfl,a,_,rfl,hA,fun acc hacc=>wH (K:=K) (a:=a) (xs:=bs.map V.int) (fun i=>V.int (ch (bs.getD i 0+(i:Int)) ((i:Int)+1))) hA hacc ?_ ?_ ?_⟩
  ·rw [List.length_map];exact Nat.le_of_lt (small1000 (by omega))
  ·intro i x t H2 R hx sm ht hR
   rw [List.getElem?_map] at hx
   obtain⟨x',hx',rfl⟩:=Option.map_eq_some_iff.mp hx
   simp only [List.getD_eq_getElem?_getD,hx',Option.getD_some] at hR
   have hi:=(List.getElem?_eq_some_iff.mp hx').1
   have x0:=nn x' (List.mem_of_getElem? hx')
   have xb:=sz x' (List.mem_of_getElem? hx')
   exact⟨t,_,rfl,SqT.of ht,rfl,_,_,rfl,_,_,rfl,rfl,rfl,_,rfl,_,rfl,_,_,rfl,rfl,_,rfl,_,_,rfl,rfl,_,_,rfl,by omega,by omega,by omega,zc (intBits_add_le (m:=70000) (n:=64) xb (zq (by omega) (by omega))) (by decide),hR⟩
  ·intro H2 sm ha
   rw [List.length_map] at ha
   refine⟨acc,(List.range bs.length).map fun i=>ch (bs.getD i 0+(i:Int)) ((i:Int)+1),rfl,SqL.of ?_,?_⟩
   ·rw [ha,List.map_map];rfl
   ·rw [← Qq]
    exact q H2 sm
end
noncomputable def JP:Int→List Int→Prop
 | _,[]=>True
 | b,x::r=>b≤x∧JP x r
theorem Zy:∀{b:Int}{xs:List Int},JP b xs→∀x∈xs,b≤x
 | _,[],_,_,z=>nomatch z
 | b,y::r,h,x,hx=>by
  rcases List.mem_cons.mp hx with e | e
  ·rw [e];exact h.1
  ·have:=Zy h.2 x e
   have:=h.1
   omega
theorem Vc:∀{b:Int}{xs:List Int},JP b xs→xs.Pairwise (·≤·)
 | _,[],_=>List.Pairwise.nil
 | _,_::_,h=>List.pairwise_cons.mpr ⟨Zy h.2,Vc h.2⟩
theorem Vd:∀{b:Int}{xs:List Int},xs.Pairwise (·≤·)→(∀x∈xs,b≤x)→JP b xs
 | _,[],_,_=>trivial
 | _,x::r,hp,h=>by
  obtain⟨p1,p2⟩:=List.pairwise_cons.mp hp
  exact⟨h x (by simp),Vd p2 p1⟩
theorem VG {bs:List Int}:jd bs↔JP 0 bs:=⟨fun h=>Vd h.inc h.nn,fun h=>⟨Vc h,Zy h⟩⟩
theorem VH {bs:List Int}{i:Nat}{x b:Int} (h:bs[i]?=some x):JP b (bs.drop i)↔b≤x∧JP x (bs.drop (i+1)):=by
 obtain⟨hi,e⟩:=List.getElem?_eq_some_iff.mp h
 rw [List.drop_eq_getElem_cons hi,e]
 exact Iff.rfl
section
noncomputable def Ve (K:W.Frag) (C:Addr):Sp:=fun vs H Q E=>∃(a:Addr) (ns:List Int) (late:Int),vs=[.ref a,.int late]∧SqL K H a (ns.map V.int)∧ns.length≤1000∧0≤late∧intBits late≤8000 ∧
 (jd (zV late ns)→∀(p:Addr) (H':Hp),Same H H'→H p=none→H' p=some (.lst ((zV late ns).map V.int))→Q (.ref p) H') ∧
 (¬jd (zV late ns)→∀H',Same H H'→E (.ref C) none H')
theorem jz:FnScope ["reading","late","box","before","part"] ["reading","late"] (defScope jq):=⟨rfl,rfl,rfl,by decide +kernel,rfl,by decide +kernel,by decide +kernel⟩
theorem Z4 {za:Addr} (D:Def K mg "heard_box" jq ["reading","late"]) (T:Txt K mg) (zj:mg "NoReading"=some (.ref za)) (zm:W.excIn K za bmV "ValueError.__new__"=true) (KJ:Fn P w K mg base 1 "box_of" ["row","late"] (Vb K)):FnE P w K mg base 2 "heard_box" ["reading","late"] (Ve K za):=by
 refine D.fnE jz (fun vs H Q E h=>?_) (fun f cdv A outer s H vs Q E hr h=>?_)
 ·obtain⟨a,ns,late,rfl,_⟩:=h
  rfl
 ·obtain⟨a,ns,late,rfl,hA,hl,l0,lb,q,q2⟩:=h
  refine⟨_,(pss_cons (ps_set (i:=2) jz.nd rfl (Or.inl rfl) (zJ KJ (hr.mono (by decide)) (by rfl) (pa_cons (pv 0) (pa_cons (pv 1) pa_nil))))
   (pss_cons (ps_set (i:=3) jz.nd rfl (Or.inl rfl) pe_int)
   (pss_cons (ps_for PassesOwn.leaving rfl (pi_list (pv 2)) (pg_name (i:=4) jz.nd rfl (Or.inl rfl))
    (pss_cons (ps_if (pt_cmpR vp (pv 4) (pv 3) (nomark _))
     (pss_one (vP PySem.F.excBase_ValueError zm (by rfl) zj (pa_cons pe_str pa_nil)))
     pss_nil)
    (pss_one (ps_set (i:=3) jz.nd rfl (Or.inl rfl) (pv 4)))))
   (pss_one (ps_ret (pv 2)))))),?_⟩
  refine⟨_,rfl,_,rfl,a,ns,late,rfl,hA,hl,l0,lb,fun p H1 s1 hp h1=>?_⟩
  generalize hbs:zV late ns=bs at h1 q q2
  refine⟨_,rfl,p,rfl,⟨_,SqL.of h1⟩,for_list (K:=K) (a:=p) (xs:=bs.map V.int) (fun i σ H2=>∃(before:Int) (v4:Option V),σ=[some (.ref a),some (.int late),some (.ref p),some (.int before),v4]∧H2=H1∧(jd bs↔JP before (bs.drop i)))
   ⟨0,none,rfl,rfl,by rw [List.drop_zero];exact VG⟩ (fun i σ H2 _ ⟨_,_,_,e,_⟩=>e ▸ SqL.of h1) ?_ ?_⟩
  ·rintro i y σ H2 hi ⟨before,v4,rfl,rfl,hb⟩
   rw [List.getElem?_map] at hi
   obtain⟨x,hx,rfl⟩:=Option.map_eq_some_iff.mp hi
   rw [VH hx] at hb
   refine⟨_,rfl,_,rfl,_,_,rfl,rfl,_,rfl,ifD (fun h=>?_) (fun h=>⟨_,rfl,x,_,rfl,rfl,hb.trans ⟨fun z=>z.2,fun z=>⟨by omega,z⟩⟩⟩)⟩
   exact⟨(by decide),q2 (fun B=>by have:=(hb.mp B).1;omega) _ s1⟩
  ·rintro σ H2 ⟨before,v4,rfl,rfl,hb⟩
   rw [List.length_map,List.drop_length] at hb
   exact⟨_,rfl,q (hb.mpr trivial) p _ s1 hp h1⟩
end
theorem vh {bs:List Int}{i j:Nat}{v:Int} (hi:i<bs.length):(bs.set i v).getD j 0=if j=i then v else bs.getD j 0:=by
 rw [List.getD_eq_getElem?_getD,List.getD_eq_getElem?_getD,List.getElem?_set]
 by_cases h:i=j
 ·subst h;simp [hi]
 ·rw [if_neg h,if_neg (fun z=>h z.symm)]
theorem Qs {bs:List Int}{i:Nat}{v:Int} (hi:i<bs.length):∀n:Nat,jc (bs.set i v) n=jc bs n+if i<n then ch (v+(i:Int)) ((i:Int)+1)-ch (bs.getD i 0+(i:Int)) ((i:Int)+1) else 0
 | 0=>by rw [if_neg (Nat.not_lt_zero _)];rfl
 | n+1=>by
  show jc (bs.set i v) n+ch ((bs.set i v).getD n 0+(n:Int)) ((n:Int)+1)=jc bs n+ch (bs.getD n 0+(n:Int)) ((n:Int)+1)+_
  rw [Qs hi n,vh hi]
  by_cases h1:n=i
  ·subst h1
   rw [if_pos rfl,if_neg (Nat.lt_irrefl _),if_pos (Nat.lt_succ_self _)]
   omega
  ·rw [if_neg h1]
   by_cases h2:i<n
   ·rw [if_pos h2,if_pos (by omega)];omega
   ·rw [if_neg h2,if_neg (by omega)];omega
theorem yO (m:Nat):∀n:Nat,jc (List.replicate m 0) n=0
 | 0=>rfl
 | n+1=>by
  have e:(List.replicate m (0:Int)).getD n 0=0:=by
   rw [List.getD_eq_getElem?_getD,List.getElem?_replicate]
   split <;> rfl
  show jc (List.replicate m 0) n+ch ((List.replicate m (0:Int)).getD n 0+(n:Int)) ((n:Int)+1)=0
  rw [yO m n,e,wY (by omega) (by omega)]
  rfl
theorem Zz:∀n:Nat,(List.replicate n [V.int 0]).flatten=(List.replicate n (0:Int)).map V.int
 | 0=>rfl
 | n+1=>by
  rw [List.replicate_succ,List.flatten_cons,Zz n,List.replicate_succ,List.map_cons]
  rfl
theorem KN {n:Nat} (h:n≤1000):(-1:Int)≠0∧(-1:Int).natAbs<1073741824∧Builtin.Range.small ((n:Int)-1) (-1) (-1)=true∧Builtin.Range.rangeSize ((n:Int)-1) (-1) (-1)=(n:Int):=by
 have hs:Builtin.Range.rangeSize ((n:Int)-1) (-1) (-1)=(n:Int):=by
  unfold Builtin.Range.rangeSize
  rw [if_neg (by decide)]
  by_cases z:n=0
  ·subst z;rfl
  ·rw [if_pos (by omega)]
   show ((n:Int)-1 - -1-1) / (- -1)+1=n
   rw [show (- -1:Int)=1 by decide,Int.ediv_one]
   omega
 refine⟨by decide,by decide,?_,hs⟩
 unfold Builtin.Range.small
 rw [hs]
 simp only [Builtin.Range.rangeFitsLong]
 simp
 omega
theorem KQ {bs:List Int} (h0:∀j,j<bs.length→0≤bs.getD j 0) (hm:∀j k,j≤k→k<bs.length→bs.getD j 0≤bs.getD k 0):jd bs:=by
 have eg:∀(j:Nat) (h:j<bs.length),bs.getD j 0=bs[j]:=fun j h=>by rw [List.getD_eq_getElem?_getD,List.getElem?_eq_getElem h];rfl
 refine⟨List.pairwise_iff_getElem.mpr fun i j hi hj hij=>?_,fun x hx=>?_⟩
 ·have:=hm i j (by omega) hj
  rw [eg i hi,eg j hj] at this
  exact this
 ·obtain⟨j,hj,rfl⟩:=List.getElem_of_mem hx
  rw [← eg j hj]
  exact h0 j hj
theorem KR (m:Nat):∀n:Nat,m<C (m+(n+1)) (n+1)
 | 0=>by rw [Kc];omega
 | n+1=>by
  have:=KR m n
  rw [show m+(n+1+1)=(m+(n+1))+1 by omega,xR]
  omega
theorem WW {m:Int}{n:Nat} (h0:0≤m) (hz:(n:Int)=0→m=0):m<ch (m+(n:Int)) (n:Int):=by
 cases n with
 | zero=>
  have:=hz rfl
  subst this
  rw [show ((0:Nat):Int)=0 from rfl,kY]
  decide
 | succ n=>
  obtain⟨r,rfl⟩:∃r:Nat,m=(r:Int):=⟨m.toNat,by omega⟩
  rw [← Int.natCast_add,wF]
  have:=KR r n
  omega
theorem top_lt {k a b c:Int} (h1:ch a k≤c) (h2:c<ch b k):a<b:=by
 rcases (by omega:a<b∨b≤a) with z | z
 ·exact z
 ·have:=QK (k:=k) z
  omega
section
noncomputable def ZC (K:W.Frag):Sp:=fun vs H Q _=>∃message bells:Int,vs=[.int message,.int bells]∧0≤message∧0≤bells∧bells≤60∧(bells=0→message=0)∧intBits message≤50000 ∧
 ∀(p:Addr) (bs:List Int) (H':Hp),Same H H'→H p=none→H' p=some (.lst (bs.map V.int))→jd bs→bs.length=bells.toNat→vg bs=message→Szs 60010 bs→Q (.ref p) H'
theorem zK:FnScope ["message","bells","box","left","top","place"] ["message","bells"] (defScope qe):=⟨rfl,rfl,rfl,by decide +kernel,rfl,by decide +kernel,by decide +kernel⟩
theorem yg (D:Def K mg "box_of_message" qe ["message","bells"]) (T:Txt K mg) (vU:Fn P w K mg base 37 "above_top" ["k","number"] X3) (wI:Fn P w K mg base 37 "top_from" ["start","k","number"] Qo) (qx:Fn P w K mg base 1 "choose" ["n","k"] xY) :
  Fn P w K mg base 39 "box_of_message" ["message","bells"] (ZC K):=by
 refine D.fn zK (fun vs H Q E h=>?_) (fun f cdv A outer s H vs Q E hr h=>?_)
 ·obtain⟨a,bs,rfl,_⟩:=h
  rfl
 ·obtain⟨message,bells,rfl,m0,b0,b60,mz,mb,q⟩:=h
  refine⟨_,(pss_cons (ps_if (pw_or (pt_cmpR vp (pv 0) pe_int (nomark _)) (pw_or1 (pw_and (pt_cmpR yw (pv 1) pe_int (nomark _)) (pw_and1 (pt_cmpR Qy (pv 0) pe_int (nomark _)))).pt)).pt
    (pss_one (ps_never))
    pss_nil)
   (pss_cons (ps_set (i:=2) zK.nd rfl (Or.inl rfl) (pe_op op_rep (pe_lst (pa_cons pe_int pa_nil)) (pv 1)))
   (pss_cons (ps_set (i:=3) zK.nd rfl (Or.inl rfl) (pv 0))
   (pss_cons (ps_set (i:=4) zK.nd rfl (Or.inl rfl) (pe_op zf (pv 0) (pv 1)))
   (pss_cons (ps_for PassesOwn.never rfl (Qg (by rfl) T.z_range (pa_cons (pe_op zB (pv 1) pe_int) (pa_cons (pe_un un_neg pe_int) (pa_cons (pe_un un_neg pe_int) pa_nil)))) (pg_name (i:=5) zK.nd rfl (Or.inl rfl))
    (pss_cons (ps_set (i:=4) zK.nd rfl (Or.inl rfl) (zJ wI (hr.mono (by decide)) (by rfl) (pa_cons (pe_callB (call_min2 rfl) (by rfl) T.z_min zaH (pa_cons (pe_op zB (pv 4) pe_int) (pa_cons (zJ vU (hr.mono (by decide)) (by rfl) (pa_cons (pe_op zf (pv 5) pe_int) (pa_cons (pv 3) pa_nil))) pa_nil))) (pa_cons (pe_op zf (pv 5) pe_int) (pa_cons (pv 3) pa_nil)))))
    (pss_cons (ps_asg (pe_op zB (pv 4) (pv 5)) (pg_sub (pv 2) (pv 5) set_list))
    (pss_one (ps_set (i:=3) zK.nd rfl (Or.inl rfl) (pe_op zB (pv 3) (zJ qx (hr.mono (by decide)) (by rfl) (pa_cons (pv 4) (pa_cons (pe_op zf (pv 5) pe_int) pa_nil)))))))))
   (pss_one (ps_ret (pv 2)))))))),?_⟩
  obtain⟨n,rfl⟩:∃n:Nat,bells=(n:Int):=⟨bells.toNat,by omega⟩
  refine⟨_,rfl,_,_,rfl,rfl,_,rfl,ifF (by omega) ⟨_,rfl,_,_,rfl,rfl,_,rfl,?_⟩⟩
  refine ifD (fun z=>⟨_,rfl,_,_,rfl,rfl,_,rfl,iteNS (mz z) ?x1⟩) (fun z=>?x2)
  all_goals
   refine⟨(by decide),fun l hl=>⟨_,rfl,l,(n:Int),_,rfl,rfl,upd_same,by omega,by omega,?_,fun p hp=>?_⟩⟩
   ·show 1*((n:Int)).toNat≤sizeLine
    exact Nat.le_of_lt (small1000 (by omega))
   rw [show ((n:Int)).toNat=n by omega,Zz]
   have hp0:H p=none:=(Same.new hl).free hp
   have s1:Same H (upd (upd H l (.lst [V.int 0])) p (.lst ((List.replicate n (0:Int)).map V.int))):=(Same.new hl).put hp
   have h1:(upd (upd H l (.lst [V.int 0])) p (.lst ((List.replicate n (0:Int)).map V.int))) p=some (.lst ((List.replicate n (0:Int)).map V.int)):=upd_same
   generalize upd (upd H l (.lst [V.int 0])) p (.lst ((List.replicate n (0:Int)).map V.int))=H1 at s1 h1 ⊢
   have mb2:intBits (message+(n:Int))≤60000:=zc (intBits_add_le (m:=50000) (n:=64) mb (zq (by omega) (by omega))) (by decide)
   refine⟨_,rfl,_,rfl,_,rfl,_,_,rfl,rfl,_,rfl,_,_,rfl,rfl,1,rfl,1,rfl,(n:Int)-1,-1,-1,n,rfl,KN (by omega),J3 (lo:=(n:Int)-1) (c:=-1) (n:=n) (fun i σ H2=>∃(bs:List Int) (left top:Int) (v5:Option V),σ=[some (.int message),some (.int (n:Int)),some (.ref p),some (.int left),some (.int top),v5]∧Same H H2∧H2 p=some (.lst (bs.map V.int))∧bs.length=n∧0≤left∧left≤message∧left+jc bs n=message∧(∀j,j<n-i→bs.getD j 0=0)∧(∀j,j<n→0≤bs.getD j 0)∧(∀j k,n-i≤j→j≤k→k<n→bs.getD j 0≤bs.getD k 0)∧left<ch top ((n-i:Nat):Int)∧((n-i:Nat):Int)≤top∧intBits top≤60000∧(0<i→top=bs.getD (n-i) 0+((n-i:Nat):Int))∧Szs 60010 bs)
    ⟨List.replicate n 0,message,message+(n:Int),none,rfl,s1,h1,by rw [List.length_replicate],m0,Int.le_refl _,by rw [yO];omega,fun j _=>?_,fun j _=>?_,fun j k h1 h2 h3=>by omega,by rw [Nat.sub_zero];exact WW m0 mz,by omega,mb2,fun z=>absurd z (by omega),fun x hx=>?_⟩ ?_ ?_⟩
   ·rw [List.getD_eq_getElem?_getD,List.getElem?_replicate]
    split <;> rfl
   ·rw [List.getD_eq_getElem?_getD,List.getElem?_replicate]
    split <;> decide
   ·rw [(List.mem_replicate.mp hx).2];decide
   ·rintro i σ H2 hi ⟨bs,left,top,v5,rfl,sm,hB,hl2,l0,l1,sum,z0,nn,mono,lt,tge,tbb,teq,sz⟩
    obtain⟨pl,hpl⟩:∃pl:Nat,pl=n-1-i:=⟨_,rfl⟩
    have ep:(n:Int)-1+(i:Int)*-1=(pl:Int):=by omega
    rw [ep]
    have hpb:pl<bs.length:=by omega
    have hni:n-i=pl+1:=by omega
    rw [hni] at lt tge teq
    refine⟨_,rfl,_,_,rfl,rfl,_,rfl,_,_,rfl,rfl,_,rfl,(pl:Int)+1,left,rfl,by omega,by omega,l0,intBits_le_of_natAbs (y:=message) (by omega) mb,fun a a1 a2 a3=>⟨_,_,rfl,_,rfl,_,_,rfl,rfl,_,rfl,_,(pl:Int)+1,left,rfl,by omega,by omega,l0,?_,?_,?_,fun t tp tb=>?_⟩⟩
    ·split <;> omega
    ·split
     ·exact a2
     ·rw [show top-1+1=top by omega,show ((pl:Int)+1)=((pl+1:Nat):Int) by omega]
      exact lt
    ·split
     ·exact a3
     ·exact intBits_le_of_natAbs (y:=top) (by omega) tbb
    have t0:=tp.lo
    have t1:=tp.le
    have t2:=tp.lt
    refine⟨_,rfl,_,rfl,_,_,rfl,rfl,_,rfl,_,rfl,p,_,_,pl,rfl,rfl,hB,?_,?_⟩
    ·unfold ixN
     rw [List.length_map,if_pos (by omega),if_pos (by omega),Int.toNat_natCast]
    have pas:=QJ (n:=t) (k:=(pl:Int)) (by omega) (by omega)
    refine⟨_,rfl,_,rfl,_,rfl,_,_,rfl,rfl,t,(pl:Int)+1,rfl,by omega,by omega,by omega,zc tb (by decide),_,_,rfl,rfl,?_⟩
    have ge:=Qi t ((pl:Int)+1)
    refine⟨bs.set pl (t-(pl:Int)),left-ch t ((pl:Int)+1),t,_,rfl,sm.wr hp0,by rw [upd_same,List.map_set],by rw [List.length_set];exact hl2,by omega,by omega,?_,fun j hj=>?_,fun j hj=>?_,fun j k h1 h2 h3=>?_,?_,by omega,tb,fun _=>?_,fun x hx=>?_⟩
    ·rw [Qs hpb,if_pos (by omega),z0 pl (by omega),wY (n:=0+(pl:Int)) (by omega) (by omega),show t-(pl:Int)+(pl:Int)=t by omega]
     omega
    ·rw [vh hpb,if_neg (by omega)]
     exact z0 j (by omega)
    ·rw [vh hpb]
     split
     ·omega
     ·exact nn j hj
    ·rw [vh hpb,vh hpb]
     by_cases e1:j=pl
     ·rw [if_pos e1]
      by_cases e2:k=pl
      ·rw [if_pos e2];exact Int.le_refl _
      ·rw [if_neg e2]
       have:=top_lt t1 (by rw [show ((pl:Int)+1)=((pl+1:Nat):Int) by omega];exact lt)
       have:=teq (by omega)
       have:=mono (pl+1) k (by omega) (by omega) h3
       omega
     ·rw [if_neg e1,if_neg (by omega)]
      exact mono j k (by omega) h2 h3
    ·rw [show n-(i+1)=pl by omega]
     omega
    ·rw [show n-(i+1)=pl by omega,vh hpb,if_pos rfl,show t-(pl:Int)+(pl:Int)=t by omega]
    ·rcases List.mem_or_eq_of_mem_set hx with z | z
     ·exact sz x z
     ·rw [z]
      exact zc (intBits_sub_le (m:=60000) (n:=64) tb (zq (by omega) (by omega))) (by decide)
   ·rintro σ H2 ⟨bs,left,top,v5,rfl,sm,hB,hl2,l0,l1,sum,z0,nn,mono,lt,tge,tbb,teq,sz⟩
    rw [Nat.sub_self] at z0 mono lt
    have e0:left=0:=by
     by_cases hn:n=0
     ·subst hn
      have:message=0:=mz rfl
      omega
     ·rw [show ((0:Nat):Int)=0 from rfl,kY] at lt
      omega
    refine⟨_,rfl,q p bs H2 sm hp0 hB (KQ (fun j hj=>nn j (by omega)) (fun j k h1 h2=>mono j k (Nat.zero_le _) h1 (by omega))) (by omega) ?_ sz⟩
    unfold vg
    rw [hl2]
    omega
end
noncomputable def cnt (turns bells late:Int):Int:=if turns<bells then 0 else ch ((turns-bells) / (late+1)+bells) bells
noncomputable def yh:Sp:=fun vs H Q _=>∃turns bells late:Int,vs=[.int turns,.int bells,.int late]∧0≤bells∧bells≤1000∧0≤late∧intBits late≤8000∧intBits turns≤70000∧Q (.int (cnt turns bells late)) H
section
noncomputable def Vf:Sp:=fun vs H Q _=>∃turns bells late:Int,vs=[.int turns,.int bells,.int late]∧0≤late∧intBits late≤8000∧Q (.int ((turns-bells) / (late+1))) H
theorem yE:FnScope ["turns","bells","late"] ["turns","bells","late"] (defScope qt):=⟨rfl,rfl,rfl,by decide +kernel,rfl,by decide +kernel,by decide +kernel⟩
theorem yF (D:Def K mg "greatest_part" qt ["turns","bells","late"]):Fn P w K mg base 1 "greatest_part" ["turns","bells","late"] Vf:=by
 refine D.fn yE (fun vs H Q E h=>?_) (fun f cdv A outer s H vs Q E hr h=>?_)
 ·obtain⟨a,b,c,rfl,_⟩:=h
  rfl
 ·obtain⟨turns,bells,late,rfl,l0,lb,q⟩:=h
  refine⟨_,(pss_one (ps_ret (pe_op zR (pe_op zB (pv 0) (pv 1)) (pe_op zf (pv 2) pe_int)))),?_⟩
  have lb1:intBits (late+1)≤9000:=zc (intBits_add_le (m:=8000) (n:=1) lb (by decide)) (by decide)
  exact⟨_,rfl,_,rfl,_,_,rfl,rfl,_,rfl,_,_,rfl,rfl,_,_,rfl,rfl,⟨by omega,lb1⟩,q⟩
theorem Q0:FnScope ["turns","bells","late"] ["turns","bells","late"] (defScope jr):=⟨rfl,rfl,rfl,by decide +kernel,rfl,by decide +kernel,by decide +kernel⟩
theorem Q3 (D:Def K mg "box_count" jr ["turns","bells","late"]) (T:Txt K mg) (yW:Fn P w K mg base 1 "greatest_part" ["turns","bells","late"] Vf) (qx:Fn P w K mg base 1 "choose" ["n","k"] xY):Fn P w K mg base 2 "box_count" ["turns","bells","late"] yh:=by
 refine D.fn Q0 (fun vs H Q E h=>?_) (fun f cdv A outer s H vs Q E hr h=>?_)
 ·obtain⟨a,b,c,rfl,_⟩:=h
  rfl
 ·obtain⟨turns,bells,late,rfl,b0,b1,l0,lb,tb,q⟩:=h
  refine⟨_,(pss_cons (ps_if (pt_cmpR jH (pv 1) (pv 0) (nomark _))
    (pss_one (ps_ret pe_int))
    pss_nil)
   (pss_one (ps_ret (zJ qx (hr.mono (by decide)) (by rfl) (pa_cons (pe_op zf (zJ yW (hr.mono (by decide)) (by rfl) (pa_cons (pv 0) (pa_cons (pv 1) (pa_cons (pv 2) pa_nil)))) (pv 1)) (pa_cons (pv 1) pa_nil)))))),?_⟩
  unfold cnt at q
  refine⟨_,rfl,_,rfl,_,_,rfl,rfl,_,rfl,ifD (fun h=>?_) (fun h=>?_)⟩
  ·rw [if_pos h] at q
   exact q
  ·rw [if_neg h] at q
   have d0:0≤(turns-bells) / (late+1):=Int.ediv_nonneg (by omega) (by omega)
   have db:intBits ((turns-bells) / (late+1))≤70000:=by
    have h2:=Int.ediv_le_self (late+1) (show 0≤turns-bells by omega)
    exact intBits_le_of_natAbs (y:=turns) (by omega) tb
   refine⟨_,rfl,_,rfl,_,rfl,turns,bells,late,rfl,l0,lb,_,rfl,_,_,rfl,rfl,_,rfl,_,bells,rfl,by omega,b0,b1,?_,q⟩
   exact zc (intBits_add_le (m:=70000) (n:=64) db (zq b0 (by omega))) (by decide)
end
theorem KY {turns bells late:Int}{m:Nat} (b0:0≤bells) (b1:bells≤61) (l0:0≤late) (t0:0≤turns) (tb:intBits turns≤m) (hm:7≤m):intBits (cnt turns bells late)≤(m+1)*61+1:=by
 unfold cnt
 split
 ·exact Nat.zero_le _
 ·have d0:0≤(turns-bells) / (late+1):=Int.ediv_nonneg (by omega) (by omega)
  have d1:(turns-bells) / (late+1)≤turns-bells:=Int.ediv_le_self _ (by omega)
  have nb:intBits ((turns-bells) / (late+1)+bells)≤m+1:=zc (intBits_le_of_natAbs (y:=turns) (by omega) tb) (by omega)
  have:=Zc (k:=bells.toNat) nb (by omega)
  rw [show ((bells.toNat:Nat):Int)=bells by omega] at this
  exact zc this (Nat.add_le_add_right (Nat.mul_le_mul_left _ (by omega)) _)
theorem yj {x y:Int}{m:Nat} (h0:0≤x) (h1:x<y) (hy:intBits y≤m):intBits x≤m:=intBits_le_of_natAbs (y:=y) (by omega) hy
section
noncomputable def yG (K:W.Frag):Sp:=fun vs H Q _=>∃message turns bells late:Int,vs=[.int message,.int turns,.int bells,.int late]∧0≤message∧message<cnt turns bells late∧0≤bells∧bells≤60∧0≤late∧intBits late≤8000∧intBits turns≤70000∧intBits message≤50000 ∧
 ∀(p:Addr) (bs:List Int) (H':Hp),Same H H'→H p=none→H' p=some (.lst ((jb late bs).map V.int))→jd bs→bs.length=bells.toNat→vg bs=message→Szs 60010 bs→Q (.ref p) H'
theorem Q4 {message turns late:Int} (h0:0≤message) (h:message<cnt turns 0 late):message=0:=by
 unfold cnt at h
 split at h
 ·omega
 ·rw [kY] at h;omega
theorem Xr:FnScope ["message","turns","bells","late"] ["message","turns","bells","late"] (defScope xf):=⟨rfl,rfl,rfl,by decide +kernel,rfl,by decide +kernel,by decide +kernel⟩
theorem Xu (D:Def K mg "written" xf ["message","turns","bells","late"]) (T:Txt K mg) (zX:Fn P w K mg base 2 "box_count" ["turns","bells","late"] yh) (jK:Fn P w K mg base 39 "box_of_message" ["message","bells"] (ZC K)) (Xv:Fn P w K mg base 1 "bell_row" ["box","late"] (Qp K)) :
  Fn P w K mg base 40 "written" ["message","turns","bells","late"] (yG K):=by
 refine D.fn Xr (fun vs H Q E h=>?_) (fun f cdv A outer s H vs Q E hr h=>?_)
 ·obtain⟨a,b,c,d,rfl,_⟩:=h
  rfl
 ·obtain⟨message,turns,bells,late,rfl,m0,m1,b0,b60,l0,lb,tb,mb,q⟩:=h
  refine⟨_,(pss_cons (ps_if (pw_or (pt_cmpR vp (pv 0) pe_int (nomark _)) (pw_or1 (pt_cmpR V5 (pv 0) (zJ zX (hr.mono (by decide)) (by rfl) (pa_cons (pv 1) (pa_cons (pv 2) (pa_cons (pv 3) pa_nil)))) (nomark _)))).pt
    (pss_one (ps_never))
    pss_nil)
   (pss_one (ps_ret (zJ Xv (hr.mono (by decide)) (by rfl) (pa_cons (zJ jK (hr.mono (by decide)) (by rfl) (pa_cons (pv 0) (pa_cons (pv 2) pa_nil))) (pa_cons (pv 3) pa_nil)))))),?_⟩
  refine⟨_,rfl,_,_,rfl,rfl,_,rfl,ifF (by omega) ⟨_,rfl,_,rfl,_,rfl,_,rfl,turns,bells,late,rfl,b0,by omega,l0,lb,tb,_,_,rfl,rfl,_,rfl,ifF (by omega) ?_⟩⟩
  refine⟨_,rfl,_,rfl,message,bells,rfl,m0,b0,b60,fun z=>Q4 m0 (z ▸ m1),mb,fun p bs H1 s1 hp h1 B hl hnum sz=>?_⟩
  refine⟨_,rfl,p,bs,late,rfl,SqL.of h1,by omega,lb,fun x hx=>zc (sz x hx) (by decide),fun p2 H2 s2 hp2 h2=>?_⟩
  exact q p2 bs H2 (s1.trans s2) (s1.free hp2) h2 B hl hnum sz
end
noncomputable def GoodR (turns bells late:Int) (ns:List Int):Prop:=(ns.length:Int)=bells∧jd (zV late ns)∧vg (zV late ns)<cnt turns bells late
theorem Xw {bs:List Int} (B:jd bs){turns late:Int} (l0:0≤late) (ht:(bs.length:Int)≤turns) (h:∀x∈bs,x≤(turns-(bs.length:Int)) / (late+1)):vg bs<cnt turns (bs.length:Int) late:=by
 unfold cnt vg
 rw [if_neg (by omega)]
 refine Zx B bs.length _ (Nat.le_refl _) (Int.ediv_nonneg (by omega) (by omega)) fun j hj=>?_
 rw [List.getD_eq_getElem?_getD,List.getElem?_eq_getElem hj]
 exact h _ (List.getElem_mem hj)
theorem Xx {bs:List Int} (B:jd bs){turns late x:Int}{r:List Int} (l0:0≤late) (hb:bs=r++[x]) (h:(turns-(bs.length:Int)) / (late+1)<x):cnt turns (bs.length:Int) late≤vg bs:=by
 unfold cnt
 split
 ·exact jy _ _
 ·have hl:bs.length=r.length+1:=by rw [hb,List.length_append];rfl
  have tp:=(VF B (i:=r.length) (by omega)).le
  have hx:bs.getD r.length 0=x:=by rw [hb,List.getD_eq_getElem?_getD,List.getElem?_append_right (Nat.le_refl _),Nat.sub_self];rfl
  rw [hx] at tp
  have d0:0≤(turns-(bs.length:Int)) / (late+1):=Int.ediv_nonneg (by omega) (by omega)
  unfold vg
  rw [hl] at h d0 ⊢
  refine Int.le_trans (QK (m:=(turns-((r.length+1:Nat):Int)) / (late+1)+((r.length+1:Nat):Int)) (n:=x+(r.length:Int)) (k:=((r.length+1:Nat):Int)) (by omega)) ?_
  rw [show ((r.length+1:Nat):Int)=(r.length:Int)+1 by omega]
  exact tp
section
noncomputable def Vg (K:W.Frag) (C:Addr):Sp:=fun vs H Q E=>∃(a:Addr) (ns:List Int) (turns bells late:Int),vs=[.ref a,.int turns,.int bells,.int late]∧SqL K H a (ns.map V.int)∧0≤bells∧bells≤60∧0≤late∧intBits late≤8000∧intBits turns≤70000∧((ns.length:Int)=bells→Szs 70000 (zV late ns)) ∧
 (GoodR turns bells late ns→∀H',Same H H'→Q (.int (vg (zV late ns))) H')∧(¬GoodR turns bells late ns→∀H',Same H H'→E (.ref C) none H')
theorem Vh:FnScope ["reading","turns","bells","late","message"] ["reading","turns","bells","late"] (defScope yd):=⟨rfl,rfl,rfl,by decide +kernel,rfl,by decide +kernel,by decide +kernel⟩
theorem KZ {za:Addr} (D:Def K mg "read" yd ["reading","turns","bells","late"]) (T:Txt K mg) (zj:mg "NoReading"=some (.ref za)) (zm:W.excIn K za bmV "ValueError.__new__"=true) (zX:Fn P w K mg base 2 "box_count" ["turns","bells","late"] yh) (Q5:FnE P w K mg base 2 "heard_box" ["reading","late"] (Ve K za)) (Q6:Fn P w K mg base 2 "box_number" ["box"] (YB K)) :
  FnE P w K mg base 3 "read" ["reading","turns","bells","late"] (Vg K za):=by
 refine D.fnE Vh (fun vs H Q E h=>?_) (fun f cdv A outer s H vs Q E hr h=>?_)
 ·obtain⟨a,b,c,d,e,rfl,_⟩:=h
  rfl
 ·obtain⟨a,ns,turns,bells,late,rfl,hA,b0,b60,l0,lb,tb,sz,q1,q2⟩:=h
  refine⟨_,(pss_cons (ps_if (pt_cmpR Qy (pe_callB call_len_seq (by rfl) T.z_len xJ (pa_cons (pv 0) pa_nil)) (pv 2) (nomark _))
    (pss_one (vP PySem.F.excBase_ValueError zm (by rfl) zj (pa_cons pe_str pa_nil)))
    pss_nil)
   (pss_cons (ps_set (i:=4) Vh.nd rfl (Or.inl rfl) (zJ Q6 (hr.mono (by decide)) (by rfl) (pa_cons (Zo Q5 (hr.mono (by decide)) (by rfl) Zd (pa_cons (pv 0) (pa_cons (pv 3) pa_nil))) pa_nil)))
   (pss_cons (ps_if (pt_cmpR V5 (pv 4) (zJ zX (hr.mono (by decide)) (by rfl) (pa_cons (pv 1) (pa_cons (pv 2) (pa_cons (pv 3) pa_nil)))) (nomark _))
    (pss_one (vP PySem.F.excBase_ValueError zm (by rfl) zj (pa_cons pe_str pa_nil)))
    pss_nil)
   (pss_one (ps_ret (pv 4)))))),?_⟩
  refine⟨_,rfl,_,_,rfl,.inl hA,_,rfl,_,_,rfl,rfl,_,rfl,?_⟩
  rw [List.length_map]
  refine YK (fun e=>⟨(by decide),q2 (fun g=>e g.1) _ (Same.refl _)⟩) (fun e=>?_)
  refine⟨_,rfl,_,rfl,a,ns,late,rfl,hA,by omega,l0,lb,fun B p H1 s1 hp h1=>?_,fun nB H1 s1=>q2 (fun g=>nB g.2.1) _ s1⟩
  refine⟨p,zV late ns,rfl,SqL.of h1,by rw [jW];omega,B.nn,sz e,fun H2 s2=>?_⟩
  refine⟨_,rfl,_,rfl,_,rfl,_,rfl,turns,bells,late,rfl,by omega,by omega,l0,lb,tb,_,_,rfl,rfl,_,rfl,ifD (fun h=>?_) (fun h=>?_)⟩
  ·exact⟨(by decide),q2 (fun g=>by have:=g.2.2;omega) _ (s1.trans s2)⟩
  ·exact⟨_,rfl,q1 ⟨e,B,by omega⟩ _ (s1.trans s2)⟩
end
section
open PySem.Spec PyProof.Rows
variable {X:Cx}{pins:List (Addr×Obj)}{σ:L2.St}{H:Hp}{s:Shared}{a:Addr}{kvs:List (Key×V)}{k:Key}{u r:Value}{v:V}{A:Around}{E:Value→Shared→Prop}
theorem zaf {Q:Value→Shared→Prop} (I:L2.Inv X pins σ H s) (e:H a=some (.dK kvs)) (ry:RelV (kV k) u) (rv:RelV v r) (hl:kvs.length<sizeLine)
  (h1:∀v0 w' s',valV kvs k=some v0→L2.Inv X pins σ H s'→RelV v0 w'→Q w' s') (h2:∀s',valV kvs k=none→L2.Inv X pins σ (upd H a (.dK (putK kvs k v))) s'→Q r s') :
  wpAny (model X.prog X.w) A (call (.builtin "dict.setdefault") [.ref a,u,r]) Q E s:=by
 obtain⟨z,hd,vs,rel,dd⟩:=dk_of I.hok e
 have hz:vs.length≤sizeLine:=by rw [← rel.length];exact z
 have hl2:(putK kvs k v).length≤sizeLine:=by have:=length_putK kvs k v;omega
 refine call_meetsIn PySem.F.slot_dict_setdefault dd.typeIs PySem.F.entry_dict_setdefault (PySem.F.args_dict_setdefault_3 _ _ _) (kt_meets_setdefault (mixKind X.prog X.w) a (kV_is ry) hd r) ⟨vs,dd,hz,fun w' hw=>?_,fun hn h' dd' hs=>?_⟩
 ·have rr:=rel.val k
  rw [hw] at rr
  cases e2:valV kvs k with
  | none=>rw [e2] at rr;exact absurd rr (by intro z;cases z)
  | some v0=>
   rw [e2] at rr
   exact h1 v0 w' _ e2 (I.tok _) rr
 ·have hv:valV kvs k=none:=by
   have rr:=rel.val k
   rw [hn] at rr
   cases e2:valV kvs k with
   | none=>rfl
   | some v0=>rw [e2] at rr;exact absurd rr (by intro z;cases z)
  have he:∃q,h'.get? a=some q:=let ⟨q,_,_,hq,_⟩:=dd';⟨q,hq⟩
  exact h2 _ hv (d_write I (by rw [e];exact True.intro) hs he (dk_new hl2 hd (rel.put k rv) dd'))
end
section
open PySem.Spec PyProof.Rows
variable {X:Cx}{o e f:Expr}{apos cpos:Pos}{td ty tx:TE}
noncomputable def zag (td ty tx:TE):TE:=fun σ H Q=>td σ H fun x H1=>∃a,x=.ref a∧IsD H1 a∧ty σ H1 fun y H2=>tx σ H2 fun z H3=>∃kvs k,H3 a=some (.dK kvs)∧y=kV k∧kvs.length<sizeLine ∧
 (∀v,valV kvs k=some v→Q v H3)∧(valV kvs k=none→Q z (upd H3 a (.dK (putK kvs k z))))
theorem K1 (ho:PE X o td) (he:PE X e ty) (hf:PE X f tx) (m:M2 X o "setdefault" apos e f cpos):PE X (.Call (.Attribute o "setdefault" apos) [e,f] [] cpos) (zag td ty tx):=by
 intro pins s σ H Q I h
 refine wpAny_Call_method m.base m.few m.line PySem.F.plainAttrs_dict PySem.F.slot_dict_setdefault PySem.F.type_dict_setdefault (thn (ho pins s σ H _ I h) fun u s1 ⟨x,H1,I1,rx,a,ex,d,q1⟩=>?_)
 subst ex
 obtain rfl:u=Value.ref a:=rx
 obtain⟨t1,t2,_⟩:=isD_at I1 d
 refine⟨t1,t2,?_⟩
 rw [m.trees]
 refine Calls.callWith_builtin rfl (Calls.evalArgs_plain (Calls.spliced_cons (thn (he pins s1 σ H1 _ I1 q1) fun iv s2 ⟨y,H2,I2,ry,q2⟩=>
  Calls.spliced_cons (thn (hf pins s2 σ H2 _ I2 q2) fun fv s3 ⟨z,H3,I3,rz,kvs,k,e3,ey,hl,c1,c2⟩=>Calls.spliced_nil ?_))))
 subst ey
 exact zaf I3 e3 ry rz hl (fun v0 w' s4 hv I4 rw'=>⟨v0,H3,I4,rw',c1 v0 hv⟩) (fun s4 hv I4=>⟨z,_,I4,rz,c2 hv⟩)
end
noncomputable def xN (L late:Int):Int→List (List Int)→List Int
 | _,[]=>[]
 | k,bs::r=>(jb late bs).map (fun x=>k*L+x)++xN L late (k+1) r
theorem wJ (L late:Int) (bs:List Int):∀(bss:List (List Int)) (k:Int),xN L late k (bss++[bs])=xN L late k bss++(jb late bs).map (fun x=>(k+(bss.length:Int))*L+x)
 | [],k=>by
  show (jb late bs).map (fun x=>k*L+x)++[]=[]++(jb late bs).map (fun x=>(k+((0:Nat):Int))*L+x)
  rw [List.append_nil,List.nil_append,show k+((0:Nat):Int)=k by omega]
 | b::r,k=>by
  show (jb late b).map (fun x=>k*L+x)++xN L late (k+1) (r++[bs])=(jb late b).map (fun x=>k*L+x)++xN L late (k+1) r++_
  rw [wJ L late bs r (k+1),List.append_assoc,List.length_cons,show k+1+(r.length:Int)=k+((r.length+1:Nat):Int) by omega]
noncomputable def grp (L k:Int) (ms:List Int):List Int:=(ms.filter (fun t=>decide (t / L=k))).map (fun t=>t % L)
theorem jL (L k:Int) (a b:List Int):grp L k (a++b)=grp L k a++grp L k b:=by
 unfold grp
 rw [List.filter_append,List.map_append]
theorem jM {L k t:Int} (h:t / L=k):grp L k [t]=[t % L]:=by
 unfold grp
 rw [List.filter_cons_of_pos (by rw [decide_eq_true h]),List.filter_nil]
 rfl
theorem jN {L k t:Int} (h:¬t / L=k):grp L k [t]=[]:=by
 unfold grp
 rw [List.filter_cons_of_neg (by rw [decide_eq_false h];decide),List.filter_nil]
 rfl
section
noncomputable def JQ:Sp:=fun vs H Q _=>∃turns bells:Int,vs=[.int turns,.int bells]∧1≤bells∧bells≤turns∧Q .non H
theorem yH:FnScope ["turns","bells"] ["turns","bells"] (defScope qu):=⟨rfl,rfl,rfl,by decide +kernel,rfl,by decide +kernel,by decide +kernel⟩
theorem yI (D:Def K mg "refuse_silent" qu ["turns","bells"]) (T:Txt K mg):Fn P w K mg base 1 "refuse_silent" ["turns","bells"] JQ:=by
 refine D.fn yH (fun vs H Q E h=>?_) (fun f cdv A outer s H vs Q E hr h=>?_)
 ·obtain⟨a,b,rfl,_⟩:=h
  rfl
 ·obtain⟨turns,bells,rfl,b1,bt,q⟩:=h
  refine⟨_,(pss_one (ps_if (pw_or (pt_cmpR yw (pv 1) pe_int (nomark _)) (pw_or1 (pt_cmpR jH (pv 1) (pv 0) (nomark _)))).pt
    (pss_one (ps_never))
    pss_nil)),?_⟩
  exact⟨_,rfl,_,_,rfl,rfl,_,rfl,ifF (by omega) ⟨_,rfl,_,rfl,_,_,rfl,rfl,_,rfl,ifF (by omega) q⟩⟩
noncomputable def K3 (K:W.Frag):Sp:=fun vs H Q _=>∃(a:Addr) (ms:List Int) (turns bells late:Int),vs=[.ref a,.int turns,.int bells,.int late]∧SqL K H a (ms.map V.int)∧ms.length≤300∧1≤bells∧bells≤60∧bells≤turns∧0≤late∧intBits late≤8000∧intBits turns≤60000∧(∀m∈ms,0≤m∧m<cnt turns bells late∧intBits m≤50000) ∧
 ∀(p:Addr) (bss:List (List Int)) (H':Hp),Same H H'→H p=none→H' p=some (.lst ((xN (turns+late) late 0 bss).map V.int))→bss.length=ms.length→(∀(i:Nat) (bs:List Int) (m:Int),bss[i]?=some bs→ms[i]?=some m→jd bs∧bs.length=bells.toNat∧vg bs=m)→(∀bs∈bss,Szs 60010 bs)→Q (.ref p) H'
theorem ym:FnScope ["messages","turns","bells","late","talk","place","message","start"] ["messages","turns","bells","late"] (defScope ye):=⟨rfl,rfl,rfl,by decide +kernel,rfl,by decide +kernel,by decide +kernel⟩
theorem WX (D:Def K mg "rung" ye ["messages","turns","bells","late"]) (T:Txt K mg) (yX:Fn P w K mg base 1 "refuse_silent" ["turns","bells"] JQ) (yJ:Fn P w K mg base 40 "written" ["message","turns","bells","late"] (yG K)):Fn P w K mg base 41 "rung" ["messages","turns","bells","late"] (K3 K):=by
 refine D.fn ym (fun vs H Q E h=>?_) (fun f cdv A outer s H vs Q E hr h=>?_)
 ·obtain⟨a,ms,b,c,d,rfl,_⟩:=h
  rfl
 ·obtain⟨a,ms,turns,bells,late,rfl,hS,hl,b1,b60,bt,l0,lb,tb,hm,q⟩:=h
  refine⟨_,(pss_cons (ps_expr (zJ yX (hr.mono (by decide)) (by rfl) (pa_cons (pv 1) (pa_cons (pv 2) pa_nil))))
   (pss_cons (ps_set (i:=4) ym.nd rfl (Or.inl rfl) (pe_lst pa_nil))
   (pss_cons (ps_for PassesOwn.never rfl (wZ (by rfl) T.z_enumerate (pa_cons (pv 0) pa_nil)) (pg_tup (n:=2) rfl (pgs_cons (pg_name (i:=5) ym.nd rfl (Or.inl rfl)) (pgs_cons (pg_name (i:=6) ym.nd rfl (Or.inl rfl)) pgs_nil)))
    (pss_cons (ps_set (i:=7) ym.nd rfl (Or.inr rfl) (pe_op z9 (pv 5) (pe_op zf (pv 1) (pv 3))))
    (pss_one (ps_expr (pe_bm PySem.F.plainAttrs_list PySem.F.slot_list_extend PySem.F.type_list_extend mt_extend (pv 4) (pa_cons (wX (own:=["turn"]) (fr:=["start"]) (ix:=[7]) rfl ⟨rfl,rfl,rfl,rfl,rfl,rfl⟩ (pi_list (zJ yJ (hr.mono (by decide)) (by rfl) (pa_cons (pv 6) (pa_cons (pv 1) (pa_cons (pv 2) (pa_cons (pv 3) pa_nil)))))) (fun _ _ _ _ _=>(pg_name (i:=0) (show (["turn","start"]:List Str).Nodup by decide +kernel) rfl (Or.inl rfl))) (fun _ _ _ _ _=>vq) (fun _ _ _ _ _=>(pe_op zf (pv 1) (pv 0)))) pa_nil))))))
   (pss_one (ps_ret (pv 4)))))),?_⟩
  refine⟨_,rfl,_,rfl,turns,bells,rfl,b1,bt,(by decide),fun p hp=>?_⟩
  have sb:intBits (turns+late)≤70000:=zc (intBits_add_le (m:=60000) (n:=60000) tb (zc lb (by decide))) (by decide)
  refine⟨_,rfl,a,ms.map V.int,rfl,(Same.new hp).seq hS,Ke (K:=K) (a:=a) (xs:=ms.map V.int) (fun i σ H2=>∃(bss:List (List Int)) (v5 v6 v7:Option V),σ=[some (.ref a),some (.int turns),some (.int bells),some (.int late),some (.ref p),v5,v6,v7]∧Same H H2∧H2 p=some (.lst ((xN (turns+late) late 0 bss).map V.int))∧bss.length=i∧(xN (turns+late) late 0 bss).length≤i*60∧(∀(j:Nat) (bs:List Int) (m:Int),bss[j]?=some bs→ms[j]?=some m→jd bs∧bs.length=bells.toNat∧vg bs=m)∧(∀bs∈bss,Szs 60010 bs))
   ⟨[],none,none,none,rfl,Same.new hp,upd_same,rfl,Nat.zero_le _,(fun j bs m h=>by simp at h),(fun _ z=>nomatch z)⟩ (fun i σ H2 ⟨_,_,_,_,_,sm,_⟩=>sm.seq hS) ?_ ?_⟩
  ·rintro i xv t σ H2 hx ⟨bss,v5,v6,v7,rfl,sm,hT,bl,rl,hb,hz⟩ ht
   have hil:i<ms.length:=by have:=(List.getElem?_eq_some_iff.mp hx).1;rwa [List.length_map] at this
   rw [List.getElem?_map] at hx
   obtain⟨m,hmi,rfl⟩:=Option.map_eq_some_iff.mp hx
   obtain⟨m0,m1,mb⟩:=hm m (List.mem_of_getElem? hmi)
   have s3:Same H (upd H2 t (.tup [.int i,.int m])):=sm.put ht
   have ht3:(upd H2 t (.tup [.int i,.int m])) t=some (.tup [.int i,.int m]):=upd_same
   have hT3:(upd H2 t (.tup [.int i,.int m])) p=some (.lst ((xN (turns+late) late 0 bss).map V.int)):=(Same.new ht) _ _ hT
   generalize upd H2 t (.tup [.int i,.int m])=H3 at s3 ht3 hT3 ⊢
   refine⟨t,_,rfl,SqT.of ht3,rfl,_,_,rfl,_,_,rfl,rfl,?_⟩
   refine⟨_,rfl,_,rfl,_,rfl,_,_,rfl,rfl,_,_,rfl,rfl,⟨64,70000,zq (by omega) (by omega),sb,by decide⟩,?_⟩
   refine⟨_,rfl,.inl ⟨rfl,_,SqL.of hT3⟩,_,rfl,_,rfl,_,rfl,_,rfl,m,turns,bells,late,rfl,m0,m1,by omega,b60,l0,lb,zc tb (by decide),mb,fun pw bs H4 s4 hpw hW B hbl hnum sz=>?_⟩
   have bll:(jb late bs).length≤60:=by rw [yf,hbl];omega
   refine⟨pw,rfl,⟨_,SqL.of hW⟩,fun acc hacc=>wC (K:=K) (a:=pw) (xs:=(jb late bs).map V.int) (fun j=>V.int ((i:Int)*(turns+late)+(jb late bs).getD j 0)) (SqL.of hW) hacc (by rw [List.length_map];exact Nat.le_of_lt (small1000 (by omega))) (fun j x H6 R' hx s6 hR=>?_) ?_⟩
   ·rw [List.getElem?_map] at hx
    obtain⟨z,hz',rfl⟩:=Option.map_eq_some_iff.mp hx
    simp only [List.getD_eq_getElem?_getD,hz',Option.getD_some] at hR
    exact⟨rfl,_,rfl,_,rfl,_,_,rfl,rfl,hR⟩
   have eL:(List.range ((jb late bs).map V.int).length).map (fun j=>V.int ((i:Int)*(turns+late)+(jb late bs).getD j 0))=((jb late bs).map (fun x=>(0+(bss.length:Int))*(turns+late)+x)).map V.int:=by
    rw [bl,show (0:Int)+(i:Int)=(i:Int) by omega]
    apply List.ext_getElem
    ·simp
    ·intro j h1 h2
     simp at h1 h2
     simp [List.getD_eq_getElem?_getD,h2]
   rw [eL]
   have s5:Same H3 (upd H4 acc (.lst (((jb late bs).map (fun x=>(0+(bss.length:Int))*(turns+late)+x)).map V.int))):=s4.put hacc
   have h5:(upd H4 acc (.lst (((jb late bs).map (fun x=>(0+(bss.length:Int))*(turns+late)+x)).map V.int))) acc=some (.lst (((jb late bs).map (fun x=>(0+(bss.length:Int))*(turns+late)+x)).map V.int)):=upd_same
   generalize upd H4 acc (.lst (((jb late bs).map (fun x=>(0+(bss.length:Int))*(turns+late)+x)).map V.int))=H5 at s5 h5 ⊢
   refine⟨p,acc,_,_,rfl,rfl,s5 _ _ hT3,h5,?_,?_⟩
   ·rw [List.length_map,List.length_map,List.length_map,sizeLine_eq]
    omega
   refine⟨bss++[bs],_,_,_,rfl,(s3.trans s5).wr hp,?_,by rw [List.length_append,bl];rfl,?_,fun j c mm hj hmj=>?_,fun c hc=>?_⟩
   ·rw [upd_same,← List.map_append,← wJ]
   ·rw [wJ,List.length_append,List.length_map]
    omega
   ·by_cases hji:j<bss.length
    ·rw [List.getElem?_append_left hji] at hj
     exact hb j c mm hj hmj
    ·have hj2:=(List.getElem?_eq_some_iff.mp hj).1
     rw [List.length_append,List.length_singleton] at hj2
     have ej:j=i:=by omega
     subst ej
     rw [List.getElem?_append_right (by omega),bl,Nat.sub_self] at hj
     have:bs=c:=by simpa using hj
     subst this
     rw [hmi] at hmj
     cases hmj
     exact⟨B,hbl,hnum⟩
   ·rcases List.mem_append.mp hc with hc | hc
    ·exact hz c hc
    ·rw [List.mem_singleton.mp hc];exact sz
  ·rintro σ H2 ⟨bss,v5,v6,v7,rfl,sm,hT,bl,rl,hb,hz⟩
   rw [List.length_map] at bl
   exact⟨_,rfl,q p bss H2 sm hp hT bl hb hz⟩
end
section
structure ByM (L:Int) (rd:List Int) (kvs:List (Key×V)) (ks:List Int) (ad:Int→Addr) (H:Hp):Prop where
 nd:ks.Nodup
 len:kvs.length=ks.length
 val:∀k:Int,valV kvs (Sum.inl k)=if k∈ks then some (.ref (ad k)) else none
 ls:∀k∈ks,H (ad k)=some (.lst ((grp L k rd).map V.int))
 mem:∀k:Int,k∈ks↔grp L k rd≠[]
noncomputable def zaW (K:W.Frag):Sp:=fun vs H Q _=>∃(a:Addr) (rd:List Int) (turns late:Int),vs=[.ref a,.int turns,.int late]∧SqL K H a (rd.map V.int)∧rd.length≤20000∧0<turns+late∧intBits (turns+late)≤9000 ∧
 ∀(d:Addr) (kvs:List (Key×V)) (ks:List Int) (ad:Int→Addr) (H':Hp),Same H H'→H' d=some (.dK kvs)→ByM (turns+late) rd kvs ks ad H'→Q (.ref d) H'
theorem jA:FnScope ["reading","turns","late","length","heard_of","turn"] ["reading","turns","late"] (defScope qN):=⟨rfl,rfl,rfl,by decide +kernel,rfl,by decide +kernel,by decide +kernel⟩
theorem ZD (D:Def K mg "by_messages" qN ["reading","turns","late"]) (T:Txt K mg):Fn P w K mg base 1 "by_messages" ["reading","turns","late"] (zaW K):=by
 refine D.fn jA (fun vs H Q E h=>?_) (fun f cdv A outer s H vs Q E hr h=>?_)
 ·obtain⟨a,rd,t,l,rfl,_⟩:=h
  rfl
 ·obtain⟨a,rd,turns,late,rfl,hS,hl,hL,lb,q⟩:=h
  refine⟨_,(pss_cons (ps_set (i:=3) jA.nd rfl (Or.inl rfl) (pe_op zf (pv 1) (pv 2)))
   (pss_cons (ps_set (i:=4) jA.nd rfl (Or.inl rfl) pe_dnewK)
   (pss_cons (ps_for PassesOwn.never rfl (pi_list (pv 0)) (pg_name (i:=5) jA.nd rfl (Or.inl rfl))
    (pss_one (ps_expr (pe_bm PySem.F.plainAttrs_list PySem.F.slot_list_append PySem.F.type_list_append mt_append (K1 (pv 4) (pe_op zR (pv 5) (pv 3)) (pe_lst pa_nil) ⟨rfl,rfl,rfl,rfl⟩) (pa_cons (pe_op zT (pv 5) (pv 3)) pa_nil)))))
   (pss_one (ps_ret (pv 4)))))),?_⟩
  refine⟨_,rfl,_,rfl,_,_,rfl,rfl,fun d hd=>?_⟩
  generalize turns+late=L at hL lb q ⊢
  refine⟨_,rfl,a,rfl,⟨_,(Same.new hd).seq hS⟩,for_list (K:=K) (a:=a) (xs:=rd.map V.int) (fun i σ H2=>∃(kvs:List (Key×V)) (ks:List Int) (ad:Int→Addr) (v5:Option V),σ=[some (.ref a),some (.int turns),some (.int late),some (.int L),some (.ref d),v5]∧Same H H2∧H2 d=some (.dK kvs)∧i≤rd.length∧ks.length≤i∧ByM L (rd.take i) kvs ks ad H2∧(∀k∈ks,ad k≠d∧H (ad k)=none)∧(∀k∈ks,∀k'∈ks,ad k=ad k'→k=k'))
   ⟨[],[],fun _=>d,none,rfl,Same.new hd,upd_same,Nat.zero_le _,Nat.zero_le _,⟨List.nodup_nil,rfl,fun k=>rfl,(fun _ z=>nomatch z),fun k=>⟨(fun z=>nomatch z),(fun z=>absurd rfl z)⟩⟩,(fun _ z=>nomatch z),(fun _ z=>nomatch z)⟩ (fun i σ H2 _ ⟨_,_,_,_,_,sm,_⟩=>sm.seq hS) ?_ ?_⟩
  ·rintro i xv σ H2 hx ⟨kvs,ks,ad,v5,rfl,sm,hD,_,kl,M,fr,inj⟩
   have hil:i<rd.length:=by have:=(List.getElem?_eq_some_iff.mp hx).1;rwa [List.length_map] at this
   rw [List.getElem?_map] at hx
   obtain⟨t,hti,rfl⟩:=Option.map_eq_some_iff.mp hx
   have ert:rd.take (i+1)=rd.take i++[t]:=by rw [List.take_add_one,hti];rfl
   have zcI:kvs.length<sizeLine:=by rw [M.len,sizeLine_eq];omega
   have grl:∀k:Int,(grp L k (rd.take i)).length≤20000:=fun k=>by
    unfold grp
    rw [List.length_map]
    have h1:=List.length_filter_le (fun t=>decide (t / L=k)) (rd.take i)
    rw [List.length_take] at h1
    omega
   refine⟨_,rfl,d,rfl,.inl ⟨kvs,.inl hD⟩,_,rfl,_,rfl,_,_,rfl,rfl,⟨hL,lb⟩,(by decide),fun p hp=>⟨kvs,Sum.inl (t / L),(Same.new hp) _ _ hD,rfl,zcI,fun v hv=>?_,fun hv=>?_⟩⟩
   ·rw [M.val] at hv
    have hk:t / L∈ks:=by
     by_cases z:t / L∈ks
     ·exact z
     ·rw [if_neg z] at hv;cases hv
    rw [if_pos hk] at hv
    cases hv
    have s3:Same H (upd H2 p (.lst [])):=sm.put hp
    have s23:Same H2 (upd H2 p (.lst [])):=Same.new hp
    generalize upd H2 p (.lst [])=H3 at s3 s23 ⊢
    have hA:=s23 _ _ (M.ls _ hk)
    have fk:=fr _ hk
    refine⟨.inl ⟨rfl,_,SqL.of hA⟩,_,rfl,_,rfl,_,_,rfl,rfl,hL,ad (t / L),_,_,rfl,rfl,hA,?_,?_⟩
    ·rw [List.length_map,sizeLine_eq]
     have:=grl (t / L)
     omega
    refine⟨kvs,ks,ad,_,rfl,s3.wr fk.2,by rw [upd_ne fk.1.symm];exact s23 _ _ hD,hil,by omega,⟨M.nd,M.len,M.val,fun k hk'=>?_,fun k=>?_⟩,fr,inj⟩
    ·rw [ert,jL]
     by_cases e:k=t / L
     ·subst e
      rw [upd_same,jM rfl,List.map_append]
      rfl
     ·rw [upd_ne (fun z=>e (inj k hk' _ hk z)),jN (fun z=>e z.symm),List.append_nil]
      exact s23 _ _ (M.ls k hk')
    ·rw [ert,jL,M.mem]
     by_cases e:k=t / L
     ·subst e
      rw [jM rfl]
      exact⟨fun _ z=>by simp at z,fun _=>(M.mem _).mp hk⟩
     ·rw [jN (fun z=>e z.symm),List.append_nil]
   ·rw [M.val] at hv
    have hk:¬t / L∈ks:=fun z=>by rw [if_pos z] at hv;cases hv
    have pd:p≠d:=fun e=>by subst e;rw [hD] at hp;cases hp
    have pn:H p=none:=sm.free hp
    have hP:(upd (upd H2 p (.lst [])) d (.dK (putK kvs (Sum.inl (t / L)) (.ref p)))) p=some (.lst []):=by rw [upd_ne pd];exact upd_same
    have g0:grp L (t / L) (rd.take i)=[]:=by
     by_cases z:grp L (t / L) (rd.take i)=[]
     ·exact z
     ·exact absurd ((M.mem _).mpr z) hk
    refine⟨.inl ⟨rfl,_,SqL.of hP⟩,_,rfl,_,rfl,_,_,rfl,rfl,hL,p,_,_,rfl,rfl,hP,(by decide),?_⟩
    have s4:Same H (upd (upd H2 p (.lst [])) d (.dK (putK kvs (Sum.inl (t / L)) (.ref p)))):=(sm.put hp).wr hd
    have h4d:(upd (upd H2 p (.lst [])) d (.dK (putK kvs (Sum.inl (t / L)) (.ref p)))) d=some (.dK (putK kvs (Sum.inl (t / L)) (.ref p))):=upd_same
    have h4o:∀k∈ks,(upd (upd H2 p (.lst [])) d (.dK (putK kvs (Sum.inl (t / L)) (.ref p)))) (ad k)=some (.lst ((grp L k (rd.take i)).map V.int)):=fun k hk'=>by
     rw [upd_ne (fr k hk').1]
     exact(Same.new hp) _ _ (M.ls k hk')
    have adp:∀k∈ks,ad k≠p:=fun k hk' e=>by
     have:=M.ls k hk'
     rw [e,hp] at this
     cases this
    generalize upd (upd H2 p (.lst [])) d (.dK (putK kvs (Sum.inl (t / L)) (.ref p)))=H4 at s4 h4d h4o ⊢
    have hv0:valV kvs (Sum.inl (t / L))=none:=by rw [M.val,if_neg hk]
    refine⟨putK kvs (Sum.inl (t / L)) (.ref p),ks++[t / L],fun k=>if k=t / L then p else ad k,_,rfl,s4.wr pn,by rw [upd_ne pd.symm];exact h4d,hil,by rw [List.length_append,List.length_singleton];omega,⟨?_,?_,fun k=>?_,fun k hk'=>?_,fun k=>?_⟩,fun k hk'=>?_,fun k hk1 k' hk2 e=>?_⟩
    ·rw [List.nodup_append]
     refine⟨M.nd,by simp,fun a ha b hb=>?_⟩
     rw [List.mem_singleton.mp hb]
     exact fun e=>hk (e ▸ ha)
    ·rw [putK_new _ hv0,List.length_append,List.length_append,M.len]
     rfl
    ·rw [valV_put]
     by_cases e:k=t / L
     ·subst e
      rw [if_pos rfl,if_pos (by simp)]
      simp
     ·rw [if_neg (fun z=>e (Sum.inl.inj z)),M.val]
      by_cases z:k∈ks
      ·rw [if_pos z,if_pos (List.mem_append_left _ z),if_neg e]
      ·rw [if_neg z,if_neg (by intro y;rcases List.mem_append.mp y with y | y;exact z y;exact e (List.mem_singleton.mp y))]
    ·rw [ert,jL]
     by_cases e:k=t / L
     ·subst e
      rw [if_pos rfl,upd_same,g0,jM rfl]
      rfl
     ·have hk2:k∈ks:=by
       rcases List.mem_append.mp hk' with y | y
       ·exact y
       ·exact absurd (List.mem_singleton.mp y) e
      rw [if_neg e,upd_ne (adp k hk2),jN (fun z=>e z.symm),List.append_nil]
      exact h4o k hk2
    ·rw [ert,jL]
     by_cases e:k=t / L
     ·subst e
      rw [jM rfl]
      exact⟨fun _ z=>by simp at z,fun _=>by simp⟩
     ·rw [jN (fun z=>e z.symm),List.append_nil,← M.mem]
      exact⟨(fun y=>by rcases List.mem_append.mp y with y | y;exact y;exact absurd (List.mem_singleton.mp y) e),(fun y=>List.mem_append_left _ y)⟩
    ·show (if k=t / L then p else ad k)≠d∧H (if k=t / L then p else ad k)=none
     by_cases e:k=t / L
     ·rw [if_pos e];exact⟨pd,pn⟩
     ·rw [if_neg e]
      rcases List.mem_append.mp hk' with y | y
      ·exact fr k y
      ·exact absurd (List.mem_singleton.mp y) e
    ·have e:(if k=t / L then p else ad k)=(if k'=t / L then p else ad k'):=e
     have m1:k≠t / L→k∈ks:=fun z=>by
      rcases List.mem_append.mp hk1 with y | y
      ·exact y
      ·exact absurd (List.mem_singleton.mp y) z
     have m2:k'≠t / L→k'∈ks:=fun z=>by
      rcases List.mem_append.mp hk2 with y | y
      ·exact y
      ·exact absurd (List.mem_singleton.mp y) z
     by_cases e1:k=t / L
     ·by_cases e2:k'=t / L
      ·rw [e1,e2]
      ·rw [if_pos e1,if_neg e2] at e
       exact absurd e.symm (adp k' (m2 e2))
     ·by_cases e2:k'=t / L
      ·rw [if_neg e1,if_pos e2] at e
       exact absurd e (adp k (m1 e1))
      ·rw [if_neg e1,if_neg e2] at e
       exact inj k (m1 e1) k' (m2 e2) e
  ·rintro σ H2 ⟨kvs,ks,ad,v5,rfl,sm,hD,_,kl,M,fr,inj⟩
   rw [List.length_map,List.take_length] at M
   exact⟨_,rfl,q d kvs ks ad H2 sm hD M⟩
end
theorem Qt {L late:Int}{b:Nat}:∀(bss:List (List Int)) (k:Int),(∀bs∈bss,bs.length=b)→(xN L late k bss).length=bss.length*b
 | [],_,_=>by simp [xN]
 | c::r,k,h=>by
  show ((jb late c).map (fun x=>k*L+x)++xN L late (k+1) r).length=_
  rw [List.length_append,List.length_map,yf,h c (List.mem_cons_self ..),Qt r (k+1) fun bs hb=>h bs (List.mem_cons_of_mem _ hb),List.length_cons,Nat.succ_mul]
  omega
noncomputable def val (b:Int):List Int→Int
 | []=>0
 | x::xs=>x+b*val b xs
theorem ZF (b x:Int):∀xs:List Int,val b (xs++[x])=val b xs+x*b ^ xs.length
 | []=>by show x+b*0=0+x*b ^ 0;rw [Int.mul_zero,Int.pow_zero,Int.mul_one];omega
 | y::ys=>by
  show y+b*val b (ys++[x])=y+b*val b ys+x*b ^ (ys.length+1)
  rw [ZF b x ys,Int.mul_add,Int.pow_succ,Int.mul_left_comm b x,Int.mul_comm b (b ^ ys.length),← Int.add_assoc]
theorem vD {b:Int} (hb:0≤b):∀xs:List Int,(∀x∈xs,0≤x)→0≤val b xs
 | [],_=>Int.le_refl _
 | x::xs,h=>by
  have h1:=h x (List.mem_cons_self ..)
  have h2:=vD hb xs fun y hy=>h y (List.mem_cons_of_mem _ hy)
  have h3:=Int.mul_nonneg hb h2
  show 0≤x+b*val b xs
  omega
theorem K4 {b:Int} (hb:1≤b):∀xs:List Int,(∀x∈xs,0≤x∧x<b)→val b xs<b ^ xs.length
 | [],_=>by show (0:Int)<b ^ 0;rw [Int.pow_zero];decide
 | x::xs,h=>by
  have h1:=h x (List.mem_cons_self ..)
  have h2:=K4 hb xs fun y hy=>h y (List.mem_cons_of_mem _ hy)
  show x+b*val b xs<b ^ (xs.length+1)
  have h3:b*val b xs≤b*(b ^ xs.length-1):=Int.mul_le_mul_of_nonneg_left (by omega) (by omega)
  rw [Int.mul_sub,Int.mul_one] at h3
  rw [Int.pow_succ,Int.mul_comm (b ^ xs.length) b]
  omega
noncomputable def pairs (W:Int):List Int→List Int
 | a::b::r=>(a+b*W)::pairs W r
 | [a]=>[a]
 | []=>[]
theorem Qu (W:Int):∀xs:List Int,val (W*W) (pairs W xs)=val W xs
 | []=>rfl
 | [a]=>by show a+W*W*0=a+W*0;rw [Int.mul_zero,Int.mul_zero]
 | a::b::r=>by
  show a+b*W+W*W*val (W*W) (pairs W r)=a+W*(b+W*val W r)
  rw [Qu W r,Int.mul_add,Int.mul_assoc,Int.mul_comm b W]
  omega
theorem vV (W:Int):∀(n:Nat) (xs:List Int),xs.length=2*n→(List.range n).map (fun i=>V.int (xs.getD (2*i) 0+xs.getD (2*i+1) 0*W))=(pairs W xs).map V.int
 | 0,xs,h=>by
  have:xs=[]:=List.eq_nil_of_length_eq_zero (by omega)
  subst this
  rfl
 | n+1,xs,h=>by
  match xs,h with
  | a::b::r,h=>
   have ih:=vV W n r (by simp at h;omega)
   rw [List.range_succ_eq_map,List.map_cons,List.map_map]
   show V.int (a+b*W)::_=V.int (a+b*W)::(pairs W r).map V.int
   rw [← ih]
   congr 1
theorem pairs_len (W:Int):∀(n:Nat) (xs:List Int),xs.length=2*n→(pairs W xs).length=n
 | n,xs,h=>by
  have:=congrArg List.length (vV W n xs h)
  rw [List.length_map,List.length_range,List.length_map] at this
  exact this.symm
theorem JR {W:Int} (hW:1≤W):∀xs:List Int,(∀x∈xs,0≤x∧x<W)→∀x∈pairs W xs,0≤x∧x<W*W
 | [],_,x,hx=>nomatch hx
 | [a],h,x,hx=>by
  have e:x=a:=List.mem_singleton.mp hx
  subst e
  have h1:=h x (List.mem_cons_self ..)
  have h2:W*1≤W*W:=Int.mul_le_mul_of_nonneg_left hW (by omega)
  rw [Int.mul_one] at h2
  exact⟨h1.1,by omega⟩
 | a::b::r,h,x,hx=>by
  have h1:=h a (List.mem_cons_self ..)
  have h2:=h b (List.mem_cons_of_mem _ (List.mem_cons_self ..))
  rcases List.mem_cons.mp hx with e | hx
  ·subst e
   have h3:b*W≤(W-1)*W:=Int.mul_le_mul_of_nonneg_right (by omega) (by omega)
   have h4:0≤b*W:=Int.mul_nonneg h2.1 (by omega)
   rw [Int.sub_mul,Int.one_mul] at h3
   exact⟨by omega,by omega⟩
  ·exact JR hW r (fun y hy=>h y (List.mem_cons_of_mem _ (List.mem_cons_of_mem _ hy))) x hx
theorem WY (b:Int) (xs:List Int):val b (xs++[0])=val b xs:=by
 rw [ZF,Int.zero_mul,Int.add_zero]
theorem K5 {b:Int}{xs:List Int} (h:xs.length≤1):xs.sum=val b xs:=by
 match xs,h with
 | [],_=>rfl
 | [a],_=>show a+0=a+b*0;rw [Int.mul_zero]
theorem W0 {n:Nat} (h:n≤100000):(2:Int)≠0∧(2:Int).natAbs<1073741824∧Builtin.Range.small 0 ((2*n:Nat):Int) 2=true∧Builtin.Range.rangeSize 0 ((2*n:Nat):Int) 2=(n:Int):=by
 have hs:Builtin.Range.rangeSize 0 ((2*n:Nat):Int) 2=(n:Int):=by
  unfold Builtin.Range.rangeSize
  rw [if_pos (by decide)]
  by_cases z:n=0
  ·subst z;rfl
  ·rw [if_pos (by omega)]
   omega
 refine⟨by decide,by decide,?_,hs⟩
 unfold Builtin.Range.small
 rw [hs]
 generalize hm:((2*n:Nat):Int)=m
 have m1:m≤200000:=by omega
 have m0:0≤m:=by omega
 simp only [Builtin.Range.rangeFitsLong]
 simp
 omega
theorem Q7 {lo c:Int}{n:Nat}{acc:Addr}{own:Nat}{ix:List Nat}{g:TG}{te:TE}{σ:St}{H1:Hp}{Q:VK} (f:Nat→V) (hn:H1 acc=none) (hz:n≤sizeLine)
  (step:∀i H (R:VK),i<n→Same H1 H→R (f i) H→g (.int (lo+i*c)) (ji own ix σ) H fun σ4 H4=>σ4.drop own=ix.map (fun i=>(σ[i]?).getD none)∧te σ4 H4 R)
  (hd:Q (.ref acc) (upd H1 acc (.lst ((List.range n).map f)))) :
  Zj (Vs lo c n) own ix g Zb te σ H1 acc Q:=by
 refine⟨fun i m ys H=>m=n-i∧i≤n∧ys=(List.range i).map f∧H=upd H1 acc (.lst ys),⟨n,by simp,Nat.zero_le _,rfl,rfl⟩,?_⟩
 rintro i m ys H ⟨rfl,hi,rfl,rfl⟩
 refine⟨upd_same,?_⟩
 by_cases hlt:i<n
 ·refine .inr ⟨hlt,by rw [List.length_map,List.length_range];omega,fun x H3 y=>?_⟩
  obtain⟨e,y⟩:=y
  subst e y
  exact step i _ _ hlt (Same.new hn) ⟨upd_same,n-(i+1),by omega,rfl,hlt,by rw [List.range_succ,List.map_append];rfl,by rw [upd_upd]⟩
 ·have e:i=n:=by omega
  subst e
  exact .inl ⟨Nat.le_refl _,hd⟩
section
noncomputable def zaX (K:W.Frag):Sp:=fun vs H Q _=>∃(a:Addr) (xs:List Int) (b:Int),vs=[.ref a,.int b]∧SqL K H a (xs.map V.int)∧xs.length≤8000∧2≤b∧intBits b≤8000∧(∀x∈xs,0≤x∧x<b)∧∀H',Same H H'→Q (.int (val b xs)) H'
theorem zZ:FnScope ["figures","base","left","weight"] ["figures","base"] (defScope zY):=⟨rfl,rfl,rfl,by decide +kernel,rfl,by decide +kernel,by decide +kernel⟩
theorem wK (D:Def K mg "number_of_parts" zY ["figures","base"]) (T:Txt K mg):Fn P w K mg base 1 "number_of_parts" ["figures","base"] (zaX K):=by
 refine D.fn zZ (fun vs H Q E h=>?_) (fun f cdv A outer s H vs Q E hr h=>?_)
 ·obtain⟨a,xs,b,rfl,_⟩:=h
  rfl
 ·obtain⟨a,xs,b,rfl,hS,hl,b2,bb,xb,q⟩:=h
  refine⟨_,(pss_cons (ps_set (i:=2) zZ.nd rfl (Or.inr rfl) (pe_callTy call_list_of (by rfl) T.z_list V8 (pa_cons (pv 0) pa_nil)))
   (pss_cons (ps_set (i:=3) zZ.nd rfl (Or.inr rfl) (pv 1))
   (pss_cons (ps_while PassesOwn.never (pt_cmpR jH (pe_callB call_len_seq (by rfl) T.z_len xJ (pa_cons (pv 2) pa_nil)) pe_int (nomark _))
    (pss_cons (ps_if (pt_cmpR yw (pe_op zT (pe_callB call_len_seq (by rfl) T.z_len xJ (pa_cons (pv 2) pa_nil)) pe_int) pe_int (nomark _))
     (pss_one (ps_expr (pe_bm PySem.F.plainAttrs_list PySem.F.slot_list_append PySem.F.type_list_append mt_append (pv 2) (pa_cons pe_int pa_nil))))
     pss_nil)
    (pss_cons (ps_set (i:=2) zZ.nd rfl (Or.inr rfl) (wX (own:=["place"]) (fr:=["left","weight"]) (ix:=[2,3]) rfl ⟨rfl,rfl,rfl,rfl,rfl,rfl⟩ (Qg (by rfl) T.z_range (pa_cons pe_int (pa_cons (pe_callB call_len_seq (by rfl) T.z_len xJ (pa_cons (pv 2) pa_nil)) (pa_cons pe_int pa_nil)))) (fun _ _ _ _ _=>(pg_name (i:=0) (show (["place","left","weight"]:List Str).Nodup by decide +kernel) rfl (Or.inl rfl))) (fun _ _ _ _ _=>vq) (fun _ _ _ _ _=>(pe_op zf (pe_ix (Jl K) (pv 1) (pv 0) (fun _ _=>rfl)) (pe_op z9 (pe_ix (Jl K) (pv 1) (pe_op zf (pv 0) pe_int) (fun _ _=>rfl)) (pv 2))))))
    (pss_one (ps_set (i:=3) zZ.nd rfl (Or.inr rfl) (pe_op z9 (pv 3) (pv 3)))))))
   (pss_one (ps_ret (pe_callB (Js rfl) (by rfl) T.z_sum Yu (pa_cons (pv 2) pa_nil))))))),?_⟩
  refine⟨_,rfl,_,_,rfl,.inl hS,fun p0 hp0=>⟨_,rfl,?_⟩⟩
  refine while_by (fun σ H2=>∃(p:Addr) (ys:List Int) (W:Int) (k:Nat),σ=[some (.ref a),some (.int b),some (.ref p),some (.int W)]∧Same H H2∧H p=none∧H2 p=some (.lst (ys.map V.int))∧2≤W∧intBits W≤8000*k∧k*(ys.length-1)<xs.length+1∧ys.length≤8000∧(∀y∈ys,0≤y∧y<W)∧val W ys=val b xs)
   (fun σ H2=>match σ with | [_,_,some (.ref p),_]=>(match H2 p with | some (.lst l)=>l.length | _=>0) | _=>0) ⟨p0,xs,b,1,rfl,Same.new hp0,hp0,upd_same,b2,by omega,by omega,hl,xb,rfl⟩ ?_ ?_
  ·rintro σ H2 ⟨p,ys,W,k,rfl,sm,hp,hH,W2,Wb,kb,yl,yb,yv⟩
   refine⟨_,rfl,_,_,rfl,.inl (SqL.of hH),_,_,rfl,rfl,_,rfl,?_⟩
   rw [List.length_map]
   refine ifD (fun h=>?_) (fun h=>?_)
   ·have kk:k≤8000:=by
     have h1:k*1≤k*(ys.length-1):=Nat.mul_le_mul_left _ (by omega)
     omega
    refine⟨_,rfl,_,_,rfl,.inl (SqL.of hH),_,_,rfl,rfl,(by decide),_,_,rfl,rfl,_,rfl,?_⟩
    rw [List.length_map]
    refine ifD (fun o=>?x1) (fun o=>?x2)
    case' x1=>
     refine⟨_,rfl,.inl ⟨rfl,_,SqL.of hH⟩,_,_,_,rfl,rfl,hH,by rw [List.length_map,sizeLine_eq];omega,?_⟩
     have sm3:Same H (upd H2 p (.lst (ys.map V.int++[V.int 0]))):=sm.wr hp
     obtain⟨zs,hzs⟩:∃zs,zs=ys++[(0:Int)]:=⟨_,rfl⟩
     have hH3:(upd H2 p (.lst (ys.map V.int++[V.int 0]))) p=some (.lst (zs.map V.int)):=by rw [upd_same,hzs,List.map_append];rfl
     obtain⟨n,hn⟩:∃n,n=(ys.length+1) / 2:=⟨_,rfl⟩
     have zl:zs.length=ys.length+1:=by rw [hzs,List.length_append];rfl
     have zn:zs.length=2*n:=by omega
     have n1:n<ys.length:=by omega
     have n2:2*(n-1)≤ys.length-1:=by omega
     have zb:∀y∈zs,0≤y∧y<W:=fun y hy=>by
      rw [hzs] at hy
      rcases List.mem_append.mp hy with hy | hy
      ·exact yb y hy
      ·rw [List.mem_singleton.mp hy];omega
     have zv:val W zs=val b xs:=by rw [hzs,WY];exact yv
     generalize upd H2 p (.lst (ys.map V.int++[V.int 0]))=H3 at sm3 hH3 ⊢
    case' x2=>
     generalize hH30:H2=H3 at sm hH ⊢
     obtain⟨zs,hzs⟩:∃zs,zs=ys:=⟨_,rfl⟩
     have sm3:Same H H3:=sm
     have hH3:H3 p=some (.lst (zs.map V.int)):=by rw [hzs];exact hH
     obtain⟨n,hn⟩:∃n,n=ys.length / 2:=⟨_,rfl⟩
     have zn:zs.length=2*n:=by rw [hzs];omega
     have n1:n<ys.length:=by omega
     have n2:2*(n-1)≤ys.length-1:=by omega
     have zb:∀y∈zs,0≤y∧y<W:=by rw [hzs];exact yb
     have zv:val W zs=val b xs:=by rw [hzs];exact yv
    all_goals
     refine⟨_,rfl,_,_,rfl,.inl (SqL.of hH3),?_⟩
     rw [List.length_map,zn]
     refine⟨0,_,2,n,rfl,W0 (by omega),fun pl hpl=>Q7 (lo:=0) (c:=2) (n:=n) (fun i=>V.int (zs.getD (2*i) 0+zs.getD (2*i+1) 0*W)) hpl ?_ ?_ ?_⟩
     ·rw [sizeLine_eq];omega
     ·intro i H6 R' hi s6 hR
      have hi1:2*i<zs.length:=by omega
      have hi2:2*i+1<zs.length:=by omega
      have e0:(0:Int)+(i:Int)*2=((2*i:Nat):Int):=by omega
      rw [e0]
      have g1:=yD (ns:=zs) (k:=2*i) (List.getElem?_eq_getElem hi1)
      have g2:atI (zs.map V.int) (((2*i:Nat):Int)+1)=some (V.int zs[2*i+1]):=yD (ns:=zs) (k:=2*i+1) (List.getElem?_eq_getElem hi2)
      have x2:=zb _ (List.getElem_mem hi2)
      refine⟨rfl,_,rfl,_,rfl,_,_,_,_,rfl,rfl,SqL.of (s6 _ _ hH3),g1,_,rfl,_,rfl,_,_,rfl,rfl,_,_,_,_,rfl,rfl,SqL.of (s6 _ _ hH3),g2,_,rfl,_,_,rfl,rfl,⟨8000*k,8000*k,intBits_le_of_natAbs (y:=W) (by omega) Wb,Wb,by omega⟩,_,_,rfl,rfl,?_⟩
      simp only [List.getD_eq_getElem?_getD,List.getElem?_eq_getElem hi1,List.getElem?_eq_getElem hi2,Option.getD_some] at hR
      exact hR
     ·rw [vV W n zs zn]
      have pl':=pairs_len W n zs zn
      have W4:W*2≤W*W:=Int.mul_le_mul_of_nonneg_left W2 (by omega)
      refine⟨_,rfl,_,rfl,_,_,rfl,rfl,⟨8000*k,8000*k,Wb,Wb,by omega⟩,⟨pl,pairs W zs,W*W,2*k,rfl,sm3.put hpl,sm3.free hpl,upd_same,by omega,zc (intBits_mul_le Wb Wb) (by omega),?_,by omega,JR (by omega) zs zb,by rw [Qu];exact zv⟩,?_⟩
      ·rw [pl',Nat.mul_comm 2 k,Nat.mul_assoc]
       exact Nat.lt_of_le_of_lt (Nat.mul_le_mul_left _ n2) kb
      ·simp only [List.set,upd_same,hH,List.length_map]
       omega
   ·have y1:ys.length≤1:=by omega
    refine⟨_,rfl,_,ys,rfl,SqL.of hH,?_⟩
    rw [K5 (b:=W) y1,yv]
    exact q _ sm
  ·intro σ H2 R R' m h
   obtain⟨v,e1,p,l,e2,e3,i,j,e4,e5,c,e6,z⟩:=h
   exact⟨v,e1,p,l,e2,e3,i,j,e4,e5,c,e6,m _ _ z⟩
end
noncomputable def sg:List Nat:=[97,98,99,100,101,102,103,104,105,106,107,108,109,110,111,112,113,114,115,116,117,118,119,120,121,122,32]
noncomputable def SG:Str:="abcdefghijklmnopqrstuvwxyz "
noncomputable def dig (c:Nat):Int:=(sg.idxOf c:Nat)+1
theorem K6:SG.cps.toList=sg:=by decide +kernel
theorem W3:∀c∈sg,Txt.find SG ⟨#[c]⟩=dig c-1:=by decide +kernel
theorem Xy:∀c∈sg,1≤dig c∧dig c≤27:=by decide +kernel
theorem YC:∀k:Fin 27,dig (sg.getD k.val 0)=(k.val:Int)+1∧sg.getD k.val 0∈sg:=by decide +kernel
noncomputable def nv (l:List Nat):Int:=val 27 (l.reverse.map dig)
theorem W5 (l:List Nat) (c:Nat):nv (l++[c])=nv l*27+dig c:=by
 unfold nv
 rw [List.reverse_append,List.reverse_singleton,List.singleton_append,List.map_cons]
 show dig c+27*_=_
 omega
noncomputable def chs (n:Nat):List Nat:=if h:n=0 then [] else sg.getD ((n-1) % 27) 0::chs ((n-1) / 27)
termination_by n
decreasing_by omega
theorem yo:chs 0=[]:=by rw [chs];rfl
theorem yq {n:Nat} (h:0<n):chs n=sg.getD ((n-1) % 27) 0::chs ((n-1) / 27):=by rw [chs,dif_neg (by omega)]
theorem W6:∀n:Nat,val 27 ((chs n).map dig)=n:=by
 intro n
 induction n using Nat.strongRecOn with
 | ind n ih=>
  by_cases h:n=0
  ·subst h;rw [yo];rfl
  ·rw [yq (by omega),List.map_cons]
   show dig _+27*val 27 _=_
   rw [ih ((n-1) / 27) (by omega),(YC ⟨(n-1) % 27,Nat.mod_lt _ (by decide)⟩).1]
   show ((n-1) % 27:Nat)+(1:Int)+27*((n-1) / 27:Nat)=n
   omega
theorem zah:∀n:Nat,∀c∈chs n,c∈sg:=by
 intro n
 induction n using Nat.strongRecOn with
 | ind n ih=>
  by_cases h:n=0
  ·subst h;rw [yo];intro c hc;cases hc
  ·rw [yq (by omega)]
   intro c hc
   rcases List.mem_cons.mp hc with e | e
   ·subst e;exact(YC ⟨(n-1) % 27,Nat.mod_lt _ (by decide)⟩).2
   ·exact ih ((n-1) / 27) (by omega) c e
theorem Q8:∀l:List Nat,(∀c∈l,c∈sg)→0≤val 27 (l.map dig):=fun l h=>vD (by decide) _ fun x hx=>by
 obtain⟨c,hc,rfl⟩:=List.mem_map.mp hx
 have:=Xy c (h c hc)
 omega
noncomputable def ones (m:Nat):Int:=val 27 (List.replicate m 1)
noncomputable def tops (m:Nat):Int:=val 27 (List.replicate m 27)
theorem yK (m:Nat):ones (m+1)=1+27*ones m:=rfl
theorem wz (m:Nat):tops (m+1)=27+27*tops m:=rfl
theorem yP:∀m,0≤ones m
 | 0=>Int.le_refl _
 | m+1=>by have:=yP m;rw [yK];omega
theorem vW:∀m,0≤tops m
 | 0=>Int.le_refl _
 | m+1=>by have:=vW m;rw [wz];omega
theorem VJ {a b:Nat} (h:a≤b):ones a≤ones b:=by
 induction b with
 | zero=>
      have:a=0:=by omega
      subst this;exact Int.le_refl _
 | succ b ih=>
  by_cases e:a=b+1
  ·subst e;exact Int.le_refl _
  ·have:=ih (by omega)
   have:=yP b
   rw [yK]
   omega
theorem Qv {a b:Nat} (h:a≤b):tops a≤tops b:=by
 induction b with
 | zero=>
      have:a=0:=by omega
      subst this;exact Int.le_refl _
 | succ b ih=>
  by_cases e:a=b+1
  ·subst e;exact Int.le_refl _
  ·have:=ih (by omega)
   have:=vW b
   rw [wz]
   omega
theorem ZG:∀l:List Nat,(∀c∈l,c∈sg)→ones l.length≤val 27 (l.map dig)∧val 27 (l.map dig)≤tops l.length
 | [],_=>⟨Int.le_refl _,Int.le_refl _⟩
 | c::l,h=>by
  have b:=Xy c (h c (List.mem_cons_self ..))
  have ih:=ZG l fun y hy=>h y (List.mem_cons_of_mem c hy)
  rw [List.length_cons,yK,wz,List.map_cons]
  show _≤dig c+27*val 27 (l.map dig)∧dig c+27*val 27 (l.map dig)≤_
  omega
noncomputable def qM:Int:=79107246047630484352339332632946929510056524533256550444155472119763181086995847174200
theorem ZJ:tops 60=qM:=by decide +kernel
theorem Xz:ones 61=qM+1:=by decide +kernel
theorem Q9 {n:Nat} (h:(n:Int)≤qM):(chs n).length≤60:=by
 have h1:=(ZG (chs n) (zah n)).1
 rw [W6] at h1
 by_cases e:(chs n).length≤60
 ·exact e
 ·have:=VJ (show 61≤(chs n).length by omega)
  rw [Xz] at this
  omega
theorem zaY {l:List Nat} (h:∀c∈l,c∈sg) (hl:l.length≤60):0≤nv l∧nv l≤qM:=by
 have hr:∀c∈l.reverse,c∈sg:=fun c hc=>h c (List.mem_reverse.mp hc)
 have h1:=ZG l.reverse hr
 have h2:=Qv (show l.reverse.length≤60 by rw [List.length_reverse];exact hl)
 rw [ZJ] at h2
 have h3:=Q8 l.reverse hr
 unfold nv
 omega
theorem W7 {l:List Nat} (h:∀c∈l,c∈sg) (hl:l.length≤60):intBits (nv l)≤300:=by
 have:=zaY h hl
 have e:qM<2 ^ 300:=by decide +kernel
 exact zq this.1 (by omega)
noncomputable def tx (l:List Nat):Str:=⟨l.toArray⟩
theorem XC (l:List Nat):(tx l).cps.toList=l:=by simp [tx]
theorem zai (l:List Nat):(tx l).length=l.length:=by simp [tx,Str.length]
noncomputable def Ja (c:Nat):Str:=⟨#[c]⟩
theorem Qw:∀(l:List Nat) (a:Array Nat),(l.map Ja).foldl (fun(acc:Array Nat) (p:Str)=>acc++("":Str).cps++p.cps) a=a++l.toArray
 | [],a=>by simp
 | c::l,a=>by
  rw [List.map_cons,List.foldl_cons,Qw l]
  have:("":Str).cps=#[]:=by decide +kernel
  rw [this]
  apply Array.ext'
  simp [Ja]
theorem join_ones (l:List Nat):Txt.join "" (l.map Ja)=tx l:=by
 unfold Txt.join Builtin.Str.glued tx
 cases l with
 | nil=>simp [Str.empty]
 | cons c l=>
  rw [List.map_cons,List.drop_succ_cons,List.drop_zero,Qw]
  congr 1
  apply Array.ext'
  simp [Ja]
theorem K7 (l:List Nat):((l.map Ja).map (·.length)).sum=l.length:=by
 induction l with
 | nil=>rfl
 | cons c r ih=>
  simp only [List.map_cons,List.sum_cons,List.length_cons,ih]
  show 1+r.length=r.length+1
  omega
theorem VL {l:List Nat} (h:l.length≤1000):((l.map Ja).map (·.length)).sum+(l.map Ja).length*("":Str).length≤16777216:=by
 rw [K7]
 have:("":Str).length=0:=by decide +kernel
 rw [this]
 omega
section
theorem yQ (K:W.Frag):W.kitOne K (.type "str") (.type "str")=some true:=by with_unfolding_all rfl
theorem vG:SG.length=27:=by decide +kernel
theorem Jb:SG.length≤sizeLine:=by rw [vG];exact Nat.le_of_lt (small1000 (by decide))
theorem blanks:Txt.mul (Str.ofString " ") 60=tx (List.replicate 60 32):=by decide +kernel
theorem VM:MulOk (Str.ofString " ") 60:=by
 refine⟨by decide +kernel,fun _ _=>by decide +kernel,fun _ _=>by decide +kernel⟩
theorem VN:nv (List.replicate 60 32)=qM:=by decide +kernel
theorem zaZ (k:Nat) (h:k<27):atI SG.cps.toList (k:Int)=some (sg.getD k 0):=by
 rw [K6]
 refine atI_nat ?_
 have:k<sg.length:=h
 rw [List.getD_eq_getElem?_getD,List.getElem?_eq_getElem this]
 rfl
end
theorem K8 {c:Nat} (h:c ∉ sg):Txt.find SG ⟨#[c]⟩=-1:=by
 have h1:=StrLaws.found_one SG c
 rw [K6,decide_eq_false h] at h1
 unfold Txt.find
 cases e:Builtin.Str.occurrences SG ⟨#[c]⟩ 0 SG.length 1 with
 | nil=>rfl
 | cons i r=>rw [e] at h1;cases h1
noncomputable def K9 (x:Str):Prop:=(∀c∈x.cps.toList,c∈sg)∧x.cps.toList.length≤60
section
noncomputable def YD (K:W.Frag) (C:Addr):Sp:=fun vs H Q E=>∃v:V,vs=[v]∧((∃x:Str,v=.str x∧x.cps.toList.length≤900∧(K9 x→Q (.int (nv x.cps.toList)) H)∧(¬K9 x→E (.ref C) none H)) ∨
 (∃t,TyOf K H v t∧W.kitOne K t (.type "str")=some false∧E (.ref C) none H))
theorem qQ:FnScope ["note","number","sign","place"] ["note"] (defScope qO):=⟨rfl,rfl,rfl,by decide +kernel,rfl,by decide +kernel,by decide +kernel⟩
theorem yZ {zp:Addr} (D:Def K mg "note_number" qO ["note"]) (T:Txt K mg){jB zL:Tok} (qg:mg "SIGNS"=some (.str "abcdefghijklmnopqrstuvwxyz " jB)) (zr:mg "MOST_SIGNS"=some (.int 60 zL)) (zH:mg "NoNote"=some (.ref zp)) (zM:W.excIn K zp bmV "ValueError.__new__"=true):FnE P w K mg base 1 "note_number" ["note"] (YD K zp):=by
 refine D.fnE qQ (fun vs H Q E h=>?_) (fun f cdv A outer s H vs Q E hr h=>?_)
 ·obtain⟨v,rfl,_⟩:=h
  rfl
 ·obtain⟨v,rfl,h⟩:=h
  refine⟨_,(pss_cons (ps_if (pw_or (pt_not (pt_val (pe_callB xH (by rfl) T.z_isinstance zG (pa_cons (pv 0) (pa_cons (pe_bltn (v:=.ty "str") (by rfl) T.z_str Yp rfl) pa_nil))))) (pw_or1 (pt_cmpR jH (pe_callB call_len_str (by rfl) T.z_len xJ (pa_cons (pv 0) pa_nil)) (pe_glob (v:=.int 60) (by rfl) zr ⟨_,rfl⟩) (nomark _)))).pt
    (pss_one (vP PySem.F.excBase_ValueError zM (by rfl) zH (pa_cons pe_str pa_nil)))
    pss_nil)
   (pss_cons (ps_set (i:=1) qQ.nd rfl (Or.inl rfl) pe_int)
   (pss_cons (ps_for PassesOwn.leaving rfl (WD (pv 0)) (pg_name (i:=2) qQ.nd rfl (Or.inl rfl))
    (pss_cons (ps_set (i:=3) qQ.nd rfl (Or.inl rfl) (pe_bm PySem.F.plainAttrs_str PySem.F.slot_str_find PySem.F.type_str_find Wy (pe_glob (v:=.str "abcdefghijklmnopqrstuvwxyz ") (by rfl) qg ⟨_,rfl⟩) (pa_cons (pv 2) pa_nil)))
    (pss_cons (ps_if (pt_cmpR yw (pv 3) (pe_un un_neg pe_int) (nomark _))
     (pss_one (vP PySem.F.excBase_ValueError zM (by rfl) zH (pa_cons pe_str pa_nil)))
     pss_nil)
    (pss_one (ps_set (i:=1) qQ.nd rfl (Or.inl rfl) (pe_op zf (pe_op zf (pe_op z9 (pv 1) (pe_callB call_len_str (by rfl) T.z_len xJ (pa_cons (pe_glob (v:=.str "abcdefghijklmnopqrstuvwxyz ") (by rfl) qg ⟨_,rfl⟩) pa_nil))) (pv 3)) pe_int))))))
   (pss_one (ps_ret (pv 1)))))),?_⟩
  rcases h with ⟨x,rfl,hl,q,q2⟩ | ⟨t,ty,kt,q2⟩
  ·have hlx:x.length=x.cps.toList.length:=by simp [Str.length]
   have hz:x.length≤sizeLine:=by rw [hlx];exact Nat.le_of_lt (small1000 (by omega))
   refine⟨_,rfl,_,_,_,true,rfl,TyOf.str _,yQ K,_,rfl,iteF ⟨_,rfl,x,rfl,hz,_,_,rfl,rfl,_,rfl,ifD (fun z=>⟨(by decide),q2 fun g=>?_⟩) (fun z=>?_)⟩⟩
   ·have:=g.2;omega
   have l60:x.cps.toList.length≤60:=by omega
   refine⟨_,rfl,x,rfl,Ko (x:=x) (fun i σ H'=>∃v v',σ=[some (.str x),some (.int (nv (x.cps.toList.take i))),v,v']∧H'=H∧∀d∈x.cps.toList.take i,d∈sg) ⟨none,none,rfl,rfl,fun _ z=>nomatch z⟩ ?_ ?_⟩
   ·rintro i c σ H' hc ⟨v,v',rfl,rfl,htk⟩
    have hc':x.cps.toList[i]?=some c:=by simpa using hc
    have hbn:=W7 htk (Nat.le_trans (by rw [List.length_take];omega) l60)
    refine⟨rfl,_,rfl,SG,⟨#[c]⟩,rfl,rfl,?_⟩
    by_cases hm:c∈sg
    ·have hb:=Xy c hm
     rw [W3 c hm]
     refine⟨_,rfl,_,rfl,_,_,rfl,rfl,_,rfl,ifF (by omega) ?_⟩
     refine⟨_,rfl,SG,rfl,Jb,_,_,rfl,rfl,⟨300,5,hbn,by rw [vG];decide,by decide⟩,_,rfl,_,_,rfl,rfl,_,_,rfl,rfl,some (.str ⟨#[c]⟩),some (.int (dig c-1)),?_,rfl,?_⟩
     ·have e:x.cps.toList.take (i+1)=x.cps.toList.take i++[c]:=by rw [List.take_add_one,hc'];rfl
      rw [e,W5,vG]
      have e2:nv (x.cps.toList.take i)*((27:Nat):Int)+(dig c-1)+1=nv (x.cps.toList.take i)*27+dig c:=by omega
      show [some (V.str x),some (V.int (nv (x.cps.toList.take i)*((27:Nat):Int)+(dig c-1)+1)),_,_]=_
      rw [e2]
     ·have e:x.cps.toList.take (i+1)=x.cps.toList.take i++[c]:=by rw [List.take_add_one,hc'];rfl
      rw [e]
      intro d hd
      rcases List.mem_append.mp hd with z | z
      ·exact htk d z
      ·rw [List.mem_singleton.mp z];exact hm
    ·rw [K8 hm]
     exact⟨_,rfl,_,rfl,_,_,rfl,rfl,_,rfl,ifT rfl ⟨(by decide),q2 fun g=>hm (g.1 c (List.mem_of_getElem? hc'))⟩⟩
   ·rintro σ H' ⟨v,v',rfl,rfl,htk⟩
    refine⟨_,rfl,?_⟩
    have e:x.cps.toList.take x.cps.size=x.cps.toList:=by rw [← Array.length_toList,List.take_length]
    rw [e] at htk ⊢
    exact q ⟨htk,l60⟩
  ·exact⟨_,rfl,_,_,_,false,rfl,ty,kt,_,rfl,iteT ⟨(by decide),q2⟩⟩
end
section
noncomputable def YF (C:Addr):Sp:=fun vs H Q E=>∃n:Int,vs=[.int n]∧(0≤n∧n≤qM→∀H',Same H H'→Q (.str (tx (chs n.toNat).reverse)) H')∧(¬(0≤n∧n≤qM)→E (.ref C) none H)
theorem xj:FnScope ["number","signs","left"] ["number"] (defScope xg):=⟨rfl,rfl,rfl,by decide +kernel,rfl,by decide +kernel,by decide +kernel⟩
theorem JS {zp:Addr} (D:Def K mg "note_of" xg ["number"]) (T:Txt K mg){jB zL:Tok} (qg:mg "SIGNS"=some (.str "abcdefghijklmnopqrstuvwxyz " jB)) (zr:mg "MOST_SIGNS"=some (.int 60 zL)) (zH:mg "NoNote"=some (.ref zp)) (zM:W.excIn K zp bmV "ValueError.__new__"=true) (xq:FnE P w K mg base 1 "note_number" ["note"] (YD K zp)):FnF P w K mg base 2 "note_of" ["number"] (YF zp):=by
 have Z5:=zae xq
 refine D.fnF xj (fun vs H Q E h=>?_) (fun f cdv A outer s H vs Q E hr h=>?_)
 ·obtain⟨n,rfl,_⟩:=h
  rfl
 ·obtain⟨n,rfl,q,q2⟩:=h
  refine⟨_,(pss_cons (ps_if (pw_or (pt_not (pt_val (pe_callB xH (by rfl) T.z_isinstance zG (pa_cons (pv 0) (pa_cons (pe_bltn (v:=.ty "int") (by rfl) T.z_int zaF rfl) pa_nil))))) (pw_or1 (pt_val (pe_callB xH (by rfl) T.z_isinstance zG (pa_cons (pv 0) (pa_cons (pe_bltn (v:=.ty "bool") (by rfl) T.z_bool YL rfl) pa_nil)))))).pt
    (pss_one (Qn PySem.F.excBase_ValueError zM (by rfl) zH (pa_cons pe_str pa_nil)))
    pss_nil)
   (pss_cons (ps_if (pw_or (pt_cmpR vp (pv 0) pe_int (nomark _)) (pw_or1 (pt_cmpR jH (pv 0) (zJ Z5 (hr.mono (by decide)) (by rfl) (pa_cons (pe_op Wz pe_str (pe_glob (v:=.int 60) (by rfl) zr ⟨_,rfl⟩)) pa_nil)) (nomark _)))).pt
    (pss_one (Qn PySem.F.excBase_ValueError zM (by rfl) zH (pa_cons pe_str pa_nil)))
    pss_nil)
   (pss_cons (ps_set (i:=1) xj.nd rfl (Or.inl rfl) (pe_lst pa_nil))
   (pss_cons (ps_set (i:=2) xj.nd rfl (Or.inl rfl) (pv 0))
   (pss_cons (ps_while PassesOwn.leaving (pt_cmpR jH (pv 2) pe_int (nomark _))
    (pss_cons (ps_set (i:=2) xj.nd rfl (Or.inl rfl) (pe_op zB (pv 2) pe_int))
    (pss_cons (ps_expr (pe_bm PySem.F.plainAttrs_list PySem.F.slot_list_append PySem.F.type_list_append mt_append (pv 1) (pa_cons (pe_ix ix_str (pe_glob (v:=.str "abcdefghijklmnopqrstuvwxyz ") (by rfl) qg ⟨_,rfl⟩) (pe_op zT (pv 2) (pe_callB call_len_str (by rfl) T.z_len xJ (pa_cons (pe_glob (v:=.str "abcdefghijklmnopqrstuvwxyz ") (by rfl) qg ⟨_,rfl⟩) pa_nil))) (fun _ _=>rfl)) pa_nil)))
    (pss_one (ps_set (i:=2) xj.nd rfl (Or.inl rfl) (pe_op zR (pv 2) (pe_callB call_len_str (by rfl) T.z_len xJ (pa_cons (pe_glob (v:=.str "abcdefghijklmnopqrstuvwxyz ") (by rfl) qg ⟨_,rfl⟩) pa_nil))))))))
   (pss_one (ps_ret (Xh rfl (by rfl) T.z_reversed pe_str (fun _ _ _ h=>⟨⟨_,rfl⟩,h⟩) (pa_cons (pv 1) pa_nil))))))))),?_⟩
  refine⟨_,rfl,_,_,_,true,rfl,TyOf.int _,Jg K,_,rfl,iteF ⟨_,rfl,_,_,_,false,rfl,TyOf.int _,Qz K,_,rfl,iteF ?_⟩⟩
  refine⟨_,rfl,_,_,rfl,rfl,_,rfl,ifD (fun z=>⟨(by decide),q2 (by omega)⟩) (fun n0=>⟨_,rfl,_,_,rfl,rfl,VM,?_⟩)⟩
  rw [blanks]
  have gb:K9 (tx (List.replicate 60 32)):=by
   refine⟨?_,?_⟩
   ·rw [XC];intro c hc;rw [List.eq_of_mem_replicate hc];decide
   ·rw [XC,List.length_replicate];exact Nat.le_refl _
  refine⟨_,rfl,.inl ⟨_,rfl,Nat.le_trans gb.2 (by decide),fun _=>?_,fun z=>absurd gb z⟩⟩
  rw [XC,VN]
  refine⟨_,_,rfl,rfl,_,rfl,ifD (fun z=>⟨(by decide),q2 (by omega)⟩) (fun n1=>?_)⟩
  obtain⟨n,rfl⟩:∃k:Nat,n=(k:Int):=⟨n.toNat,by omega⟩
  have hn:(n:Int)≤qM:=by omega
  have q:=q ⟨by omega,hn⟩
  rw [Int.toNat_natCast] at q
  refine⟨(by decide),fun l hl=>⟨_,rfl,?_⟩⟩
  refine while_by (fun σ H'=>∃(m:Nat) (cs:List Nat),σ=[some (.int n),some (.ref l),some (.int m)]∧H' l=some (.lst ((cs.map Ja).map V.str))∧Same H H'∧cs++chs m=chs n∧(m:Int)≤qM) (fun(σ:L2.St) (_:Hp)=>match σ[2]? with | some (some (V.int m))=>m.toNat | _=>0) ⟨n,[],rfl,upd_same,Same.new hl,rfl,hn⟩ ?_ (fun σ H Q Q' m h=>?_)
  ·rintro σ H' ⟨m,cs,rfl,hH,sm,ec,hm⟩
   refine⟨_,rfl,_,_,rfl,rfl,_,rfl,ifD (fun z=>?_) (fun z=>?_)⟩
   ·have m0:0<m:=by omega
    have e1:(m:Int)-1=((m-1:Nat):Int):=by omega
    have zcJ:cs.length≤60:=by
     have:=Q9 hn
     rw [← ec,List.length_append] at this
     omega
    refine⟨_,rfl,_,_,rfl,rfl,?_⟩
    rw [e1]
    refine⟨_,rfl,.inl ⟨rfl,_,SqL.of hH⟩,_,rfl,SG,rfl,Jb,_,_,rfl,rfl,(by rw [vG];decide),SG,((m-1) % 27:Nat),sg.getD ((m-1) % 27) 0,rfl,?_,Jb,zaZ _ (Nat.mod_lt _ (by decide)),l,_,_,rfl,rfl,hH,?_,?_⟩
    ·rw [vG];rfl
    ·rw [List.length_map,List.length_map];exact small1000 (by omega)
    refine⟨_,rfl,SG,rfl,Jb,_,_,rfl,rfl,⟨by rw [vG];decide,by rw [vG];decide +kernel⟩,?_⟩
    refine⟨⟨(m-1) / 27,cs++[sg.getD ((m-1) % 27) 0],?_,?_,?_,?_,?_⟩,?_⟩
    ·rw [vG];rfl
    ·rw [upd_same,List.map_append,List.map_append];rfl
    ·exact sm.wr hl
    ·rw [List.append_assoc,← ec,yq m0];rfl
    ·omega
    ·rw [vG]
     show ((((m-1:Nat):Int) / ((27:Nat):Int))).toNat<((m:Nat):Int).toNat
     omega
   ·have m0:m=0:=by omega
    subst m0
    rw [yo,List.append_nil] at ec
    subst ec
    refine⟨_,rfl,"",l,(chs n).map Ja,rfl,rfl,SqL.of hH,VL (Nat.le_trans (Q9 hn) (by decide)),?_⟩
    rw [← List.map_reverse,join_ones]
    exact q _ sm
  ·obtain⟨v,hv,a,b,e1,e2,c,e3,r⟩:=h
   exact⟨v,hv,a,b,e1,e2,c,e3,m _ _ r⟩
end
theorem zaj {L k:Int} (hL:0<L){rd:List Int}:∀x∈grp L k rd,0≤x∧x<L:=fun x hx=>by
 unfold grp at hx
 obtain⟨t,_,rfl⟩:=List.mem_map.mp hx
 exact⟨Int.emod_nonneg _ (by omega),Int.emod_lt_of_pos _ hL⟩
theorem Vi {L k late:Int} (hL:0<L) (lb:intBits L≤9000){rd:List Int} (h60:(grp L k rd).length≤60):Szs 70000 (zV late (grp L k rd)):=fun y hy=>by
 obtain⟨i,hi⟩:=List.getElem?_of_mem hy
 obtain⟨x,hx,rfl⟩:=Vz hi
 have hb:=zaj hL x (List.mem_of_getElem? hx)
 have il:=(List.getElem?_eq_some_iff.mp hx).1
 have ib:intBits (i:Int)≤64:=zq (by omega) (by omega)
 have xb:intBits x≤9000:=yj hb.1 hb.2 lb
 have sb:=intBits_sub_le (m:=9000) (n:=64) xb ib
 exact zc (intBits_le_of_natAbs (y:=x-(i:Int)) (Int.natAbs_ediv_le_natAbs _ _) sb) (by decide)
noncomputable def z6 (turns late:Int) (rd:List Int) (i:Nat):Int:=vg (zV late (grp (turns+late) (i:Int) rd))
structure zak (rd:List Int) (turns bells late:Int) (n:Nat):Prop where
 rl:rd.length≤1000
 b0:0≤bells
 b60:bells≤60
 l0:0≤late
 lb:intBits late≤100
 L0:0<turns+late
 t0:0≤turns
 tb:intBits turns≤100
 n100:n≤1000
 good:∀i:Nat,i<n→GoodR turns bells late (grp (turns+late) (i:Int) rd)∧z6 turns late rd i≠0
theorem Vj {L:Int}{rd:List Int}{kvs:List (Key×V)}{ks:List Int}{ad:Int→Addr}{H H2:Hp} (M:ByM L rd kvs ks ad H) (s:Same H H2){p0:Addr} (hp0:H2 p0=none) (k:Int) :
  ∃q,(valV kvs (Sum.inl k)).getD (.ref p0)=.ref q∧(upd H2 p0 (.lst [])) q=some (.lst ((grp L k rd).map V.int)):=by
 rw [M.val]
 by_cases hk:k∈ks
 ·rw [if_pos hk]
  exact⟨ad k,rfl,(Same.new hp0) _ _ (s _ _ (M.ls k hk))⟩
 ·rw [if_neg hk]
  have g0:grp L k rd=[]:=by
   by_cases z:grp L k rd=[]
   ·exact z
   ·exact absurd ((M.mem k).mpr z) hk
  rw [g0]
  exact⟨p0,rfl,upd_same⟩
section
noncomputable def YG (K:W.Frag) (C:Addr):Sp:=fun vs H Q E=>∃(a:Addr) (rd:List Int) (turns bells late:Int) (n:Nat),vs=[.ref a,.int turns,.int bells,.int late]∧SqL K H a (rd.map V.int)∧zak rd turns bells late n ∧
 (GoodR turns bells late (grp (turns+late) (n:Int) rd)→z6 turns late rd n=0∧∀(p:Addr) (H':Hp),Same H H'→H' p=some (.lst ((List.range n).map fun i=>V.int (z6 turns late rd i)))→Q (.ref p) H') ∧
 (¬GoodR turns bells late (grp (turns+late) (n:Int) rd)→∀H',Same H H'→E (.ref C) none H')
theorem zF:FnScope ["reading","turns","bells","late","heard_of","messages","message"] ["reading","turns","bells","late"] (defScope zE):=⟨rfl,rfl,rfl,by decide +kernel,rfl,by decide +kernel,by decide +kernel⟩
theorem W8 {za:Addr} (D:Def K mg "messages_ahead_of_end" zE ["reading","turns","bells","late"]) (T:Txt K mg) (Z6:Fn P w K mg base 1 "by_messages" ["reading","turns","late"] (zaW K)) (Zg:FnE P w K mg base 3 "read" ["reading","turns","bells","late"] (Vg K za)):FnE P w K mg base 4 "messages_ahead_of_end" ["reading","turns","bells","late"] (YG K za):=by
 refine D.fnE zF (fun vs H Q E h=>?_) (fun f cdv A outer s H vs Q E hr h=>?_)
 ·obtain⟨a,rd,t,b,l,n,rfl,_⟩:=h
  rfl
 ·obtain⟨a,rd,turns,bells,late,n,rfl,hS,R,q1,q2⟩:=h
  obtain⟨rl,b0,b60,l0,lb,L0,t0,tb,n100,good⟩:=R
  refine⟨_,(pss_cons (ps_set (i:=4) zF.nd rfl (Or.inl rfl) (zJ Z6 (hr.mono (by decide)) (by rfl) (pa_cons (pv 0) (pa_cons (pv 1) (pa_cons (pv 3) pa_nil)))))
   (pss_cons (ps_set (i:=5) zF.nd rfl (Or.inl rfl) (pe_lst pa_nil))
   (pss_cons (ps_set (i:=6) zF.nd rfl (Or.inl rfl) (Zo Zg (hr.mono (by decide)) (by rfl) Zd (pa_cons (pe_dget2 (hu_of hr) (pv 4) pe_int (pe_lst pa_nil) ⟨rfl,rfl,rfl,rfl⟩) (pa_cons (pv 1) (pa_cons (pv 2) (pa_cons (pv 3) pa_nil))))))
   (pss_cons (ps_while PassesOwn.leaving (pt_cmpR Qy (pv 6) pe_int (nomark _))
    (pss_cons (ps_expr (pe_bm PySem.F.plainAttrs_list PySem.F.slot_list_append PySem.F.type_list_append mt_append (pv 5) (pa_cons (pv 6) pa_nil)))
    (pss_one (ps_set (i:=6) zF.nd rfl (Or.inl rfl) (Zo Zg (hr.mono (by decide)) (by rfl) Zd (pa_cons (pe_dget2 (hu_of hr) (pv 4) (pe_callB call_len_seq (by rfl) T.z_len xJ (pa_cons (pv 5) pa_nil)) (pe_lst pa_nil) ⟨rfl,rfl,rfl,rfl⟩) (pa_cons (pv 1) (pa_cons (pv 2) (pa_cons (pv 3) pa_nil)))))))))
   (pss_one (ps_ret (pv 5))))))),?_⟩
  have lb8:intBits late≤8000:=zc lb (by decide)
  have Lb:intBits (turns+late)≤9000:=zc (intBits_add_le (m:=100) (n:=100) tb lb) (by decide)
  have bad:∀i:Nat,i≤n→¬GoodR turns bells late (grp (turns+late) (i:Int) rd)→i=n:=fun i hi ng=>by
   rcases Nat.lt_or_eq_of_le hi with z | z
   ·exact absurd (good i z).1 ng
   ·exact z
  refine⟨_,rfl,_,rfl,_,rfl,a,rd,turns,late,rfl,hS,by omega,L0,Lb,fun d kvs ks ad H1 s1 hD M=>?_⟩
  refine⟨(by decide),fun p hp=>?_⟩
  have s2:Same H1 (upd H1 p (.lst [])):=Same.new hp
  have h2:(upd H1 p (.lst [])) p=some (.lst []):=upd_same
  generalize upd H1 p (.lst [])=H2 at s2 h2 ⊢
  refine⟨_,rfl,d,rfl,.inl ⟨kvs,.inl (s2 _ _ hD)⟩,(by decide),fun p0 hp0=>⟨_,DGet.k (k:=Sum.inl 0) ((Same.new hp0) _ _ (s2 _ _ hD)),?_⟩⟩
  obtain⟨q0,e0,c0⟩:=Vj M s2 hp0 0
  rw [e0]
  have s3:=s2.put (o:=.lst []) hp0
  have s23:=Same.new (o:=.lst []) hp0
  generalize upd H2 p0 (.lst [])=H3 at s3 s23 c0 ⊢
  refine⟨_,rfl,_,rfl,_,rfl,q0,grp (turns+late) 0 rd,turns,bells,late,rfl,SqL.of c0,b0,b60,l0,lb8,zc tb (by decide),(fun el=>Vi L0 Lb (by omega)),fun g H4 s4=>?_,fun ng H4 s4=>?_⟩
  case refine_2=>
   have e:=bad 0 (Nat.zero_le _) ng
   subst e
   exact q2 ng H4 (s1.trans (s3.trans s4))
  refine while_by (fun σ H5=>∃i:Nat,i≤n∧σ=[some (.ref a),some (.int turns),some (.int bells),some (.int late),some (.ref d),some (.ref p),some (.int (z6 turns late rd i))]∧Same H1 H5∧H5 p=some (.lst ((List.range i).map fun i=>V.int (z6 turns late rd i)))∧GoodR turns bells late (grp (turns+late) (i:Int) rd))
   (fun _ H5=>match H5 p with | some (.lst xs)=>n-xs.length | _=>0) ⟨0,Nat.zero_le _,rfl,s3.trans s4,s4 _ _ (s23 _ _ h2),g⟩ ?_ ?_
  ·rintro σ H5 ⟨i,hi,rfl,s5,h5,gi⟩
   refine⟨_,rfl,_,_,rfl,rfl,_,rfl,YK (fun z=>?_) (fun z=>?_)⟩
   ·have hin:i<n:=by
     rcases Nat.lt_or_eq_of_le hi with y | y
     ·exact y
     ·subst y
      exact absurd (q1 gi).1 z
    have Wa:((List.range i).map fun i=>V.int (z6 turns late rd i)).length=i:=by rw [List.length_map,List.length_range]
    refine⟨_,rfl,.inl ⟨rfl,_,SqL.of h5⟩,_,rfl,_,_,_,rfl,rfl,h5,by rw [Wa];exact small1000 (by omega),?_⟩
    have s6:Same H1 (upd H5 p (.lst (((List.range i).map fun i=>V.int (z6 turns late rd i))++[V.int (z6 turns late rd i)]))):=s5.wr hp
    have h6:(upd H5 p (.lst (((List.range i).map fun i=>V.int (z6 turns late rd i))++[V.int (z6 turns late rd i)]))) p=some (.lst ((List.range (i+1)).map fun i=>V.int (z6 turns late rd i))):=by
     rw [upd_same,List.range_succ,List.map_append]
     rfl
    generalize upd H5 p (.lst (((List.range i).map fun i=>V.int (z6 turns late rd i))++[V.int (z6 turns late rd i)]))=H6 at s6 h6 ⊢
    have za0:(((List.range (i+1)).map fun i=>V.int (z6 turns late rd i)).length:Int)=((i+1:Nat):Int):=by rw [List.length_map,List.length_range]
    refine⟨_,rfl,d,rfl,.inl ⟨kvs,.inl (s6 _ _ hD)⟩,_,rfl,_,_,rfl,.inl (SqL.of h6),?_⟩
    rw [za0]
    refine⟨(by decide),fun p7 hp7=>⟨_,DGet.k (k:=Sum.inl ((i+1:Nat):Int)) ((Same.new hp7) _ _ (s6 _ _ hD)),?_⟩⟩
    obtain⟨q7,e7,c7⟩:=Vj M s6 hp7 ((i+1:Nat):Int)
    rw [e7]
    have s7:=s6.put (o:=.lst []) hp7
    have s67:=Same.new (o:=.lst []) hp7
    generalize upd H6 p7 (.lst [])=H7 at s7 s67 c7 ⊢
    refine⟨_,rfl,_,rfl,_,rfl,q7,grp (turns+late) ((i+1:Nat):Int) rd,turns,bells,late,rfl,SqL.of c7,b0,b60,l0,lb8,zc tb (by decide),(fun el=>Vi L0 Lb (by omega)),fun g8 H8 s8=>?_,fun ng H8 s8=>?_⟩
    ·refine⟨⟨i+1,hin,rfl,s7.trans s8,s8 _ _ (s67 _ _ h6),g8⟩,?_⟩
     show (match H8 p with | some (.lst xs)=>n-xs.length | _=>0)<(match H5 p with | some (.lst xs)=>n-xs.length | _=>0)
     rw [s8 _ _ (s67 _ _ h6),h5]
     show n-((List.range (i+1)).map fun i=>V.int (z6 turns late rd i)).length<n-((List.range i).map fun i=>V.int (z6 turns late rd i)).length
     rw [List.length_map,List.length_range,List.length_map,List.length_range]
     omega
    ·have e:=bad (i+1) hin ng
     subst e
     exact q2 ng H8 (s1.trans (s7.trans s8))
   ·have e:i=n:=by
     rcases Nat.lt_or_eq_of_le hi with y | y
     ·exact absurd z (good i y).2
     ·exact y
    subst e
    exact⟨_,rfl,(q1 gi).2 p H5 (s1.trans s5) h5⟩
  ·intro σ H Q Q' m h
   obtain⟨v,hv,a,b,e1,e2,c,e3,r⟩:=h
   exact⟨v,hv,a,b,e1,e2,c,e3,m _ _ r⟩
noncomputable def Wc (K:W.Frag) (C:Addr):Sp:=fun vs H Q E=>∃(a:Addr) (rd:List Int) (turns bells late:Int) (n:Nat),vs=[.ref a,.int turns,.int bells,.int late]∧SqL K H a (rd.map V.int)∧zak rd turns bells late n ∧
 (GoodR turns bells late (grp (turns+late) (n:Int) rd)→z6 turns late rd n=0∧3≤cnt turns bells late∧(val (cnt turns bells late-1) ((List.range n).map fun i=>z6 turns late rd i-1)≤qM→∀H',Same H H'→Q (.str (tx (chs (val (cnt turns bells late-1) ((List.range n).map fun i=>z6 turns late rd i-1)).toNat).reverse)) H')∧(¬val (cnt turns bells late-1) ((List.range n).map fun i=>z6 turns late rd i-1)≤qM→∀H',Same H H'→E (.ref C) none H')) ∧
 (¬GoodR turns bells late (grp (turns+late) (n:Int) rd)→∀H',Same H H'→E (.ref C) none H')
theorem xO:FnScope ["reading","turns","bells","late","figures","base","refusal"] ["reading","turns","bells","late"] (defScope jT):=⟨rfl,rfl,rfl,by decide +kernel,rfl,by decide +kernel,by decide +kernel⟩
theorem Jc {za:Addr}{zp:Addr} (D:Def K mg "received" jT ["reading","turns","bells","late"]) (T:Txt K mg) (xT:FnE P w K mg base 4 "messages_ahead_of_end" ["reading","turns","bells","late"] (YG K za)) (zX:Fn P w K mg base 2 "box_count" ["turns","bells","late"] yh) (yr:Fn P w K mg base 1 "number_of_parts" ["figures","base"] (zaX K)) (wL:FnF P w K mg base 2 "note_of" ["number"] (YF zp)) (zH:mg "NoNote"=some (.ref zp)) (zM:W.excIn K zp bmV "ValueError.__new__"=true) (zj:mg "NoReading"=some (.ref za)) (zm:W.excIn K za bmV "ValueError.__new__"=true):FnE P w K mg base 5 "received" ["reading","turns","bells","late"] (Wc K za):=by
 refine D.fnE xO (fun vs H Q E h=>?_) (fun f cdv A outer s H vs Q E hr h=>?_)
 ·obtain⟨a,rd,t,b,l,n,rfl,_⟩:=h
  rfl
 ·obtain⟨a,rd,turns,bells,late,n,rfl,hS,R,q1,q2⟩:=h
  have R':=R
  obtain⟨rl,b0,b60,l0,lb,L0,t0,tb,n100,good⟩:=R'
  refine⟨_,(pss_cons (QF (k:=4) (own:=["message"]) (fr:=[]) (ix:=[]) rfl xO.nd rfl rfl ⟨rfl,rfl,rfl,rfl,rfl,rfl⟩ (pi_list (Zo xT (hr.mono (by decide)) (by rfl) Zd (pa_cons (pv 0) (pa_cons (pv 1) (pa_cons (pv 2) (pa_cons (pv 3) pa_nil)))))) (fun _ _ _ _ _=>(pg_name (i:=0) (show (["message"]:List Str).Nodup by decide +kernel) rfl (Or.inl rfl))) (fun _ _ _ _ _=>vq) (fun _ _ _ _ _=>(pe_op zB (pv 0) pe_int)))
   (pss_cons (ps_set (i:=5) xO.nd rfl (Or.inl rfl) (pe_op zB (zJ zX (hr.mono (by decide)) (by rfl) (pa_cons (pv 1) (pa_cons (pv 2) (pa_cons (pv 3) pa_nil)))) pe_int))
   (pss_one (WP rfl (i:=6) xO.nd rfl rfl rfl rfl rfl zH zM (by decide) rfl zj PySem.F.excBase_ValueError zm (fun pn xe G hG=>pss_one (ps_ret (Y9 wL (hr.mono (by decide)) (by rfl) hG (pa_cons (zJ yr (hr.mono (by decide)) (by rfl) (pa_cons (pv 4) (pa_cons (pv 5) pa_nil))) pa_nil)))))))),?_⟩
  have lb8:intBits late≤8000:=zc lb (by decide)
  have cb:intBits (cnt turns bells late)≤8000:=zc (KY (turns:=turns) (bells:=bells) (late:=late) (by omega) (by omega) l0 (by omega) tb (by decide)) (by decide)
  refine⟨_,rfl,_,rfl,_,rfl,_,rfl,a,rd,turns,bells,late,n,rfl,hS,R,fun g=>?_,q2⟩
  obtain⟨z0,c3,q,qb⟩:=q1 g
  refine⟨z0,fun p H1 s1 h1=>?_⟩
  have mb:∀i:Nat,i<n→1≤z6 turns late rd i∧z6 turns late rd i<cnt turns bells late:=fun i hi=>by
   obtain⟨g1,g2⟩:=good i hi
   have h1:=jy (zV late (grp (turns+late) (i:Int) rd)) (zV late (grp (turns+late) (i:Int) rd)).length
   have h2:vg (zV late (grp (turns+late) (i:Int) rd))=jc (zV late (grp (turns+late) (i:Int) rd)) (zV late (grp (turns+late) (i:Int) rd)).length:=rfl
   have h3:=g1.2.2
   unfold z6 at g2 ⊢
   omega
  refine⟨p,rfl,⟨_,SqL.of h1⟩,fun acc hacc=>wC (K:=K) (a:=p) (xs:=(List.range n).map fun i=>V.int (z6 turns late rd i)) (fun i=>V.int (z6 turns late rd i-1)) (SqL.of h1) hacc (by rw [List.length_map,List.length_range];exact Nat.le_of_lt (small1000 (by omega))) (fun i v H6 R' hx s6 hR=>?_) ?_⟩
  ·rw [List.getElem?_map] at hx
   obtain⟨j,hj,rfl⟩:=Option.map_eq_some_iff.mp hx
   have ej:j=i:=by
    have h3:=(List.getElem?_eq_some_iff.mp hj).2
    rw [List.getElem_range] at h3
    exact h3.symm
   subst ej
   exact⟨rfl,_,rfl,_,_,rfl,rfl,hR⟩
  rw [List.length_map,List.length_range]
  have ef:(List.range n).map (fun i=>V.int (z6 turns late rd i-1))=((List.range n).map fun i=>z6 turns late rd i-1).map V.int:=by rw [List.map_map];rfl
  rw [ef]
  have fb:∀x∈(List.range n).map (fun i=>z6 turns late rd i-1),0≤x∧x<cnt turns bells late-1:=fun x hx=>by
   obtain⟨i,hi,rfl⟩:=List.mem_map.mp hx
   have:=mb i (List.mem_range.mp hi)
   omega
  have fl:((List.range n).map fun i=>z6 turns late rd i-1).length≤8000:=by rw [List.length_map,List.length_range];omega
  have v0:=vD (show 0≤cnt turns bells late-1 by omega) _ (fun x hx=>(fb x hx).1)
  have s2:=s1.put (o:=.lst (((List.range n).map fun i=>z6 turns late rd i-1).map V.int)) hacc
  have h2:(upd H1 acc (.lst (((List.range n).map fun i=>z6 turns late rd i-1).map V.int))) acc=some (.lst (((List.range n).map fun i=>z6 turns late rd i-1).map V.int)):=upd_same
  generalize upd H1 acc (.lst (((List.range n).map fun i=>z6 turns late rd i-1).map V.int))=H2 at s2 h2 ⊢
  generalize (List.range n).map (fun i=>z6 turns late rd i-1)=fs at fb fl v0 q qb h2 ⊢
  refine⟨_,rfl,_,rfl,_,rfl,turns,bells,late,rfl,b0,by omega,l0,lb8,zc tb (by decide),_,_,rfl,rfl,?_⟩
  exact⟨_,rfl,_,rfl,acc,fs,_,rfl,SqL.of h2,fl,by omega,yj (y:=cnt turns bells late) (by omega) (by omega) cb,fb,fun H3 s3=>⟨_,rfl,fun vm H4 s4=>q vm.2 _ ((s2.trans s3).trans s4),fun ng=>⟨rfl,fun x hx=>qb (fun vm=>ng ⟨v0,vm⟩) _ ((s2.trans s3).put hx)⟩⟩⟩
end
theorem Wd {K:W.Frag}{a acc:Addr}{xs:List V}{own:Nat}{ix:List Nat}{g:TG}{tt:TT}{te:TE}{σ:L2.St}{H1:Hp}{Q:VK} (f:V→Option V) (hq:SqL K H1 a xs) (hn:H1 acc=none) (hz:xs.length≤sizeLine)
  (step:∀(i:Nat) (x:V) (H:Hp) (R1:VK) (R2:Hp→Prop),xs[i]?=some x→Same H1 H→(∀y,f x=some y→R1 y H)→(f x=none→R2 H)→g x (ji own ix σ) H fun σ4 H4=>σ4.drop own=ix.map (fun i=>(σ[i]?).getD none)∧tt σ4 H4 fun ok H5=>if ok=true then te σ4 H5 R1 else R2 H5)
  (hd:Q (.ref acc) (upd H1 acc (.lst (xs.filterMap f)))) :
  Zj (Itl K a) own ix g tt te σ H1 acc Q:=by
 have ts:∀{i:Nat}{x:V},xs[i]?=some x→(xs.take (i+1)).filterMap f=(xs.take i).filterMap f++(f x).toList:=fun {i x} h=>by
  rw [List.take_add_one,h,List.filterMap_append]
  cases e:f x <;> simp [e]
 refine⟨fun i m ys H=>m=xs.length-i∧i≤xs.length∧ys=(xs.take i).filterMap f∧H=upd H1 acc (.lst ys),⟨xs.length,by simp,Nat.zero_le _,rfl,rfl⟩,?_⟩
 rintro i m ys H ⟨rfl,hi,rfl,rfl⟩
 have q:SqL K (upd H1 acc (.lst ((xs.take i).filterMap f))) a xs:=(Same.new hn).seq hq
 refine⟨upd_same,?_⟩
 by_cases hlt:i<xs.length
 ·refine .inr ⟨⟨xs,xs[i],q,by simp [hlt]⟩,?_,fun x H3 y=>?_⟩
  ·have h1:=List.length_filterMap_le f (xs.take i)
   have h2:(xs.take i).length=i:=by rw [List.length_take];omega
   omega
  obtain⟨e,y⟩:=y
  subst e
  have hx:=y xs q
  refine step i x _ _ _ hx (Same.new hn) (fun y fx=>⟨upd_same,xs.length-(i+1),by omega,rfl,hlt,?_,by rw [upd_upd]⟩) (fun fx=>⟨xs.length-(i+1),by omega,rfl,hlt,?_,rfl⟩)
  ·rw [ts hx,fx];rfl
  ·rw [ts hx,fx];exact(List.append_nil _).symm
 ·have e:i=xs.length:=by omega
  subst e
  rw [List.take_length] at q ⊢
  exact .inl ⟨⟨xs,q,Nat.le_refl _⟩,hd⟩
theorem two_pow_pos (n:Nat):(0:Int)<2 ^ n:=by
 induction n with
 | zero=>decide
 | succ n ih=>rw [Int.pow_succ];omega
theorem yt {m n:Nat} (h:m≤n):(2:Int) ^ m≤2 ^ n:=by
 induction n with
 | zero=>
      have:m=0:=by omega
      subst this;exact Int.le_refl _
 | succ n ih=>
  by_cases e:m=n+1
  ·subst e;exact Int.le_refl _
  ·have:=ih (by omega)
   have:=two_pow_pos n
   rw [Int.pow_succ]
   omega
theorem VP {bells late steps r:Int} (l0:0≤late) (s0:0≤steps) (r0:0≤r) (r1:r<late+1):cnt (bells+steps*(late+1)+r) bells late=ch (steps+bells) bells:=by
 have h:=Int.mul_nonneg s0 (show 0≤late+1 by omega)
 unfold cnt
 rw [if_neg (by omega),show bells+steps*(late+1)+r-bells=r+steps*(late+1) by omega,Int.add_mul_ediv_right _ _ (by omega),Int.ediv_eq_zero_of_lt r0 r1,Int.zero_add]
noncomputable def SN:Str:=" abcdefghijklmnopqrstuvwxyz"
theorem zal:SN.length=27:=by decide +kernel
theorem zam:SN.length≤sizeLine:=by rw [zal];exact Nat.le_of_lt (small1000 (by decide))
theorem za1:∀k:Fin 27,SN.cps.toList[k.val]?=some (sg.getD ((k.val+26) % 27) 0):=by decide +kernel
theorem zan (c:Nat) (l:List Nat):(⟨#[c]⟩:Str)++tx l=tx (c::l):=by
 show (⟨#[c]++l.toArray⟩:Str)=⟨(c::l).toArray⟩
 simp
section
noncomputable def XD:Sp:=fun vs H Q _=>vs=[]∧Q (.int qM) H
theorem VR {i:Nat} (h:i≤60):intBits (tops i)≤300:=by
 have h1:=Qv h
 have h2:=vW i
 rw [ZJ] at h1
 have e:qM<2 ^ 300:=by decide +kernel
 exact zq h2 (by omega)
theorem j4:FnScope ["number","k"] [] (defScope jt):=⟨rfl,rfl,rfl,by decide +kernel,rfl,by decide +kernel,by decide +kernel⟩
theorem W9 (D:Def K mg "_law_most" jt []) (T:Txt K mg):Fn P w K mg base 1 "_law_most" [] XD:=by
 refine D.fn j4 (fun vs H Q E h=>?_) (fun f cdv A outer s H vs Q E hr h=>?_)
 ·obtain⟨rfl,_⟩:=h
  rfl
 ·obtain⟨rfl,q⟩:=h
  refine⟨_,(pss_cons (ps_set (i:=0) j4.nd rfl (Or.inl rfl) pe_int)
   (pss_cons (ps_for PassesOwn.never rfl (pi_range1 (by rfl) T.z_range (pa_cons pe_int pa_nil)) (pg_name (i:=1) j4.nd rfl (Or.inl rfl))
    (pss_one (ps_set (i:=0) j4.nd rfl (Or.inl rfl) (pe_op zf (pe_op z9 (pv 0) pe_int) pe_int))))
   (pss_one (ps_ret (pv 0))))),?_⟩
  refine⟨60,rfl,by decide,by decide,for_range (n:=60) (fun i σ H'=>∃v,σ=[some (.int (tops i)),v]∧H'=H) ⟨none,rfl,rfl⟩ ?_ ?_⟩
  ·rintro i σ H' hi ⟨v,rfl,rfl⟩
   refine⟨_,rfl,_,_,rfl,rfl,⟨300,5,VR (by omega),by decide,by decide⟩,_,_,rfl,rfl,some (.int (0+i)),?_,rfl⟩
   rw [wz,show 27+27*tops i=tops i*27+27 by omega]
   rfl
  ·rintro σ H' ⟨v,rfl,rfl⟩
   refine⟨_,rfl,?_⟩
   rw [ZJ]
   exact q
noncomputable def We:Sp:=fun vs H Q _=>∃n k:Int,vs=[.int n,.int k]∧0≤n∧0≤k∧k≤n+1∧k≤1000∧intBits n≤100000∧Q (.int (ch n k)) H
theorem jC:FnScope ["n","k","number","j"] ["n","k"] (defScope qP):=⟨rfl,rfl,rfl,by decide +kernel,rfl,by decide +kernel,by decide +kernel⟩
theorem zao (D:Def K mg "_law_choose" qP ["n","k"]) (T:Txt K mg):Fn P w K mg base 1 "_law_choose" ["n","k"] We:=by
 refine D.fn jC (fun vs H Q E h=>?_) (fun f cdv A outer s H vs Q E hr h=>?_)
 ·obtain⟨n,k,rfl,_⟩:=h
  rfl
 ·obtain⟨n,k,rfl,hn,hk,hkn,hk2,hb,q⟩:=h
  refine⟨_,(pss_cons (ps_set (i:=2) jC.nd rfl (Or.inl rfl) pe_int)
   (pss_cons (ps_for PassesOwn.never rfl (pi_range1 (by rfl) T.z_range (pa_cons (pv 1) pa_nil)) (pg_name (i:=3) jC.nd rfl (Or.inl rfl))
    (pss_one (ps_set (i:=2) jC.nd rfl (Or.inl rfl) (pe_op zR (pe_op z9 (pv 2) (pe_op zB (pv 0) (pv 3))) (pe_op zf (pv 3) pe_int)))))
   (pss_one (ps_ret (pv 2))))),?_⟩
  refine⟨_,rfl,k,rfl,by omega,by omega,for_range (n:=k.toNat) (fun i σ H'=>∃v,σ=[some (.int n),some (.int k),some (.int (ch n i)),v]∧H'=H) ⟨none,?_,rfl⟩ ?_ ?_⟩
  ·have e:=kY n
   show _=[some (V.int n),some (V.int k),some (V.int (ch n 0)),none]
   rw [e]
   rfl
  ·rintro i σ H' hi ⟨v,rfl,rfl⟩
   have hi':(i:Int)<k:=by omega
   refine⟨_,rfl,_,rfl,_,rfl,_,_,rfl,rfl,_,_,rfl,rfl,?_,_,rfl,_,_,rfl,rfl,_,_,rfl,rfl,?_,?_⟩
   ·refine⟨100000*i+1,100000,Zc hb hn,?_,by omega⟩
    exact intBits_le_of_natAbs (by omega) hb
   ·exact⟨by omega,zq (by omega) (by omega)⟩
   ·have e:=XS (n:=n) (i:=i) (by omega)
    have e0:(0:Int)+(i:Int)=(i:Int):=by omega
    refine⟨some (.int (0+(i:Int))),?_,rfl⟩
    rw [e0,e]
    rfl
  ·rintro σ H' ⟨v,rfl,rfl⟩
   refine⟨_,rfl,?_⟩
   have e:((k.toNat:Nat):Int)=k:=by omega
   rw [e]
   exact q
noncomputable def Vk:Sp:=fun vs H Q _=>∃n:Nat,vs=[.int n]∧(n:Int)≤qM∧Q (.str (tx (chs n).reverse)) H
theorem qU:FnScope ["number","signs","note","place"] ["number"] (defScope ju):=⟨rfl,rfl,rfl,by decide +kernel,rfl,by decide +kernel,by decide +kernel⟩
theorem Wf (D:Def K mg "_law_note" ju ["number"]) (T:Txt K mg):Fn P w K mg base 1 "_law_note" ["number"] Vk:=by
 refine D.fn qU (fun vs H Q E h=>?_) (fun f cdv A outer s H vs Q E hr h=>?_)
 ·obtain⟨n,rfl,_⟩:=h
  rfl
 ·obtain⟨n,rfl,hn,q⟩:=h
  refine⟨_,(pss_cons (ps_set (i:=1) qU.nd rfl (Or.inl rfl) pe_str)
   (pss_cons (ps_set (i:=2) qU.nd rfl (Or.inl rfl) pe_str)
   (pss_cons (ps_while PassesOwn.never (pt_cmpR jH (pv 0) pe_int (nomark _))
    (pss_cons (ps_set (i:=3) qU.nd rfl (Or.inl rfl) (pe_op zT (pv 0) pe_int))
    (pss_cons (ps_set (i:=2) qU.nd rfl (Or.inl rfl) (pe_op op_add_str (pe_ix ix_str (pv 1) (pv 3) (fun _ _=>rfl)) (pv 2)))
    (pss_one (ps_set (i:=0) qU.nd rfl (Or.inl rfl) (pe_op zR (pe_op zB (pv 0) pe_int) pe_int))))))
   (pss_one (ps_ret (pv 2)))))),?_⟩
  refine while_by (fun σ H'=>∃(m:Nat) (cs:List Nat) (v:Option V),σ=[some (.int m),some (.str SN),some (.str (tx cs.reverse)),v]∧H'=H∧cs++chs m=chs n∧(m:Int)≤qM) (fun(σ:L2.St) (_:Hp)=>match σ[0]? with | some (some (V.int m))=>m.toNat | _=>0) ⟨n,[],none,rfl,rfl,rfl,hn⟩ ?_ (fun σ H Q Q' m h=>?_)
  ·rintro σ H' ⟨m,cs,v,rfl,rfl,ec,hm⟩
   refine⟨_,rfl,_,_,rfl,rfl,_,rfl,ifD (fun z=>?_) (fun z=>?_)⟩
   ·have m0:0<m:=by omega
    have zcJ:cs.length+1≤60:=by
     have:=Q9 hn
     rw [← ec,List.length_append,yq m0,List.length_cons] at this
     omega
    have hk:m % 27<27:=Nat.mod_lt _ (by decide)
    have ea:atI SN.cps.toList ((m % 27:Nat):Int)=some (sg.getD ((m-1) % 27) 0):=by
     refine atI_nat ?_
     rw [za1 ⟨m % 27,hk⟩,show (m % 27+26) % 27=(m-1) % 27 by omega]
    refine⟨_,rfl,_,_,rfl,rfl,(by decide),_,rfl,_,rfl,SN,((m % 27:Nat):Int),_,rfl,rfl,zam,ea,_,rfl,_,_,rfl,rfl,?_,?_⟩
    ·rw [zai,List.length_reverse]
     exact Nat.le_of_lt (small1000 (by show 1+cs.length≤1000;omega))
    rw [zan]
    refine⟨_,rfl,_,_,rfl,rfl,_,_,rfl,rfl,⟨by decide,by decide⟩,?_⟩
    refine⟨⟨(m-1) / 27,cs++[sg.getD ((m-1) % 27) 0],some (.int ((m:Int) % 27)),?_,rfl,?_,by omega⟩,?_⟩
    ·rw [List.reverse_append,show ((m:Int)-1) / 27=(((m-1) / 27:Nat):Int) by omega]
     rfl
    ·rw [List.append_assoc,← ec,yq m0];rfl
    ·show (((m:Int)-1) / 27).toNat<((m:Nat):Int).toNat
     omega
   ·have m0:m=0:=by omega
    subst m0
    rw [yo,List.append_nil] at ec
    subst ec
    exact⟨_,rfl,q⟩
  ·obtain⟨v,hv,a,b,e1,e2,c,e3,r⟩:=h
   exact⟨v,hv,a,b,e1,e2,c,e3,m _ _ r⟩
noncomputable def Wg (K:W.Frag):Sp:=fun vs H Q _=>∃(a:Addr) (ms:List Int) (b:Int),vs=[.ref a,.int b]∧SqL K H a (ms.map V.int)∧ms.length≤1000∧1≤b∧b≤2 ^ 40∧(∀m∈ms,1≤m∧m≤b)∧Q (.int (val b (ms.map (·-1)))) H
theorem ZK {b:Int} (b1:1≤b) (b2:b≤2 ^ 40){ms:List Int} (hm:∀m∈ms,1≤m∧m≤b) (hl:ms.length≤1000):0≤val b (ms.map (·-1))∧intBits (val b (ms.map (·-1)))≤40000:=by
 have hb:∀x∈ms.map (·-1),0≤x∧x<b:=fun x hx=>by
  obtain⟨m,h1,rfl⟩:=List.mem_map.mp hx
  have:=hm m h1
  omega
 have h1:=vD (show 0≤b by omega) _ fun x hx=>(hb x hx).1
 have h2:=K4 b1 _ hb
 refine⟨h1,zq h1 (Int.lt_of_lt_of_le h2 ?_)⟩
 rw [List.length_map]
 have h3:b ^ ms.length≤((2:Int) ^ 40) ^ ms.length:=by
  clear h1 h2 hb hm hl
  induction ms.length with
  | zero=>rw [Int.pow_zero,Int.pow_zero];exact Int.le_refl _
  | succ k ih=>
   rw [Int.pow_succ,Int.pow_succ]
   have hp:0≤b ^ k:=Int.pow_nonneg (by omega)
   exact Int.mul_le_mul ih b2 (by omega) (Int.le_trans hp ih)
 refine Int.le_trans h3 ?_
 rw [← Int.pow_mul]
 exact yt (by omega)
theorem xP:FnScope ["messages","base","number","message"] ["messages","base"] (defScope jU):=⟨rfl,rfl,rfl,by decide +kernel,rfl,by decide +kernel,by decide +kernel⟩
theorem Yb (D:Def K mg "_law_sum" jU ["messages","base"]) (T:Txt K mg):Fn P w K mg base 1 "_law_sum" ["messages","base"] (Wg K):=by
 refine D.fn xP (fun vs H Q E h=>?_) (fun f cdv A outer s H vs Q E hr h=>?_)
 ·obtain⟨a,ms,b,rfl,_⟩:=h
  rfl
 ·obtain⟨a,ms,b,rfl,hS,hl,b1,b2,hm,q⟩:=h
  refine⟨_,(pss_cons (ps_set (i:=2) xP.nd rfl (Or.inl rfl) pe_int)
   (pss_cons (ps_for PassesOwn.never rfl (zad (by rfl) T.z_reversed (pa_cons (pv 0) pa_nil)) (pg_name (i:=3) xP.nd rfl (Or.inl rfl))
    (pss_one (ps_set (i:=2) xP.nd rfl (Or.inl rfl) (pe_op zB (pe_op zf (pe_op z9 (pv 2) (pv 1)) (pv 3)) pe_int))))
   (pss_one (ps_ret (pv 2))))),?_⟩
  have bb:intBits b≤41:=zq (by omega) (Int.lt_of_le_of_lt b2 (by decide))
  refine⟨_,rfl,a,ms.map V.int,rfl,hS,WQ (K:=K) (a:=a) (xs:=ms.map V.int) (fun i σ H2=>∃v,σ=[some (.ref a),some (.int b),some (.int (val b ((ms.drop (ms.length-i)).map (·-1)))),v]∧H2=H) ⟨none,?_,rfl⟩ (fun i σ H2 _ ⟨_,_,e⟩=>by rw [e];exact hS) ?_ ?_⟩
  ·rw [Nat.sub_zero,List.drop_length]
   rfl
  ·rintro i x σ H2 hx ⟨v,rfl,rfl⟩
   rw [← List.map_reverse,List.getElem?_map] at hx
   obtain⟨m,hm2,rfl⟩:=Option.map_eq_some_iff.mp hx
   have hi:i<ms.length:=by have:=(List.getElem?_eq_some_iff.mp hm2).1;rw [List.length_reverse] at this;exact this
   rw [List.getElem?_reverse hi] at hm2
   have vb:=ZK b1 b2 (ms:=ms.drop (ms.length-i)) (fun m h=>hm m (List.mem_of_mem_drop h)) (by rw [List.length_drop];omega)
   refine⟨_,rfl,_,rfl,_,_,rfl,rfl,⟨40000,41,vb.2,bb,by decide⟩,_,rfl,_,_,rfl,rfl,_,_,rfl,rfl,some (.int m),?_,rfl⟩
   have ed:ms.drop (ms.length-(i+1))=m::ms.drop (ms.length-i):=by
    have h1:ms.length-(i+1)<ms.length:=by omega
    have h2:=(List.getElem?_eq_some_iff.mp hm2).2
    rw [List.drop_eq_getElem_cons h1,show ms.length-(i+1)+1=ms.length-i by omega]
    congr 1
    rw [← h2]
    congr 1
    omega
   rw [ed]
   show [_,_,some (V.int (val b ((ms.drop (ms.length-i)).map (·-1))*b+m-1)),_]=[_,_,some (V.int ((m-1)+b*val b ((ms.drop (ms.length-i)).map (·-1)))),_]
   rw [Int.mul_comm b,show val b ((ms.drop (ms.length-i)).map (·-1))*b+m-1=(m-1)+val b ((ms.drop (ms.length-i)).map (·-1))*b by omega]
  ·rintro σ H2 ⟨v,rfl,rfl⟩
   rw [List.length_map,Nat.sub_self,List.drop_zero]
   exact⟨_,rfl,q⟩
noncomputable def ZL (bells late steps:Int) (ns:List Int):Prop:=(ns.length:Int)=bells∧jd (zV late ns)∧∀x∈zV late ns,x≤steps
noncomputable def XF (bells late steps:Int) (ns:List Int):Int:=open Classical in if ZL bells late steps ns then vg (zV late ns) else -1
theorem JT {bells late steps:Int}{ns:List Int} (h:ZL bells late steps ns):XF bells late steps ns=vg (zV late ns):=by unfold XF;rw [if_pos h]
theorem JV {bells late steps:Int}{ns:List Int} (h:¬ZL bells late steps ns):XF bells late steps ns=-1:=by unfold XF;rw [if_neg h]
noncomputable def za2 (K:W.Frag):Sp:=fun vs H Q _=>∃(a:Addr) (ns:List Int) (bells late steps:Int),vs=[.ref a,.int bells,.int late,.int steps]∧SqL K H a (ns.map V.int)∧0≤bells∧bells≤60∧0≤late∧intBits late≤100∧intBits steps≤200∧Q (.int (XF bells late steps ns)) H
theorem zW:FnScope ["part","bells","late","steps","number","before","k","box"] ["part","bells","late","steps"] (defScope qH):=⟨rfl,rfl,rfl,by decide +kernel,rfl,by decide +kernel,by decide +kernel⟩
theorem Yc (D:Def K mg "_law_message" qH ["part","bells","late","steps"]) (T:Txt K mg) (qK:Fn P w K mg base 1 "_law_choose" ["n","k"] We):Fn P w K mg base 2 "_law_message" ["part","bells","late","steps"] (za2 K):=by
 refine D.fn zW (fun vs H Q E h=>?_) (fun f cdv A outer s H vs Q E hr h=>?_)
 ·obtain⟨a,ns,b,l,st,rfl,_⟩:=h
  rfl
 ·obtain⟨a,ns,bells,late,steps,rfl,hS,b0,b60,l0,lb,sb,q⟩:=h
  have q1:ZL bells late steps ns→Q (.int (vg (zV late ns))) H:=fun g=>by rw [← JT g];exact q
  have q2:¬ZL bells late steps ns→Q (.int (-1)) H:=fun g=>by rw [JV g] at q;exact q
  refine⟨_,(pss_cons (ps_if (pt_cmpR Qy (pe_callB call_len_seq (by rfl) T.z_len xJ (pa_cons (pv 0) pa_nil)) (pv 1) (nomark _))
    (pss_one (ps_ret (pe_un un_neg pe_int)))
    pss_nil)
   (pss_cons (ps_set (i:=4) zW.nd rfl (Or.inl rfl) pe_int)
   (pss_cons (ps_set (i:=5) zW.nd rfl (Or.inl rfl) pe_int)
   (pss_cons (ps_for PassesOwn.never rfl (pi_range1 (by rfl) T.z_range (pa_cons (pv 1) pa_nil)) (pg_name (i:=6) zW.nd rfl (Or.inl rfl))
    (pss_cons (ps_set (i:=7) zW.nd rfl (Or.inl rfl) (pe_op zR (pe_op zB (pe_ix ix_list (pv 0) (pv 6) (fun _ _=>rfl)) (pv 6)) (pe_op zf (pv 2) pe_int)))
    (pss_cons (ps_if (pw_or (pt_cmpR vp (pv 7) (pv 5) (nomark _)) (pw_or1 (pt_cmpR jH (pv 7) (pv 3) (nomark _)))).pt
     (pss_one (ps_ret (pe_un un_neg pe_int)))
     pss_nil)
    (pss_cons (ps_set (i:=5) zW.nd rfl (Or.inl rfl) (pv 7))
    (pss_one (ps_set (i:=4) zW.nd rfl (Or.inl rfl) (pe_op zf (pv 4) (zJ qK (hr.mono (by decide)) (by rfl) (pa_cons (pe_op zf (pv 7) (pv 6)) (pa_cons (pe_op zf (pv 6) pe_int) pa_nil))))))))))
   (pss_one (ps_ret (pv 4))))))),?_⟩
  have lb1:intBits (late+1)≤9000:=zc (intBits_add_le (m:=100) (n:=1) lb (by decide)) (by decide)
  have el:(((ns.map V.int).length:Nat):Int)=(ns.length:Int):=by rw [List.length_map]
  refine⟨_,rfl,_,_,rfl,.inl hS,_,rfl,_,_,rfl,rfl,_,rfl,YK (fun z=>⟨_,rfl,q2 fun g=>z (el.trans g.1)⟩) (fun z=>?_)⟩
  have hlen:(ns.length:Int)=bells:=el.symm.trans z
  refine⟨_,rfl,_,rfl,by omega,by omega,for_range (n:=bells.toNat) (fun i σ H2=>∃(before:Int) (v6 v7:Option V),σ=[some (.ref a),some (.int bells),some (.int late),some (.int steps),some (.int (jc (zV late ns) i)),some (.int before),v6,v7]∧H2=H∧0≤before∧(before=0∨before∈(zV late ns).take i)∧((zV late ns).take i).Pairwise (·≤·)∧∀x∈(zV late ns).take i,0≤x∧x≤before∧x≤steps) ⟨0,none,none,rfl,rfl,Int.le_refl _,.inl rfl,List.Pairwise.nil,fun _ z=>nomatch z⟩ ?_ ?_⟩
  ·rintro i σ H2 hi ⟨before,v6,v7,rfl,rfl,bf0,bfm,pw,pb⟩
   have hil:i<ns.length:=by omega
   have hx:ns[i]?=some ns[i]:=List.getElem?_eq_getElem hil
   have g:=yD (ns:=ns) hx
   have hb:=JL (late:=late) hx
   generalize ns[i]=t at hx g hb
   rw [show (0:Int)+(i:Int)=(i:Int) by omega]
   refine⟨_,rfl,_,rfl,_,_,_,_,rfl,rfl,hS,g,_,rfl,_,_,rfl,rfl,_,rfl,_,_,rfl,rfl,_,_,rfl,rfl,⟨by omega,lb1⟩,?_⟩
   generalize (t-(i:Int)) / (late+1)=x at hb ⊢
   have xm:x∈zV late ns:=List.mem_of_getElem? hb
   refine⟨_,rfl,_,rfl,_,_,rfl,rfl,_,rfl,ifD (fun z1=>⟨_,rfl,q2 fun g=>?_⟩) (fun z1=>⟨_,rfl,_,rfl,_,_,rfl,rfl,_,rfl,ifD (fun z2=>⟨_,rfl,q2 fun g=>?_⟩) (fun z2=>?_)⟩)⟩
   ·rcases bfm with e | e
    ·have:=g.2.1.nn x xm
     omega
    ·obtain⟨j,hj⟩:=List.getElem?_of_mem e
     have hji:j<i:=by
      have:=(List.getElem?_eq_some_iff.mp hj).1
      rw [List.length_take] at this
      omega
     rw [List.getElem?_take_of_lt hji] at hj
     have:=g.2.1.get (Nat.le_of_lt hji) hj hb
     omega
   ·have:=g.2.2 x xm
    omega
   have ed:(zV late ns).getD i 0=x:=by rw [List.getD_eq_getElem?_getD,hb];rfl
   have et:(zV late ns).take (i+1)=(zV late ns).take i++[x]:=by rw [List.take_add_one,hb];rfl
   have sb1:intBits (steps+1)≤300:=zc (intBits_add_le (m:=200) (n:=1) sb (by decide)) (by decide)
   have xb:intBits (x+(i:Int))≤100000:=zc (intBits_add_le (m:=300) (n:=64) (yj (y:=steps+1) (by omega) (by omega) sb1) (zq (by omega) (by omega))) (by decide)
   refine⟨_,rfl,_,rfl,_,rfl,_,rfl,_,_,rfl,rfl,_,rfl,_,_,rfl,rfl,_,_,rfl,by omega,by omega,by omega,by omega,xb,_,_,rfl,rfl,x,some (.int (i:Int)),some (.int x),?_,rfl,by omega,.inr (by rw [et];simp),?_,?_⟩
   ·show [_,_,_,_,some (V.int (jc (zV late ns) i+ch (x+(i:Int)) ((i:Int)+1))),_,_,_]=[_,_,_,_,some (V.int (jc (zV late ns) i+ch ((zV late ns).getD i 0+(i:Int)) ((i:Int)+1))),_,_,_]
    rw [ed]
   ·rw [et,List.pairwise_append]
    refine⟨pw,List.pairwise_singleton _ _,fun y hy z hz=>?_⟩
    rw [List.mem_singleton.mp hz]
    have:=(pb y hy).2.1
    omega
   ·intro y hy
    rw [et] at hy
    rcases List.mem_append.mp hy with h1 | h1
    ·have:=pb y h1
     omega
    ·rw [List.mem_singleton.mp h1]
     omega
  ·rintro σ H2 ⟨before,v6,v7,rfl,rfl,bf0,bfm,pw,pb⟩
   have e:(zV late ns).take bells.toNat=zV late ns:=List.take_of_length_le (by rw [jW];omega)
   rw [e] at pw pb
   have en:jc (zV late ns) bells.toNat=vg (zV late ns):=by
    unfold vg
    rw [jW,show bells.toNat=ns.length by omega]
   refine⟨_,rfl,?_⟩
   rw [en]
   exact q1 ⟨hlen,⟨pw,fun x hx=>(pb x hx).1⟩,fun x hx=>(pb x hx).2.2⟩
end
theorem Wh {turns bells late:Int} (b1:1≤bells) (bt:bells≤turns) (l0:0≤late){ns:List Int}:ZL bells late ((turns-bells) / (late+1)) ns↔GoodR turns bells late ns:=by
 have e:((zV late ns).length:Int)=(ns.length:Int):=by rw [jW]
 refine⟨fun⟨h1,h2,h3⟩=>⟨h1,h2,?_⟩,fun⟨h1,h2,h3⟩=>⟨h1,h2,fun x hx=>?_⟩⟩
 ·have:=Xw h2 (turns:=turns) l0 (by omega) (by rw [e,h1];exact h3)
  rw [e,h1] at this
  exact this
 ·by_cases z:x≤(turns-bells) / (late+1)
  ·exact z
  ·exfalso
   have ne:zV late ns≠[]:=fun z=>by rw [z] at hx;cases hx
   have eb:=(List.dropLast_concat_getLast ne).symm
   have hy:x≤(zV late ns).getLast ne:=by
    have pw:=h2.inc
    rw [eb] at pw hx
    rcases List.mem_append.mp hx with m | m
    ·exact(List.pairwise_append.mp pw).2.2 x m _ (List.mem_singleton_self _)
    ·rw [List.mem_singleton.mp m]
     exact Int.le_refl _
   have:=Xx h2 (turns:=turns) l0 eb (by rw [e,h1];omega)
   rw [e,h1] at this
   omega
noncomputable def vX (L:Int) (rd:List Int):Nat→Nat
 | 0=>0
 | m+1=>vX L rd m+(grp L (m:Int) rd).length
theorem JW (L:Int):∀m,vX L [] m=0
 | 0=>rfl
 | m+1=>by show vX L [] m+0=0;rw [JW L m]
theorem JX (L:Int) (a b:List Int):∀m,vX L (a++b) m=vX L a m+vX L b m
 | 0=>rfl
 | m+1=>by
  show vX L (a++b) m+(grp L (m:Int) (a++b)).length=vX L a m+(grp L (m:Int) a).length+(vX L b m+(grp L (m:Int) b).length)
  rw [JX L a b m,jL,List.length_append]
  omega
theorem ZM (L t:Int):∀m,vX L [t] m=0∨(vX L [t] m=1∧t / L<(m:Int))
 | 0=>.inl rfl
 | m+1=>by
  show vX L [t] m+(grp L (m:Int) [t]).length=0∨(vX L [t] m+(grp L (m:Int) [t]).length=1∧t / L<((m+1:Nat):Int))
  by_cases e:t / L=(m:Int)
  ·rw [jM e]
   rcases ZM L t m with h | h
   ·rw [h]
    exact .inr ⟨rfl,by omega⟩
   ·omega
  ·rw [jN e]
   rcases ZM L t m with h | h
   ·rw [h]
    exact .inl rfl
   ·exact .inr ⟨h.1,by omega⟩
theorem Vl (L:Int) (m:Nat):∀rd:List Int,vX L rd m≤rd.length
 | []=>by rw [JW];exact Nat.zero_le _
 | t::r=>by
  have h:=JX L [t] r m
  have ih:=Vl L m r
  have h1:=ZM L t m
  show vX L ([t]++r) m≤r.length+1
  omega
theorem Vm (L:Int) (rd:List Int):∀m,(∀i:Nat,i<m→grp L (i:Int) rd≠[])→m≤vX L rd m
 | 0,_=>Nat.zero_le _
 | m+1,h=>by
  have ih:=Vm L rd m fun i hi=>h i (by omega)
  have h1:=List.length_pos_iff.mpr (h m (by omega))
  show m+1≤vX L rd m+(grp L (m:Int) rd).length
  omega
theorem least {p:Nat→Prop}:∀N:Nat,¬p N→∃n,n≤N∧(∀i,i<n→p i)∧¬p n
 | 0,h=>⟨0,Nat.le_refl _,fun _ z=>absurd z (Nat.not_lt_zero _),h⟩
 | N+1,h=>by
  by_cases e:∃i,i≤N∧¬p i
  ·obtain⟨i,hi,hp⟩:=e
   obtain⟨n,h1,h2,h3⟩:=least i hp
   exact⟨n,by omega,h2,h3⟩
  ·refine⟨N+1,Nat.le_refl _,fun i hi=>?_,h⟩
   by_cases z:p i
   ·exact z
   ·exact absurd ⟨i,by omega,z⟩ e
termination_by N=>N
theorem Yd {turns bells late:Int} (b1:1≤bells) (rd:List Int):∃n,n≤rd.length∧(∀i:Nat,i<n→GoodR turns bells late (grp (turns+late) (i:Int) rd)∧z6 turns late rd i≠0)∧¬(GoodR turns bells late (grp (turns+late) (n:Int) rd)∧z6 turns late rd n≠0):=by
 have h:∃N,N≤rd.length∧¬(GoodR turns bells late (grp (turns+late) (N:Int) rd)∧z6 turns late rd N≠0):=by
  by_cases e:∃i:Nat,i≤rd.length∧grp (turns+late) (i:Int) rd=[]
  ·obtain⟨i,hi,z⟩:=e
   refine⟨i,hi,fun g=>?_⟩
   have:=g.1.1
   rw [z] at this
   have:(0:Int)=bells:=this
   omega
  ·have h1:=Vm (turns+late) rd (rd.length+1) fun i hi z=>e ⟨i,by omega,z⟩
   have h2:=Vl (turns+late) (rd.length+1) rd
   omega
 obtain⟨N,hN,hp⟩:=h
 obtain⟨n,h1,h2,h3⟩:=least (p:=fun n=>GoodR turns bells late (grp (turns+late) (n:Int) rd)∧z6 turns late rd n≠0) N hp
 exact⟨n,by omega,h2,h3⟩
noncomputable def pf (L k:Int):V→Option V
 | .int t=>if k*L≤t∧t<k*L+L then some (.int (t-k*L)) else none
 | _=>none
theorem Wi {L:Int} (hL:0<L) (k:Int):∀rd:List Int,(rd.map V.int).filterMap (pf L k)=(grp L k rd).map V.int
 | []=>rfl
 | t::r=>by
  have ih:=Wi hL k r
  have eg:grp L k (t::r)=grp L k [t]++grp L k r:=jL L k [t] r
  rw [eg,List.map_append,← ih,List.map_cons]
  by_cases e:t / L=k
  ·have h1:=Int.emod_add_mul_ediv t L
   have h2:=Int.emod_nonneg t (show L≠0 by omega)
   have h3:=Int.emod_lt_of_pos t hL
   rw [e] at h1
   rw [Int.mul_comm L k] at h1
   rw [jM e,List.filterMap_cons_some (b:=V.int (t-k*L)) (by show (if k*L≤t∧t<k*L+L then some (V.int (t-k*L)) else none)=_;rw [if_pos (by omega)]),show t % L=t-k*L by omega]
   rfl
  ·have hn:¬(k*L≤t∧t<k*L+L):=fun⟨h1,h2⟩=>e (by
    have a:=(Int.le_ediv_iff_mul_le hL).mpr h1
    have b:=(Int.ediv_lt_iff_lt_mul hL).mpr (show t<(k+1)*L by rw [Int.add_mul,Int.one_mul];exact h2)
    omega)
   rw [jN e,List.filterMap_cons_none (by show (if k*L≤t∧t<k*L+L then some (V.int (t-k*L)) else none)=none;rw [if_neg hn])]
   rfl
theorem V0 (xs:List V) (x:V):cutV (xs++[x]) none (some (-1))=xs:=by
 have e:HT.sIx (xs.length+1) (xs.length+1) (some (-1))=xs.length:=by
  unfold HT.sIx
  dsimp only
  rw [if_pos (by decide)];omega
 have e0:HT.sIx (xs.length+1) 0 none=0:=rfl
 unfold cutV
 rw [List.length_append,List.length_singleton,e,e0,List.drop_zero,Nat.sub_zero,List.take_left']
 rfl
section
noncomputable def valN (turns bells late:Int) (rd:List Int) (n:Nat):Int:=val (cnt turns bells late-1) ((List.range n).map fun i=>z6 turns late rd i-1)
structure zap (rd:List Int) (turns bells late:Int) (n:Nat):Prop where
 ok:zak rd turns bells late n
 b1:1≤bells
 bt:bells≤turns
 c3:3≤cnt turns bells late
 c40:cnt turns bells late≤2 ^ 40
 stop:¬(GoodR turns bells late (grp (turns+late) (n:Int) rd)∧z6 turns late rd n≠0)
noncomputable def YH (K:W.Frag):Sp:=fun vs H Q _=>∃(a:Addr) (rd:List Int) (turns bells late:Int) (n:Nat),vs=[.ref a,.int turns,.int bells,.int late]∧SqL K H a (rd.map V.int)∧zap rd turns bells late n ∧
 ((GoodR turns bells late (grp (turns+late) (n:Int) rd)∧valN turns bells late rd n≤qM)→∀H',Same H H'→Q (.str (tx (chs (valN turns bells late rd n).toNat).reverse)) H') ∧
 (¬(GoodR turns bells late (grp (turns+late) (n:Int) rd)∧valN turns bells late rd n≤qM)→∀H',Same H H'→Q .non H')
theorem qi:FnScope ["reading","turns","bells","late","span","steps","found","message","begin","part","number"] ["reading","turns","bells","late"] (defScope jV):=⟨rfl,rfl,rfl,by decide +kernel,rfl,by decide +kernel,by decide +kernel⟩
theorem Ye (D:Def K mg "_law_due" jV ["reading","turns","bells","late"]) (T:Txt K mg) (ZP:Fn P w K mg base 2 "_law_message" ["part","bells","late","steps"] (za2 K)) (XH:Fn P w K mg base 1 "_law_sum" ["messages","base"] (Wg K)) (qK:Fn P w K mg base 1 "_law_choose" ["n","k"] We) (jk:Fn P w K mg base 1 "_law_most" [] XD) (JZ:Fn P w K mg base 1 "_law_note" ["number"] Vk):Fn P w K mg base 3 "_law_due" ["reading","turns","bells","late"] (YH K):=by
 refine D.fn qi (fun vs H Q E h=>?_) (fun f cdv A outer s H vs Q E hr h=>?_)
 ·obtain⟨a,rd,t,b,l,n,rfl,_⟩:=h
  rfl
 ·obtain⟨a,rd,turns,bells,late,n,rfl,hS,R,q1,q2⟩:=h
  obtain⟨⟨rl,b0,b60,l0,lb,L0,t0,tb,n100,good⟩,b1,bt,c3,c40,stop⟩:=R
  refine⟨_,(pss_cons (ps_set (i:=4) qi.nd rfl (Or.inr rfl) (pe_op zf (pv 1) (pv 3)))
   (pss_cons (ps_set (i:=5) qi.nd rfl (Or.inl rfl) (pe_op zR (pe_op zB (pv 1) (pv 2)) (pe_op zf (pv 3) pe_int)))
   (pss_cons (ps_set (i:=6) qi.nd rfl (Or.inl rfl) (pe_lst pa_nil))
   (pss_cons (ps_set (i:=7) qi.nd rfl (Or.inl rfl) pe_int)
   (pss_cons (ps_while PassesOwn.never (pt_cmpR jH (pv 7) pe_int (nomark _))
    (pss_cons (ps_set (i:=8) qi.nd rfl (Or.inr rfl) (pe_op z9 (pe_callB call_len_seq (by rfl) T.z_len xJ (pa_cons (pv 6) pa_nil)) (pv 4)))
    (pss_cons (QF (k:=9) (own:=["turn"]) (fr:=["begin","span"]) (ix:=[8,4]) rfl qi.nd rfl rfl ⟨rfl,rfl,rfl,rfl,rfl,rfl⟩ (pi_list (pv 0)) (fun _ _ _ _ _=>(pg_name (i:=0) (show (["turn","begin","span"]:List Str).Nodup by decide +kernel) rfl (Or.inl rfl))) (fun _ _ _ _ _=>Wq (pt_chain YJ vp (pv 1) (pv 0) (pe_op zf (pv 1) (pv 2)))) (fun _ _ _ _ _=>(pe_op zB (pv 0) (pv 1))))
    (pss_cons (ps_set (i:=7) qi.nd rfl (Or.inl rfl) (zJ ZP (hr.mono (by decide)) (by rfl) (pa_cons (pv 9) (pa_cons (pv 2) (pa_cons (pv 3) (pa_cons (pv 5) pa_nil))))))
    (pss_one (ps_expr (pe_bm PySem.F.plainAttrs_list PySem.F.slot_list_append PySem.F.type_list_append mt_append (pv 6) (pa_cons (pv 7) pa_nil))))))))
   (pss_cons (ps_set (i:=10) qi.nd rfl (Or.inl rfl) (zJ XH (hr.mono (by decide)) (by rfl) (pa_cons (pe_slice sl_list (pv 6) po_none (po_some (pe_un un_neg pe_int))) (pa_cons (pe_op zB (zJ qK (hr.mono (by decide)) (by rfl) (pa_cons (pe_op zf (pv 5) (pv 2)) (pa_cons (pv 2) pa_nil))) pe_int) pa_nil))))
   (pss_cons (ps_if (pw_or (pt_cmpR vp (pv 7) pe_int (nomark _)) (pw_or1 (pt_cmpR jH (pv 10) (V7 jk (hr.mono (by decide)) (by rfl)) (nomark _)))).pt
    (pss_one (ps_ret pe_non))
    pss_nil)
   (pss_one (ps_ret (zJ JZ (hr.mono (by decide)) (by rfl) (pa_cons (pv 10) pa_nil))))))))))),?_⟩
  have lb1:intBits (late+1)≤9000:=zc (intBits_add_le (m:=100) (n:=1) lb (by decide)) (by decide)
  have Lb:intBits (turns+late)≤200:=zc (intBits_add_le (m:=100) (n:=100) tb lb) (by decide)
  have gi:∀ns,ZL bells late ((turns-bells) / (late+1)) ns↔GoodR turns bells late ns:=fun ns=>Wh b1 bt l0
  have st0:0≤(turns-bells) / (late+1):=Int.ediv_nonneg (by omega) (by omega)
  have stT:(turns-bells) / (late+1)≤turns:=Int.le_trans (Int.ediv_le_self _ (by omega)) (by omega)
  have stb:intBits ((turns-bells) / (late+1))≤200:=yj (y:=turns+1) st0 (by omega) (zc (intBits_add_le (m:=100) (n:=1) tb (by decide)) (by decide))
  have ec:ch ((turns-bells) / (late+1)+bells) bells=cnt turns bells late:=by unfold cnt;rw [if_neg (by omega)]
  refine⟨_,rfl,_,rfl,_,_,rfl,rfl,_,rfl,_,rfl,_,_,rfl,rfl,_,rfl,_,_,rfl,rfl,_,_,rfl,rfl,⟨by omega,lb1⟩,?_⟩
  generalize (turns-bells) / (late+1)=steps at gi st0 stT stb ec ⊢
  obtain⟨lm,hlm⟩:∃lm:Nat→Int,lm=fun(i:Nat)=>XF bells late steps (grp (turns+late) (i:Int) rd):=⟨_,rfl⟩
  have lmg:∀i:Nat,GoodR turns bells late (grp (turns+late) (i:Int) rd)→lm i=z6 turns late rd i:=fun i g=>by
   rw [hlm]
   exact JT ((gi _).mpr g)
  have lmb:∀i:Nat,¬GoodR turns bells late (grp (turns+late) (i:Int) rd)→lm i=-1:=fun i g=>by
   rw [hlm]
   exact JV fun z=>g ((gi _).mp z)
  have mb:∀i:Nat,i<n→1≤lm i∧lm i≤cnt turns bells late-1:=fun i hi=>by
   obtain⟨g1,g2⟩:=good i hi
   rw [lmg i g1]
   have h1:=jy (zV late (grp (turns+late) (i:Int) rd)) (zV late (grp (turns+late) (i:Int) rd)).length
   have h2:vg (zV late (grp (turns+late) (i:Int) rd))=jc (zV late (grp (turns+late) (i:Int) rd)) (zV late (grp (turns+late) (i:Int) rd)).length:=rfl
   have h3:=g1.2.2
   unfold z6 at g2 ⊢
   omega
  have last:lm n≤0:=by
   by_cases g:GoodR turns bells late (grp (turns+late) (n:Int) rd)
   ·rw [lmg n g]
    by_cases z:z6 turns late rd n=0
    ·omega
    ·exact absurd ⟨g,z⟩ stop
   ·rw [lmb n g];decide
  refine⟨(by decide),fun p hp=>?_⟩
  refine while_by (fun σ H5=>∃(i:Nat) (v8 v9:Option V),i≤n+1∧σ=[some (.ref a),some (.int turns),some (.int bells),some (.int late),some (.int (turns+late)),some (.int steps),some (.ref p),some (.int (if i=0 then 1 else lm (i-1))),v8,v9,none]∧Same H H5∧H5 p=some (.lst ((List.range i).map fun i=>V.int (lm i))))
   (fun _ H5=>match H5 p with | some (.lst xs)=>n+1-xs.length | _=>0) ⟨0,none,none,Nat.zero_le _,rfl,Same.new hp,upd_same⟩ ?_ ?_
  ·rintro σ H5 ⟨i,v8,v9,hi,rfl,s5,h5⟩
   have Wa:((List.range i).map fun i=>V.int (lm i)).length=i:=by rw [List.length_map,List.length_range]
   refine⟨_,rfl,_,_,rfl,rfl,_,rfl,ifD (fun z=>?_) (fun z=>?_)⟩
   ·have hin:i≤n:=by
     rcases Nat.lt_or_eq_of_le hi with y | y
     ·omega
     ·subst y
      rw [if_neg (by omega),Nat.add_sub_cancel] at z
      omega
    refine⟨_,rfl,_,_,rfl,.inl (SqL.of h5),_,rfl,_,_,rfl,rfl,⟨64,200,by rw [Wa];exact zq (by omega) (by omega),Lb,by decide⟩,?_⟩
    rw [Wa]
    refine⟨_,rfl,a,rfl,⟨_,s5.seq hS⟩,fun acc hacc=>Wd (K:=K) (a:=a) (xs:=rd.map V.int) (pf (turns+late) (i:Int)) (s5.seq hS) hacc (by rw [List.length_map];exact Nat.le_of_lt (small1000 rl)) (fun j x H6 R1 R2 hx s6 h1 h2=>?_) ?_⟩
    ·rw [List.getElem?_map] at hx
     obtain⟨t,ht,rfl⟩:=Option.map_eq_some_iff.mp hx
     refine⟨rfl,_,rfl,_,rfl,_,_,rfl,rfl,_,rfl,ifD (fun z1=>⟨_,rfl,_,rfl,_,_,rfl,rfl,_,_,rfl,rfl,_,rfl,ifD (fun z2=>?_) (fun z2=>?_)⟩) (fun z1=>⟨_,rfl,iteF ?_⟩)⟩
     ·exact⟨_,rfl,_,rfl,_,_,rfl,rfl,h1 _ (if_pos ⟨z1,z2⟩)⟩
     ·exact h2 (if_neg fun h=>z2 h.2)
     ·exact h2 (if_neg fun h=>z1 h.1)
    rw [Wi L0]
    have s6:Same H (upd H5 acc (.lst ((grp (turns+late) (i:Int) rd).map V.int))):=s5.put hacc
    have h6:(upd H5 acc (.lst ((grp (turns+late) (i:Int) rd).map V.int))) acc=some (.lst ((grp (turns+late) (i:Int) rd).map V.int)):=upd_same
    have hp6:(upd H5 acc (.lst ((grp (turns+late) (i:Int) rd).map V.int))) p=some (.lst ((List.range i).map fun i=>V.int (lm i))):=(Same.new hacc) _ _ h5
    generalize upd H5 acc (.lst ((grp (turns+late) (i:Int) rd).map V.int))=H6 at s6 h6 hp6 ⊢
    refine⟨_,rfl,_,rfl,_,rfl,_,rfl,acc,grp (turns+late) (i:Int) rd,bells,late,steps,rfl,SqL.of h6,by omega,b60,l0,lb,stb,?_⟩
    rw [show XF bells late steps (grp (turns+late) (i:Int) rd)=lm i by rw [hlm]]
    refine⟨_,rfl,.inl ⟨rfl,_,SqL.of hp6⟩,_,rfl,_,_,_,rfl,rfl,hp6,by rw [Wa];exact small1000 (by omega),?_⟩
    have s7:Same H (upd H6 p (.lst (((List.range i).map fun i=>V.int (lm i))++[V.int (lm i)]))):=s6.wr hp
    have h7:(upd H6 p (.lst (((List.range i).map fun i=>V.int (lm i))++[V.int (lm i)]))) p=some (.lst ((List.range (i+1)).map fun i=>V.int (lm i))):=by
     rw [upd_same,List.range_succ,List.map_append]
     rfl
    generalize upd H6 p (.lst (((List.range i).map fun i=>V.int (lm i))++[V.int (lm i)]))=H7 at s7 h7 ⊢
    refine⟨⟨i+1,_,_,by omega,rfl,s7,h7⟩,?_⟩
    show (match H7 p with | some (.lst xs)=>n+1-xs.length | _=>0)<(match H5 p with | some (.lst xs)=>n+1-xs.length | _=>0)
    rw [h7,h5]
    show n+1-((List.range (i+1)).map fun i=>V.int (lm i)).length<n+1-((List.range i).map fun i=>V.int (lm i)).length
    rw [List.length_map,List.length_range,List.length_map,List.length_range]
    omega
   ·have e:i=n+1:=by
     rcases Nat.lt_or_eq_of_le hi with y | y
     ·by_cases i0:i=0
      ·rw [if_pos i0] at z;omega
      ·rw [if_neg i0] at z
       have:=(mb (i-1) (by omega)).1
       omega
     ·exact y
    subst e
    rw [if_neg (by omega),Nat.add_sub_cancel] at z ⊢
    have e1:cutV ((List.range (n+1)).map fun i=>V.int (lm i)) none (some (-1))=((List.range n).map lm).map V.int:=by
     rw [List.range_succ,List.map_append,List.map_cons,List.map_nil,V0,List.map_map]
     rfl
    refine⟨_,rfl,_,rfl,_,rfl,_,_,rfl,SqL.of h5,fun p2 hp2=>?_⟩
    have s8:=s5.put (o:=.lst (cutV ((List.range (n+1)).map fun i=>V.int (lm i)) none (some (-1)))) hp2
    have h8:(upd H5 p2 (.lst (cutV ((List.range (n+1)).map fun i=>V.int (lm i)) none (some (-1))))) p2=some (.lst (((List.range n).map lm).map V.int)):=by rw [upd_same,e1]
    generalize upd H5 p2 (.lst (cutV ((List.range (n+1)).map fun i=>V.int (lm i)) none (some (-1))))=H8 at s8 h8 ⊢
    have cb:intBits (steps+bells)≤100000:=zc (intBits_add_le (m:=200) (n:=64) stb (zq (by omega) (by omega))) (by decide)
    refine⟨_,rfl,_,rfl,_,_,rfl,rfl,_,rfl,steps+bells,bells,rfl,by omega,by omega,by omega,by omega,cb,?_⟩
    rw [ec]
    have hm:∀m∈(List.range n).map lm,1≤m∧m≤cnt turns bells late-1:=fun m hm=>by
     obtain⟨i,hi,rfl⟩:=List.mem_map.mp hm
     exact mb i (List.mem_range.mp hi)
    have ev:val (cnt turns bells late-1) (((List.range n).map lm).map (·-1))=valN turns bells late rd n:=by
     unfold valN
     rw [List.map_map]
     congr 1
     refine List.map_congr_left fun i hi=>?_
     show lm i-1=_
     rw [lmg i (good i (List.mem_range.mp hi)).1]
    have vb:=ZK (show 1≤cnt turns bells late-1 by omega) (by omega) hm (by rw [List.length_map,List.length_range];exact n100)
    rw [ev] at vb
    refine⟨_,_,rfl,rfl,p2,(List.range n).map lm,cnt turns bells late-1,rfl,SqL.of h8,by rw [List.length_map,List.length_range];exact n100,by omega,by omega,hm,?_⟩
    rw [ev]
    by_cases g:GoodR turns bells late (grp (turns+late) (n:Int) rd)
    ·have m0:lm n=0:=by
      rw [lmg n g]
      by_cases z:z6 turns late rd n=0
      ·exact z
      ·exact absurd ⟨g,z⟩ stop
     rw [m0]
     refine⟨_,rfl,_,_,rfl,rfl,_,rfl,iteF ⟨_,rfl,rfl,_,_,rfl,rfl,_,rfl,ifD (fun y=>?_) (fun y=>?_)⟩⟩
     ·exact q2 (fun z=>by have:=z.2;omega) _ s8
     ·obtain⟨k,hk⟩:∃k:Nat,valN turns bells late rd n=(k:Int):=⟨_,(Int.toNat_of_nonneg vb.1).symm⟩
      have q:=q1 ⟨g,by omega⟩ _ s8
      rw [hk] at q ⊢
      rw [Int.toNat_natCast] at q
      exact⟨_,rfl,k,rfl,by omega,q⟩
    ·rw [lmb n g]
     exact⟨_,rfl,_,_,rfl,rfl,_,rfl,iteT (q2 (fun z=>g z.1) _ s8)⟩
  ·intro σ H Q Q' m h
   obtain⟨v,hv,a,b,e1,e2,c,e3,r⟩:=h
   exact⟨v,hv,a,b,e1,e2,c,e3,m _ _ r⟩
end
theorem zaq (xs:List V){k:Nat} (h:k≤xs.length):cutV xs none (some (k:Int))=xs.take k:=by
 unfold cutV
 rw [HT.sIx_nat,HT.sIx_none,List.drop_zero,show min k xs.length-0=k by omega]
theorem Wj (xs:List V){k:Nat} (h:k≤xs.length):cutV xs (some (k:Int)) none=xs.drop k:=by
 unfold cutV
 rw [HT.sIx_nat,HT.sIx_none,show min k xs.length=k by omega,List.take_of_length_le (by rw [List.length_drop];omega)]
theorem at6 {xs:List V} (hl:xs.length=6) (n:Int):∃v,atI xs (n % 6)=some v∧v∈xs:=by
 have h0:=Int.emod_nonneg n (show (6:Int)≠0 by decide)
 have h1:=Int.emod_lt_of_pos n (show (0:Int)<6 by decide)
 obtain⟨k,hk⟩:∃k:Nat,n % 6=(k:Int):=⟨_,(Int.toNat_of_nonneg h0).symm⟩
 rw [hk] at h1 ⊢
 have hk2:k<xs.length:=by omega
 exact⟨xs[k],atI_nat (List.getElem?_eq_getElem hk2),List.getElem_mem hk2⟩
theorem jn2 {C P:Hp→Prop}{R:Prop} (g:(∀H,C H→P H)→R) (b:∀H,C H→P H):R:=g b
section
noncomputable def Vn (C:Addr):Sp:=fun vs H Q _=>∃x:Addr,vs=[.ref x]∧H x=some (vQ x (.ref C))∧Q (.bl false) H
theorem Z7:FnScope ["e"] ["e"] (defScope jh):=⟨rfl,rfl,rfl,by decide +kernel,rfl,by decide +kernel,by decide +kernel⟩
theorem Wk (D:Def K mg "_law_other" jh ["e"]) (T:Txt K mg){zy:Addr} (qj:mg "BellError"=some (.ref zy)){qp:Addr} (j6:mg "NoRow"=some (.ref qp)){za:Addr} (zj:mg "NoReading"=some (.ref za)){zA:Addr} (qC:mg "TooGreat"=some (.ref zA)){z7:Addr} (qW:mg "TooMany"=some (.ref z7)){zp:Addr} (zH:mg "NoNote"=some (.ref zp)){z8:Addr} (qX:mg "NoOrder"=some (.ref z8)){qJ:Addr} (jD:mg "NoName"=some (.ref qJ)){jB:Tok} (qg:mg "SIGNS"=some (.str "abcdefghijklmnopqrstuvwxyz " jB)){zL:Tok} (zr:mg "MOST_SIGNS"=some (.int 60 zL)) (ql:W.excIn K zy bmV "ValueError.__new__"=true) (zM:W.excIn K zp bmV "ValueError.__new__"=true) (xQ:W.excIn K qp bmV "ValueError.__new__"=true) (qR:W.excIn K zA bmV "ValueError.__new__"=true) (zm:W.excIn K za bmV "ValueError.__new__"=true) (yu:W.mroIn K za (.ref zy)=some true) (Z8:W.findIn K (.ref za) "__getattribute__"=some (some (.builtin "BaseException.__getattribute__"))) (Z9:W.findIn K (.ref za) "__getattr__"=some none) (Qa:W.findIn K (.ref za) "__class__"=some (some (.builtin "object.__class__"))) (Qc:W.mroIn K za (.type "object")=some true) (Qd:W.mroIn K za (.type "BaseException")=some true) (Qe:W.specialIn K (.builtin "object.__class__") "__get__"=some (some (.builtin "getset_descriptor.__get__"))) (Qf:W.takesIn K (.builtin "object.__class__")=some true) (jE:W.kitOne K (.ref za) (.ref zp)=some false) (j7:W.kitOne K (.ref za) (.ref qp)=some false) (qD:W.kitOne K (.ref za) (.ref zA)=some false) (qm:W.kitOne K (.ref za) (.ref za)=some true) (qY:W.kitOne K (.ref za) (.ref z7)=some false) (jF:W.kitOne K (.ref za) (.ref qJ)=some false) (qZ:W.kitOne K (.ref za) (.ref z8)=some false) (j8:W.kitOne K (.ref za) (.type "ValueError")=some true):Fn P w K mg base 1 "_law_other" ["e"] (Vn za):=by
 refine D.fn Z7 (fun vs H Q E h=>?_) (fun f cdv A outer s H vs Q E hr h=>?_)
 ·obtain⟨x,rfl,_⟩:=h
  rfl
 ·obtain⟨x,rfl,hx,q⟩:=h
  have XL:xK K za:=⟨Z8,Z9,Qa,Qe,Qf,Qc,Qd⟩
  refine⟨_,(pss_cons (ps_if (pw_or (pt_val (pe_callB qd (by rfl) T.z_isinstance zG (pa_cons (pv 0) (pa_cons (pe_glob (v:=.ref zp) (by rfl) zH rfl) pa_nil)))) (pw_or (pt_val (pe_callB qd (by rfl) T.z_isinstance zG (pa_cons (pv 0) (pa_cons (pe_glob (v:=.ref qp) (by rfl) j6 rfl) pa_nil)))) (pw_or1 (pt_val (pe_callB qd (by rfl) T.z_isinstance zG (pa_cons (pv 0) (pa_cons (pe_glob (v:=.ref zA) (by rfl) qC rfl) pa_nil))))))).pt
    (pss_one (ps_ret pe_bl))
    pss_nil)
   (pss_one (ps_ret (pe_or (pe_callB qd (by rfl) T.z_isinstance zG (pa_cons (pv 0) (pa_cons (pe_glob (v:=.ref z7) (by rfl) qW rfl) pa_nil))) (pe_or (pe_callB qd (by rfl) T.z_isinstance zG (pa_cons (pv 0) (pa_cons (pe_glob (v:=.ref qJ) (by rfl) jD rfl) pa_nil))) (pe_one (pe_callB qd (by rfl) T.z_isinstance zG (pa_cons (pv 0) (pa_cons (pe_glob (v:=.ref z8) (by rfl) qX rfl) pa_nil))))))))),?_⟩
  refine⟨_,rfl,_,_,_,_,false,rfl,fun _ z=>z,.exc XL hx,jE,_,rfl,iteF ⟨_,rfl,_,_,_,_,false,rfl,fun _ z=>z,.exc XL hx,j7,_,rfl,iteF ⟨_,rfl,_,_,_,_,false,rfl,fun _ z=>z,.exc XL hx,qD,_,rfl,iteF ?_⟩⟩⟩
  exact⟨_,rfl,_,_,_,_,false,rfl,fun _ z=>z,.exc XL hx,qY,_,rfl,iteF ⟨_,rfl,_,_,_,_,false,rfl,fun _ z=>z,.exc XL hx,jF,_,rfl,iteF ⟨_,rfl,_,_,_,_,false,rfl,fun _ z=>z,.exc XL hx,qZ,q⟩⟩⟩
noncomputable def zar (K:W.Frag):Sp:=fun vs H Q _=>∃(a:Addr) (rd:List Int) (turns bells late:Int) (n:Nat),vs=[.ref a,.int turns,.int bells,.int late]∧SqL K H a (rd.map V.int)∧zap rd turns bells late n∧∀H',Same H H'→Q (.bl true) H'
theorem zN:FnScope ["reading","turns","bells","late","told","caught","handed","e","due"] ["reading","turns","bells","late"] (defScope qI):=⟨rfl,rfl,rfl,by decide +kernel,rfl,by decide +kernel,by decide +kernel⟩
theorem Yg (D:Def K mg "_law_is_told" qI ["reading","turns","bells","late"]) (T:Txt K mg){zy:Addr} (qj:mg "BellError"=some (.ref zy)){qp:Addr} (j6:mg "NoRow"=some (.ref qp)){za:Addr} (zj:mg "NoReading"=some (.ref za)){zA:Addr} (qC:mg "TooGreat"=some (.ref zA)){z7:Addr} (qW:mg "TooMany"=some (.ref z7)){zp:Addr} (zH:mg "NoNote"=some (.ref zp)){z8:Addr} (qX:mg "NoOrder"=some (.ref z8)){qJ:Addr} (jD:mg "NoName"=some (.ref qJ)){jB:Tok} (qg:mg "SIGNS"=some (.str "abcdefghijklmnopqrstuvwxyz " jB)){zL:Tok} (zr:mg "MOST_SIGNS"=some (.int 60 zL)) (ql:W.excIn K zy bmV "ValueError.__new__"=true) (zM:W.excIn K zp bmV "ValueError.__new__"=true) (xQ:W.excIn K qp bmV "ValueError.__new__"=true) (qR:W.excIn K zA bmV "ValueError.__new__"=true) (zm:W.excIn K za bmV "ValueError.__new__"=true) (yu:W.mroIn K za (.ref zy)=some true) (Z8:W.findIn K (.ref za) "__getattribute__"=some (some (.builtin "BaseException.__getattribute__"))) (Z9:W.findIn K (.ref za) "__getattr__"=some none) (Qa:W.findIn K (.ref za) "__class__"=some (some (.builtin "object.__class__"))) (Qc:W.mroIn K za (.type "object")=some true) (Qd:W.mroIn K za (.type "BaseException")=some true) (Qe:W.specialIn K (.builtin "object.__class__") "__get__"=some (some (.builtin "getset_descriptor.__get__"))) (Qf:W.takesIn K (.builtin "object.__class__")=some true) (jE:W.kitOne K (.ref za) (.ref zp)=some false) (j7:W.kitOne K (.ref za) (.ref qp)=some false) (qD:W.kitOne K (.ref za) (.ref zA)=some false) (qm:W.kitOne K (.ref za) (.ref za)=some true) (qY:W.kitOne K (.ref za) (.ref z7)=some false) (jF:W.kitOne K (.ref za) (.ref qJ)=some false) (qZ:W.kitOne K (.ref za) (.ref z8)=some false) (j8:W.kitOne K (.ref za) (.type "ValueError")=some true) (vY:FnE P w K mg base 5 "received" ["reading","turns","bells","late"] (Wc K za)) (wM:Fn P w K mg base 3 "_law_due" ["reading","turns","bells","late"] (YH K)) (Jd:Fn P w K mg base 1 "_law_other" ["e"] (Vn za)):Fn P w K mg base 6 "_law_is_told" ["reading","turns","bells","late"] (zar K):=by
 refine D.fn zN (fun vs H Q E h=>?_) (fun f cdv A outer s H vs Q E hr h=>?_)
 ·obtain⟨a,rd,t,b,l,n,rfl,_⟩:=h
  rfl
 ·obtain⟨a,rd,turns,bells,late,n,rfl,hS,R,q⟩:=h
  have XL:xK K za:=⟨Z8,Z9,Qa,Qe,Qf,Qc,Qd⟩
  have hu:=zcF hr
  refine⟨_,(pss_cons (ps_set (i:=4) zN.nd rfl (Or.inl rfl) pe_non)
   (pss_cons (ps_set (i:=5) zN.nd rfl (Or.inl rfl) pe_non)
   (pss_cons (ps_set (i:=6) zN.nd rfl (Or.inl rfl) (pe_callTy call_list_of (by rfl) T.z_list V8 (pa_cons (pv 0) pa_nil)))
   (pss_cons (Ww (i:=7) rfl rfl zN.nd rfl rfl rfl (by rfl) qj ql (by decide) (fun pn xe G hx=>(pss_one (ps_set (i:=4) zN.nd rfl (Or.inl rfl) (Zo vY (hr.mono (by decide)) (by rfl) hx (pa_cons (pv 6) (pa_cons (pv 1) (pa_cons (pv 2) (pa_cons (pv 3) pa_nil)))))))) (fun x=>(pss_one (ps_set (i:=5) zN.nd rfl (Or.inl rfl) (pv 7)))))
   (pss_cons (ps_set (i:=8) zN.nd rfl (Or.inl rfl) (zJ wM (hr.mono (by decide)) (by rfl) (pa_cons (pv 0) (pa_cons (pv 1) (pa_cons (pv 2) (pa_cons (pv 3) pa_nil))))))
   (pss_cons (ps_if (pt_cmpR (YQ hu) (pv 6) (pv 0) (nomark _))
    (pss_one (ps_ret pe_bl))
    pss_nil)
   (pss_cons (ps_if (pt_cmpR op_isN (pv 8) pe_non (nomark _))
    (pss_one (ps_ret (pe_and (pe_callB qd (by rfl) T.z_isinstance zG (pa_cons (pv 5) (pa_cons (pe_glob (v:=.ref za) (by rfl) zj rfl) pa_nil))) (pe_and (pe_callB qd (by rfl) T.z_isinstance zG (pa_cons (pv 5) (pa_cons (pe_bltn (v:=.ty "ValueError") (by rfl) T.z_ValueError QB rfl) pa_nil))) (pe_one (pe_not (zJ Jd (hr.mono (by decide)) (by rfl) (pa_cons (pv 5) pa_nil))))))))
    pss_nil)
   (pss_one (ps_ret (pe_and (pe_cmpR op_isN (pv 5) pe_non (nomark _)) (pe_and (pe_callB xH (by rfl) T.z_isinstance zG (pa_cons (pv 4) (pa_cons (pe_bltn (v:=.ty "str") (by rfl) T.z_str Yp rfl) pa_nil))) (pe_one (pe_cmpR op_eq (pv 4) (pv 8) (nomark _)))))))))))))),?_⟩
  refine⟨_,rfl,_,_,rfl,.inl hS,fun pq hpq=>?_⟩
  have s1:Same H (upd H pq (.lst (rd.map V.int))):=Same.new hpq
  have h1:(upd H pq (.lst (rd.map V.int))) pq=some (.lst (rd.map V.int)):=upd_same
  generalize upd H pq (.lst (rd.map V.int))=H1 at s1 h1 ⊢
  apply jn2 (C:=fun(H2:Hp)=>Same H1 H2∧¬(GoodR turns bells late (grp (turns+late) (n:Int) rd)∧valN turns bells late rd n≤qM))
  case g=>
   intro G
   refine⟨_,rfl,_,rfl,_,rfl,_,rfl,pq,rd,turns,bells,late,n,rfl,SqL.of h1,R.ok,fun g=>⟨?_,R.c3,fun vm H2 s2=>?_,fun nv H2 s2=>G H2 ⟨s2,fun z=>nv z.2⟩⟩,fun ng H2 s2=>G H2 ⟨s2,fun z=>ng z.1⟩⟩
   ·by_cases z:z6 turns late rd n=0
    ·exact z
    ·exact absurd ⟨g,z⟩ R.stop
   ·refine⟨_,rfl,_,rfl,_,rfl,_,rfl,a,rd,turns,bells,late,n,rfl,(s1.trans s2).seq hS,R,fun _ H3 s3=>?_,fun ngv=>absurd ⟨g,vm⟩ ngv⟩
    refine⟨_,rfl,_,rfl,pq,a,rd,rd,rfl,rfl,SqL.of ((s2.trans s3) _ _ h1),((s1.trans s2).trans s3).seq hS,_,rfl,iteNS rfl ?_⟩
    refine⟨_,rfl,rfl,_,rfl,ifF (fun z=>nomatch z) ?_⟩
    refine⟨_,rfl,rfl,_,rfl,ifT rfl ⟨_,rfl,_,_,_,true,rfl,TyOf.str _,yQ K,true,rfl,iteT ⟨_,rfl,_,rfl,rfl,?_⟩⟩⟩
    have:=q _ ((s1.trans s2).trans s3)
    rw [decide_eq_true]
    ·exact this
    ·rfl
  case b=>
   rintro H2 ⟨s2,ng⟩
   refine⟨za,bmV,_,rfl,zm,by decide,yu,fun x hx=>⟨_,rfl,?_⟩⟩
   have s3:Same H1 (upd H2 x (vQ x (.ref za))):=s2.put hx
   have h3:(upd H2 x (vQ x (.ref za))) x=some (vQ x (.ref za)):=upd_same
   generalize upd H2 x (vQ x (.ref za))=H3 at s3 h3 ⊢
   refine⟨_,rfl,_,rfl,_,rfl,_,rfl,a,rd,turns,bells,late,n,rfl,(s1.trans s3).seq hS,R,fun g=>absurd g ng,fun _ H4 s4=>?_⟩
   have h4:=s4 _ _ h3
   refine⟨_,rfl,_,rfl,pq,a,rd,rd,rfl,rfl,SqL.of ((s3.trans s4) _ _ h1),((s1.trans s3).trans s4).seq hS,_,rfl,iteNS rfl ?_⟩
   refine⟨_,rfl,rfl,_,rfl,ifT rfl ?_⟩
   exact⟨_,rfl,_,_,_,_,true,rfl,fun _ z=>z,.exc XL h4,qm,true,rfl,iteT ⟨_,rfl,_,_,_,_,true,rfl,fun _ z=>z,.exc XL h4,j8,true,rfl,iteT ⟨_,rfl,x,rfl,h4,_,rfl,q _ ((s1.trans s3).trans s4)⟩⟩⟩
end
section
noncomputable def zas (K:W.Frag):Sp:=fun vs H Q _=>∃(a:Addr) (tl:List Int) (late cell:Int),vs=[.ref a,.int late,.int cell]∧SqL K H a (tl.map V.int)∧tl.length≤1000∧0≤late∧intBits cell≤140 ∧
 ∀(p:Addr) (rd:List Int) (H':Hp),Same H H'→H p=none→H' p=some (.lst (rd.map V.int))→rd.length=tl.length→Q (.ref p) H'
theorem vH:FnScope ["told","late","cell","found","k"] ["told","late","cell"] (defScope jw):=⟨rfl,rfl,rfl,by decide +kernel,rfl,by decide +kernel,by decide +kernel⟩
theorem Yh (D:Def K mg "_law_late" jw ["told","late","cell"]) (T:Txt K mg):Fn P w K mg base 1 "_law_late" ["told","late","cell"] (zas K):=by
 refine D.fn vH (fun vs H Q E h=>?_) (fun f cdv A outer s H vs Q E hr h=>?_)
 ·obtain⟨a,tl,l,c,rfl,_⟩:=h
  rfl
 ·obtain⟨a,tl,late,cell,rfl,hS,hl,l0,cb,q⟩:=h
  refine⟨_,(pss_cons (ps_set (i:=3) vH.nd rfl (Or.inl rfl) (pe_lst pa_nil))
   (pss_cons (ps_for PassesOwn.never rfl (pi_range1 (by rfl) T.z_range (pa_cons (pe_callB call_len_seq (by rfl) T.z_len xJ (pa_cons (pv 0) pa_nil)) pa_nil)) (pg_name (i:=4) vH.nd rfl (Or.inl rfl))
    (pss_one (ps_expr (pe_bm PySem.F.plainAttrs_list PySem.F.slot_list_append PySem.F.type_list_append mt_append (pv 3) (pa_cons (pe_op zf (pe_ix ix_list (pv 0) (pv 4) (fun _ _=>rfl)) (pe_op zT (pe_op zR (pe_op z9 (pe_op zf (pv 2) (pv 4)) (pe_op zf (pe_op zf (pv 2) (pe_op z9 (pv 4) (pv 4))) pe_int)) pe_int) (pe_op zf (pv 1) pe_int))) pa_nil)))))
   (pss_one (ps_ret (pe_callB wA (by rfl) T.z_sorted Jh (pa_cons (pv 3) pa_nil)))))),?_⟩
  refine⟨(by decide),fun pc hpc=>⟨_,rfl,_,_,rfl,.inl ((Same.new hpc).seq hS),_,rfl,by rw [List.length_map];omega,by rw [List.length_map];omega,for_range (n:=((tl.map V.int).length:Int).toNat) (fun i σ H2=>∃(ys:List Int) (v4:Option V),σ=[some (.ref a),some (.int late),some (.int cell),some (.ref pc),v4]∧Same H H2∧H2 pc=some (.lst (ys.map V.int))∧ys.length=i) ⟨[],none,rfl,Same.new hpc,upd_same,rfl⟩ ?_ ?_⟩⟩
  ·rintro i σ H2 hi ⟨ys,v4,rfl,sm,hC,yl⟩
   rw [List.length_map] at hi
   have hit:i<tl.length:=by omega
   rw [show (0:Int)+(i:Int)=(i:Int) by omega]
   have g:=yD (ns:=tl) (k:=i) (List.getElem?_eq_getElem hit)
   generalize tl[i]=t at g
   have ib:intBits (i:Int)≤64:=zq (by omega) (by omega)
   have c1:intBits (cell+(i:Int))≤300:=zc (intBits_add_le (m:=140) (n:=64) cb ib) (by decide)
   have kk:intBits ((i:Int)*(i:Int))≤64:=zq (Int.mul_nonneg (by omega) (by omega)) (by
    have h1:(i:Int)*(i:Int)≤1000*1000:=Int.mul_le_mul (by omega) (by omega) (by omega) (by omega)
    have h2:(1000*1000:Int)<2 ^ 64:=by decide
    omega)
   have c2:intBits (cell+(i:Int)*(i:Int)+3)≤300:=zc (intBits_add_le (m:=200) (n:=2) (zc (intBits_add_le (m:=140) (n:=64) cb kk) (by decide)) (by decide)) (by decide)
   refine⟨_,rfl,.inl ⟨rfl,_,SqL.of hC⟩,_,rfl,_,rfl,_,_,_,_,rfl,rfl,sm.seq hS,g,_,rfl,_,rfl,_,_,rfl,rfl,_,rfl,_,rfl,_,rfl,_,_,rfl,rfl,⟨64,64,ib,ib,by decide⟩,_,_,rfl,rfl,_,_,rfl,rfl,_,_,rfl,rfl,⟨300,300,c1,c2,by decide⟩,_,_,rfl,rfl,⟨by decide,by decide⟩,_,rfl,_,_,rfl,rfl,_,_,rfl,rfl,by omega,_,_,rfl,rfl,?_⟩
   generalize (cell+(i:Int))*(cell+(i:Int)*(i:Int)+3) / 5 % (late+1)=dd
   refine⟨pc,_,_,rfl,rfl,hC,by rw [List.length_map];exact small1000 (by omega),ys++[t+dd],_,rfl,sm.wr hpc,?_,by rw [List.length_append,yl];rfl⟩
   rw [upd_same,List.map_append]
   rfl
  ·rintro σ H2 ⟨ys,v4,rfl,sm,hC,yl⟩
   rw [List.length_map,show ((tl.length:Nat):Int).toNat=tl.length by omega] at yl
   refine⟨_,rfl,pc,ys,rfl,SqL.of hC,fun l ms hl2 pm pw=>?_⟩
   exact q l ms _ (sm.put hl2) (sm.free hl2) upd_same (by rw [pm.length_eq,yl])
noncomputable def Yi (K:W.Frag):Sp:=fun vs H Q _=>∃(a:Addr) (rd:List Int) (turns late cell:Int),vs=[.ref a,.int turns,.int late,.int cell]∧SqL K H a (rd.map V.int)∧1≤rd.length∧rd.length≤1000∧0<turns+late ∧
 ∀(p:Addr) (rd':List Int) (H':Hp),Same H H'→H p=none→H' p=some (.lst (rd'.map V.int))→rd'.length=rd.length→Q (.ref p) H'
theorem jP:FnScope ["reading","turns","late","cell","at","number","by"] ["reading","turns","late","cell"] (defScope jg):=⟨rfl,rfl,rfl,by decide +kernel,rfl,by decide +kernel,by decide +kernel⟩
theorem Wl (D:Def K mg "_law_moved" jg ["reading","turns","late","cell"]) (T:Txt K mg):Fn P w K mg base 1 "_law_moved" ["reading","turns","late","cell"] (Yi K):=by
 refine D.fn jP (fun vs H Q E h=>?_) (fun f cdv A outer s H vs Q E hr h=>?_)
 ·obtain⟨a,rd,t,l,c,rfl,_⟩:=h
  rfl
 ·obtain⟨a,rd,turns,late,cell,rfl,hS,r1,r2,L0,q⟩:=h
  refine⟨_,(pss_cons (ps_set (i:=4) jP.nd rfl (Or.inl rfl) (pe_op zT (pv 3) (pe_callB call_len_seq (by rfl) T.z_len xJ (pa_cons (pv 0) pa_nil))))
   (pss_cons (ps_set (i:=5) jP.nd rfl (Or.inl rfl) (pe_op zR (pv 3) pe_int))
   (pss_cons (ps_set (i:=6) jP.nd rfl (Or.inl rfl) (pe_ix ix_list (pe_lst (pa_cons pe_int (pa_cons (pe_un un_neg pe_int) (pa_cons (pe_op zf (pv 2) pe_int) (pa_cons (pe_op zB (pe_op zB pe_int (pv 2)) pe_int) (pa_cons (pe_op zT (pv 5) (pe_op zf (pv 1) (pv 2))) (pa_cons (pe_op zB pe_int (pe_op zT (pv 5) (pe_op zf (pv 1) (pv 2)))) pa_nil))))))) (pe_op zT (pe_op zR (pv 3) pe_int) pe_int) (fun _ _=>rfl)))
   (pss_one (ps_ret (pe_callB wA (by rfl) T.z_sorted Jh (pa_cons (pe_op op_cat (pe_op op_cat (pe_slice sl_list (pv 0) po_none (po_some (pv 4))) (pe_lst (pa_cons (pe_callB (call_max2 rfl) (by rfl) T.z_max zaG (pa_cons pe_int (pa_cons (pe_op zf (pe_ix ix_list (pv 0) (pv 4) (fun _ _=>rfl)) (pv 6)) pa_nil))) pa_nil))) (pe_slice sl_list (pv 0) (po_some (pe_op zf (pv 4) pe_int)) po_none)) pa_nil))))))),?_⟩
  refine⟨_,rfl,_,rfl,_,_,rfl,.inl hS,?_⟩
  rw [List.length_map]
  refine⟨_,_,rfl,rfl,by omega,?_⟩
  obtain⟨k,ek⟩:∃k:Nat,cell % (rd.length:Int)=(k:Int):=⟨_,(Int.toNat_of_nonneg (Int.emod_nonneg _ (by omega))).symm⟩
  have kl:=Int.emod_lt_of_pos cell (show (0:Int)<(rd.length:Int) by omega)
  rw [ek] at kl ⊢
  have hk:k<rd.length:=by omega
  have ht:=List.getElem?_eq_getElem hk
  have gt:=yD (ns:=rd) ht
  generalize rd[k]=t at ht gt
  have vl:(rd.map V.int).length=rd.length:=List.length_map ..
  have e1:cutV (rd.map V.int) none (some (k:Int))=(rd.take k).map V.int:=by rw [zaq _ (by omega),List.map_take]
  have e2:cutV (rd.map V.int) (some ((k:Int)+1)) none=(rd.drop (k+1)).map V.int:=by rw [show (k:Int)+1=((k+1:Nat):Int) from rfl,Wj _ (by omega),List.map_drop]
  refine⟨_,rfl,_,_,rfl,rfl,⟨by decide,by decide⟩,?_⟩
  generalize cell / 300=number
  refine⟨_,rfl,_,rfl,_,_,rfl,rfl,_,rfl,_,_,rfl,rfl,_,_,rfl,rfl,_,rfl,_,rfl,_,rfl,_,_,rfl,rfl,_,_,rfl,rfl,by omega,_,rfl,_,rfl,_,rfl,_,_,rfl,rfl,_,_,rfl,rfl,by omega,_,_,rfl,rfl,(by show 6≤sizeLine;decide),fun pl hpl=>?_⟩
  generalize number % (turns+late)=nm
  obtain⟨v,hv,vm⟩:=at6 (xs:=[V.int 1,V.int (-1),V.int (late+1),V.int (0-late-1),V.int nm,V.int (0-nm)]) rfl (cell / 50)
  obtain⟨b,rfl⟩:∃b,v=.int b:=by
   simp only [List.mem_cons,List.not_mem_nil,or_false] at vm
   rcases vm with z | z | z | z | z | z <;> exact⟨_,z⟩
  refine⟨_,rfl,_,_,rfl,rfl,⟨by decide,by decide⟩,_,_,rfl,rfl,(by decide),_,_,_,_,rfl,rfl,SqL.of upd_same,hv,?_⟩
  have s1:Same H (upd H pl (.lst [V.int 1,V.int (-1),V.int (late+1),V.int (0-late-1),V.int nm,V.int (0-nm)])):=Same.new hpl
  generalize upd H pl (.lst [V.int 1,V.int (-1),V.int (late+1),V.int (0-late-1),V.int nm,V.int (0-nm)])=H1 at s1 ⊢
  have hS1:=s1.seq hS
  refine⟨_,rfl,_,rfl,_,rfl,_,_,rfl,hS1,fun g1 hg1=>?_⟩
  rw [e1]
  refine⟨_,rfl,_,rfl,_,_,_,_,rfl,rfl,(Same.new hg1).seq hS1,gt,_,rfl,_,_,rfl,rfl,?_⟩
  refine⟨_,_,rfl,?_⟩
  generalize (if t+b > 0 then t+b else 0)=y
  refine⟨(by show 1≤sizeLine;decide),fun g2 hg2=>⟨g1,g2,_,_,rfl,rfl,(Same.new hg2) _ _ upd_same,upd_same,by rw [List.length_map,List.length_take];exact Nat.le_of_lt (small1000 (by show _+1≤1000;omega)),fun g3 hg3=>?_⟩⟩
  refine⟨_,rfl,_,rfl,_,_,rfl,rfl,_,rfl,_,_,rfl,(((Same.new hg1).put hg2).put hg3).seq hS1,fun g4 hg4=>?_⟩
  rw [e2]
  refine⟨g3,g4,_,_,rfl,rfl,(Same.new hg4) _ _ upd_same,upd_same,by rw [List.length_append,List.length_map,List.length_map,List.length_take,List.length_drop];exact Nat.le_of_lt (small1000 (by show _+1+_≤1000;omega)),fun g5 hg5=>?_⟩
  have e5:(rd.take k).map V.int++[V.int y]++(rd.drop (k+1)).map V.int=(rd.take k++[y]++rd.drop (k+1)).map V.int:=by rw [List.map_append,List.map_append];rfl
  rw [e5]
  have s5:=s1.trans (((((Same.new (o:=.lst ((rd.take k).map V.int)) hg1).put (o:=.lst [V.int y]) hg2).put (o:=.lst ((rd.take k).map V.int++[V.int y])) hg3).put (o:=.lst ((rd.drop (k+1)).map V.int)) hg4).put (o:=.lst ((rd.take k++[y]++rd.drop (k+1)).map V.int)) hg5)
  refine⟨g5,rd.take k++[y]++rd.drop (k+1),rfl,SqL.of upd_same,fun l ms hl pm pw=>?_⟩
  refine q l ms _ (s5.put hl) (s5.free hl) upd_same ?_
  rw [pm.length_eq,List.length_append,List.length_append,List.length_take,List.length_drop]
  show min k rd.length+1+(rd.length-(k+1))=rd.length
  omega
end
theorem J1 (ns:List Int) (lo hi:Option Int):(JH ns lo hi).length=min (HT.sIx ns.length ns.length hi-HT.sIx ns.length 0 lo) (ns.length-HT.sIx ns.length 0 lo):=by
 unfold JH
 rw [List.length_take,List.length_drop]
theorem zat (ns:List Int) (a b:Nat):(JH ns (some (a:Int)) (some (b:Int))).length≤b-a:=by
 rw [J1,HT.sIx_nat,HT.sIx_nat]
 omega
theorem V3 {b:Int}{e k:Nat} (hb:(2:Int) ^ e≤b):(2:Int) ^ (e*k)≤b ^ k:=by
 induction k with
 | zero=>rw [Nat.mul_zero,Int.pow_zero,Int.pow_zero];exact Int.le_refl _
 | succ k ih=>
  rw [Nat.mul_succ,Int.pow_add,Int.pow_succ]
  exact Int.mul_le_mul ih hb (Int.le_of_lt (two_pow_pos e)) (Int.le_trans (Int.le_of_lt (two_pow_pos _)) ih)
theorem Wm {b N:Int}{e k:Nat} (hb:(2:Int) ^ e≤b) (h:b ^ k≤N) (hN:N<2 ^ 287):e*k<287:=by
 have h1:=V3 (k:=k) hb
 by_cases z:e*k<287
 ·exact z
 ·have:=yt (show 287≤e*k by omega)
  omega
theorem e60:(10:Int) ^ (60:Int).toNat<2 ^ 200:=by decide
theorem Yj:qM<2 ^ 286-2 ^ 201:=by decide +kernel
section
noncomputable def zau (K:W.Frag):Sp:=fun vs H Q _=>∃(a:Addr) (ns:List Int) (b:Int),vs=[.ref a,.int b]∧SqL K H a (ns.map V.int)∧2≤b∧b≤2 ^ 40 ∧
 ∀(p:Addr) (ms:List Int) (H':Hp),Same H H'→H p=none→H' p=some (.lst (ms.map V.int))→(∀m∈ms,1≤m∧m≤b)→(ms.length≤42∨∀e:Nat,(2:Int) ^ e≤b→e*(ms.length-1)<287)→Q (.ref p) H'
theorem zP:FnScope ["script","base","cell","number","found"] ["script","base"] (defScope qw):=⟨rfl,rfl,rfl,by decide +kernel,rfl,by decide +kernel,by decide +kernel⟩
theorem Yk (D:Def K mg "_law_messages" qw ["script","base"]) (T:Txt K mg) (qT:Fn P w K mg base 1 "_law_cell_at" ["script","k"] (Xp K)) (jk:Fn P w K mg base 1 "_law_most" [] XD):Fn P w K mg base 2 "_law_messages" ["script","base"] (zau K):=by
 refine D.fn zP (fun vs H Q E h=>?_) (fun f cdv A outer s H vs Q E hr h=>?_)
 ·obtain⟨a,ns,b,rfl,_⟩:=h
  rfl
 ·obtain⟨a,ns,b,rfl,hS,b2,b40,q⟩:=h
  refine⟨_,(pss_cons (ps_set (i:=2) zP.nd rfl (Or.inl rfl) (zJ qT (hr.mono (by decide)) (by rfl) (pa_cons (pv 0) (pa_cons pe_int pa_nil))))
   (pss_cons (ps_if (pt_cmpR yw (pe_op zT (pv 2) pe_int) pe_int (nomark _))
    (pss_cons (ps_set (i:=3) zP.nd rfl (Or.inl rfl) (pe_op zf (pe_op zf (V7 jk (hr.mono (by decide)) (by rfl)) pe_int) (pe_op zT (pe_op zR (pv 2) pe_int) (pe_op XQ pe_int pe_int))))
    (pss_cons (ps_set (i:=4) zP.nd rfl (Or.inl rfl) (pe_lst pa_nil))
    (pss_cons (ps_while PassesOwn.never (pt_cmpR jH (pv 3) pe_int (nomark _))
     (pss_cons (ps_expr (pe_bm PySem.F.plainAttrs_list PySem.F.slot_list_append PySem.F.type_list_append mt_append (pv 4) (pa_cons (pe_op zf (pe_op zT (pv 3) (pv 1)) pe_int) pa_nil)))
     (pss_one (ps_set (i:=3) zP.nd rfl (Or.inl rfl) (pe_op zR (pv 3) (pv 1))))))
    (pss_one (ps_ret (pv 4))))))
    pss_nil)
   (pss_cons (QF (k:=4) (own:=["one"]) (fr:=["base"]) (ix:=[1]) rfl zP.nd rfl rfl ⟨rfl,rfl,rfl,rfl,rfl,rfl⟩ (pi_list (pe_slice sl_list (pv 0) (po_some pe_int) (po_some pe_int))) (fun _ _ _ _ _=>(pg_name (i:=0) (show (["one","base"]:List Str).Nodup by decide +kernel) rfl (Or.inl rfl))) (fun _ _ _ _ _=>vq) (fun _ _ _ _ _=>(pe_op zf pe_int (pe_op zT (pv 0) (pv 1)))))
   (pss_cons (ps_if (pt_cmpR vp (pe_op zT (pv 2) pe_int) pe_int (nomark _))
    (pss_one (ps_set (i:=4) zP.nd rfl (Or.inl rfl) (pe_op op_cat (pv 4) (pe_op op_rep (pe_lst (pa_cons pe_int pa_nil)) (pe_op zT (pe_op zR (pv 2) pe_int) pe_int)))))
    pss_nil)
   (pss_one (ps_ret (pv 4))))))),?_⟩
  have bb:intBits b≤41:=zq (by omega) (Int.lt_of_le_of_lt b40 (by decide))
  refine⟨_,rfl,a,ns,2,rfl,hS,by decide,?_⟩
  generalize cellOf ns 2=cell
  refine⟨_,rfl,_,_,rfl,rfl,(by decide),_,_,rfl,rfl,_,rfl,ifD (fun z=>?_) (fun z=>?_)⟩
  ·refine⟨rfl,_,_,rfl,rfl,_,rfl,_,_,rfl,rfl,⟨by decide,by decide⟩,_,_,rfl,rfl,⟨by decide,by decide,by decide⟩,_,_,rfl,rfl,by decide,_,_,rfl,rfl,(by decide),fun p hp=>?_⟩
   have v0:=Int.emod_nonneg (cell / 4) (show (10:Int) ^ (60:Int).toNat≠0 by decide)
   have v1:=Int.emod_lt_of_pos (cell / 4) (show (0:Int)<10 ^ (60:Int).toNat by decide)
   have hN:qM+1+cell / 4 % 10 ^ (60:Int).toNat<2 ^ 287:=by
    have h1:=e60
    have h2:=Yj
    have h3:(2:Int) ^ 286≤2 ^ 287:=by decide
    have h4:(2:Int) ^ 200+1≤2 ^ 201:=by decide
    omega
   have hN0:0≤qM+1+cell / 4 % 10 ^ (60:Int).toNat:=by
    have:0≤qM:=by decide
    omega
   generalize qM+1+cell / 4 % 10 ^ (60:Int).toNat=N at hN hN0 ⊢
   refine while_by (fun σ H5=>∃(left:Int) (ms:List Int),σ=[some (.ref a),some (.int b),some (.int cell),some (.int left),some (.ref p)]∧Same H H5∧H5 p=some (.lst (ms.map V.int))∧0≤left∧(∀m∈ms,1≤m∧m≤b)∧b ^ ms.length*left≤N∧(ms=[]∨b ^ (ms.length-1)≤N))
    (fun(σ:L2.St) (_:Hp)=>match σ[3]? with | some (some (V.int m))=>m.toNat | _=>0) ⟨N,[],rfl,Same.new hp,upd_same,hN0,(fun _ z=>nomatch z),?_,.inl rfl⟩ ?_ ?_
   ·show b ^ 0*N≤N
    rw [Int.pow_zero,Int.one_mul]
    exact Int.le_refl _
   ·rintro σ H5 ⟨left,ms,rfl,s5,h5,l0,mb,hpw,hfew⟩
    refine⟨_,rfl,_,_,rfl,rfl,_,rfl,ifD (fun y=>?_) (fun y=>?_)⟩
    ·have bp:0<b ^ ms.length:=Int.pow_pos (by omega)
     have hle:b ^ ms.length≤N:=by
      have h1:=Int.mul_le_mul_of_nonneg_left (show (1:Int)≤left by omega) (Int.le_of_lt bp)
      rw [Int.mul_one] at h1
      exact Int.le_trans h1 hpw
     have hlen:ms.length<287:=by
      have:=Wm (e:=1) (k:=ms.length) (by rw [Int.pow_one];omega) hle hN
      omega
     have r0:=Int.emod_nonneg left (show b≠0 by omega)
     have r1:=Int.emod_lt_of_pos left (show 0<b by omega)
     have d0:=Int.ediv_nonneg l0 (show 0≤b by omega)
     have dm:=Int.mul_ediv_add_emod left b
     have dl:left / b<left:=Int.ediv_lt_self_of_pos_of_ne_one (by omega) (by omega)
     refine⟨_,rfl,.inl ⟨rfl,_,SqL.of h5⟩,_,rfl,_,rfl,_,_,rfl,rfl,by omega,_,_,rfl,rfl,p,_,_,rfl,rfl,h5,by rw [List.length_map];exact small1000 (by omega),?_⟩
     refine⟨_,rfl,_,rfl,_,_,rfl,rfl,⟨by omega,zc bb (by decide)⟩,?_⟩
     refine⟨⟨left / b,ms++[left % b+1],rfl,s5.wr hp,?_,d0,fun m hm=>?_,?_,.inr ?_⟩,?_⟩
     ·rw [upd_same,List.map_append]
      rfl
     ·rcases List.mem_append.mp hm with h1 | h1
      ·exact mb m h1
      ·rw [List.mem_singleton.mp h1];omega
     ·rw [List.length_append,List.length_singleton,Int.pow_succ,Int.mul_assoc]
      have h1:=Int.mul_le_mul_of_nonneg_left (show b*(left / b)≤left by omega) (Int.le_of_lt bp)
      exact Int.le_trans h1 hpw
     ·rw [List.length_append,List.length_singleton,Nat.add_sub_cancel]
      exact hle
     ·show (left / b).toNat<left.toNat
      omega
    ·refine⟨_,rfl,q p ms H5 s5 hp h5 mb (.inr fun e he=>?_)⟩
     rcases hfew with h1 | h1
     ·rw [h1];simp
     ·exact Wm he h1 hN
   ·intro σ H Q Q' m h
    obtain⟨v,hv,a,b,e1,e2,c,e3,r⟩:=h
    exact⟨v,hv,a,b,e1,e2,c,e3,m _ _ r⟩
  ·refine⟨_,rfl,_,rfl,_,rfl,_,_,rfl,hS,fun p2 hp2=>⟨p2,rfl,⟨_,SqL.of upd_same⟩,fun p3 hp3=>?_⟩⟩
   have sm1:Same H (upd H p2 (.lst (cutV (ns.map V.int) (some 3) (some 43)))):=Same.new hp2
   have h2:(upd H p2 (.lst (cutV (ns.map V.int) (some 3) (some 43)))) p2=some (.lst ((JH ns (some 3) (some 43)).map V.int)):=by rw [upd_same,WR]
   generalize upd H p2 (.lst (cutV (ns.map V.int) (some 3) (some 43)))=H1 at sm1 h2 hp3 ⊢
   have cl:(JH ns (some 3) (some 43)).length≤40:=zat ns 3 43
   generalize JH ns (some 3) (some 43)=cs at cl h2 ⊢
   refine wC (K:=K) (a:=p2) (xs:=cs.map V.int) (fun i=>V.int (1+cs.getD i 0 % b)) (SqL.of h2) hp3 (by rw [List.length_map];exact Nat.le_of_lt (small1000 (by omega))) (fun i x H6 R' hx s6 hR=>?_) ?_
   ·rw [List.getElem?_map] at hx
    obtain⟨n,hn,rfl⟩:=Option.map_eq_some_iff.mp hx
    refine⟨rfl,_,rfl,_,rfl,_,_,rfl,rfl,by omega,_,_,rfl,rfl,?_⟩
    simp only [List.getD_eq_getElem?_getD,hn,Option.getD_some] at hR
    exact hR
   have eF:(List.range (cs.map V.int).length).map (fun i=>V.int (1+cs.getD i 0 % b))=(cs.map (fun x=>1+x % b)).map V.int:=by
    apply List.ext_getElem
    ·simp
    ·intro i h1 h2
     simp at h1 h2
     simp [List.getD_eq_getElem?_getD,h2]
   rw [eF]
   have fb:∀x∈cs.map (fun x=>1+x % b),1≤x∧x≤b:=fun x hx=>by
    obtain⟨y,_,rfl⟩:=List.mem_map.mp hx
    have h1:=Int.emod_nonneg y (show b≠0 by omega)
    have h2:=Int.emod_lt_of_pos y (show 0<b by omega)
    omega
   have fl:(cs.map (fun x=>1+x % b)).length≤40:=by rw [List.length_map];exact cl
   have sm2:Same H (upd H1 p3 (.lst ((cs.map (fun x=>1+x % b)).map V.int))):=sm1.put hp3
   have h3:(upd H1 p3 (.lst ((cs.map (fun x=>1+x % b)).map V.int))) p3=some (.lst ((cs.map (fun x=>1+x % b)).map V.int)):=upd_same
   have f3:=sm1.free hp3
   generalize upd H1 p3 (.lst ((cs.map (fun x=>1+x % b)).map V.int))=H2 at sm2 h3 ⊢
   generalize cs.map (fun x=>1+x % b)=fs at fb fl h3 ⊢
   refine⟨_,rfl,_,_,rfl,rfl,(by decide),_,_,rfl,rfl,_,rfl,ifD (fun y=>?_) (fun y=>?_)⟩
   ·refine⟨_,rfl,(by show 1≤sizeLine;decide),fun p4 hp4=>⟨_,rfl,_,_,rfl,rfl,⟨by decide,by decide⟩,_,_,rfl,rfl,(by decide),?_⟩⟩
    have k0:=Int.emod_nonneg (cell / 4) (show (3:Int)≠0 by decide)
    have k1:=Int.emod_lt_of_pos (cell / 4) (show (0:Int)<3 by decide)
    generalize cell / 4 % 3=k at k0 k1 ⊢
    refine⟨p4,k,_,rfl,rfl,upd_same,by omega,by omega,Nat.le_of_lt (small1000 (by show 1*k.toNat≤1000;omega)),fun p5 hp5=>?_⟩
    have er:(List.replicate k.toNat [V.int 1]).flatten=(List.replicate k.toNat (1:Int)).map V.int:=by
     generalize k.toNat=j
     induction j with
     | zero=>rfl
     | succ j ih=>rw [List.replicate_succ,List.replicate_succ,List.flatten_cons,ih];rfl
    rw [er]
    refine⟨p3,p5,_,_,rfl,rfl,((Same.new hp4).put hp5) _ _ h3,upd_same,by rw [List.length_map,List.length_map,List.length_replicate];exact Nat.le_of_lt (small1000 (by omega)),fun p6 hp6=>?_⟩
    rw [← List.map_append]
    have s6:=((sm2.put (o:=.lst [V.int 1]) hp4).put (o:=.lst ((List.replicate k.toNat (1:Int)).map V.int)) hp5)
    refine⟨_,rfl,q p6 _ _ (s6.put hp6) (s6.free hp6) upd_same (fun m hm=>?_) (.inl ?_)⟩
    ·rcases List.mem_append.mp hm with h1 | h1
     ·exact fb m h1
     ·rw [List.eq_of_mem_replicate h1];omega
    ·rw [List.length_append,List.length_replicate]
     omega
   ·exact⟨_,rfl,q p3 fs H2 sm2 f3 h3 fb (.inl (by omega))⟩
end
theorem V4:∀b:Fin 12,∀s:Fin 10,4≤ch (3+(s.val:Int)+(1+(b.val:Int))) (1+(b.val:Int))∧ch (3+(s.val:Int)+(1+(b.val:Int))) (1+(b.val:Int))≤2 ^ 40∧(2≤b.val→17≤ch (3+(s.val:Int)+(1+(b.val:Int))) (1+(b.val:Int))):=by decide +kernel
theorem Wn {s b:Int} (s3:3≤s) (s12:s≤12) (b1:1≤b) (b12:b≤12):4≤ch (s+b) b∧ch (s+b) b≤2 ^ 40∧(3≤b→17≤ch (s+b) b):=by
 have h:=V4 ⟨(b-1).toNat,by omega⟩ ⟨(s-3).toNat,by omega⟩
 dsimp only at h
 rw [show (1:Int)+(((b-1).toNat:Nat):Int)=b by omega,show (3:Int)+(((s-3).toNat:Nat):Int)=s by omega] at h
 exact⟨h.1,h.2.1,fun z=>h.2.2 (by omega)⟩
section
theorem xU:FnScope ["script","bells","cell","late","turns","base","messages","reading","k","moved"] ["script"] (defScope yC):=⟨rfl,rfl,rfl,by decide +kernel,rfl,by decide +kernel,by decide +kernel⟩
theorem ok_law (hP:P.given.tree=none){f:Addr}{fd:FuncData} (F:Fun K "law" "law" yC f fd) (T:Txt K mg) (ZQ:Def K mg "choose" vd ["n","k"]) (wN:Def K mg "top_from" jQ ["start","k","number"]) (vZ:Def K mg "above_top" jo ["k","number"]) (vI:Def K mg "rounded_up" je ["number","divisor"]) (ZR:Def K mg "box_of" vf ["row","late"]) (wO:Def K mg "bell_row" jR ["box","late"]) (kh:Def K mg "heard_box" jq ["reading","late"]) (kj:Def K mg "box_count" jr ["turns","bells","late"]) (jX:Def K mg "greatest_part" qt ["turns","bells","late"]) (vJ:Def K mg "box_number" jf ["box"]) (jO:Def K mg "box_of_message" qe ["message","bells"]) (yL:Def K mg "written" xf ["message","turns","bells","late"]) (XJ:Def K mg "read" yd ["reading","turns","bells","late"]) (jY:Def K mg "refuse_silent" qu ["turns","bells"]) (XM:Def K mg "rung" ye ["messages","turns","bells","late"]) (xV:Def K mg "by_messages" qN ["reading","turns","late"]) (xW:Def K mg "note_number" qO ["note"]) (yM:Def K mg "note_of" xg ["number"]) (jG:Def K mg "number_of_parts" zY ["figures","base"]) (wQ:Def K mg "received" jT ["reading","turns","bells","late"]) (qy:Def K mg "messages_ahead_of_end" zE ["reading","turns","bells","late"]) (xr:Def K mg "_law_cell_at" qG ["script","k"]) (km:Def K mg "_law_most" jt []) (kI:Def K mg "_law_note" ju ["number"]) (jZ:Def K mg "_law_messages" qw ["script","base"]) (wR:Def K mg "_law_sum" jU ["messages","base"]) (kJ:Def K mg "_law_late" jw ["told","late","cell"]) (xX:Def K mg "_law_choose" qP ["n","k"]) (xu:Def K mg "_law_message" qH ["part","bells","late","steps"]) (wU:Def K mg "_law_due" jV ["reading","turns","bells","late"]) (vK:Def K mg "_law_moved" jg ["reading","turns","late","cell"]) (xx:Def K mg "_law_is_told" qI ["reading","turns","bells","late"]) (vL:Def K mg "_law_other" jh ["e"]){zy:Addr} (qj:mg "BellError"=some (.ref zy)){qp:Addr} (j6:mg "NoRow"=some (.ref qp)){za:Addr} (zj:mg "NoReading"=some (.ref za)){zA:Addr} (qC:mg "TooGreat"=some (.ref zA)){z7:Addr} (qW:mg "TooMany"=some (.ref z7)){zp:Addr} (zH:mg "NoNote"=some (.ref zp)){z8:Addr} (qX:mg "NoOrder"=some (.ref z8)){qJ:Addr} (jD:mg "NoName"=some (.ref qJ)){jB:Tok} (qg:mg "SIGNS"=some (.str "abcdefghijklmnopqrstuvwxyz " jB)){zL:Tok} (zr:mg "MOST_SIGNS"=some (.int 60 zL)) (ql:W.excIn K zy bmV "ValueError.__new__"=true) (zM:W.excIn K zp bmV "ValueError.__new__"=true) (xQ:W.excIn K qp bmV "ValueError.__new__"=true) (qR:W.excIn K zA bmV "ValueError.__new__"=true) (zm:W.excIn K za bmV "ValueError.__new__"=true) (yu:W.mroIn K za (.ref zy)=some true) (Z8:W.findIn K (.ref za) "__getattribute__"=some (some (.builtin "BaseException.__getattribute__"))) (Z9:W.findIn K (.ref za) "__getattr__"=some none) (Qa:W.findIn K (.ref za) "__class__"=some (some (.builtin "object.__class__"))) (Qc:W.mroIn K za (.type "object")=some true) (Qd:W.mroIn K za (.type "BaseException")=some true) (Qe:W.specialIn K (.builtin "object.__class__") "__get__"=some (some (.builtin "getset_descriptor.__get__"))) (Qf:W.takesIn K (.builtin "object.__class__")=some true) (jE:W.kitOne K (.ref za) (.ref zp)=some false) (j7:W.kitOne K (.ref za) (.ref qp)=some false) (qD:W.kitOne K (.ref za) (.ref zA)=some false) (qm:W.kitOne K (.ref za) (.ref za)=some true) (qY:W.kitOne K (.ref za) (.ref z7)=some false) (jF:W.kitOne K (.ref za) (.ref qJ)=some false) (qZ:W.kitOne K (.ref za) (.ref z8)=some false) (j8:W.kitOne K (.ref za) (.type "ValueError")=some true):FnOk P w K mg base CX0 45 f fd ["script"] (spLaw K):=by
 have qx:Fn P w K mg base 1 "choose" ["n","k"] xY:=Vx ZQ T
 have Qx:=Z0 (w:=w) (base:=base) vI hP
 have vU:=QZ vZ T Qx
 have wI:=JK wN qx Qx hP
 have jK:Fn P w K mg base 39 "box_of_message" ["message","bells"] (ZC K):=yg jO T vU wI qx
 have zX:Fn P w K mg base 2 "box_count" ["turns","bells","late"] yh:=Q3 kj T (yF jX) qx
 have yJ:Fn P w K mg base 40 "written" ["message","turns","bells","late"] (yG K):=Xu yL T zX jK (JN wO T)
 have zav:Fn P w K mg base 41 "rung" ["messages","turns","bells","late"] (K3 K):=WX XM T (yI jY T) yJ
 have xq:=yZ (P:=P) (w:=w) (base:=base) xW T qg zr zH zM
 have wL:=JS yM T qg zr zH zM xq
 have Zg:=KZ XJ T zj zm zX (Z4 kh T zj zm (VD ZR T)) (Z3 vJ T qx)
 have vY:=Jc wQ T (W8 qy T (ZD xV T) Zg) zX (wK jG T) wL zH zM zj zm
 have qT:Fn P w K mg base 1 "_law_cell_at" ["script","k"] (Xp K):=Xq xr T
 have qK:=zao (P:=P) (w:=w) (base:=base) xX T
 have jk:=W9 (P:=P) (w:=w) (base:=base) km T
 have wM:=Ye wU T (Yc xu T qK) (Yb wR T) qK jk (Wf kI T)
 have kO:=Yg xx T qj j6 zj qC qW zH qX jD qg zr ql zM xQ qR zm yu Z8 Z9 Qa Qc Qd Qe Qf jE j7 qD qm qY jF qZ j8 vY wM (Wk vL T qj j6 zj qC qW zH qX jD qg zr ql zM xQ qR zm yu Z8 Z9 Qa Qc Qd Qe Qf jE j7 qD qm qY jF qZ j8)
 have J2:=Yh (P:=P) (w:=w) (base:=base) kJ T
 have Je:=Wl (P:=P) (w:=w) (base:=base) vK T
 have Za:=Yk jZ T qT jk
 refine F.ok xU (fun vs H Q E h=>?_) (fun cdv A outer s H vs Q E hr h=>?_)
 ·obtain⟨a,ns,rfl,_⟩:=h
  rfl
 ·obtain⟨a,ns,rfl,hS,hlen,q⟩:=h
  refine⟨_,(pss_cons (ps_set (i:=1) xU.nd rfl (Or.inl rfl) (pe_op zf pe_int (pe_op zT (zJ qT (hr.mono (by decide)) (by rfl) (pa_cons (pv 0) (pa_cons pe_int pa_nil))) pe_int)))
   (pss_cons (ps_set (i:=2) xU.nd rfl (Or.inl rfl) (pe_op zT (zJ qT (hr.mono (by decide)) (by rfl) (pa_cons (pv 0) (pa_cons pe_int pa_nil))) (pe_op XQ pe_int pe_int)))
   (pss_cons (ps_set (i:=3) xU.nd rfl (Or.inl rfl) (pe_op zT (pv 2) pe_int))
   (pss_cons (ps_set (i:=4) xU.nd rfl (Or.inl rfl) (pe_op zf (pe_op zf (pv 1) (pe_op z9 (pe_op zf pe_int (pe_op zT (pe_op zR (pv 2) pe_int) pe_int)) (pe_op zf (pv 3) pe_int))) (pe_op zT (pe_op zR (pv 2) pe_int) (pe_op zf (pv 3) pe_int))))
   (pss_cons (ps_set (i:=5) xU.nd rfl (Or.inl rfl) (pe_op zB (zJ zX (hr.mono (by decide)) (by rfl) (pa_cons (pv 4) (pa_cons (pv 1) (pa_cons (pv 3) pa_nil)))) pe_int))
   (pss_cons (ps_set (i:=6) xU.nd rfl (Or.inl rfl) (zJ Za (hr.mono (by decide)) (by rfl) (pa_cons (pv 0) (pa_cons (pv 5) pa_nil))))
   (pss_cons (ps_set (i:=7) xU.nd rfl (Or.inl rfl) (zJ J2 (hr.mono (by decide)) (by rfl) (pa_cons (zJ zav (hr.mono (by decide)) (by rfl) (pa_cons (pe_op op_cat (pv 6) (pe_lst (pa_cons pe_int pa_nil))) (pa_cons (pv 4) (pa_cons (pv 1) (pa_cons (pv 3) pa_nil))))) (pa_cons (pv 3) (pa_cons (pv 2) pa_nil)))))
   (pss_cons (ps_if (pt_not (pt_val (zJ kO (hr.mono (by decide)) (by rfl) (pa_cons (pv 7) (pa_cons (pv 4) (pa_cons (pv 1) (pa_cons (pv 3) pa_nil)))))))
    (pss_one (ps_ret pe_bl))
    pss_nil)
   (pss_cons (ps_for PassesOwn.never rfl (pi_range1 (by rfl) T.z_range (pa_cons pe_int pa_nil)) (pg_name (i:=8) xU.nd rfl (Or.inl rfl))
    (pss_cons (ps_set (i:=9) xU.nd rfl (Or.inl rfl) (zJ Je (hr.mono (by decide)) (by rfl) (pa_cons (pv 7) (pa_cons (pv 4) (pa_cons (pv 3) (pa_cons (pe_op z9 (pe_op zf (pv 2) (pv 8)) (pe_op zf (pe_op zf (pv 2) (pe_op z9 pe_int (pv 8))) pe_int)) pa_nil))))))
    (pss_one (ps_if (pt_not (pt_val (zJ kO (hr.mono (by decide)) (by rfl) (pa_cons (pv 9) (pa_cons (pv 4) (pa_cons (pv 1) (pa_cons (pv 3) pa_nil)))))))
     (pss_one (ps_ret pe_bl))
     pss_nil))))
   (pss_one (ps_ret pe_bl))))))))))),?_⟩
  refine⟨_,rfl,a,ns,0,rfl,hS,by decide,_,_,rfl,rfl,(by decide),_,_,rfl,rfl,?_⟩
  have b1:1≤1+cellOf ns 0 % 12:=by have:=Int.emod_nonneg (cellOf ns 0) (show (12:Int)≠0 by decide);omega
  have b12:1+cellOf ns 0 % 12≤12:=by have:=Int.emod_lt_of_pos (cellOf ns 0) (show (0:Int)<12 by decide);omega
  generalize 1+cellOf ns 0 % 12=bells at b1 b12 ⊢
  refine⟨_,rfl,a,ns,1,rfl,hS,by decide,_,_,rfl,rfl,⟨by decide,by decide,by decide⟩,_,_,rfl,rfl,by decide,?_⟩
  have v0:=Int.emod_nonneg (cellOf ns 1) (show (10:Int) ^ (40:Int).toNat≠0 by decide)
  have v1:=Int.emod_lt_of_pos (cellOf ns 1) (show (0:Int)<10 ^ (40:Int).toNat by decide)
  have e40:(10:Int) ^ (40:Int).toNat<2 ^ 139:=by decide
  generalize cellOf ns 1 % 10 ^ (40:Int).toNat=cell at v0 v1 ⊢
  have cb:intBits cell≤140:=zq v0 (by omega)
  refine⟨_,rfl,_,_,rfl,rfl,(by decide),?_⟩
  have l0:=Int.emod_nonneg cell (show (6:Int)≠0 by decide)
  have l6:=Int.emod_lt_of_pos cell (show (0:Int)<6 by decide)
  generalize cell % 6=late at l0 l6 ⊢
  have s0:=Int.emod_nonneg (cell / 6) (show (10:Int)≠0 by decide)
  have s1:=Int.emod_lt_of_pos (cell / 6) (show (0:Int)<10 by decide)
  have r0:=Int.emod_nonneg (cell / 60) (show late+1≠0 by omega)
  have r1:=Int.emod_lt_of_pos (cell / 60) (show 0<late+1 by omega)
  refine⟨_,rfl,_,rfl,_,_,rfl,rfl,⟨by decide,by decide⟩,_,_,rfl,rfl,(by decide),_,_,rfl,rfl,_,rfl,_,_,rfl,rfl,_,_,rfl,rfl,⟨64,64,zq (by omega) (by omega),zq (by omega) (by omega),by decide⟩,_,_,rfl,rfl,_,rfl,_,_,rfl,rfl,⟨by decide,by decide⟩,_,rfl,_,_,rfl,rfl,_,_,rfl,rfl,by omega,_,_,rfl,rfl,?_⟩
  obtain⟨c4,c40,c17⟩:=Wn (s:=3+cell / 6 % 10) (b:=bells) (by omega) (by omega) b1 b12
  rw [← VP (bells:=bells) (late:=late) (steps:=3+cell / 6 % 10) (r:=cell / 60 % (late+1)) l0 (by omega) r0 r1] at c4 c40 c17
  have x0:0≤(3+cell / 6 % 10)*(late+1):=Int.mul_nonneg (by omega) (by omega)
  have x1:(3+cell / 6 % 10)*(late+1)≤12*6:=Int.mul_le_mul (by omega) (by omega) (by omega) (by omega)
  have bt:bells≤bells+(3+cell / 6 % 10)*(late+1)+cell / 60 % (late+1):=by omega
  have t90:bells+(3+cell / 6 % 10)*(late+1)+cell / 60 % (late+1)≤100:=by omega
  generalize bells+(3+cell / 6 % 10)*(late+1)+cell / 60 % (late+1)=turns at c4 c40 c17 bt t90 ⊢
  clear x0 x1 r0 r1 s0 s1 v1
  have tb:intBits turns≤7:=zq (by omega) (by omega)
  have lb:intBits late≤7:=zq (by omega) (by omega)
  have mk:∀rd:List Int,rd.length≤1000→∃n,zap rd turns bells late n:=fun rd hr=>by
   obtain⟨n,h1,h2,h3⟩:=Yd (turns:=turns) (late:=late) b1 rd
   exact⟨n,⟨⟨hr,by omega,by omega,l0,zc lb (by decide),by omega,by omega,zc tb (by decide),by omega,h2⟩,b1,bt,by omega,c40,h3⟩⟩
  refine⟨_,rfl,_,rfl,_,rfl,turns,bells,late,rfl,by omega,by omega,l0,zc lb (by decide),zc tb (by decide),_,_,rfl,rfl,?_⟩
  refine⟨_,rfl,_,rfl,a,ns,cnt turns bells late-1,rfl,hS,by omega,by omega,fun pm ms H1 s1 fm hM mb ml=>?_⟩
  have few:(ms.length+1)*bells.toNat≤1000∧ms.length+1≤300:=by
   have hb:bells.toNat≤12:=by omega
   rcases ml with h1 | h1
   ·have:=Nat.mul_le_mul (show ms.length+1≤43 by omega) hb
    omega
   ·by_cases b3:3≤bells
    ·have h2:=h1 4 (by have:=c17 b3;show (2:Int) ^ 4≤_;rw [show (2:Int) ^ 4=16 by decide];omega)
     have:=Nat.mul_le_mul (show ms.length+1≤74 by omega) hb
     omega
    ·have h2:=h1 1 (by rw [Int.pow_one];omega)
     have:=Nat.mul_le_mul (show ms.length+1≤289 by omega) (show bells.toNat≤2 by omega)
     omega
  refine⟨_,rfl,(by show 1≤sizeLine;decide),fun p1 hp1=>⟨pm,p1,_,_,rfl,rfl,(Same.new hp1) _ _ hM,upd_same,by rw [List.length_map];exact Nat.le_of_lt (small1000 (by show ms.length+1≤1000;omega)),fun p2 hp2=>?_⟩⟩
  have e0:ms.map V.int++[V.int 0]=(ms++[0]).map V.int:=by rw [List.map_append];rfl
  rw [e0]
  have s2:=(s1.put (o:=.lst [V.int 0]) hp1).put (o:=.lst ((ms++[0]).map V.int)) hp2
  have h2:(upd (upd H1 p1 (.lst [V.int 0])) p2 (.lst ((ms++[0]).map V.int))) p2=some (.lst ((ms++[0]).map V.int)):=upd_same
  generalize upd (upd H1 p1 (.lst [V.int 0])) p2 (.lst ((ms++[0]).map V.int))=H2 at s2 h2 ⊢
  have ml2:(ms++[(0:Int)]).length=ms.length+1:=by rw [List.length_append];rfl
  have p50:(2:Int) ^ 40<2 ^ 50:=by decide
  have zcK:intBits (cnt turns bells late)≤50:=zq (by omega) (by omega)
  refine⟨_,rfl,_,rfl,_,rfl,p2,ms++[0],turns,bells,late,rfl,SqL.of h2,by omega,b1,by omega,bt,l0,zc lb (by decide),zc tb (by decide),fun m hm=>?_,fun pr bss H3 s3 fr hR bl hbs _=>?_⟩
  ·rcases List.mem_append.mp hm with h1 | h1
   ·have:=mb m h1
    exact⟨by omega,by omega,zc (yj (y:=cnt turns bells late) (by omega) (by omega) zcK) (by decide)⟩
   ·rw [List.mem_singleton.mp h1]
    exact⟨by omega,by omega,by decide⟩
  have rl:(xN (turns+late) late 0 bss).length=bss.length*bells.toNat:=Qt bss 0 fun bs hb=>by
   obtain⟨i,hi⟩:=List.getElem?_of_mem hb
   have il:=(List.getElem?_eq_some_iff.mp hi).1
   exact(hbs i bs _ hi (List.getElem?_eq_getElem (by omega))).2.1
  rw [bl,ml2] at rl
  have rpos:1≤(ms.length+1)*bells.toNat:=Nat.le_trans (show 1≤bells.toNat by omega) (Nat.le_mul_of_pos_left _ (by omega))
  refine⟨_,rfl,_,rfl,pr,xN (turns+late) late 0 bss,late,cell,rfl,SqL.of hR,by omega,l0,cb,fun pd rd H4 s4 fd' hD dl=>?_⟩
  have rd1:rd.length≤1000:=by omega
  obtain⟨n,R⟩:=mk rd rd1
  refine⟨_,rfl,_,rfl,_,rfl,_,rfl,pd,rd,turns,bells,late,n,rfl,SqL.of hD,R,fun H5 s5=>⟨_,rfl,iteF ?_⟩⟩
  have hD5:=s5 _ _ hD
  refine⟨2,rfl,by decide,by decide,for_range (n:=2) (fun i σ H6=>∃v8 v9:Option V,σ=[some (.ref a),some (.int bells),some (.int cell),some (.int late),some (.int turns),some (.int (cnt turns bells late-1)),some (.ref pm),some (.ref pd),v8,v9]∧Same H5 H6) ⟨none,none,rfl,Same.refl _⟩ ?_ ?_⟩
  ·rintro i σ H6 hi ⟨v8,v9,rfl,s6⟩
   rw [show (0:Int)+(i:Int)=(i:Int) by omega]
   have ib:intBits (i:Int)≤64:=zq (by omega) (by omega)
   have k1:intBits (cell+(i:Int))≤300:=zc (intBits_add_le (m:=140) (n:=64) cb ib) (by decide)
   have k2:intBits (cell+2*(i:Int)+1)≤300:=zc (intBits_add_le (m:=200) (n:=1) (zc (intBits_add_le (m:=140) (n:=64) cb (zq (by omega) (by omega))) (by decide)) (by decide)) (by decide)
   refine⟨_,rfl,_,rfl,_,rfl,_,rfl,_,rfl,_,_,rfl,rfl,_,rfl,_,rfl,_,_,rfl,rfl,⟨2,64,by decide,ib,by decide⟩,_,_,rfl,rfl,_,_,rfl,rfl,_,_,rfl,rfl,⟨300,300,k1,k2,by decide⟩,pd,rd,turns,late,_,rfl,SqL.of (s6 _ _ hD5),by omega,rd1,by omega,fun pv rd' H7 s7 _ hV vl=>?_⟩
   obtain⟨n',R'⟩:=mk rd' (by omega)
   exact⟨_,rfl,_,rfl,_,rfl,_,rfl,pv,rd',turns,bells,late,n',rfl,SqL.of hV,R',fun H8 s8=>⟨_,rfl,iteF ⟨_,_,rfl,(s6.trans s7).trans s8⟩⟩⟩
  ·rintro σ H6 ⟨v8,v9,rfl,s6⟩
   exact q _
end
theorem Vo {α:Type}{F:List α→Prop}{us:List α} (h:us.length=0) (k:F []):F us:=by
 cases us with
 | nil=>exact k
 | cons a r=>cases h
theorem Vp {α:Type}{F:List α→Prop}{us:List α} (h:us.length=1) (k:∀a,F [a]):F us:=by
 cases us with
 | nil=>cases h
 | cons a r=>exact Vo (F:=fun r=>F (a::r)) (Nat.succ.inj h) (k a)
theorem Vq {α:Type}{F:List α→Prop}{us:List α} (h:us.length=2) (k:∀a b,F [a,b]):F us:=by
 cases us with
 | nil=>cases h
 | cons a r=>exact Vp (F:=fun r=>F (a::r)) (Nat.succ.inj h) (k a)
theorem Vr {α:Type}{F:List α→Prop}{us:List α} (h:us.length=3) (k:∀a b c,F [a,b,c]):F us:=by
 cases us with
 | nil=>cases h
 | cons a r=>exact Vq (F:=fun r=>F (a::r)) (Nat.succ.inj h) (k a)
theorem Yl {α:Type}{F:List α→Prop}{us:List α} (h:us.length=4) (k:∀a b c d,F [a,b,c,d]):F us:=by
 cases us with
 | nil=>cases h
 | cons a r=>exact Vr (F:=fun r=>F (a::r)) (Nat.succ.inj h) (k a)
theorem XN {fd:FuncData}{ps:List Str}{us:List Value} (h:us.length=0) (k:bindArgs fd ⟨[],[]⟩=pure (ps.zip [])):bindArgs fd ⟨us,[]⟩=pure (ps.zip us):=Vo (F:=fun us=>bindArgs fd ⟨us,[]⟩=pure (ps.zip us)) h k
theorem xF {fd:FuncData}{ps:List Str}{us:List Value} (h:us.length=1) (k:∀a,bindArgs fd ⟨[a],[]⟩=pure (ps.zip [a])):bindArgs fd ⟨us,[]⟩=pure (ps.zip us):=Vp (F:=fun us=>bindArgs fd ⟨us,[]⟩=pure (ps.zip us)) h k
theorem zQ {fd:FuncData}{ps:List Str}{us:List Value} (h:us.length=2) (k:∀a b,bindArgs fd ⟨[a,b],[]⟩=pure (ps.zip [a,b])):bindArgs fd ⟨us,[]⟩=pure (ps.zip us):=Vq (F:=fun us=>bindArgs fd ⟨us,[]⟩=pure (ps.zip us)) h k
theorem xG {fd:FuncData}{ps:List Str}{us:List Value} (h:us.length=3) (k:∀a b c,bindArgs fd ⟨[a,b,c],[]⟩=pure (ps.zip [a,b,c])):bindArgs fd ⟨us,[]⟩=pure (ps.zip us):=Vr (F:=fun us=>bindArgs fd ⟨us,[]⟩=pure (ps.zip us)) h k
theorem qF {fd:FuncData}{ps:List Str}{us:List Value} (h:us.length=4) (k:∀a b c d,bindArgs fd ⟨[a,b,c,d],[]⟩=pure (ps.zip [a,b,c,d])):bindArgs fd ⟨us,[]⟩=pure (ps.zip us):=Yl (F:=fun us=>bindArgs fd ⟨us,[]⟩=pure (ps.zip us)) h k
noncomputable def DI (K:W.Frag) (x:Str) (st:Stmt) (f:Addr):Prop:=∃(oc:Value) (od:Option Addr) (sl:Array (Option Value)) (kV dc pm:Value) (an:Option Addr) (cd ct:Value),W.nsIn K mainGlobals x=some (some (.ref f))∧K.lookup f=some ⟨oc,od,.func (W.fnOf x x (defArgs st) (defBody st) (defScope st) .none kV dc pm an cd ct),sl⟩∧W.codeIn K cd x=true∧W.keepIn K (.ref f)=true
theorem DI.dd {K:W.Frag}{h:Heap}{mg:Str→Option Value}{x:Str}{st:Stmt}{f:Addr}{ps:List Str} (d:DI K x st f) (X:K.In h) (G:h.Ns mainGlobals mg) (hb:∀(kV dc pm:Value) (an:Option Addr) (cd ct:Value) (us:List Value),us.length=ps.length→bindArgs (W.fnOf x x (defArgs st) (defBody st) (defScope st) .none kV dc pm an cd ct) ⟨us,[]⟩=pure (ps.zip us)):Def K mg x st ps:=by
 obtain⟨oc,od,sl,kV,dc,pm,an,cd,ct,a,l,c,k⟩:=d
 exact⟨f,_,fun_mk l c k,(fun_mk (st:=st) l c k).binds (ps:=ps) hb,W.mg_of X G a⟩
theorem di_mk {K:W.Frag}{x:Str}{st:Stmt}{f:Addr}{oc:Value}{od:Option Addr}{sl:Array (Option Value)}{kV dc pm:Value}{an:Option Addr}{cd ct:Value} (a:W.nsIn K mainGlobals x=some (some (.ref f))) (l:K.lookup f=some ⟨oc,od,.func (W.fnOf x x (defArgs st) (defBody st) (defScope st) .none kV dc pm an cd ct),sl⟩) (c:W.codeIn K cd x=true) (k:W.keepIn K (.ref f)=true):DI K x st f:=⟨_,_,_,_,_,_,_,_,_,a,l,c,k⟩
theorem all_mk {l:W.OpenLaw} (hP:l.prog.given.tree=none){w:World}{K:W.Frag}{h:Heap}{mg:Str→Option Value}{fa:Addr} (X:K.In h) (G:h.Ns mainGlobals mg) (hfa:mg "law"=some (.ref fa))
  {f0:Addr} (d0:DI K "choose" vd f0)
  {f1:Addr} (d1:DI K "top_from" jQ f1)
  {f2:Addr} (d2:DI K "above_top" jo f2)
  {f3:Addr} (d3:DI K "rounded_up" je f3)
  {f4:Addr} (d4:DI K "box_of" vf f4)
  {f5:Addr} (d5:DI K "bell_row" jR f5)
  {f6:Addr} (d6:DI K "heard_box" jq f6)
  {f7:Addr} (d7:DI K "box_count" jr f7)
  {f8:Addr} (d8:DI K "greatest_part" qt f8)
  {f9:Addr} (d9:DI K "box_number" jf f9)
  {f10:Addr} (d10:DI K "box_of_message" qe f10)
  {f11:Addr} (d11:DI K "written" xf f11)
  {f12:Addr} (d12:DI K "read" yd f12)
  {f13:Addr} (d13:DI K "refuse_silent" qu f13)
  {f14:Addr} (d14:DI K "rung" ye f14)
  {f15:Addr} (d15:DI K "by_messages" qN f15)
  {f16:Addr} (d16:DI K "note_number" qO f16)
  {f17:Addr} (d17:DI K "note_of" xg f17)
  {f18:Addr} (d18:DI K "number_of_parts" zY f18)
  {f19:Addr} (d19:DI K "received" jT f19)
  {f20:Addr} (d20:DI K "messages_ahead_of_end" zE f20)
  {f21:Addr} (d21:DI K "_law_cell_at" qG f21)
  {f22:Addr} (d22:DI K "_law_most" jt f22)
  {f23:Addr} (d23:DI K "_law_note" ju f23)
  {f24:Addr} (d24:DI K "_law_messages" qw f24)
  {f25:Addr} (d25:DI K "_law_sum" jU f25)
  {f26:Addr} (d26:DI K "_law_late" jw f26)
  {f27:Addr} (d27:DI K "_law_choose" qP f27)
  {f28:Addr} (d28:DI K "_law_message" qH f28)
  {f29:Addr} (d29:DI K "_law_due" jV f29)
  {f30:Addr} (d30:DI K "_law_moved" jg f30)
  {f31:Addr} (d31:DI K "_law_is_told" qI f31)
  {f32:Addr} (d32:DI K "_law_other" jh f32)
  {f33:Addr} (d33:DI K "law" yC f33)
  (z_range:W.nsIn K mainGlobals "range"=some none)
  (z_isinstance:W.nsIn K mainGlobals "isinstance"=some none)
  (z_int:W.nsIn K mainGlobals "int"=some none)
  (z_bool:W.nsIn K mainGlobals "bool"=some none)
  (z_len:W.nsIn K mainGlobals "len"=some none)
  (z_list:W.nsIn K mainGlobals "list"=some none)
  (z_max:W.nsIn K mainGlobals "max"=some none)
  (z_min:W.nsIn K mainGlobals "min"=some none)
  (z_enumerate:W.nsIn K mainGlobals "enumerate"=some none)
  (z_str:W.nsIn K mainGlobals "str"=some none)
  (z_sorted:W.nsIn K mainGlobals "sorted"=some none)
  (z_sum:W.nsIn K mainGlobals "sum"=some none)
  (z_reversed:W.nsIn K mainGlobals "reversed"=some none)
  (z_ValueError:W.nsIn K mainGlobals "ValueError"=some none)
  {zy:Addr} (qj:W.nsIn K mainGlobals "BellError"=some (some (.ref zy)))
  {qp:Addr} (j6:W.nsIn K mainGlobals "NoRow"=some (some (.ref qp)))
  {za:Addr} (zj:W.nsIn K mainGlobals "NoReading"=some (some (.ref za)))
  {zA:Addr} (qC:W.nsIn K mainGlobals "TooGreat"=some (some (.ref zA)))
  {z7:Addr} (qW:W.nsIn K mainGlobals "TooMany"=some (some (.ref z7)))
  {zp:Addr} (zH:W.nsIn K mainGlobals "NoNote"=some (some (.ref zp)))
  {z8:Addr} (qX:W.nsIn K mainGlobals "NoOrder"=some (some (.ref z8)))
  {qJ:Addr} (jD:W.nsIn K mainGlobals "NoName"=some (some (.ref qJ)))
  {jB:Tok} (qg:W.nsIn K mainGlobals "SIGNS"=some (some (.str "abcdefghijklmnopqrstuvwxyz " jB)))
  {zL:Tok} (zr:W.nsIn K mainGlobals "MOST_SIGNS"=some (some (.int 60 zL)))
  (ql:W.excIn K zy bmV "ValueError.__new__"=true)
  (zM:W.excIn K zp bmV "ValueError.__new__"=true)
  (xQ:W.excIn K qp bmV "ValueError.__new__"=true)
  (qR:W.excIn K zA bmV "ValueError.__new__"=true)
  (zm:W.excIn K za bmV "ValueError.__new__"=true)
  (yu:W.mroIn K za (.ref zy)=some true)
  (Z8:W.findIn K (.ref za) "__getattribute__"=some (some (.builtin "BaseException.__getattribute__")))
  (Z9:W.findIn K (.ref za) "__getattr__"=some none)
  (Qa:W.findIn K (.ref za) "__class__"=some (some (.builtin "object.__class__")))
  (Qc:W.mroIn K za (.type "object")=some true)
  (Qd:W.mroIn K za (.type "BaseException")=some true)
  (Qe:W.specialIn K (.builtin "object.__class__") "__get__"=some (some (.builtin "getset_descriptor.__get__")))
  (Qf:W.takesIn K (.builtin "object.__class__")=some true)
  (jE:W.kitOne K (.ref za) (.ref zp)=some false)
  (j7:W.kitOne K (.ref za) (.ref qp)=some false)
  (qD:W.kitOne K (.ref za) (.ref zA)=some false)
  (qm:W.kitOne K (.ref za) (.ref za)=some true)
  (qY:W.kitOne K (.ref za) (.ref z7)=some false)
  (jF:W.kitOne K (.ref za) (.ref qJ)=some false)
  (qZ:W.kitOne K (.ref za) (.ref z8)=some false)
  (j8:W.kitOne K (.ref za) (.type "ValueError")=some true)
  : ∃fd:FuncData,(∀(s:Shared) (v:Value),BindsTo s fd ⟨[v],[]⟩ [("script",v)])∧∀base:Heap,K.In base→base.Ns mainGlobals mg→FnOk l.prog w K mg base CX0 45 fa fd ["script"] (spLaw K):=by
 obtain⟨_,_,_,kL,dL,pL,nL,cL,tL,aL,lL,eL,rL⟩:=d33
 have e:=hfa.symm.trans (W.mg_of X G aL)
 cases e
 have ZQ:Def K mg "choose" vd ["n","k"]:=d0.dd X G fun _ _ _ _ _ _ us hl=>zQ hl fun _ _=>rfl
 have wN:Def K mg "top_from" jQ ["start","k","number"]:=d1.dd X G fun _ _ _ _ _ _ us hl=>xG hl fun _ _ _=>rfl
 have vZ:Def K mg "above_top" jo ["k","number"]:=d2.dd X G fun _ _ _ _ _ _ us hl=>zQ hl fun _ _=>rfl
 have vI:Def K mg "rounded_up" je ["number","divisor"]:=d3.dd X G fun _ _ _ _ _ _ us hl=>zQ hl fun _ _=>rfl
 have ZR:Def K mg "box_of" vf ["row","late"]:=d4.dd X G fun _ _ _ _ _ _ us hl=>zQ hl fun _ _=>rfl
 have wO:Def K mg "bell_row" jR ["box","late"]:=d5.dd X G fun _ _ _ _ _ _ us hl=>zQ hl fun _ _=>rfl
 have kh:Def K mg "heard_box" jq ["reading","late"]:=d6.dd X G fun _ _ _ _ _ _ us hl=>zQ hl fun _ _=>rfl
 have kj:Def K mg "box_count" jr ["turns","bells","late"]:=d7.dd X G fun _ _ _ _ _ _ us hl=>xG hl fun _ _ _=>rfl
 have jX:Def K mg "greatest_part" qt ["turns","bells","late"]:=d8.dd X G fun _ _ _ _ _ _ us hl=>xG hl fun _ _ _=>rfl
 have vJ:Def K mg "box_number" jf ["box"]:=d9.dd X G fun _ _ _ _ _ _ us hl=>xF hl fun _=>rfl
 have jO:Def K mg "box_of_message" qe ["message","bells"]:=d10.dd X G fun _ _ _ _ _ _ us hl=>zQ hl fun _ _=>rfl
 have yL:Def K mg "written" xf ["message","turns","bells","late"]:=d11.dd X G fun _ _ _ _ _ _ us hl=>qF hl fun _ _ _ _=>rfl
 have XJ:Def K mg "read" yd ["reading","turns","bells","late"]:=d12.dd X G fun _ _ _ _ _ _ us hl=>qF hl fun _ _ _ _=>rfl
 have jY:Def K mg "refuse_silent" qu ["turns","bells"]:=d13.dd X G fun _ _ _ _ _ _ us hl=>zQ hl fun _ _=>rfl
 have XM:Def K mg "rung" ye ["messages","turns","bells","late"]:=d14.dd X G fun _ _ _ _ _ _ us hl=>qF hl fun _ _ _ _=>rfl
 have xV:Def K mg "by_messages" qN ["reading","turns","late"]:=d15.dd X G fun _ _ _ _ _ _ us hl=>xG hl fun _ _ _=>rfl
 have xW:Def K mg "note_number" qO ["note"]:=d16.dd X G fun _ _ _ _ _ _ us hl=>xF hl fun _=>rfl
 have yM:Def K mg "note_of" xg ["number"]:=d17.dd X G fun _ _ _ _ _ _ us hl=>xF hl fun _=>rfl
 have jG:Def K mg "number_of_parts" zY ["figures","base"]:=d18.dd X G fun _ _ _ _ _ _ us hl=>zQ hl fun _ _=>rfl
 have wQ:Def K mg "received" jT ["reading","turns","bells","late"]:=d19.dd X G fun _ _ _ _ _ _ us hl=>qF hl fun _ _ _ _=>rfl
 have qy:Def K mg "messages_ahead_of_end" zE ["reading","turns","bells","late"]:=d20.dd X G fun _ _ _ _ _ _ us hl=>qF hl fun _ _ _ _=>rfl
 have xr:Def K mg "_law_cell_at" qG ["script","k"]:=d21.dd X G fun _ _ _ _ _ _ us hl=>zQ hl fun _ _=>rfl
 have km:Def K mg "_law_most" jt []:=d22.dd X G fun _ _ _ _ _ _ us hl=>XN hl rfl
 have kI:Def K mg "_law_note" ju ["number"]:=d23.dd X G fun _ _ _ _ _ _ us hl=>xF hl fun _=>rfl
 have jZ:Def K mg "_law_messages" qw ["script","base"]:=d24.dd X G fun _ _ _ _ _ _ us hl=>zQ hl fun _ _=>rfl
 have wR:Def K mg "_law_sum" jU ["messages","base"]:=d25.dd X G fun _ _ _ _ _ _ us hl=>zQ hl fun _ _=>rfl
 have kJ:Def K mg "_law_late" jw ["told","late","cell"]:=d26.dd X G fun _ _ _ _ _ _ us hl=>xG hl fun _ _ _=>rfl
 have xX:Def K mg "_law_choose" qP ["n","k"]:=d27.dd X G fun _ _ _ _ _ _ us hl=>zQ hl fun _ _=>rfl
 have xu:Def K mg "_law_message" qH ["part","bells","late","steps"]:=d28.dd X G fun _ _ _ _ _ _ us hl=>qF hl fun _ _ _ _=>rfl
 have wU:Def K mg "_law_due" jV ["reading","turns","bells","late"]:=d29.dd X G fun _ _ _ _ _ _ us hl=>qF hl fun _ _ _ _=>rfl
 have vK:Def K mg "_law_moved" jg ["reading","turns","late","cell"]:=d30.dd X G fun _ _ _ _ _ _ us hl=>qF hl fun _ _ _ _=>rfl
 have xx:Def K mg "_law_is_told" qI ["reading","turns","bells","late"]:=d31.dd X G fun _ _ _ _ _ _ us hl=>qF hl fun _ _ _ _=>rfl
 have vL:Def K mg "_law_other" jh ["e"]:=d32.dd X G fun _ _ _ _ _ _ us hl=>xF hl fun _=>rfl
 have T:Txt K mg:=⟨W.mg_none_of X G z_range,W.mg_none_of X G z_isinstance,W.mg_none_of X G z_int,W.mg_none_of X G z_bool,W.mg_none_of X G z_len,W.mg_none_of X G z_list,W.mg_none_of X G z_max,W.mg_none_of X G z_min,W.mg_none_of X G z_enumerate,W.mg_none_of X G z_str,W.mg_none_of X G z_sorted,W.mg_none_of X G z_sum,W.mg_none_of X G z_reversed,W.mg_none_of X G z_ValueError⟩
 exact⟨W.fnOf "law" "law" (defArgs yC) (defBody yC) (defScope yC) .none kL dL pL nL cL tL,fun s v=>.of_eq rfl,fun base _ _=>ok_law hP (fun_mk lL eL rL) T ZQ wN vZ vI ZR wO kh kj jX vJ jO yL XJ jY XM xV xW yM jG wQ qy xr km kI jZ wR kJ xX xu wU vK xx vL (W.mg_of X G qj) (W.mg_of X G j6) (W.mg_of X G zj) (W.mg_of X G qC) (W.mg_of X G qW) (W.mg_of X G zH) (W.mg_of X G qX) (W.mg_of X G jD) (W.mg_of X G qg) (W.mg_of X G zr) ql zM xQ qR zm yu Z8 Z9 Qa Qc Qd Qe Qf jE j7 qD qm qY jF qZ j8⟩
theorem walk {l:W.OpenLaw}{q:Program}{loose:List Str}{XP:(Str→Option Value)→Heap→Prop}{YP:World→Heap→Prop}{d:DefRec}{K:Params→W.Frag} (hn:l.most=some 63) (hdf:d.params.defaults=[]) (hq:PyProof.Rows.importsNone q=true)
  (hY:∀(w:World) (h:Heap),YP w h→(K w.params).In h)
  (F:∀(w:World) (mg:Str→Option Value) (fa:Addr) (h:Heap),(K w.params).In h→h.Ns mainGlobals mg→mg d.name=some (.ref fa) →
   ∃fd:FuncData,(∀(s:Shared) (u:Value),BindsTo s fd ⟨[u],[]⟩ [("script",u)])∧∀base:Heap,(K w.params).In base→base.Ns mainGlobals mg→FnOk l.prog w (K w.params) mg base CX0 45 fa fd ["script"] (spLaw (K w.params))) :
  W.WalkO q loose XP YP l.row.toRowW d [] (fun f vs=>PySem.call f vs):=
 L2.walk_of (n:=63) (k:=45) (x:="script") (CX:=fun _=>CX0) (sp:=fun w=>spLaw (K w.params)) hn (by decide) hdf hq ⟨rfl,by decide,by decide⟩ hY F (fun _ _ a ns hl hbt _ hS=>⟨a,ns,rfl,hS,hl,fun _=>rfl⟩) fun _ _ _ _ _ z=>z
end Bw
namespace Op
noncomputable section
open PySem PySem.W PyProof.Rows L2
noncomputable abbrev p:Program:=PySem.Challenge.pw_bellwrite_k80_other_talks
noncomputable def t (i:Nat):Stmt:=p.main.body.getD i (.Pass ⟨0,0,0,0⟩)
noncomputable def u (i j:Nat):Stmt:=inClass (t i) j
noncomputable abbrev fd (s:Stmt) (nm qn:Str) (g:Addr) (cl:List (Str×Addr)) (d kd dc pm:Value) (an:Option Addr) (cd ct:Value) (bi:Addr):FuncData:=⟨nm,qn,defArgs s,.stmts (defBody s),defScope s,g,cl,d,kd,dc,pm,an,cd,ct,bi⟩
noncomputable abbrev e (P:Params) (s:Str) (k:Tok) (v:Value):DictEntry:=⟨PyData.keyHash P s,.str s k,v⟩
abbrev n:=BT.node
abbrev z:=BT.nil
abbrev vi (k:Int):Value:=.int k 0
abbrev vr (a:Addr):Value:=.ref a
abbrev vs (x:Str) (k:Tok):Value:=.str x k
abbrev vc (k:Tok):Value:=.str "/claim/cut.py" k
noncomputable abbrev b7 (P:Params):=boot_o_7 P
noncomputable abbrev y7 (P:Params):BT:=n (boot_o_7 P) z z
noncomputable abbrev b8 (P:Params):=boot_o_8 P
noncomputable abbrev y8 (P:Params):BT:=n (boot_o_8 P) z z
abbrev vy:=Value.type
abbrev vb:=Value.builtin
abbrev tp (xs:Array Value):Obj:=⟨vy "tuple",none,.seq xs 0,#[]⟩
abbrev co (xs:Array Value):Obj:=⟨vy "code",none,.fields xs,#[]⟩
noncomputable abbrev fo (x:Stmt) (nm qn:Str) (m:Value) (c:Addr):Obj:=⟨vy "function",none,.func (fd x nm qn 3 [] .none .none .none m none (.ref c) .none 0),#[]⟩
noncomputable abbrev go (x:Stmt) (nm qn:Str):Obj:=⟨.none,none,.func (fd x nm qn 0 [] .none .none .none .none none .none .none 0),#[]⟩
noncomputable def lf:Life:=⟨[],[],[],0,[],[],false,#[],[],0,false,false,false,0,[2000,10,10],false,0,true,[],[],0,false⟩
noncomputable def o1:Obj:=co #[(vs "<module>" 182),(vs "<module>" 183),(vc 184),(vi 1),(vi 0),(vi 0),(vi 0),(vi 0),(vr 11),(.bool false),(vi 181),(vr 12),.none,.none,.none,.none,(vi 185),(vi 1),(vc 186)]
noncomputable def o2:Obj:=⟨(vy "frame"),none,.plain,#[(some (vr 13)),(some (vr 3)),(some (vr 3)),none,(some (vs "__main__" 164)),none,(some (vr 0))]⟩
noncomputable def o3 (P:Params):Obj:=⟨(vy "dict"),none,(.dict #[e P "__name__" 165 (vs "law_bellwrite_k80_other_talks" 525),e P "__doc__" 166 .none,e P "__package__" 167 .none,e P "__loader__" 168 (vb "__main__.__loader__#opaque"),e P "__spec__" 169 .none,e P "__annotations__" 170 (vr 6),e P "__builtins__" 171 (vr 4),e P "__file__" 173 (vc 172),e P "__cached__" 174 .none,e P "choose" 198 (vr 21),e P "top_from" 211 (vr 28),e P "above_top" 222 (vr 35),e P "rounded_up" 230 (vr 42),e P "BellError" 250 (vr 52),e P "NoRow" 266 (vr 65),e P "NoReading" 282 (vr 77),e P "TooGreat" 298 (vr 89),e P "TooMany" 314 (vr 101),e P "NoNote" 330 (vr 113),e P "NoOrder" 346 (vr 125),e P "NoName" 362 (vr 137),e P "box_of" 370 (vr 144),e P "bell_row" 376 (vr 149),e P "heard_box" 387 (vr 156),e P "box_count" 396 (vr 163),e P "greatest_part" 405 (vr 170),e P "box_number" 413 (vr 175),e P "box_of_message" 425 (vr 182),e P "written" 435 (vr 189),e P "read" 446 (vr 196),e P "refuse_silent" 456 (vr 203),e P "rung" 462 (vr 208),e P "by_messages" 474 (vr 215),e P "SIGNS" 478 (vs "abcdefghijklmnopqrstuvwxyz " 477),e P "MOST_SIGNS" 480 (.int 60 479),e P "note_number" 490 (vr 222),e P "note_of" 499 (vr 229),e P "number_of_parts" 505 (vr 234),e P "received" 511 (vr 239),e P "messages_ahead_of_end" 524 (vr 246),e P "_law_cell_at" 534 (vr 253),e P "_law_most" 542 (vr 260),e P "_law_note" 552 (vr 267),e P "_law_messages" 558 (vr 272),e P "_law_sum" 568 (vr 279),e P "_law_late" 579 (vr 286),e P "_law_choose" 589 (vr 293),e P "_law_message" 603 (vr 300),e P "_law_due" 609 (vr 305),e P "_law_moved" 622 (vr 312),e P "_law_is_told" 637 (vr 319),e P "_law_other" 644 (vr 326),e P "law" 660 (vr 333)] 53),#[]⟩
noncomputable def o4:Obj:=⟨.none,none,(.fields #[(vi 2),(vi 0),(vr 20),(vi 9),(vi 0),(vr 27),(vi 18),(vi 0),(vr 34),(vi 24),(vi 0),(vr 41),(vi 27),(vi 0),(vr 48),(vi 29),(vi 0),(vr 61),(vi 31),(vi 0),(vr 73),(vi 33),(vi 0),(vr 85),(vi 35),(vi 0),(vr 97),(vi 37),(vi 0),(vr 109),(vi 39),(vi 0),(vr 121),(vi 41),(vi 0),(vr 133),(vi 44),(vi 0),(vr 143),(vi 46),(vi 0),(vr 148),(vi 48),(vi 0),(vr 155),(vi 56),(vi 0),(vr 162),(vi 60),(vi 0),(vr 169),(vi 63),(vi 0),(vr 174),(vi 65),(vi 0),(vr 181),(vi 76),(vi 0),(vr 188),(vi 80),(vi 0),(vr 195),(vi 88),(vi 0),(vr 202),(vi 91),(vi 0),(vr 207),(vi 98),(vi 0),(vr 214),(vi 107),(vi 0),(vr 221),(vi 117),(vi 0),(vr 228),(vi 129),(vi 0),(vr 233),(vi 138),(vi 0),(vr 238),(vi 145),(vi 0),(vr 245),(vi 154),(vi 0),(vr 252),(vi 158),(vi 0),(vr 259),(vi 163),(vi 0),(vr 266),(vi 171),(vi 0),(vr 271),(vi 184),(vi 0),(vr 278),(vi 189),(vi 0),(vr 285),(vi 194),(vi 0),(vr 292),(vi 199),(vi 0),(vr 299),(vi 211),(vi 0),(vr 304),(vi 225),(vi 0),(vr 311),(vi 230),(vi 0),(vr 318),(vi 244),(vi 0),(vr 325),(vi 248),(vi 0),(vr 332)]),#[]⟩
noncomputable def o5:Obj:=tp #[(vs "n" 192),(vs "k" 193),(vs "ways" 194),(vs "taken" 195)]
noncomputable def o6:Obj:=go (t 1) "choose" "choose"
noncomputable def o7:Obj:=co #[(vs "choose" 189),(vs "choose" 190),(vc 191),(vi 2),(vi 2),(vi 0),(vi 0),(vi 3),(vr 15),(.bool true),(vi 181),(vr 16),.none,(vr 17),(vr 18),(vr 19),(vi 196),(vi 2),(vc 197)]
noncomputable def o8:Obj:=fo (t 1) "choose" "choose" (vs "bellwrite.choices" 187) 20
noncomputable def o9:Obj:=tp #[(vs "start" 202),(vs "k" 203),(vs "number" 204),(vs "top" 205),(vs "ways" 206),(vs "most_off" 207),(vs "step" 208)]
noncomputable def o10:Obj:=go (t 2) "top_from" "top_from"
noncomputable def o11:Obj:=co #[(vs "top_from" 199),(vs "top_from" 200),(vc 201),(vi 9),(vi 3),(vi 0),(vi 0),(vi 3),(vr 22),(.bool true),(vi 181),(vr 23),.none,(vr 24),(vr 25),(vr 26),(vi 209),(vi 9),(vc 210)]
noncomputable def o12:Obj:=fo (t 2) "top_from" "top_from" (vs "bellwrite.choices" 187) 27
noncomputable def o13:Obj:=tp #[(vs "k" 215),(vs "number" 216),(vs "product" 217),(vs "factor" 218),(vs "figures" 219)]
noncomputable def o14:Obj:=go (t 3) "above_top" "above_top"
noncomputable def o15:Obj:=co #[(vs "above_top" 212),(vs "above_top" 213),(vc 214),(vi 18),(vi 2),(vi 0),(vi 0),(vi 3),(vr 29),(.bool true),(vi 181),(vr 30),.none,(vr 31),(vr 32),(vr 33),(vi 220),(vi 18),(vc 221)]
noncomputable def o16:Obj:=fo (t 3) "above_top" "above_top" (vs "bellwrite.choices" 187) 34
noncomputable def o17:Obj:=tp #[(vs "number" 226),(vs "divisor" 227)]
noncomputable def o18:Obj:=go (t 4) "rounded_up" "rounded_up"
noncomputable def o19:Obj:=co #[(vs "rounded_up" 223),(vs "rounded_up" 224),(vc 225),(vi 24),(vi 2),(vi 0),(vi 0),(vi 3),(vr 36),(.bool true),(vi 181),(vr 37),.none,(vr 38),(vr 39),(vr 40),(vi 228),(vi 24),(vc 229)]
noncomputable def o20:Obj:=fo (t 4) "rounded_up" "rounded_up" (vs "bellwrite.choices" 187) 41
noncomputable def o21:Obj:=tp #[(vy "ValueError")]
noncomputable def o22:Obj:=⟨(vy "builtin_function_or_method"),none,(.fields #[(vb "type.__prepare__"),(vy "type")]),#[]⟩
noncomputable def o23 (P:Params):Obj:=⟨(vy "dict"),none,(.dict #[e P "__module__" 240 (vs "bellwrite.errors" 231),e P "__qualname__" 242 (vs "BellError" 241),e P "__firstlineno__" 244 (.int 27 243),e P "__static_attributes__" 245 (vr 50)] 4),#[]⟩
noncomputable def o24:Obj:=co #[(vs "BellError" 235),(vs "BellError" 236),(vc 237),(vi 27),(vi 0),(vi 0),(vi 0),(vi 0),(vr 46),(.bool false),(vi 181),(vr 47),.none,.none,.none,.none,(vi 238),(vi 27),(vc 239)]
noncomputable def o25:Obj:=⟨(vy "frame"),none,.plain,#[(some (vr 48)),(some (vr 3)),(some (vr 45)),none,(some (vs "bellwrite.errors" 231)),none,(some (vr 0))]⟩
noncomputable def o26 (P:Params):Obj:=⟨(vy "dict"),none,(.dict #[e P "__module__" 240 (vs "bellwrite.errors" 231),e P "__firstlineno__" 244 (.int 27 243),e P "__static_attributes__" 245 (vr 50),e P "__weakref__" 247 (vr 53),e P "__doc__" 248 .none] 3),#[]⟩
noncomputable def o27:Obj:=⟨(vy "type"),none,(.cls ⟨"BellError",[(vy "ValueError")],[(vr 52),(vy "ValueError"),(vy "Exception"),(vy "BaseException"),(vy "object")],51,"BellError",true,[],[(vr 65),(vr 77),(vr 89),(vr 101),(vr 113),(vr 125),(vr 137)],false,none,false⟩),#[(some (vr 43)),none,(some (vs "BellError" 233)),(some (vs "BellError" 241)),(some (vb "ValueError.__new__")),(some (.bool true))]⟩
noncomputable def o28:Obj:=⟨(vy "getset_descriptor"),none,(.fields #[(vs "__weakref__" 246),(vr 52),(vb "ExceptionGroup.__weakref__"),.none]),#[]⟩
noncomputable def o29:Obj:=⟨(vy "super"),none,(.fields #[(vr 52),(vr 52),(vr 52)]),#[]⟩
noncomputable def o30:Obj:=⟨(vy "builtin_function_or_method"),none,(.fields #[(vb "object.__init_subclass__"),(vr 52)]),#[]⟩
noncomputable def o31:Obj:=tp #[(vr 52)]
noncomputable def o32 (P:Params):Obj:=⟨(vy "dict"),none,(.dict #[e P "__module__" 258 (vs "bellwrite.errors" 231),e P "__qualname__" 260 (vs "NoRow" 259),e P "__firstlineno__" 262 (.int 29 261),e P "__static_attributes__" 263 (vr 63)] 4),#[]⟩
noncomputable def o33:Obj:=co #[(vs "NoRow" 253),(vs "NoRow" 254),(vc 255),(vi 29),(vi 0),(vi 0),(vi 0),(vi 0),(vr 59),(.bool false),(vi 181),(vr 60),.none,.none,.none,.none,(vi 256),(vi 29),(vc 257)]
noncomputable def o34:Obj:=⟨(vy "frame"),none,.plain,#[(some (vr 61)),(some (vr 3)),(some (vr 58)),none,(some (vs "bellwrite.errors" 231)),none,(some (vr 0))]⟩
noncomputable def o35 (P:Params):Obj:=⟨(vy "dict"),none,(.dict #[e P "__module__" 258 (vs "bellwrite.errors" 231),e P "__firstlineno__" 262 (.int 29 261),e P "__static_attributes__" 263 (vr 63),e P "__doc__" 264 .none] 2),#[]⟩
noncomputable def o36:Obj:=⟨(vy "type"),none,(.cls ⟨"NoRow",[(vr 52)],[(vr 65),(vr 52),(vy "ValueError"),(vy "Exception"),(vy "BaseException"),(vy "object")],64,"NoRow",true,[],[],false,none,false⟩),#[(some (vr 56)),none,(some (vs "NoRow" 251)),(some (vs "NoRow" 259)),(some (vb "ValueError.__new__")),(some (.bool true))]⟩
noncomputable def o37:Obj:=⟨(vy "super"),none,(.fields #[(vr 65),(vr 65),(vr 65)]),#[]⟩
noncomputable def o38:Obj:=⟨(vy "builtin_function_or_method"),none,(.fields #[(vb "object.__init_subclass__"),(vr 65)]),#[]⟩
noncomputable def o39 (P:Params):Obj:=⟨(vy "dict"),none,(.dict #[e P "__module__" 274 (vs "bellwrite.errors" 231),e P "__qualname__" 276 (vs "NoReading" 275),e P "__firstlineno__" 278 (.int 31 277),e P "__static_attributes__" 279 (vr 75)] 4),#[]⟩
noncomputable def o40:Obj:=co #[(vs "NoReading" 269),(vs "NoReading" 270),(vc 271),(vi 31),(vi 0),(vi 0),(vi 0),(vi 0),(vr 71),(.bool false),(vi 181),(vr 72),.none,.none,.none,.none,(vi 272),(vi 31),(vc 273)]
noncomputable def o41:Obj:=⟨(vy "frame"),none,.plain,#[(some (vr 73)),(some (vr 3)),(some (vr 70)),none,(some (vs "bellwrite.errors" 231)),none,(some (vr 0))]⟩
noncomputable def o42 (P:Params):Obj:=⟨(vy "dict"),none,(.dict #[e P "__module__" 274 (vs "bellwrite.errors" 231),e P "__firstlineno__" 278 (.int 31 277),e P "__static_attributes__" 279 (vr 75),e P "__doc__" 280 .none] 2),#[]⟩
noncomputable def o43:Obj:=⟨(vy "type"),none,(.cls ⟨"NoReading",[(vr 52)],[(vr 77),(vr 52),(vy "ValueError"),(vy "Exception"),(vy "BaseException"),(vy "object")],76,"NoReading",true,[],[],false,none,false⟩),#[(some (vr 68)),none,(some (vs "NoReading" 267)),(some (vs "NoReading" 275)),(some (vb "ValueError.__new__")),(some (.bool true))]⟩
noncomputable def o44:Obj:=⟨(vy "super"),none,(.fields #[(vr 77),(vr 77),(vr 77)]),#[]⟩
noncomputable def o45:Obj:=⟨(vy "builtin_function_or_method"),none,(.fields #[(vb "object.__init_subclass__"),(vr 77)]),#[]⟩
noncomputable def o46 (P:Params):Obj:=⟨(vy "dict"),none,(.dict #[e P "__module__" 290 (vs "bellwrite.errors" 231),e P "__qualname__" 292 (vs "TooGreat" 291),e P "__firstlineno__" 294 (.int 33 293),e P "__static_attributes__" 295 (vr 87)] 4),#[]⟩
noncomputable def o47:Obj:=co #[(vs "TooGreat" 285),(vs "TooGreat" 286),(vc 287),(vi 33),(vi 0),(vi 0),(vi 0),(vi 0),(vr 83),(.bool false),(vi 181),(vr 84),.none,.none,.none,.none,(vi 288),(vi 33),(vc 289)]
noncomputable def o48:Obj:=⟨(vy "frame"),none,.plain,#[(some (vr 85)),(some (vr 3)),(some (vr 82)),none,(some (vs "bellwrite.errors" 231)),none,(some (vr 0))]⟩
noncomputable def o49 (P:Params):Obj:=⟨(vy "dict"),none,(.dict #[e P "__module__" 290 (vs "bellwrite.errors" 231),e P "__firstlineno__" 294 (.int 33 293),e P "__static_attributes__" 295 (vr 87),e P "__doc__" 296 .none] 2),#[]⟩
noncomputable def o50:Obj:=⟨(vy "type"),none,(.cls ⟨"TooGreat",[(vr 52)],[(vr 89),(vr 52),(vy "ValueError"),(vy "Exception"),(vy "BaseException"),(vy "object")],88,"TooGreat",true,[],[],false,none,false⟩),#[(some (vr 80)),none,(some (vs "TooGreat" 283)),(some (vs "TooGreat" 291)),(some (vb "ValueError.__new__")),(some (.bool true))]⟩
noncomputable def o51:Obj:=⟨(vy "super"),none,(.fields #[(vr 89),(vr 89),(vr 89)]),#[]⟩
noncomputable def o52:Obj:=⟨(vy "builtin_function_or_method"),none,(.fields #[(vb "object.__init_subclass__"),(vr 89)]),#[]⟩
noncomputable def o53 (P:Params):Obj:=⟨(vy "dict"),none,(.dict #[e P "__module__" 306 (vs "bellwrite.errors" 231),e P "__qualname__" 308 (vs "TooMany" 307),e P "__firstlineno__" 310 (.int 35 309),e P "__static_attributes__" 311 (vr 99)] 4),#[]⟩
noncomputable def o54:Obj:=co #[(vs "TooMany" 301),(vs "TooMany" 302),(vc 303),(vi 35),(vi 0),(vi 0),(vi 0),(vi 0),(vr 95),(.bool false),(vi 181),(vr 96),.none,.none,.none,.none,(vi 304),(vi 35),(vc 305)]
noncomputable def o55:Obj:=⟨(vy "frame"),none,.plain,#[(some (vr 97)),(some (vr 3)),(some (vr 94)),none,(some (vs "bellwrite.errors" 231)),none,(some (vr 0))]⟩
noncomputable def o56 (P:Params):Obj:=⟨(vy "dict"),none,(.dict #[e P "__module__" 306 (vs "bellwrite.errors" 231),e P "__firstlineno__" 310 (.int 35 309),e P "__static_attributes__" 311 (vr 99),e P "__doc__" 312 .none] 2),#[]⟩
noncomputable def o57:Obj:=⟨(vy "type"),none,(.cls ⟨"TooMany",[(vr 52)],[(vr 101),(vr 52),(vy "ValueError"),(vy "Exception"),(vy "BaseException"),(vy "object")],100,"TooMany",true,[],[],false,none,false⟩),#[(some (vr 92)),none,(some (vs "TooMany" 299)),(some (vs "TooMany" 307)),(some (vb "ValueError.__new__")),(some (.bool true))]⟩
noncomputable def o58:Obj:=⟨(vy "super"),none,(.fields #[(vr 101),(vr 101),(vr 101)]),#[]⟩
noncomputable def o59:Obj:=⟨(vy "builtin_function_or_method"),none,(.fields #[(vb "object.__init_subclass__"),(vr 101)]),#[]⟩
noncomputable def o60 (P:Params):Obj:=⟨(vy "dict"),none,(.dict #[e P "__module__" 322 (vs "bellwrite.errors" 231),e P "__qualname__" 324 (vs "NoNote" 323),e P "__firstlineno__" 326 (.int 37 325),e P "__static_attributes__" 327 (vr 111)] 4),#[]⟩
noncomputable def o61:Obj:=co #[(vs "NoNote" 317),(vs "NoNote" 318),(vc 319),(vi 37),(vi 0),(vi 0),(vi 0),(vi 0),(vr 107),(.bool false),(vi 181),(vr 108),.none,.none,.none,.none,(vi 320),(vi 37),(vc 321)]
noncomputable def o62:Obj:=⟨(vy "frame"),none,.plain,#[(some (vr 109)),(some (vr 3)),(some (vr 106)),none,(some (vs "bellwrite.errors" 231)),none,(some (vr 0))]⟩
noncomputable def o63 (P:Params):Obj:=⟨(vy "dict"),none,(.dict #[e P "__module__" 322 (vs "bellwrite.errors" 231),e P "__firstlineno__" 326 (.int 37 325),e P "__static_attributes__" 327 (vr 111),e P "__doc__" 328 .none] 2),#[]⟩
noncomputable def o64:Obj:=⟨(vy "type"),none,(.cls ⟨"NoNote",[(vr 52)],[(vr 113),(vr 52),(vy "ValueError"),(vy "Exception"),(vy "BaseException"),(vy "object")],112,"NoNote",true,[],[],false,none,false⟩),#[(some (vr 104)),none,(some (vs "NoNote" 315)),(some (vs "NoNote" 323)),(some (vb "ValueError.__new__")),(some (.bool true))]⟩
noncomputable def o65:Obj:=⟨(vy "super"),none,(.fields #[(vr 113),(vr 113),(vr 113)]),#[]⟩
noncomputable def o66:Obj:=⟨(vy "builtin_function_or_method"),none,(.fields #[(vb "object.__init_subclass__"),(vr 113)]),#[]⟩
noncomputable def o67 (P:Params):Obj:=⟨(vy "dict"),none,(.dict #[e P "__module__" 338 (vs "bellwrite.errors" 231),e P "__qualname__" 340 (vs "NoOrder" 339),e P "__firstlineno__" 342 (.int 39 341),e P "__static_attributes__" 343 (vr 123)] 4),#[]⟩
noncomputable def o68:Obj:=co #[(vs "NoOrder" 333),(vs "NoOrder" 334),(vc 335),(vi 39),(vi 0),(vi 0),(vi 0),(vi 0),(vr 119),(.bool false),(vi 181),(vr 120),.none,.none,.none,.none,(vi 336),(vi 39),(vc 337)]
noncomputable def o69:Obj:=⟨(vy "frame"),none,.plain,#[(some (vr 121)),(some (vr 3)),(some (vr 118)),none,(some (vs "bellwrite.errors" 231)),none,(some (vr 0))]⟩
noncomputable def o70 (P:Params):Obj:=⟨(vy "dict"),none,(.dict #[e P "__module__" 338 (vs "bellwrite.errors" 231),e P "__firstlineno__" 342 (.int 39 341),e P "__static_attributes__" 343 (vr 123),e P "__doc__" 344 .none] 2),#[]⟩
noncomputable def o71:Obj:=⟨(vy "type"),none,(.cls ⟨"NoOrder",[(vr 52)],[(vr 125),(vr 52),(vy "ValueError"),(vy "Exception"),(vy "BaseException"),(vy "object")],124,"NoOrder",true,[],[],false,none,false⟩),#[(some (vr 116)),none,(some (vs "NoOrder" 331)),(some (vs "NoOrder" 339)),(some (vb "ValueError.__new__")),(some (.bool true))]⟩
noncomputable def o72:Obj:=⟨(vy "super"),none,(.fields #[(vr 125),(vr 125),(vr 125)]),#[]⟩
noncomputable def o73:Obj:=⟨(vy "builtin_function_or_method"),none,(.fields #[(vb "object.__init_subclass__"),(vr 125)]),#[]⟩
noncomputable def o74 (P:Params):Obj:=⟨(vy "dict"),none,(.dict #[e P "__module__" 354 (vs "bellwrite.errors" 231),e P "__qualname__" 356 (vs "NoName" 355),e P "__firstlineno__" 358 (.int 41 357),e P "__static_attributes__" 359 (vr 135)] 4),#[]⟩
noncomputable def o75:Obj:=co #[(vs "NoName" 349),(vs "NoName" 350),(vc 351),(vi 41),(vi 0),(vi 0),(vi 0),(vi 0),(vr 131),(.bool false),(vi 181),(vr 132),.none,.none,.none,.none,(vi 352),(vi 41),(vc 353)]
noncomputable def o76:Obj:=⟨(vy "frame"),none,.plain,#[(some (vr 133)),(some (vr 3)),(some (vr 130)),none,(some (vs "bellwrite.errors" 231)),none,(some (vr 0))]⟩
noncomputable def o77 (P:Params):Obj:=⟨(vy "dict"),none,(.dict #[e P "__module__" 354 (vs "bellwrite.errors" 231),e P "__firstlineno__" 358 (.int 41 357),e P "__static_attributes__" 359 (vr 135),e P "__doc__" 360 .none] 2),#[]⟩
noncomputable def o78:Obj:=⟨(vy "type"),none,(.cls ⟨"NoName",[(vr 52)],[(vr 137),(vr 52),(vy "ValueError"),(vy "Exception"),(vy "BaseException"),(vy "object")],136,"NoName",true,[],[],false,none,false⟩),#[(some (vr 128)),none,(some (vs "NoName" 347)),(some (vs "NoName" 355)),(some (vb "ValueError.__new__")),(some (.bool true))]⟩
noncomputable def o79:Obj:=⟨(vy "super"),none,(.fields #[(vr 137),(vr 137),(vr 137)]),#[]⟩
noncomputable def o80:Obj:=⟨(vy "builtin_function_or_method"),none,(.fields #[(vb "object.__init_subclass__"),(vr 137)]),#[]⟩
noncomputable def o81:Obj:=go (t 15) "box_of" "box_of"
noncomputable def o82:Obj:=co #[(vs "box_of" 365),(vs "box_of" 366),(vc 367),(vi 44),(vi 2),(vi 0),(vi 0),(vi 3),(vr 140),(.bool true),(vi 181),(vr 141),.none,.none,.none,(vr 142),(vi 368),(vi 44),(vc 369)]
noncomputable def o83:Obj:=fo (t 15) "box_of" "box_of" (vs "bellwrite.boxes" 363) 143
noncomputable def o84:Obj:=go (t 16) "bell_row" "bell_row"
noncomputable def o85:Obj:=co #[(vs "bell_row" 371),(vs "bell_row" 372),(vc 373),(vi 46),(vi 2),(vi 0),(vi 0),(vi 3),(vr 145),(.bool true),(vi 181),(vr 146),.none,.none,.none,(vr 147),(vi 374),(vi 46),(vc 375)]
noncomputable def o86:Obj:=fo (t 16) "bell_row" "bell_row" (vs "bellwrite.boxes" 363) 148
noncomputable def o87:Obj:=tp #[(vs "reading" 380),(vs "late" 381),(vs "box" 382),(vs "before" 383),(vs "part" 384)]
noncomputable def o88:Obj:=go (t 17) "heard_box" "heard_box"
noncomputable def o89:Obj:=co #[(vs "heard_box" 377),(vs "heard_box" 378),(vc 379),(vi 48),(vi 2),(vi 0),(vi 0),(vi 3),(vr 150),(.bool true),(vi 181),(vr 151),.none,(vr 152),(vr 153),(vr 154),(vi 385),(vi 48),(vc 386)]
noncomputable def o90:Obj:=fo (t 17) "heard_box" "heard_box" (vs "bellwrite.boxes" 363) 155
noncomputable def o91:Obj:=tp #[(vs "turns" 391),(vs "bells" 392),(vs "late" 393)]
noncomputable def o92:Obj:=go (t 18) "box_count" "box_count"
noncomputable def o93:Obj:=co #[(vs "box_count" 388),(vs "box_count" 389),(vc 390),(vi 56),(vi 3),(vi 0),(vi 0),(vi 3),(vr 157),(.bool true),(vi 181),(vr 158),.none,(vr 159),(vr 160),(vr 161),(vi 394),(vi 56),(vc 395)]
noncomputable def o94:Obj:=fo (t 18) "box_count" "box_count" (vs "bellwrite.boxes" 363) 162
noncomputable def o95:Obj:=tp #[(vs "turns" 400),(vs "bells" 401),(vs "late" 402)]
noncomputable def o96:Obj:=go (t 19) "greatest_part" "greatest_part"
noncomputable def o97:Obj:=co #[(vs "greatest_part" 397),(vs "greatest_part" 398),(vc 399),(vi 60),(vi 3),(vi 0),(vi 0),(vi 3),(vr 164),(.bool true),(vi 181),(vr 165),.none,(vr 166),(vr 167),(vr 168),(vi 403),(vi 60),(vc 404)]
noncomputable def o98:Obj:=fo (t 19) "greatest_part" "greatest_part" (vs "bellwrite.boxes" 363) 169
noncomputable def o99:Obj:=go (t 21) "box_number" "box_number"
noncomputable def o100:Obj:=co #[(vs "box_number" 408),(vs "box_number" 409),(vc 410),(vi 63),(vi 1),(vi 0),(vi 0),(vi 3),(vr 171),(.bool true),(vi 181),(vr 172),.none,.none,.none,(vr 173),(vi 411),(vi 63),(vc 412)]
noncomputable def za3:Obj:=fo (t 21) "box_number" "box_number" (vs "bellwrite.messages" 406) 174
noncomputable def za4:Obj:=tp #[(vs "message" 417),(vs "bells" 418),(vs "box" 419),(vs "left" 420),(vs "top" 421),(vs "place" 422)]
noncomputable def za5:Obj:=go (t 22) "box_of_message" "box_of_message"
noncomputable def za6:Obj:=co #[(vs "box_of_message" 414),(vs "box_of_message" 415),(vc 416),(vi 65),(vi 2),(vi 0),(vi 0),(vi 3),(vr 176),(.bool true),(vi 181),(vr 177),.none,(vr 178),(vr 179),(vr 180),(vi 423),(vi 65),(vc 424)]
noncomputable def za7:Obj:=fo (t 22) "box_of_message" "box_of_message" (vs "bellwrite.messages" 406) 181
noncomputable def za8:Obj:=tp #[(vs "message" 429),(vs "turns" 430),(vs "bells" 431),(vs "late" 432)]
noncomputable def za9:Obj:=go (t 23) "written" "written"
noncomputable def zba:Obj:=co #[(vs "written" 426),(vs "written" 427),(vc 428),(vi 76),(vi 4),(vi 0),(vi 0),(vi 3),(vr 183),(.bool true),(vi 181),(vr 184),.none,(vr 185),(vr 186),(vr 187),(vi 433),(vi 76),(vc 434)]
noncomputable def zbb:Obj:=fo (t 23) "written" "written" (vs "bellwrite.messages" 406) 188
noncomputable def zbc:Obj:=tp #[(vs "reading" 439),(vs "turns" 440),(vs "bells" 441),(vs "late" 442),(vs "message" 443)]
noncomputable def o111:Obj:=go (t 24) "read" "read"
noncomputable def zbd:Obj:=co #[(vs "read" 436),(vs "read" 437),(vc 438),(vi 80),(vi 4),(vi 0),(vi 0),(vi 3),(vr 190),(.bool true),(vi 181),(vr 191),.none,(vr 192),(vr 193),(vr 194),(vi 444),(vi 80),(vc 445)]
noncomputable def zbe:Obj:=fo (t 24) "read" "read" (vs "bellwrite.messages" 406) 195
noncomputable def zbf:Obj:=tp #[(vs "turns" 452),(vs "bells" 453)]
noncomputable def zbg:Obj:=go (t 26) "refuse_silent" "refuse_silent"
noncomputable def zbh:Obj:=co #[(vs "refuse_silent" 449),(vs "refuse_silent" 450),(vc 451),(vi 88),(vi 2),(vi 0),(vi 0),(vi 3),(vr 197),(.bool true),(vi 181),(vr 198),.none,(vr 199),(vr 200),(vr 201),(vi 454),(vi 88),(vc 455)]
noncomputable def zbi:Obj:=fo (t 26) "refuse_silent" "refuse_silent" (vs "bellwrite.talks" 447) 202
noncomputable def zbj:Obj:=go (t 27) "rung" "rung"
noncomputable def zbk:Obj:=co #[(vs "rung" 457),(vs "rung" 458),(vc 459),(vi 91),(vi 4),(vi 0),(vi 0),(vi 3),(vr 204),(.bool true),(vi 181),(vr 205),.none,.none,.none,(vr 206),(vi 460),(vi 91),(vc 461)]
noncomputable def zbl:Obj:=fo (t 27) "rung" "rung" (vs "bellwrite.talks" 447) 207
noncomputable def zbm:Obj:=tp #[(vs "reading" 466),(vs "turns" 467),(vs "late" 468),(vs "length" 469),(vs "heard_of" 470),(vs "turn" 471)]
noncomputable def zbn:Obj:=go (t 28) "by_messages" "by_messages"
noncomputable def zbo:Obj:=co #[(vs "by_messages" 463),(vs "by_messages" 464),(vc 465),(vi 98),(vi 3),(vi 0),(vi 0),(vi 3),(vr 209),(.bool true),(vi 181),(vr 210),.none,(vr 211),(vr 212),(vr 213),(vi 472),(vi 98),(vc 473)]
noncomputable def zbp:Obj:=fo (t 28) "by_messages" "by_messages" (vs "bellwrite.talks" 447) 214
noncomputable def zbq:Obj:=tp #[(vs "note" 484),(vs "number" 485),(vs "sign" 486),(vs "place" 487)]
noncomputable def zbr:Obj:=go (t 32) "note_number" "note_number"
noncomputable def zbs:Obj:=co #[(vs "note_number" 481),(vs "note_number" 482),(vc 483),(vi 107),(vi 1),(vi 0),(vi 0),(vi 3),(vr 216),(.bool true),(vi 181),(vr 217),.none,(vr 218),(vr 219),(vr 220),(vi 488),(vi 107),(vc 489)]
noncomputable def zbt:Obj:=fo (t 32) "note_number" "note_number" (vs "bellwrite.notes" 475) 221
noncomputable def zbu:Obj:=tp #[(vs "number" 494),(vs "signs" 495),(vs "left" 496)]
noncomputable def zbv:Obj:=go (t 33) "note_of" "note_of"
noncomputable def zbw:Obj:=co #[(vs "note_of" 491),(vs "note_of" 492),(vc 493),(vi 117),(vi 1),(vi 0),(vi 0),(vi 3),(vr 223),(.bool true),(vi 181),(vr 224),.none,(vr 225),(vr 226),(vr 227),(vi 497),(vi 117),(vc 498)]
noncomputable def zbx:Obj:=fo (t 33) "note_of" "note_of" (vs "bellwrite.notes" 475) 228
noncomputable def zby:Obj:=go (t 34) "number_of_parts" "number_of_parts"
noncomputable def zbz:Obj:=co #[(vs "number_of_parts" 500),(vs "number_of_parts" 501),(vc 502),(vi 129),(vi 2),(vi 0),(vi 0),(vi 3),(vr 230),(.bool true),(vi 181),(vr 231),.none,.none,.none,(vr 232),(vi 503),(vi 129),(vc 504)]
noncomputable def zbA:Obj:=fo (t 34) "number_of_parts" "number_of_parts" (vs "bellwrite.notes" 475) 233
noncomputable def zbB:Obj:=go (t 35) "received" "received"
noncomputable def zbC:Obj:=co #[(vs "received" 506),(vs "received" 507),(vc 508),(vi 138),(vi 4),(vi 0),(vi 0),(vi 3),(vr 235),(.bool true),(vi 181),(vr 236),.none,.none,.none,(vr 237),(vi 509),(vi 138),(vc 510)]
noncomputable def zbD:Obj:=fo (t 35) "received" "received" (vs "bellwrite.notes" 475) 238
noncomputable def zbE:Obj:=tp #[(vs "reading" 515),(vs "turns" 516),(vs "bells" 517),(vs "late" 518),(vs "heard_of" 519),(vs "messages" 520),(vs "message" 521)]
noncomputable def zbF:Obj:=go (t 36) "messages_ahead_of_end" "messages_ahead_of_end"
noncomputable def zbG:Obj:=co #[(vs "messages_ahead_of_end" 512),(vs "messages_ahead_of_end" 513),(vc 514),(vi 145),(vi 4),(vi 0),(vi 0),(vi 3),(vr 240),(.bool true),(vi 181),(vr 241),.none,(vr 242),(vr 243),(vr 244),(vi 522),(vi 145),(vc 523)]
noncomputable def zbH:Obj:=fo (t 36) "messages_ahead_of_end" "messages_ahead_of_end" (vs "bellwrite.notes" 475) 245
noncomputable def zbI:Obj:=tp #[(vs "script" 530),(vs "k" 531)]
noncomputable def zbJ:Obj:=go (t 38) "_law_cell_at" "_law_cell_at"
noncomputable def zbK:Obj:=co #[(vs "_law_cell_at" 527),(vs "_law_cell_at" 528),(vc 529),(vi 154),(vi 2),(vi 0),(vi 0),(vi 3),(vr 247),(.bool true),(vi 181),(vr 248),.none,(vr 249),(vr 250),(vr 251),(vi 532),(vi 154),(vc 533)]
noncomputable def zbL:Obj:=fo (t 38) "_law_cell_at" "_law_cell_at" (vs "law_bellwrite_k80_other_talks" 525) 252
noncomputable def zbM:Obj:=tp #[(vs "number" 538),(vs "k" 539)]
noncomputable def zbN:Obj:=go (t 39) "_law_most" "_law_most"
noncomputable def zbO:Obj:=co #[(vs "_law_most" 535),(vs "_law_most" 536),(vc 537),(vi 158),(vi 0),(vi 0),(vi 0),(vi 3),(vr 254),(.bool true),(vi 181),(vr 255),.none,(vr 256),(vr 257),(vr 258),(vi 540),(vi 158),(vc 541)]
noncomputable def zbP:Obj:=fo (t 39) "_law_most" "_law_most" (vs "law_bellwrite_k80_other_talks" 525) 259
noncomputable def zbQ:Obj:=tp #[(vs "number" 546),(vs "signs" 547),(vs "note" 548),(vs "place" 549)]
noncomputable def zbR:Obj:=go (t 40) "_law_note" "_law_note"
noncomputable def zbS:Obj:=co #[(vs "_law_note" 543),(vs "_law_note" 544),(vc 545),(vi 163),(vi 1),(vi 0),(vi 0),(vi 3),(vr 261),(.bool true),(vi 181),(vr 262),.none,(vr 263),(vr 264),(vr 265),(vi 550),(vi 163),(vc 551)]
noncomputable def zbT:Obj:=fo (t 40) "_law_note" "_law_note" (vs "law_bellwrite_k80_other_talks" 525) 266
noncomputable def zbU:Obj:=go (t 41) "_law_messages" "_law_messages"
noncomputable def zbV:Obj:=co #[(vs "_law_messages" 553),(vs "_law_messages" 554),(vc 555),(vi 171),(vi 2),(vi 0),(vi 0),(vi 3),(vr 268),(.bool true),(vi 181),(vr 269),.none,.none,.none,(vr 270),(vi 556),(vi 171),(vc 557)]
noncomputable def zbW:Obj:=fo (t 41) "_law_messages" "_law_messages" (vs "law_bellwrite_k80_other_talks" 525) 271
noncomputable def zbX:Obj:=tp #[(vs "messages" 562),(vs "base" 563),(vs "number" 564),(vs "message" 565)]
noncomputable def zbY:Obj:=go (t 42) "_law_sum" "_law_sum"
noncomputable def zbZ:Obj:=co #[(vs "_law_sum" 559),(vs "_law_sum" 560),(vc 561),(vi 184),(vi 2),(vi 0),(vi 0),(vi 3),(vr 273),(.bool true),(vi 181),(vr 274),.none,(vr 275),(vr 276),(vr 277),(vi 566),(vi 184),(vc 567)]
noncomputable def zb0:Obj:=fo (t 42) "_law_sum" "_law_sum" (vs "law_bellwrite_k80_other_talks" 525) 278
noncomputable def zb1:Obj:=tp #[(vs "told" 572),(vs "late" 573),(vs "cell" 574),(vs "found" 575),(vs "k" 576)]
noncomputable def zb2:Obj:=go (t 43) "_law_late" "_law_late"
noncomputable def zb3:Obj:=co #[(vs "_law_late" 569),(vs "_law_late" 570),(vc 571),(vi 189),(vi 3),(vi 0),(vi 0),(vi 3),(vr 280),(.bool true),(vi 181),(vr 281),.none,(vr 282),(vr 283),(vr 284),(vi 577),(vi 189),(vc 578)]
noncomputable def zb4:Obj:=fo (t 43) "_law_late" "_law_late" (vs "law_bellwrite_k80_other_talks" 525) 285
noncomputable def zb5:Obj:=tp #[(vs "n" 583),(vs "k" 584),(vs "number" 585),(vs "j" 586)]
noncomputable def zb6:Obj:=go (t 44) "_law_choose" "_law_choose"
noncomputable def zb7:Obj:=co #[(vs "_law_choose" 580),(vs "_law_choose" 581),(vc 582),(vi 194),(vi 2),(vi 0),(vi 0),(vi 3),(vr 287),(.bool true),(vi 181),(vr 288),.none,(vr 289),(vr 290),(vr 291),(vi 587),(vi 194),(vc 588)]
noncomputable def zb8:Obj:=fo (t 44) "_law_choose" "_law_choose" (vs "law_bellwrite_k80_other_talks" 525) 292
noncomputable def zb9:Obj:=tp #[(vs "part" 593),(vs "bells" 594),(vs "late" 595),(vs "steps" 596),(vs "number" 597),(vs "before" 598),(vs "k" 599),(vs "box" 600)]
noncomputable def zca:Obj:=go (t 45) "_law_message" "_law_message"
noncomputable def zcb:Obj:=co #[(vs "_law_message" 590),(vs "_law_message" 591),(vc 592),(vi 199),(vi 4),(vi 0),(vi 0),(vi 3),(vr 294),(.bool true),(vi 181),(vr 295),.none,(vr 296),(vr 297),(vr 298),(vi 601),(vi 199),(vc 602)]
noncomputable def zcc:Obj:=fo (t 45) "_law_message" "_law_message" (vs "law_bellwrite_k80_other_talks" 525) 299
noncomputable def zcd:Obj:=go (t 46) "_law_due" "_law_due"
noncomputable def zce:Obj:=co #[(vs "_law_due" 604),(vs "_law_due" 605),(vc 606),(vi 211),(vi 4),(vi 0),(vi 0),(vi 3),(vr 301),(.bool true),(vi 181),(vr 302),.none,.none,.none,(vr 303),(vi 607),(vi 211),(vc 608)]
noncomputable def zcf:Obj:=fo (t 46) "_law_due" "_law_due" (vs "law_bellwrite_k80_other_talks" 525) 304
noncomputable def zcg:Obj:=tp #[(vs "reading" 613),(vs "turns" 614),(vs "late" 615),(vs "cell" 616),(vs "at" 617),(vs "number" 618),(vs "by" 619)]
noncomputable def zch:Obj:=go (t 47) "_law_moved" "_law_moved"
noncomputable def zci:Obj:=co #[(vs "_law_moved" 610),(vs "_law_moved" 611),(vc 612),(vi 225),(vi 4),(vi 0),(vi 0),(vi 3),(vr 306),(.bool true),(vi 181),(vr 307),.none,(vr 308),(vr 309),(vr 310),(vi 620),(vi 225),(vc 621)]
noncomputable def zcj:Obj:=fo (t 47) "_law_moved" "_law_moved" (vs "law_bellwrite_k80_other_talks" 525) 311
noncomputable def zck:Obj:=tp #[(vs "reading" 626),(vs "turns" 627),(vs "bells" 628),(vs "late" 629),(vs "told" 630),(vs "caught" 631),(vs "handed" 632),(vs "e" 633),(vs "due" 634)]
noncomputable def zcl:Obj:=go (t 48) "_law_is_told" "_law_is_told"
noncomputable def zcm:Obj:=co #[(vs "_law_is_told" 623),(vs "_law_is_told" 624),(vc 625),(vi 230),(vi 4),(vi 0),(vi 0),(vi 3),(vr 313),(.bool true),(vi 181),(vr 314),.none,(vr 315),(vr 316),(vr 317),(vi 635),(vi 230),(vc 636)]
noncomputable def zcn:Obj:=fo (t 48) "_law_is_told" "_law_is_told" (vs "law_bellwrite_k80_other_talks" 525) 318
noncomputable def zco:Obj:=tp #[(vs "e" 641)]
noncomputable def zcp:Obj:=go (t 49) "_law_other" "_law_other"
noncomputable def zcq:Obj:=co #[(vs "_law_other" 638),(vs "_law_other" 639),(vc 640),(vi 244),(vi 1),(vi 0),(vi 0),(vi 3),(vr 320),(.bool true),(vi 181),(vr 321),.none,(vr 322),(vr 323),(vr 324),(vi 642),(vi 244),(vc 643)]
noncomputable def zcr:Obj:=fo (t 49) "_law_other" "_law_other" (vs "law_bellwrite_k80_other_talks" 525) 325
noncomputable def zcs:Obj:=tp #[(vs "script" 648),(vs "bells" 649),(vs "cell" 650),(vs "late" 651),(vs "turns" 652),(vs "base" 653),(vs "messages" 654),(vs "reading" 655),(vs "k" 656),(vs "moved" 657)]
noncomputable def zct:Obj:=go (t 50) "law" "law"
noncomputable def zcu:Obj:=co #[(vs "law" 645),(vs "law" 646),(vc 647),(vi 248),(vi 1),(vi 0),(vi 0),(vi 3),(vr 327),(.bool true),(vi 181),(vr 328),.none,(vr 329),(vr 330),(vr 331),(vi 658),(vi 248),(vc 659)]
noncomputable def zcv:Obj:=fo (t 50) "law" "law" (vs "law_bellwrite_k80_other_talks" 525) 332
noncomputable def hA (P:Params):Heap:=⟨#[boot_o_0 P,boot_o_1 P,boot_o_2 P,boot_o_3 P,boot_o_4 P,boot_o_5 P,boot_o_6 P,b7 P,b8 P,boot_o_9 P,boot_o_10 P,b7 P,b8 P,o1,o2],lf⟩
noncomputable def tr0 (P:Params):BT:=(n (boot_o_0 P) (n (boot_o_1 P) (n (boot_o_3 P) (y7 P) (y7 P)) (n (boot_o_5 P) (n (boot_o_9 P) z z) (n o1 z z))) (n (boot_o_2 P) (n (boot_o_4 P) (y8 P) (y8 P)) (n (boot_o_6 P) (n (boot_o_10 P) z z) (n o2 z z))))
noncomputable def tr1 (P:Params):BT:=(n (boot_o_0 P) (n (boot_o_1 P) (n (o3 P) (n (b7 P) (n (b7 P) (n o13 (n (b7 P) (n o73 (y8 P) z) (n (b8 P) (n zcn z z) z)) (n (b7 P) (n o91 (y7 P) z) (y7 P))) (n (b8 P) (n o45 (n o82 (n zbV z z) z) (n zbk z z)) (n (b7 P) (n za3 (n zcd z z) z) (n zbD z z)))) (n (b8 P) (n (b7 P) (n (b7 P) (n (b7 P) (n zbQ z z) z) (n zbf (y7 P) z)) (n o59 (n (b7 P) (y8 P) z) (y8 P))) (n o30 (n (b7 P) (n (b8 P) (n zb0 z z) z) (n zbp z z)) (n (b7 P) (n (b7 P) (n zci z z) z) (y7 P))))) (n (b7 P) (n o6 (n o16 (n o38 (n (b7 P) (n zbO z z) z) (n zbd (y7 P) z)) (n (b7 P) (n o94 (n zb6 z z) z) (n zbv z z))) (n (o26 P) (n (b7 P) (n o84 (n zbX z z) z) (n zbm z z)) (n o66 (n (b7 P) (y8 P) z) (y7 P)))) (n o11 (n o21 (n (b7 P) (n o80 (n zbT z z) z) (n zbi (n zct z z) z)) (n (b7 P) (n (b7 P) (n zcb z z) z) (y7 P))) (n (b7 P) (n o52 (n o89 (y7 P) z) (y7 P)) (n (b7 P) (n za9 (n zck z z) z) (n zbJ z z)))))) (n (boot_o_5 P) (n (boot_o_9 P) (n o5 (n o14 (n o36 (n o22 (y7 P) z) (n (b7 P) (y8 P) z)) (n o54 (n o92 (n zb5 z z) z) (n zbu z z))) (n o25 (n o22 (n (b7 P) (y7 P) z) (y7 P)) (n o64 (n (b8 P) (n zcf z z) z) (y8 P)))) (n (b7 P) (n o19 (n o40 (n o78 (n zbR z z) z) (n zbg (n zcs z z) z)) (n o22 (n o97 (y7 P) z) (n zbz z z))) (n o22 (n o50 (n (b7 P) (y8 P) z) (y8 P)) (n o68 (n za8 (y7 P) z) (n zbI z z))))) (n o1 (n o8 (n (b8 P) (n o22 (n o75 (y7 P) z) (n (b7 P) (n zcq z z) z)) (n o57 (n (b8 P) (n zb8 z z) z) (n zbx z z))) (n o28 (n o47 (n o86 (n zbY z z) z) (n zbn z z)) (n o22 (n za6 (y7 P) z) (n zbG z z)))) (n (b7 P) (n (o23 P) (n o43 (n (b8 P) (y8 P) z) (n (b8 P) (n zcv z z) z)) (n o61 (n o99 (y7 P) z) (n zbB z z))) (n o33 (n o22 (n (b7 P) (n zb3 z z) z) (n zbs z z)) (n o71 (n zbb (n zcl z z) z) (n zbL z z))))))) (n (boot_o_2 P) (n (boot_o_4 P) (n (b8 P) (n (b8 P) (n (b7 P) (n (o35 P) (n o31 (n zbM z z) z) (n zbc (y7 P) z)) (n (b8 P) (n (b7 P) (y8 P) z) (y8 P))) (n o24 (n o31 (n o83 (n zbW z z) z) (n zbl z z)) (n (o63 P) (n (b7 P) (n zce z z) z) (y7 P)))) (n o9 (n o18 (n (b8 P) (n (o77 P) (y7 P) z) (n (b7 P) (y8 P) z)) (n o31 (n o96 (n zb9 z z) z) (n zby z z))) (n o31 (n (o49 P) (n o87 (y7 P) z) (y7 P)) (n (b8 P) (n (b8 P) (n zcj z z) z) (y8 P))))) (n o4 (n o7 (n (b7 P) (n o31 (n (b8 P) (n zbP z z) z) (n zbe (n zcp z z) z)) (n (o56 P) (n (b7 P) (n zb7 z z) z) (n zbw z z))) (n o27 (n (b8 P) (n o85 (y7 P) z) (y7 P)) (n o31 (n za5 (n zcg z z) z) (n zbF z z)))) (n o12 (n o22 (n (o42 P) (n (b7 P) (y7 P) z) (n (b7 P) (n zcu z z) z)) (n (b8 P) (n (b8 P) (n zcc z z) z) (y8 P))) (n (b8 P) (n o31 (n o90 (n zb2 z z) z) (n zbr z z)) (n (o70 P) (n zba (y7 P) z) (n zbK z z)))))) (n (boot_o_6 P) (n (boot_o_10 P) (n (b7 P) (n o15 (n o37 (n (o74 P) (n zbN z z) z) (n o111 (n zco z z) z)) (n o55 (n o93 (y7 P) z) (y7 P))) (n (b7 P) (n (o46 P) (n (b8 P) (y8 P) z) (y8 P)) (n o65 (n za4 (y7 P) z) (n zbE z z)))) (n o10 (n o20 (n o41 (n o79 (n zbS z z) z) (n zbh (y7 P) z)) (n (o60 P) (n o98 (n zca z z) z) (n zbA z z))) (n (o32 P) (n o51 (n o88 (n zb1 z z) z) (n zbq z z)) (n o69 (n (b7 P) (y8 P) z) (y7 P))))) (n o2 (n (b7 P) (n o17 (n (o39 P) (n o76 (y8 P) z) (n (b8 P) (n zcr z z) z)) (n o58 (n o95 (y7 P) z) (y7 P))) (n o29 (n o48 (n (b7 P) (n zbZ z z) z) (n zbo z z)) (n (o67 P) (n za7 (n zch z z) z) (n zbH z z)))) (n (b8 P) (n (b7 P) (n o44 (n o81 (n zbU z z) z) (n zbj z z)) (n o62 (n o100 (y8 P) z) (n zbC z z))) (n o34 (n (o53 P) (n (b8 P) (n zb4 z z) z) (n zbt z z)) (n o72 (n (b7 P) (n zcm z z) z) (y7 P))))))))
noncomputable def hF (P:Params):Heap:=⟨#[boot_o_0 P,boot_o_1 P,boot_o_2 P,o3 P,boot_o_4 P,boot_o_5 P,boot_o_6 P,b7 P,b8 P,boot_o_9 P,boot_o_10 P,b7 P,o4,o1,o2,b7 P,b8 P,o5,b7 P,o6,o7,o8,b7 P,b8 P,o9,b7 P,o10,o11,o12,b7 P,b8 P,o13,b7 P,o14,o15,o16,b7 P,b8 P,o17,b7 P,o18,o19,o20,o21,o22,o23 P,b7 P,b8 P,o24,o25,b7 P,o26 P,o27,o28,o29,o30,o31,o22,o32 P,b7 P,b8 P,o33,o34,b7 P,o35 P,o36,o37,o38,o31,o22,o39 P,b7 P,b8 P,o40,o41,b7 P,o42 P,o43,o44,o45,o31,o22,o46 P,b7 P,b8 P,o47,o48,b7 P,o49 P,o50,o51,o52,o31,o22,o53 P,b7 P,b8 P,o54,o55,b7 P,o56 P,o57,o58,o59,o31,o22,o60 P,b7 P,b8 P,o61,o62,b7 P,o63 P,o64,o65,o66,o31,o22,o67 P,b7 P,b8 P,o68,o69,b7 P,o70 P,o71,o72,o73,o31,o22,o74 P,b7 P,b8 P,o75,o76,b7 P,o77 P,o78,o79,o80,b7 P,b8 P,o81,o82,o83,b7 P,b8 P,o84,o85,o86,b7 P,b8 P,o87,b7 P,o88,o89,o90,b7 P,b8 P,o91,b7 P,o92,o93,o94,b7 P,b8 P,o95,b7 P,o96,o97,o98,b7 P,b8 P,o99,o100,za3,b7 P,b8 P,za4,b7 P,za5,za6,za7,b7 P,b8 P,za8,b7 P,za9,zba,zbb,b7 P,b8 P,zbc,b7 P,o111,zbd,zbe,b7 P,b8 P,zbf,b7 P,zbg,zbh,zbi,b7 P,b8 P,zbj,zbk,zbl,b7 P,b8 P,zbm,b7 P,zbn,zbo,zbp,b7 P,b8 P,zbq,b7 P,zbr,zbs,zbt,b7 P,b8 P,zbu,b7 P,zbv,zbw,zbx,b7 P,b8 P,zby,zbz,zbA,b7 P,b8 P,zbB,zbC,zbD,b7 P,b8 P,zbE,b7 P,zbF,zbG,zbH,b7 P,b8 P,zbI,b7 P,zbJ,zbK,zbL,b7 P,b8 P,zbM,b7 P,zbN,zbO,zbP,b7 P,b8 P,zbQ,b7 P,zbR,zbS,zbT,b7 P,b8 P,zbU,zbV,zbW,b7 P,b8 P,zbX,b7 P,zbY,zbZ,zb0,b7 P,b8 P,zb1,b7 P,zb2,zb3,zb4,b7 P,b8 P,zb5,b7 P,zb6,zb7,zb8,b7 P,b8 P,zb9,b7 P,zca,zcb,zcc,b7 P,b8 P,zcd,zce,zcf,b7 P,b8 P,zcg,b7 P,zch,zci,zcj,b7 P,b8 P,zck,b7 P,zcl,zcm,zcn,b7 P,b8 P,zco,b7 P,zcp,zcq,zcr,b7 P,b8 P,zcs,b7 P,zct,zcu,zcv],lf⟩
noncomputable def view:Program:={ p with main:={ p.main with body:=[t 1,t 2,t 3,t 4,t 6,t 7,t 8,t 9,t 10,t 11,t 12,t 13,t 15,t 16,t 17,t 18,t 19,t 21,t 22,t 23,t 24,t 26,t 27,t 28,t 30,t 31,t 32,t 33,t 34,t 35,t 36,t 38,t 39,t 40,t 41,t 42,t 43,t 44,t 45,t 46,t 47,t 48,t 49,t 50] } }
noncomputable abbrev env:Env:={ scope:=p.main.scope,locals:=mainNs,globals:=mainNs,cells:=[],code:=(.ref 13),frame:=some 14 }
noncomputable abbrev cE:Code:=.body (behindTheImports p) env
noncomputable abbrev fq:Pos:=⟨0,0,0,0⟩
noncomputable abbrev an:Option Value:=(some (.ref 6))
noncomputable abbrev s0 (w:World) (os:OsState):Shared:=⟨boot_heap w.params,#[],boot_drawn,boot_toks,os⟩
noncomputable abbrev S (w:World) (os:OsState):Shared:=⟨hF w.params,#[],⟨0,0,0,0⟩,661,os⟩
theorem pre (w:World) (os:OsState):topGo treeTable p w 11 an 12 (s0 w os) (topStub p)=some ((⟨hA w.params,#[],⟨0,0,0,0⟩,187,os⟩:Shared),⟨denote treeTable cE,cE,⟨0,0,0,0⟩,[topFrame fq]⟩):=by
 rewrite [W.Fast.te15667345088766844465,W.Fast.te14364793385576792824,W.Fast.te11892475500146522536]
 kernel_rfl
theorem block (w:World) (os:OsState):segRun treeTable p w 11 an 1 1 (⟨hA w.params,#[],⟨0,0,0,0⟩,187,os⟩:Shared) (blockOf (behindTheImports p) env cE ⟨0,0,0,0⟩ [topFrame fq])=some (.next,(⟨tr0 w.params,15,lf,#[],⟨0,0,0,0⟩,187,os⟩:SharedT).abs,cE,⟨0,0,0,0⟩):=by
 rewrite [W.Fast.te14374325043358763698,W.Fast.te14364793385576792824]
 kernel_rfl
noncomputable def zaw:List Stmt:=[t 0,t 1,t 2,t 3,t 4,t 5,t 6,t 7,t 8,t 9,t 10,t 11,t 12,t 13,t 14,t 15,t 16,t 17,t 18,t 19,t 20,t 21,t 22,t 23,t 24,t 25,t 26,t 27,t 28,t 29,t 30,t 31,t 32,t 33,t 34,t 35,t 36,t 37,t 38,t 39,t 40,t 41,t 42,t 43,t 44,t 45,t 46,t 47,t 48,t 49,t 50]
theorem zcL (w:World) (os:OsState):segRunT treeTable p w 11 an 1 2817 (⟨tr0 w.params,15,lf,#[],⟨0,0,0,0⟩,187,os⟩:SharedT) (piecesOf zaw env cE ⟨0,0,0,0⟩ [topFrame fq])=some (.next,(⟨tr1 w.params,334,lf,#[],⟨0,0,0,0⟩,661,os⟩:SharedT),cE,⟨248,0,262,15⟩):=by
 rewrite [W.Fast.te10110043849684766642,W.Fast.te14364793385576792824]
 kernel_rfl
theorem fin (w:World) (os:OsState):topRun treeTable p w 11 an 2 (⟨tr1 w.params,334,lf,#[],⟨0,0,0,0⟩,661,os⟩:SharedT).abs ⟨doneF .next,cE,⟨248,0,262,15⟩,[topFrame fq]⟩=some (S w os):=by
 rewrite [W.Fast.te14082659384304107361,W.Fast.te14364793385576792824]
 kernel_rfl
theorem parts:behindTheImports p=zaw++[]:=by kernel_rfl
theorem rest (w:World) (os:OsState):topRun treeTable p w 11 an (2817+(2)) (⟨tr0 w.params,15,lf,#[],⟨0,0,0,0⟩,187,os⟩:SharedT).abs (restOf (zaw++[]) env cE ⟨0,0,0,0⟩ [topFrame fq])=some (S w os):=(piece_app (segRun_of (zcL w os)) (piece_nil (fin w os)))
theorem rest' (w:World) (os:OsState):topRun treeTable p w 11 an (2817+(2)) (⟨tr0 w.params,15,lf,#[],⟨0,0,0,0⟩,187,os⟩:SharedT).abs (restOf (behindTheImports p) env cE ⟨0,0,0,0⟩ [topFrame fq])=some (S w os):=(congrArg (fun l=>topRun treeTable p w 11 an (2817+(2)) (⟨tr0 w.params,15,lf,#[],⟨0,0,0,0⟩,187,os⟩:SharedT).abs (restOf l env cE ⟨0,0,0,0⟩ [topFrame fq])) parts).trans (rest w os)
theorem run (w:World) (os:OsState):topRun treeTable p w 11 an (12+(1+(2817+(2)))) (s0 w os) (topStub p)=some (S w os):=go_top (pre w os) (piece_block (block w os) (rest' w os))
theorem size (w:World):((boot_heap w.params).isNs mainGlobals && (#[]:Array GenState).size == 0,(boot_heap w.params).objs.size,(boot_heap w.params).nsMap mainGlobals "__annotations__")=(true,11,an):=by
 rewrite [W.Fast.te8920871248978507458]
 kernel_rfl
noncomputable abbrev Xt:Shared→Bool:=fun s=>xlAt view [] s && recOk PySem.Challenge.rw_bellwrite_k80_other_talks.row.toRowW.records s
theorem zcw (w:World) (os:OsState):(staticsOk (importedModules p.main.body) (boot_heap w.params) (hF w.params) && namesBound p (hF w.params) && gensDone (S w os) && laidKept (boot_heap w.params) (hF w.params))=true:=by
 rewrite [W.Fast.te5923862056798008813]
 kernel_rfl
theorem zcx (w:World) (os:OsState):openSeen view [] (importedModules p.main.body) Xt true (S w os)=openGood view []:=by
 unfold openSeen openGood
 refine looks_pair ?_ (looks_pair ?_ (looks_pair ?_ (looks_pair ?_ (looks_pair ?_ (looks_pair ?_ (looks_pair ?_ (looks_pair ?_ ?_)))))))
 ·(try rewrite [W.Fast.te5160383126252970620]);(try rewrite [W.R.mapR_eq]);(try rewrite [W.Fast.te3399658132070893891]);(try rewrite [W.Fast.te5991557255702980513]);kernel_rfl
 ·kernel_rfl
 ·(try rewrite [W.Fast.te10880121769531294198]);(try rewrite [W.Fast.te821141287760084731]);(try rewrite [W.R.mapR_eq]);(try rewrite [W.Fast.te3399658132070893891]);(try rewrite [W.Fast.te7409074990110511671]);(try rewrite [W.Fast.te13664370479719496447]);(try rewrite [W.Fast.te14722251495701143533]);(try rewrite [W.Fast.te5923862056798008813]);(try rewrite [W.Fast.te10994771534591457954]);kernel_rfl
 ·(try rewrite [W.Fast.te479339242167458305]);kernel_rfl
 ·(try rewrite [W.Fast.te16090120013241838585]);(try rewrite [W.Fast.te3247288618530077131]);kernel_rfl
 ·(try rewrite [W.Fast.te2386780881361962483]);(try rewrite [W.Fast.te821141287760084731]);kernel_rfl
 ·(try rewrite [W.Fast.te11698064438423848299]);kernel_rfl
 ·(try rewrite [W.Fast.te7317090234206586261]);kernel_rfl
 ·(try rewrite [W.Fast.te7369524293546568484]);kernel_rfl
theorem left (H:Hook) (hk:∀(w:World) (os:OsState),H.obs (S w os)=H.val w):LeftO p view [] Xt H.obs H.val 20000:=
 LeftO.of_pieces (boot_open (by kernel_rfl) (by decide) (fun s=>by rfl)) size run (by decide) (fun w=>funext fun os=>looks_pair (zcw w os) (looks_pair (zcx w os) (hk w os)))
theorem opens {d:DefRec}{kwd:List (Str×Expr)} (H:Hook) (hk:∀(w:World) (os:OsState),H.obs (S w os)=H.val w) (h1:defOf view PySem.Challenge.rw_bellwrite_k80_other_talks.row.name=some (d,kwd)) (h2:PySem.Challenge.rw_bellwrite_k80_other_talks.row.prog.theDef PySem.Challenge.rw_bellwrite_k80_other_talks.row.name=some (d.params,d.body,d.scope)) (h3:kwWritten? d.params.kwonlyargs d.params.kw_defaults=some kwd) (said:PySem.Challenge.rw_bellwrite_k80_other_talks.row.wellSaid=true) (hw:PySem.Challenge.rw_bellwrite_k80_other_talks.row.toRowW.promised)
  (hc:WalkO view [] (XL view []) H.says PySem.Challenge.rw_bellwrite_k80_other_talks.row.toRowW d kwd fun f vs=>PySem.call f vs):PySem.Challenge.rw_bellwrite_k80_other_talks.row.Holds:=by
 have ok:(chainsOk view && opensWell PySem.Challenge.rw_bellwrite_k80_other_talks.row.prog && (frees PySem.Challenge.rw_bellwrite_k80_other_talks.row.toRowW && PySem.Challenge.rw_bellwrite_k80_other_talks.row.within.isEmpty))=true:=by kernel_rfl
 exact holds_open (Xt:=Xt) (N:=20000) (left H hk) H.of H.keeps (fun s y=>xl_of s (Bool.and_eq_true_iff.mp y).1) XL.keeps h1 h2 h3
  (fun s y=>recFacts_of (Bool.and_eq_true_iff.mp y).2) (by rfl) said ok ⟨rfl,rfl,rfl,rfl,rfl,by decide +kernel⟩ hw hc
end
end Op
open PySem PySem.W PyProof.Rows
local macro_rules
  | `(tactic| o_head $h) => `(tactic| refine Op.opens $h (fun w os => ?hk) (by rfl) (by rfl) (by rfl) (by assumption) ?hw ?hc)
set_option maxRecDepth 100000 in
set_option maxHeartbeats 0 in
theorem PySem.Challenge.cw_bellwrite_k80_other_talks_holds : PySem.Challenge.rw_bellwrite_k80_other_talks.Holds := by
  w_on; o_law; k_head; (case hk => kernel_rfl); (case hw => w_witness2)
  k_fill
  refine Bw.walk (l := PySem.Challenge.rw_bellwrite_k80_other_talks) rfl rfl (by decide +kernel) (fun w h Y => W.kIn_of Y) ?F
  case F =>
    intro w mg fa h KX G hmg
    refine' Bw.all_mk (l := PySem.Challenge.rw_bellwrite_k80_other_talks) rfl KX G hmg ?d0 ?d1 ?d2 ?d3 ?d4 ?d5 ?d6 ?d7 ?d8 ?d9 ?d10 ?d11 ?d12 ?d13 ?d14 ?d15 ?d16 ?d17 ?d18 ?d19 ?d20 ?d21 ?d22 ?d23 ?d24 ?d25 ?d26 ?d27 ?d28 ?d29 ?d30 ?d31 ?d32 ?d33 ?z_range ?z_isinstance ?z_int ?z_bool ?z_len ?z_list ?z_max ?z_min ?z_enumerate ?z_str ?z_sorted ?z_sum ?z_reversed ?z_ValueError ?qj ?j6 ?zj ?qC ?qW ?zH ?qX ?jD ?qg ?zr ?ql ?zM ?xQ ?qR ?zm ?yu ?Z8 ?Z9 ?Qa ?Qc ?Qd ?Qe ?Qf ?jE ?j7 ?qD ?qm ?qY ?jF ?qZ ?j8
    any_goals (refine' Bw.di_mk ?a ?l ?c ?k; (case a => k_is); (case l => k_is); (case c => k_is); (case k => k_is))
    (case z_range => k_is)
    (case z_isinstance => k_is)
    (case z_int => k_is)
    (case z_bool => k_is)
    (case z_len => k_is)
    (case z_list => k_is)
    (case z_max => k_is)
    (case z_min => k_is)
    (case z_enumerate => k_is)
    (case z_str => k_is)
    (case z_sorted => k_is)
    (case z_sum => k_is)
    (case z_reversed => k_is)
    (case z_ValueError => k_is)
    (case qj => k_is)
    (case j6 => k_is)
    (case zj => k_is)
    (case qC => k_is)
    (case qW => k_is)
    (case zH => k_is)
    (case qX => k_is)
    (case jD => k_is)
    (case qg => k_is)
    (case zr => k_is)
    (case ql => k_exc)
    (case zM => k_exc)
    (case xQ => k_exc)
    (case qR => k_exc)
    (case zm => k_exc)
    (case yu => k_is)
    (case Z8 => k_is)
    (case Z9 => k_is)
    (case Qa => k_is)
    (case Qc => k_is)
    (case Qd => k_is)
    (case Qe => k_is)
    (case Qf => k_is)
    (case jE => kit_is)
    (case j7 => kit_is)
    (case qD => kit_is)
    (case qm => kit_is)
    (case qY => kit_is)
    (case jF => kit_is)
    (case qZ => kit_is)
    (case j8 => kit_is)