import PyProof.Rows.All
import Wide.All
import OpenK.AllK
import Wide.FinOn
import Lean
import PyProof.EqAt
import PyProof.EqKinds
import PyProof.TupleCall
import KE.IntBitsLaws
import PySem.Challenge.RW_bellwrite_k94_rows_at_the_desk
set_option Elab.async false
set_option linter.all false
set_option maxRecDepth 100000
set_option maxHeartbeats 4000000
set_option genSizeOf false
namespace L2
open PySem PySem.Spec PyProof.Rows
abbrev Key := Sum Int Str
noncomputable def keyIs : Key → Value → Bool
  | .inl k, v => Value.isInt k v
  | .inr x, v => Value.isStrOf x v
noncomputable def keyH (w : World) : Key → Int
  | .inl k => hashInt k
  | .inr x => hashStr w x
theorem keyIs_shape : ∀ {k : Key} {v : Value}, keyIs k v = true → (∃ i t, k = Sum.inl i ∧ v = Value.int i t) ∨ (∃ x t, k = Sum.inr x ∧ v = Value.str x t)
  | .inl i, v, h => by
    obtain ⟨t, e⟩ := Value.isInt_shape (k := i) (v := v) h
    exact .inl ⟨i, t, rfl, e⟩
  | .inr x, v, h => by
    obtain ⟨t, e⟩ := Value.isStrOf_shape (x := x) (v := v) h
    exact .inr ⟨x, t, rfl, e⟩
theorem keyIs_int (i : Int) (t : Tok) : keyIs (.inl i) (.int i t) = true := by simp [keyIs, Value.isInt]
theorem keyIs_str (x : Str) (t : Tok) : keyIs (.inr x) (.str x t) = true := by simp [keyIs, Value.isStrOf]
theorem key_ll (a b : Int) : decide ((Sum.inl a : Key) = Sum.inl b) = (a == b) := by
  by_cases e : a = b
  · subst e; simp
  · have h : ¬ (Sum.inl a : Key) = Sum.inl b := fun q => e (Sum.inl.inj q)
    rw [decide_eq_false h]
    exact (beq_eq_false_iff_ne.mpr e).symm
theorem key_rr (a b : Str) : decide ((Sum.inr a : Key) = Sum.inr b) = decide (a = b) := by
  by_cases e : a = b
  · subst e; simp
  · have h : ¬ (Sum.inr a : Key) = Sum.inr b := fun q => e (Sum.inr.inj q)
    rw [decide_eq_false h, decide_eq_false e]
theorem key_lr (a : Int) (b : Str) : decide ((Sum.inl a : Key) = Sum.inr b) = false := decide_eq_false (fun q => nomatch q)
theorem key_rl (a : Str) (b : Int) : decide ((Sum.inr a : Key) = Sum.inl b) = false := decide_eq_false (fun q => nomatch q)
noncomputable def mixKind (prog : Program) (w : World) : PySem.KeyKind prog w Key where
  is := keyIs
  hash := keyH w
  inj := fun v a b ha hb => by
    rcases keyIs_shape ha with ⟨i, t, rfl, rfl⟩ | ⟨x, t, rfl, rfl⟩
    · rcases keyIs_shape hb with ⟨j, u, rfl, e⟩ | ⟨y, u, rfl, e⟩
      · injection e with e1 _; rw [e1]
      · exact nomatch e
    · rcases keyIs_shape hb with ⟨j, u, rfl, e⟩ | ⟨y, u, rfl, e⟩
      · exact nomatch e
      · injection e with e1 _; rw [e1]
  byValue := fun k v h => by
    rcases keyIs_shape h with ⟨i, t, rfl, rfl⟩ | ⟨x, t, rfl, rfl⟩ <;> rfl
  pyHash := fun hv h => by
    rcases keyIs_shape hv with ⟨i, t, rfl, rfl⟩ | ⟨x, t, rfl, rfl⟩
    · exact wpAny_pyHash_int h
    · exact wpAny_pyHash_str h
  eqBool := fun hu hv h => by
    rcases keyIs_shape hu with ⟨i, t, rfl, rfl⟩ | ⟨x, t, rfl, rfl⟩
    · rcases keyIs_shape hv with ⟨j, u, rfl, rfl⟩ | ⟨y, u, rfl, rfl⟩
      · rw [key_ll] at h; exact wpAny_eqBool_int h
      · rw [key_lr] at h; exact SeqAt.EqAt.int_str i t y u _ _ _ _ h
    · rcases keyIs_shape hv with ⟨j, u, rfl, rfl⟩ | ⟨y, u, rfl, rfl⟩
      · rw [key_rl] at h; exact SeqAt.EqAt.str_int x t j u _ _ _ _ h
      · rw [key_rr] at h; exact wpAny_eqBool_str h
  «strs» := fun k x t v h => by
    rcases keyIs_shape h with ⟨i, u, rfl, e⟩ | ⟨y, u, rfl, e⟩
    · exact nomatch e
    · injection e with e1 _
      subst e1
      cases v <;> rfl
theorem mixKind_int (prog : Program) (w : World) (i : Int) (t : Tok) : (mixKind prog w).is (.inl i) (.int i t) = true := keyIs_int i t
theorem mixKind_str (prog : Program) (w : World) (x : Str) (t : Tok) : (mixKind prog w).is (.inr x) (.str x t) = true := keyIs_str x t
end L2
namespace L2
open PySem PySem.Spec PyProof.Rows
inductive V where
  | non | bl (b : Bool) | int (i : Int) | str (x : Str) | byt (b : Array UInt8) | flt (b : UInt64) | ref (a : Addr) | ty (n : String)
  deriving DecidableEq
noncomputable def RelV : V → Value → Prop
  | .non, u => u = Value.none
  | .bl b, u => u = Value.bool b
  | .int i, u => ∃ t, u = Value.int i t
  | .str x, u => ∃ t, u = Value.str x t
  | .byt b, u => ∃ t, u = Value.bytes b t
  | .flt b, u => ∃ t, u = Value.float b t
  | .ref a, u => u = Value.ref a
  | .ty n, u => u = Value.type n
abbrev Vals : List V → List Value → Prop := Paired RelV
theorem Vals.length {xs : List V} {us : List Value} (r : Vals xs us) : xs.length = us.length := Paired.length r
theorem Vals.get : ∀ {xs : List V} {us : List Value} {i : Nat} {x : V}, Vals xs us → xs[i]? = some x → ∃ u, us[i]? = some u ∧ RelV x u
  | _, _, _, _, .nil, e => by simp at e
  | _, _, 0, _, .cons r _, e => by simp at e; subst e; exact ⟨_, rfl, r⟩
  | _, _, i + 1, x, .cons _ t, e => by
    obtain ⟨u, h1, h2⟩ := Vals.get (i := i) (x := x) t (by simpa using e)
    exact ⟨u, by simpa using h1, h2⟩
theorem Vals.set {x : V} {u : Value} (r : RelV x u) : ∀ {xs : List V} {us : List Value} (i : Nat), Vals xs us → Vals (xs.set i x) (us.set i u)
  | _, _, _, .nil => .nil
  | _, _, 0, .cons _ t => .cons r t
  | _, _, i + 1, .cons q t => .cons q (Vals.set r i t)
theorem Vals.append : ∀ {xs ys : List V} {us ws : List Value}, Vals xs us → Vals ys ws → Vals (xs ++ ys) (us ++ ws)
  | _, _, _, _, .nil, s => s
  | _, _, _, _, .cons r t, s => .cons r (Vals.append t s)
theorem Vals.take : ∀ {xs : List V} {us : List Value} (n : Nat), Vals xs us → Vals (xs.take n) (us.take n)
  | _, _, 0, _ => .nil
  | _, _, _ + 1, .nil => .nil
  | _, _, n + 1, .cons r t => .cons r (Vals.take n t)
theorem Vals.drop : ∀ {xs : List V} {us : List Value} (n : Nat), Vals xs us → Vals (xs.drop n) (us.drop n)
  | _, _, 0, r => r
  | _, _, _ + 1, .nil => .nil
  | _, _, n + 1, .cons _ t => Vals.drop n t
theorem Vals.none_of : ∀ {xs : List V} {us : List Value} {i : Nat}, Vals xs us → xs[i]? = none → us[i]? = none := fun {xs us i} r e => by
  have h1 := r.length
  have h2 : xs.length ≤ i := List.getElem?_eq_none_iff.mp e
  exact List.getElem?_eq_none_iff.mpr (by omega)
noncomputable def RelO : Option V → Option Value → Prop
  | some v, some u => RelV v u
  | none, none => True
  | _, _ => False
noncomputable def KV {κ : Type} : List (κ × V) → List (κ × Value) → Prop := Paired fun (p : κ × V) (q : κ × Value) => p.1 = q.1 ∧ RelV p.2 q.2
noncomputable def kV : Key → V
  | .inl i => .int i
  | .inr x => .str x
inductive HO where
  | lst (xs : List V)
  | tup (xs : List V)
  | dK (kvs : List (Key × V)) | dT (kvs : List (List Key × V))
  | set (S : Int → Bool) (n : Nat)
  | ins (C dx : Addr) (fs : List (Str × V))
  | own (x : Addr)
  | xd (fs : List (Str × V))
  | met (f x : Addr)
  | rng (lo hi : Int)
  | frz (o : Obj) (u : HO)
  | tbl (ps : Array Value)
  | ext (φ : Heap → Prop)
abbrev Hp := Addr → Option HO
noncomputable def upd (H : Hp) (a : Addr) (o : HO) : Hp := fun b => if b = a then some o else H b
theorem upd_same {H : Hp} {a : Addr} {o : HO} : upd H a o a = some o := by unfold upd; rw [if_pos rfl]
theorem upd_ne {H : Hp} {a b : Addr} {o : HO} (h : b ≠ a) : upd H a o b = H b := by unfold upd; rw [if_neg h]
theorem upd_upd {H : Hp} {a : Addr} {o u : HO} : upd (upd H a o) a u = upd H a u := by
  funext b; unfold upd; split <;> rfl
theorem ne_of {H : Hp} {a b : Addr} {o u : HO} (h : H a = some o) (h' : H b = some u) (d : o ≠ u) : a ≠ b := by
  intro e; subst e; rw [h] at h'; exact d (Option.some.inj h')
theorem ne_of_none {H : Hp} {a b : Addr} {o : HO} (h : H a = some o) (h' : H b = none) : a ≠ b := by
  intro e; subst e; rw [h] at h'; cases h'
section
variable (P : Program) (w : World)
noncomputable def ObjOk (H : Hp) (h : Heap) (a : Addr) : HO → Prop
  | .lst xs => xs.length ≤ sizeLine ∧ ∃ (its : List Value) (n : Nat), Vals xs its ∧ h.get? a = some { cls := .type "list", data := .seq its.toArray n }
  | .tup xs => xs.length ≤ sizeLine ∧ ∃ its : List Value, Vals xs its ∧ IsTup h a its.toArray
  | .dK kvs => kvs.length ≤ sizeLine ∧ (a == sysModules) = false ∧ ∃ vs, KV kvs vs ∧ h.DictOf (mixKind P w) a vs
  | .dT kvs => kvs.length ≤ sizeLine ∧ (a == sysModules) = false ∧ ∃ xs : List (List Key × Addr × Value),
      Paired (fun (p : List Key × V) (q : List Key × Addr × Value) => p.1 = q.1 ∧ H q.2.1 = some (.tup (p.1.map kV)) ∧ RelV p.2 q.2.2) kvs xs ∧
      ∃ o es ep, h.get? a = some o ∧ o.ExactDict ∧ o.data = .dict es ep ∧ es.toList = xs.map (entryOfKey (tupleKind (mixKind P w))) ∧ (xs.map (·.1)).Nodup
  | .set S n => h.SetOf (intKind P w) a S n
  | .ins C dx fs => H dx = some (.own a) ∧ fs.length ≤ 1000 ∧ dx ≠ a ∧ h.get? a = some (PySem.W.instObj C dx) ∧
      ∃ mA, h.Ns1 dx mA ∧ (∀ f, RelO (fs.lookup f) (mA f)) ∧ PySem.Within mA (fs.map (·.1))
  | .own _ => ∃ o, h.get? a = some o
  | .xd fs => ∃ mA, h.Ns1 a mA ∧ ∀ f, RelO (fs.lookup f) (mA f)
  | .rng lo hi => ∃ t u v, h.get? a = some { cls := .type "range", data := .fields #[.int lo t, .int hi u, .int 1 v] }
  | .frz o u => h.get? a = some o ∧ ObjOk H h a u
  | .tbl ps => h.get? a = some { cls := .none, data := .fields ps }
  | .met f x => h.get? a = some (PySem.W.methodObj (.ref f) (.ref x))
  | .ext φ => φ h ∧ (∃ o, h.get? a = some o) ∧ ∀ h1 h2 : Heap, φ h1 → (∀ o, h1.get? a = some o → h2.get? a = some o) → φ h2
noncomputable def HOk (H : Hp) (h : Heap) : Prop := ∀ a o, H a = some o → ObjOk P w H h a o
end
section
variable {P : Program} {w : World} {H H' : Hp} {h h' : Heap} {a : Addr} {o : HO}
theorem ObjOk.lt (x : ObjOk P w H h a o) : a < h.objs.size := by
  cases o with
  | lst xs => obtain ⟨_, _, _, _, e⟩ := x; exact Heap.lt_size e
  | tup xs => obtain ⟨_, _, _, p⟩ := x; exact p.lt
  | dK kvs => obtain ⟨_, _, _, _, o, _, _, e, _⟩ := x; exact Heap.lt_size e
  | dT kvs => obtain ⟨_, _, _, _, o, _, _, e, _⟩ := x; exact Heap.lt_size e
  | set S n => obtain ⟨o, _, _, _, e, _⟩ := x; exact Heap.lt_size e
  | ins C dx fs => obtain ⟨_, _, _, e, _⟩ := x; exact Heap.lt_size e
  | own y => obtain ⟨_, e⟩ := x; exact Heap.lt_size e
  | xd fs => obtain ⟨_, ⟨_, _, _, e, _⟩, _⟩ := x; exact Heap.lt_size e
  | rng lo hi => obtain ⟨_, _, _, e⟩ := x; exact Heap.lt_size e
  | frz ob u => obtain ⟨e, _⟩ := x; exact Heap.lt_size e
  | tbl ps => exact Heap.lt_size (show h.get? a = some _ from x)
  | met f y => exact Heap.lt_size (show h.get? a = some _ from x)
  | ext φ => obtain ⟨_, ⟨_, e⟩, _⟩ := x; exact Heap.lt_size e
theorem Paired.mapP {α β : Type} {F G : α → β → Prop} : ∀ {l₁ : List α} {l₂ : List β}, Paired F l₁ l₂ → (∀ a b, F a b → G a b) → Paired G l₁ l₂
  | _, _, .nil, _ => .nil
  | _, _, .cons r t, f => .cons (f _ _ r) (Paired.mapP t f)
theorem Paired.imp' {α β : Type} {F G : α → β → Prop} (f : ∀ a b, F a b → G a b) {l₁ : List α} {l₂ : List β} (r : Paired F l₁ l₂) : Paired G l₁ l₂ := Paired.mapP r f
theorem ObjOk.stay (x : ObjOk P w H h a o) (k : ∀ b u, (b = a ∨ H b = some (.own a)) → h.get? b = some u → h'.get? b = some u)
    (ho : ∀ b, H b = some (.own a) → H' b = some (.own a)) (ht : ∀ b xs, H b = some (.tup xs) → H' b = some (.tup xs)) : ObjOk P w H' h' a o := by
  induction o with
  | lst xs => obtain ⟨z, its, n, r, e⟩ := x; exact ⟨z, its, n, r, k _ _ (.inl rfl) e⟩
  | tup xs => obtain ⟨z, its, r, ob, e, c⟩ := x; exact ⟨z, its, r, ob, k _ _ (.inl rfl) e, c⟩
  | dK kvs => obtain ⟨z, y, vs, r, ob, es, ep, e, c⟩ := x; exact ⟨z, y, vs, r, ob, es, ep, k _ _ (.inl rfl) e, c⟩
  | dT kvs =>
    obtain ⟨z, y, xs, r, ob, es, ep, e, c⟩ := x
    exact ⟨z, y, xs, Paired.mapP r fun p q z => ⟨z.1, ht _ _ z.2.1, z.2.2⟩, ob, es, ep, k _ _ (.inl rfl) e, c⟩
  | set S n => obtain ⟨ob, es, ep, t, e, c⟩ := x; exact ⟨ob, es, ep, t, k _ _ (.inl rfl) e, c⟩
  | ins C dx fs =>
    obtain ⟨d, z, ne, e, mA, ⟨od, es, ep, e2, c⟩, r⟩ := x
    exact ⟨ho _ d, z, ne, k _ _ (.inl rfl) e, mA, ⟨od, es, ep, k _ _ (.inr d) e2, c⟩, r⟩
  | own y => obtain ⟨ob, e⟩ := x; exact ⟨ob, k _ _ (.inl rfl) e⟩
  | xd fs => obtain ⟨mA, ⟨od, es, ep, e, c⟩, r⟩ := x; exact ⟨mA, ⟨od, es, ep, k _ _ (.inl rfl) e, c⟩, r⟩
  | rng lo hi => obtain ⟨t, u, v, e⟩ := x; exact ⟨t, u, v, k _ _ (.inl rfl) e⟩
  | frz ob u ih => obtain ⟨e, q⟩ := x; exact ⟨k _ _ (.inl rfl) e, ih q⟩
  | tbl ps =>
    have e : h.get? a = some { cls := .none, data := .fields ps } := x
    show h'.get? a = some { cls := .none, data := .fields ps }
    exact k a _ (.inl rfl) e
  | met f y =>
    have e : h.get? a = some (PySem.W.methodObj (.ref f) (.ref y)) := x
    show h'.get? a = some (PySem.W.methodObj (.ref f) (.ref y))
    exact k a _ (.inl rfl) e
  | ext φ => obtain ⟨p, ⟨o, e⟩, st⟩ := x; exact ⟨st _ _ p fun o q => k _ _ (.inl rfl) q, ⟨o, k _ _ (.inl rfl) e⟩, st⟩
theorem HOk.lt (x : HOk P w H h) (e : H a = some o) : a < h.objs.size := (x a o e).lt
theorem HOk.fresh (x : HOk P w H h) (e : h.objs.size ≤ a) : H a = none := by
  cases q : H a with
  | none => rfl
  | some u => exact absurd (Nat.lt_of_lt_of_le (x.lt q) e) (Nat.lt_irrefl _)
theorem HOk.kept (x : HOk P w H h) (k : ∀ b u, h.get? b = some u → h'.get? b = some u) : HOk P w H h' := fun a o e =>
  (x a o e).stay (fun b u _ q => k b u q) (fun _ q => q) fun _ _ q => q
theorem HOk.laid (x : HOk P w H h) (k : ∀ b u, h.get? b = some u → h'.get? b = some u) (hp : h.objs.size ≤ a) (new : ObjOk P w (upd H a o) h' a o) : HOk P w (upd H a o) h' := fun b u e => by
  have hn := x.fresh hp
  by_cases hb : b = a
  · subst hb; rw [upd_same] at e; cases e; exact new
  · rw [upd_ne hb] at e
    exact (x b u e).stay (fun c v _ q => k c v q) (fun c q => by rw [upd_ne (ne_of_none q hn)]; exact q) fun c xs q => by rw [upd_ne (ne_of_none q hn)]; exact q
end
noncomputable def Rd (H : Hp) (a : Addr) (u : HO) : Prop := H a = some u ∨ ∃ o, H a = some (.frz o u)
theorem Rd.of {H : Hp} {a : Addr} {u : HO} (h : H a = some u) : Rd H a u := .inl h
theorem Rd.ok {P : Program} {w : World} {H : Hp} {h : Heap} {a : Addr} {u : HO} (r : Rd H a u) (x : HOk P w H h) : ObjOk P w H h a u := by
  rcases r with r | ⟨o, r⟩
  · exact x a u r
  · obtain ⟨_, q⟩ := x a _ r
    exact q
noncomputable def Mut : Option HO → Prop
  | some (.lst _) => True
  | some (.dK _) => True
  | some (.dT _) => True
  | some (.set _ _) => True
  | some (.ins _ _ _) => True
  | some (.ext _) => True
  | _ => False
section
variable {P : Program} {w : World} {H : Hp} {h h' : Heap} {x e : Addr} {o' : HO}
theorem HOk.write (ok : HOk P w H h) (mu : Mut (H x)) (he : e = x ∨ H e = some (.own x)) (k : ∀ b u, b ≠ e → h.get? b = some u → h'.get? b = some u) (heo : ∃ u, h'.get? e = some u)
    (new : ObjOk P w (upd H x o') h' x o') : HOk P w (upd H x o') h' := fun b u q => by
  have nown : ∀ c y, H c = some (.own y) → c ≠ x := fun c y r z => by subst z; rw [r] at mu; exact mu
  have ntup : ∀ c xs, H c = some (.tup xs) → c ≠ x := fun c xs r z => by subst z; rw [r] at mu; exact mu
  by_cases hb : b = x
  · subst hb; rw [upd_same] at q; cases q; exact new
  · rw [upd_ne hb] at q
    by_cases hbe : b = e
    · have q' : H b = some (.own x) := by
        rcases he with z | z
        · exact absurd (hbe.trans z) hb
        · rw [hbe]; exact z
      rw [q] at q'; cases q'
      obtain ⟨v, hv⟩ := heo
      exact ⟨v, by rw [hbe]; exact hv⟩
    · refine (ok b u q).stay (fun c v hc r => k c v ?_ r) (fun c r => by rw [upd_ne (nown c b r)]; exact r) fun c xs r => by rw [upd_ne (ntup c xs r)]; exact r
      rcases hc with rfl | hc
      · exact hbe
      · rintro rfl
        rcases he with z | z
        · exact nown c b hc z
        · rw [hc] at z; cases z; exact hb rfl
end
structure Un (fs ex : List Addr) (H H' : Hp) (h h' : Heap) : Prop where
  keep : ∀ b o, h.get? b = some o → H b = none → b ∉ fs → b ∉ ex → h'.get? b = some o
  slot : ∀ b o, h.get? b = some o → H b = none → b ∈ fs → b ∉ ex → ∃ sl, h'.get? b = some { o with slots := sl }
  free : ∀ b o, h.get? b = some o → H b = none → b ∉ ex → H' b = none
  there : ∀ b o, h.get? b = some o → b ∉ ex → ∃ o', h'.get? b = some o'
  tups : ∀ b xs, H b = some (.tup xs) → H' b = some (.tup xs)
  frzs : ∀ b o u, H b = some (.frz o u) → H' b = some (.frz o u)
  tbls : ∀ b ps, H b = some (.tbl ps) → ∃ more, H' b = some (.tbl (ps ++ more))
section
variable {fs fs' ex ex' : List Addr} {H H1 H2 : Hp} {h h1 h2 h' : Heap} {a x e : Addr} {o : HO}
theorem Un.any (u : Un fs ex H H1 h h1) {b : Addr} {ob : Obj} (q : h.get? b = some ob) (n : H b = none) (hx : b ∉ ex) : ∃ sl, h1.get? b = some { ob with slots := sl } := by
  by_cases hb : b ∈ fs
  · exact u.slot b ob q n hb hx
  · exact ⟨ob.slots, u.keep b ob q n hb hx⟩
theorem Un.trans (a : Un fs ex H H1 h h1) (b : Un fs ex H1 H2 h1 h2) : Un fs ex H H2 h h2 where
  keep := fun c ob q n hc hx => b.keep c ob (a.keep c ob q n hc hx) (a.free c ob q n hx) hc hx
  slot := fun c ob q n hc hx => by
    obtain ⟨sl, e1⟩ := a.slot c ob q n hc hx
    obtain ⟨sl', e2⟩ := b.slot c _ e1 (a.free c ob q n hx) hc hx
    exact ⟨sl', e2⟩
  free := fun c ob q n hx => by
    obtain ⟨o', e1⟩ := a.there c ob q hx
    exact b.free c o' e1 (a.free c ob q n hx) hx
  there := fun c ob q hx => by
    obtain ⟨o', e1⟩ := a.there c ob q hx
    exact b.there c o' e1 hx
  tups := fun c xs q => b.tups c xs (a.tups c xs q)
  frzs := fun c ob xs q => b.frzs c ob xs (a.frzs c ob xs q)
  tbls := fun c ps q => by
    obtain ⟨m1, e1⟩ := a.tbls c ps q
    obtain ⟨m2, e2⟩ := b.tbls c _ e1
    exact ⟨m1 ++ m2, by rw [e2, Array.append_assoc]⟩
theorem Un.kept (k : ∀ b u, h.get? b = some u → h'.get? b = some u) : Un fs ex H H h h' :=
  ⟨fun b ob q _ _ _ => k b ob q, fun b ob q _ _ _ => ⟨ob.slots, k b ob q⟩, fun _ _ _ n _ => n, fun b ob q _ => ⟨ob, k b ob q⟩, fun _ _ q => q, fun _ _ _ q => q, fun _ ps q => ⟨#[], by rw [q]; simp⟩⟩
theorem Un.refl : Un fs ex H H h h := Un.kept fun _ _ q => q
theorem Un.laid (k : ∀ b u, h.get? b = some u → h'.get? b = some u) (hp : h.objs.size ≤ a) (hn : H a = none) : Un fs ex H (upd H a o) h h' where
  keep := fun b u q _ _ _ => k b u q
  slot := fun b u q _ _ _ => ⟨u.slots, k b u q⟩
  free := fun b u q n _ => by rw [upd_ne (Nat.ne_of_lt (Nat.lt_of_lt_of_le (Heap.lt_size q) hp))]; exact n
  there := fun b u q _ => ⟨u, k b u q⟩
  tups := fun b xs q => by rw [upd_ne (ne_of_none q hn)]; exact q
  frzs := fun b u xs q => by rw [upd_ne (ne_of_none q hn)]; exact q
  tbls := fun b ps q => ⟨#[], by rw [upd_ne (ne_of_none q hn), q]; simp⟩
theorem Un.write (mu : Mut (H x)) (he : e = x ∨ H e = some (.own x)) (k : ∀ b u, b ≠ e → h.get? b = some u → h'.get? b = some u) (heo : ∃ u, h'.get? e = some u) : Un fs ex H (upd H x o) h h' := by
  have hx : ∀ b, H b = none → b ≠ x := fun b n z => by subst z; rw [n] at mu; exact mu
  have hb : ∀ b, H b = none → b ≠ e := fun b n z => by
    subst z
    rcases he with r | r
    · exact hx b n r
    · rw [n] at r; cases r
  have hm : ∀ b u, H b = some u → ¬ Mut (some u) → b ≠ x := fun b u q nm z => by subst z; rw [q] at mu; exact nm mu
  refine ⟨fun b u q n _ _ => k b u (hb b n) q, fun b u q n _ _ => ⟨u.slots, k b u (hb b n) q⟩, fun b u q n _ => by rw [upd_ne (hx b n)]; exact n, fun b u q _ => ?_,
    fun b xs q => by rw [upd_ne (hm b _ q fun z => z)]; exact q, fun b u xs q => by rw [upd_ne (hm b _ q fun z => z)]; exact q, fun b ps q => ⟨#[], by rw [upd_ne (hm b _ q fun z => z), q]; simp⟩⟩
  by_cases hbe : b = e
  · subst hbe; exact heo
  · exact ⟨u, k b u hbe q⟩
theorem Un.mono (u : Un fs ex H H1 h h1) (hs : ∀ b ∈ fs, b ∈ fs') (hx : ∀ b ∈ ex, b ∈ ex') : Un fs' ex' H H1 h h1 :=
  ⟨fun b ob q n hb he => u.keep b ob q n (fun z => hb (hs b z)) fun z => he (hx b z), fun _ _ q n _ he => u.any q n fun z => he (hx _ z), fun b ob q n he => u.free b ob q n fun z => he (hx b z), fun b ob q he => u.there b ob q fun z => he (hx b z), u.tups, u.frzs, u.tbls⟩
end
noncomputable def trk (h : Heap) (H : Hp) : List Addr := (List.range h.objs.size).filter fun a => (H a).isSome
noncomputable def hidT (h : Heap) (H : Hp) : Heap := PySem.W.hideAll h (trk h H)
theorem hidT_size (h : Heap) (H : Hp) : (hidT h H).objs.size = h.objs.size := PySem.W.hideAll_size _ _
theorem hidT_get {h : Heap} {H : Hp} {b : Addr} {o : Obj} (e : h.get? b = some o) (n : H b = none) : (hidT h H).get? b = some o :=
  PySem.W.hideAll_get _ e fun hm => by
    have q : (H b).isSome = true := (List.mem_filter.mp hm).2
    rw [n] at q; simp at q
theorem of_hidT {h : Heap} {H : Hp} {b : Addr} {o : Obj} (e : (hidT h H).get? b = some o) : h.get? b = some o ∧ H b = none := by
  have e' : h.get? b = some o := PySem.W.of_hideAll (trk h H) e
  refine ⟨e', ?_⟩
  cases q : H b with
  | none => rfl
  | some x =>
    have hm : b ∈ trk h H := List.mem_filter.mpr ⟨List.mem_range.mpr (Heap.lt_size e'), by simp [q]⟩
    have z : (hidT h H).get? b = none := PySem.W.hideAll_none (trk h H) hm
    rw [z] at e; cases e
noncomputable def allNews (g h : Heap) (L : Addr) : List (Addr × Obj) := (List.range h.objs.size).filterMap fun a => if a = L ∨ (g.get? a).isSome = true then none else (h.get? a).map fun o => (a, o)
noncomputable def rest (g h : Heap) (L d : Addr) : List (Addr × Obj) := (allNews g h L).filter fun p => decide (p.1 ≠ d)
end L2
namespace L2
open PySem PySem.Spec PyProof.Rows
structure Mod (K : PySem.W.Frag) (mg : Str → Option Value) (base : Heap) : Prop where
  kin : K.In base
  glob : base.Ns mainGlobals mg
  blt : ∃ mb, base.Ns builtinsNs mb ∧ ∀ x : Str, x ≠ "__name__" → mb x = bootBuiltins x
  nolimit : base.NoLimit
  seer : base.NoSeer
structure Cx where
  prog : Program
  w : World
  K : PySem.W.Frag
  mg : Str → Option Value
  base : Heap
  A : Around
  N : List Str
  s₀ : Shared
  H₀ : Hp
  env : Env
  outer : List Env
  stack : List Env
  ex : List Addr
  fn : Str → Bool
  calm : Bool
  pn : List (Addr × Obj)
  xe : Value → Shared → Prop
def frs (l : List Env) : List Addr := l.filterMap (·.frame)
abbrev Cx.fs (X : Cx) : List Addr := frs X.outer
noncomputable def Vis (sc : Scope) (x : Str) : Prop := sc.names.lookup x = some .local ∨ sc.names.lookup x = some .cell ∨ sc.names.lookup x = some .free
noncomputable def Loc (sc : Scope) (x : Str) : Prop := sc.names.lookup x = some .local ∨ sc.names.lookup x = some .cell
noncomputable def Look (env : Env) (h : Heap) (m : Str → Option Value) (x : Str) (u : Value) : Prop :=
  (env.kindOf x = some .local ∧ m x = some u) ∨ ((env.kindOf x = some .cell ∨ env.kindOf x = some .free) ∧ ∃ c, env.cells.lookup x = some c ∧ h.IsCell c (some u))
structure Cx.Ok (X : Cx) : Prop where
  mod : Mod X.K X.mg X.base
  kind : X.env.scope.kind = .function
  glob : X.env.globals = mainGlobals
  blt : X.env.builtins = builtinsNs
  above : X.s₀.heap.objs.size ≤ X.env.locals
  inj : ∀ x y c, X.env.cells.lookup x = some c → X.env.cells.lookup y = some c → x = y
  has : ∀ x, (X.env.kindOf x = some .cell ∨ X.env.kindOf x = some .free) → ∃ c, X.env.cells.lookup x = some c
  cab : ∀ x c, X.fn x = true → X.env.cells.lookup x = some c → X.s₀.heap.objs.size ≤ c
  hd : X.calm = true → X.A.handled = none
  frames : X.A.frames = some X.stack
  stk : X.stack = X.outer ∨ (X.stack = X.env :: X.outer ∧ X.env.frame = some X.env.locals)
  exf : ∀ b ∈ X.ex, b ≠ X.env.locals ∧ ∀ x c, X.env.cells.lookup x = some c → c ≠ b
  bs : ∀ b o, X.base.get? b = some o → X.s₀.heap.get? b = some o ∧ X.H₀ b = none
  bsz : X.base.objs.size ≤ X.s₀.heap.objs.size
  noex : ∀ b o, X.base.get? b = some o → b ∉ X.ex
  exfs : ∀ b ∈ X.ex, b ∉ X.fs
  funs : X.s₀.heap.FunFrames X.base X.outer
  frf : ∀ b ∈ X.fs, X.H₀ b = none
structure Inv (X : Cx) (pins : List (Addr × Obj)) (σ : List (Option V)) (H : Hp) (s : Shared) : Prop where
  ok : X.Ok
  os : s.os = X.s₀.os
  bare : AllBare s.gens
  base : Un X.fs X.ex X.H₀ H X.s₀.heap s.heap
  loc : ∃ m, s.heap.Ns X.env.locals m ∧ ∀ (i : Nat) (x : Str) (v : V), X.N[i]? = some x → σ[i]? = some (some v) → Vis X.env.scope x → ∃ u, RelV v u ∧ Look X.env s.heap m x u
  cell : ∀ x c, X.env.cells.lookup x = some c → ∃ v, s.heap.IsCell c v
  free : H X.env.locals = none
  freeC : ∀ x c, X.env.cells.lookup x = some c → H c = none
  pin : ∀ p ∈ X.pn ++ pins, s.heap.get? p.1 = some p.2 ∧ H p.1 = none ∧ p.1 ≠ X.env.locals ∧ p.1 ∉ X.fs ∧ ∀ v, p.2.data ≠ .cell v
  hok : HOk X.prog X.w H s.heap
  len : σ.length = X.N.length
section
variable {X : Cx} {pins : List (Addr × Obj)} {σ : List (Option V)} {H H' : Hp} {s : Shared} {h' : Heap}
theorem Cx.Ok.nofr (ok : X.Ok) {b : Addr} {o : Obj} (e : X.base.get? b = some o) : b ∉ X.fs := fun hb => by
  have := (ok.funs.mem hb).1
  rw [e] at this; cases this
theorem Inv.bs (I : Inv X pins σ H s) : ∀ b o, X.base.get? b = some o → s.heap.get? b = some o ∧ H b = none := fun b o e =>
  ⟨I.base.keep b o (I.ok.bs b o e).1 (I.ok.bs b o e).2 (I.ok.nofr e) (I.ok.noex b o e), I.base.free b o (I.ok.bs b o e).1 (I.ok.bs b o e).2 (I.ok.noex b o e)⟩
theorem Inv.bk (I : Inv X pins σ H s) : ∀ b o, X.base.get? b = some o → s.heap.get? b = some o := fun b o e => (I.bs b o e).1
theorem Inv.mod (I : Inv X pins σ H s) : Mod X.K X.mg X.base := I.ok.mod
theorem Inv.kIn (I : Inv X pins σ H s) : X.K.In s.heap := I.ok.mod.kin.keeps I.bk
theorem Inv.nolimit (I : Inv X pins σ H s) : s.heap.NoLimit := I.ok.mod.nolimit.keeps I.bk
theorem Inv.fr (I : Inv X pins σ H s) : ∃ m, Fr X.base X.env.locals s.heap m :=
  let ⟨m, hn, _⟩ := I.loc
  ⟨m, hn, I.bk, Nat.le_trans I.ok.bsz I.ok.above⟩
theorem Inv.lt (I : Inv X pins σ H s) : X.env.locals < s.heap.objs.size := let ⟨_, hn, _⟩ := I.loc; hn.lt
theorem Inv.sz (I : Inv X pins σ H s) : X.s₀.heap.objs.size ≤ s.heap.objs.size := Nat.le_trans I.ok.above (Nat.le_of_lt I.lt)
theorem Inv.nofs (I : Inv X pins σ H s) {a : Addr} (h : s.heap.objs.size ≤ a) : a ∉ X.fs := fun hb => by
  obtain ⟨_, o, ho, _⟩ := I.ok.funs.mem hb
  exact absurd (Nat.lt_of_lt_of_le (Heap.lt_size ho) (Nat.le_trans I.sz h)) (Nat.lt_irrefl _)
theorem Inv.cne (I : Inv X pins σ H s) : ∀ x c, X.env.cells.lookup x = some c → c ≠ X.env.locals := fun x c e z => by
  obtain ⟨v, o, ho, hd⟩ := I.cell x c e
  obtain ⟨m, ⟨o', es, ep, ho', hd', _⟩, _⟩ := I.loc
  rw [z, ho'] at ho; cases ho; rw [hd'] at hd; cases hd
theorem Inv.funs (I : Inv X pins σ H s) : s.heap.FunFrames X.base X.outer := by
  have all : ∀ (l : List Env), (∀ b ∈ frs l, b ∈ X.fs) → X.s₀.heap.FunFrames X.base l → s.heap.FunFrames X.base l := by
    intro l
    induction l with
    | nil => intro _ _; trivial
    | cons env r ih =>
      intro hs hl
      obtain ⟨hk, ⟨L, o, hf, hn, ho, hd⟩, hr⟩ := hl
      have hL : L ∈ X.fs := hs L (by unfold frs; rw [List.filterMap_cons, hf]; exact List.mem_cons_self)
      obtain ⟨sl, e⟩ := I.base.slot L o ho (I.ok.frf L hL) hL fun z => I.ok.exfs L z hL
      exact ⟨hk, ⟨L, _, hf, hn, e, hd⟩, ih (fun b hb => hs b (by unfold frs; rw [List.filterMap_cons, hf]; exact List.mem_cons_of_mem _ hb)) hr⟩
  exact all X.outer (fun _ hb => hb) I.ok.funs
theorem Inv.stack (I : Inv X pins σ H s) : s.heap.FunFrames X.base X.stack := by
  rcases I.ok.stk with e | ⟨e, hf⟩
  · rw [e]; exact I.funs
  · rw [e]
    obtain ⟨m, hn, _⟩ := I.loc
    refine .cons (by rw [I.ok.kind]; decide) hf hn ?_ I.funs
    exact Heap.get?_none_of_le (Nat.le_trans I.ok.bsz I.ok.above)
theorem Inv.stkSub (I : Inv X pins σ H s) : ∀ b ∈ frs X.stack, b ∈ X.env.locals :: X.fs := fun b hb => by
  rcases I.ok.stk with e | ⟨e, hf⟩
  · rw [e] at hb; exact List.mem_cons_of_mem _ hb
  · rw [e] at hb
    unfold frs at hb
    rw [List.filterMap_cons, hf] at hb
    exact hb
theorem Inv.stkFree (I : Inv X pins σ H s) : ∀ b ∈ frs X.stack, H b = none := fun b hb => by
  rcases List.mem_cons.mp (I.stkSub b hb) with e | hb
  · rw [e]; exact I.free
  · obtain ⟨_, o, ho, _⟩ := I.ok.funs.mem hb
    exact I.base.free b o ho (I.ok.frf b hb) fun z => I.ok.exfs b z hb
theorem Inv.step {g' : Array GenState} {t' : Nat} {d' : Drawn} {ch : List Addr} (I : Inv X pins σ H s)
    (hch : ∀ b ∈ ch, (b ∈ X.ex ∨ X.s₀.heap.objs.size ≤ b) ∧ b ≠ X.env.locals ∧ (∀ x c, X.env.cells.lookup x = some c → c ≠ b) ∧ ∀ p ∈ X.pn ++ pins, p.1 ≠ b)
    (keep : ∀ b o, b ≠ X.env.locals → b ∉ X.fs → b ∉ ch → s.heap.get? b = some o → H b = none → h'.get? b = some o)
    (slot : ∀ b o, b ≠ X.env.locals → b ∈ X.fs → b ∉ ch → s.heap.get? b = some o → H b = none → ∃ sl, h'.get? b = some { o with slots := sl }) (free : ∀ b o, b ∉ ch → s.heap.get? b = some o → H b = none → H' b = none)
    (there : ∀ b o, b ∉ ch → s.heap.get? b = some o → ∃ o', h'.get? b = some o')
    (tups : ∀ b xs, H b = some (.tup xs) → H' b = some (.tup xs)) (frzs : ∀ b o u, H b = some (.frz o u) → H' b = some (.frz o u)) (tbls : ∀ b ps, H b = some (.tbl ps) → ∃ more, H' b = some (.tbl (ps ++ more)))
    (ns : ∀ m, s.heap.Ns X.env.locals m → h'.Ns X.env.locals m) (hok : HOk X.prog X.w H' h') (hg : AllBare g') :
    Inv X pins σ H' { s with heap := h', gens := g', drawn := d', toks := t' } := by
  have neL : ∀ b o, X.s₀.heap.get? b = some o → b ≠ X.env.locals := fun b o e => Nat.ne_of_lt (Nat.lt_of_lt_of_le (Heap.lt_size e) I.ok.above)
  have neC : ∀ b o, X.s₀.heap.get? b = some o → b ∉ X.ex → b ∉ ch := fun b o e hx hb => by
    rcases (hch b hb).1 with z | z
    · exact hx z
    · exact absurd (Nat.lt_of_lt_of_le (Heap.lt_size e) z) (Nat.lt_irrefl _)
  have cellK : ∀ x c, X.env.cells.lookup x = some c → ∀ v, s.heap.IsCell c v → h'.IsCell c v := fun x c e v ⟨o, ho, hd⟩ => by
    have nch : c ∉ ch := fun z => (hch c z).2.2.1 x c e rfl
    by_cases hc : c ∈ X.fs
    · obtain ⟨sl, q⟩ := slot c o (I.cne x c e) hc nch ho (I.freeC x c e)
      exact ⟨_, q, hd⟩
    · exact ⟨o, keep c o (I.cne x c e) hc nch ho (I.freeC x c e), hd⟩
  refine ⟨I.ok, I.os, hg, ⟨fun b o e n hb hx => ?_, fun b o e n hb hx => ?_, fun b o e n hx => ?_, fun b o e hx => ?_, fun b xs e => tups b xs (I.base.tups b xs e), fun b o xs e => frzs b o xs (I.base.frzs b o xs e), fun b ps e => ?_⟩, ?_, fun x c e => ?_, ?_, fun x c e => ?_, fun p hp => ?_, hok, I.len⟩
  · exact keep b o (neL b o e) hb (neC b o e hx) (I.base.keep b o e n hb hx) (I.base.free b o e n hx)
  · obtain ⟨sl, e1⟩ := I.base.slot b o e n hb hx
    obtain ⟨sl', e2⟩ := slot b _ (neL b o e) hb (neC b o e hx) e1 (I.base.free b o e n hx)
    exact ⟨sl', e2⟩
  · obtain ⟨o', e1⟩ := I.base.there b o e hx
    exact free b o' (neC b o e hx) e1 (I.base.free b o e n hx)
  · obtain ⟨o', e1⟩ := I.base.there b o e hx
    exact there b o' (neC b o e hx) e1
  · obtain ⟨m1, e1⟩ := I.base.tbls b ps e
    obtain ⟨m2, e2⟩ := tbls b _ e1
    exact ⟨m1 ++ m2, by rw [e2, Array.append_assoc]⟩
  · obtain ⟨m, hn, hl⟩ := I.loc
    refine ⟨m, ns m hn, fun i x v e1 e2 e3 => ?_⟩
    obtain ⟨u, r, l⟩ := hl i x v e1 e2 e3
    refine ⟨u, r, ?_⟩
    rcases l with l | ⟨k, c, e, z⟩
    · exact .inl l
    · exact .inr ⟨k, c, e, cellK x c e _ z⟩
  · obtain ⟨v, z⟩ := I.cell x c e
    exact ⟨v, cellK x c e v z⟩
  · obtain ⟨m, ⟨o, _, _, ho, _⟩, _⟩ := I.loc
    exact free _ o (fun z => (hch _ z).2.1 rfl) ho I.free
  · obtain ⟨v, o, ho, hd⟩ := I.cell x c e
    exact free c o (fun z => (hch c z).2.2.1 x c e rfl) ho (I.freeC x c e)
  · obtain ⟨e, n, ne, nf, d⟩ := I.pin p hp
    have nch : p.1 ∉ ch := fun z => (hch p.1 z).2.2.2 p hp rfl
    exact ⟨keep p.1 p.2 ne nf nch e n, free p.1 p.2 nch e n, ne, nf, d⟩
theorem Inv.un {t' : Nat} (I : Inv X pins σ H s) (u : Un X.fs [] H H' s.heap h') (hok : HOk X.prog X.w H' h') : Inv X pins σ H' { s with heap := h', toks := t' } := by
  obtain ⟨m, ⟨o, es, ep, ho, r⟩, _⟩ := id I.loc
  obtain ⟨sl, hL⟩ := u.any ho I.free (by simp)
  exact I.step (g' := s.gens) (d' := s.drawn) (ch := []) (fun _ z => nomatch z) (fun b o _ hb _ e n => u.keep b o e n hb (by simp)) (fun b o _ hb _ e n => u.slot b o e n hb (by simp)) (fun b o _ e n => u.free b o e n (by simp)) (fun b o _ e => u.there b o e (by simp)) u.tups u.frzs u.tbls (fun m' hm => by
    obtain ⟨o', es', ep', ho', r'⟩ := hm
    rw [ho] at ho'; cases ho'
    exact ⟨_, es', ep', hL, r'⟩) hok I.bare
theorem Inv.call {g' : Array GenState} {t' : Nat} {d' : Drawn} {ch : List Addr} (I : Inv X pins σ H s) (u : Un (frs X.stack) ch H H' s.heap h') (hok : HOk X.prog X.w H' h') (hg : AllBare g')
    (hch : ∀ b ∈ ch, (b ∈ X.ex ∨ X.s₀.heap.objs.size ≤ b) ∧ b ≠ X.env.locals ∧ (∀ x c, X.env.cells.lookup x = some c → c ≠ b) ∧ ∀ p ∈ X.pn ++ pins, p.1 ≠ b) :
    Inv X pins σ H' { s with heap := h', gens := g', drawn := d', toks := t' } := by
  obtain ⟨m, ⟨o, es, ep, ho, r⟩, _⟩ := id I.loc
  obtain ⟨sl, hL⟩ := u.any ho I.free fun z => (hch _ z).2.1 rfl
  exact I.step (ch := ch) hch (fun b o hL hb hc e n => u.keep b o e n (fun z => (List.mem_cons.mp (I.stkSub b z)).elim hL hb) hc) (fun b o _ _ hc e n => u.any e n hc) (fun b o hc e n => u.free b o e n hc) (fun b o hc e => u.there b o e hc) u.tups u.frzs u.tbls (fun m' hm => by
    obtain ⟨o', es', ep', ho', r'⟩ := hm
    rw [ho] at ho'; cases ho'
    exact ⟨_, es', ep', hL, r'⟩) hok hg
theorem Inv.turned {t' : Nat} {it : Addr} (I : Inv X pins σ H s) (k : ∀ b o, b ≠ it → s.heap.get? b = some o → h'.get? b = some o) (hn : H it = none) (hL : it ≠ X.env.locals)
    (h1 : it ∈ X.ex ∨ X.s₀.heap.objs.size ≤ it) (h2 : ∀ x c, X.env.cells.lookup x = some c → c ≠ it) (h3 : ∀ p ∈ X.pn ++ pins, p.1 ≠ it) : Inv X pins σ H { s with heap := h', toks := t' } := by
  have nit : ∀ b u, H b = some u → b ≠ it := fun b u e z => by rw [z, hn] at e; cases e
  refine I.step (g' := s.gens) (d' := s.drawn) (ch := [it]) (fun b hb => ?_) (fun b o _ _ hc e _ => k b o (fun z => hc (by simp [z])) e) (fun b o _ _ hc e _ => ⟨o.slots, k b o (fun z => hc (by simp [z])) e⟩) (fun _ _ _ _ n => n)
    (fun b o hc e => ⟨o, k b o (fun z => hc (by simp [z])) e⟩) (fun _ _ e => e) (fun _ _ _ e => e) (fun b ps e => ⟨#[], by rw [e]; simp⟩) (fun m hm => ?_) (fun b u e => ?_) I.bare
  · have e : b = it := by simpa using hb
    subst e
    exact ⟨h1, hL, h2, h3⟩
  · obtain ⟨o, es, ep, ho, r⟩ := hm
    exact ⟨o, es, ep, k _ o (Ne.symm hL) ho, r⟩
  · refine (I.hok b u e).stay (fun c v hc q => k c v ?_ q) (fun _ q => q) fun _ _ q => q
    rcases hc with z | z
    · rw [z]; exact nit b u e
    · exact nit c _ z
theorem Inv.tok (I : Inv X pins σ H s) (t : Nat) : Inv X pins σ H { s with toks := t } := I.un (h' := s.heap) (t' := t) Un.refl I.hok
theorem Inv.kept {t' : Nat} (I : Inv X pins σ H s) (k : ∀ b u, s.heap.get? b = some u → h'.get? b = some u) : Inv X pins σ H { s with heap := h', toks := t' } := I.un (Un.kept k) (I.hok.kept k)
theorem Inv.laid {a : Addr} {o : HO} {t' : Nat} (I : Inv X pins σ H s) (k : ∀ b u, s.heap.get? b = some u → h'.get? b = some u) (hp : s.heap.objs.size ≤ a) (new : ObjOk X.prog X.w (upd H a o) h' a o) :
    Inv X pins σ (upd H a o) { s with heap := h', toks := t' } := I.un (Un.laid k hp (I.hok.fresh hp)) (I.hok.laid k hp new)
theorem Inv.write {x e : Addr} {o : HO} {t' : Nat} (I : Inv X pins σ H s) (mu : Mut (H x)) (he : e = x ∨ H e = some (.own x)) (k : ∀ b u, b ≠ e → s.heap.get? b = some u → h'.get? b = some u) (heo : ∃ u, h'.get? e = some u)
    (new : ObjOk X.prog X.w (upd H x o) h' x o) : Inv X pins σ (upd H x o) { s with heap := h', toks := t' } := I.un (Un.write mu he k heo) (I.hok.write mu he k heo new)
theorem Inv.weak {σ' : List (Option V)} (I : Inv X pins σ H s) (hl : σ'.length = σ.length) (w : ∀ (i : Nat) v, σ'[i]? = some (some v) → σ[i]? = some (some v)) : Inv X pins σ' H s :=
  ⟨I.ok, I.os, I.bare, I.base, let ⟨m, hn, hl'⟩ := I.loc; ⟨m, hn, fun i x v e1 e2 e3 => hl' i x v e1 (w i v e2) e3⟩, I.cell, I.free, I.freeC, I.pin, I.hok, hl.trans I.len⟩
theorem Inv.pins_of {pins' : List (Addr × Obj)} (I : Inv X pins σ H s) (h : ∀ p ∈ pins', s.heap.get? p.1 = some p.2 ∧ H p.1 = none ∧ p.1 ≠ X.env.locals ∧ p.1 ∉ X.fs ∧ ∀ v, p.2.data ≠ .cell v) : Inv X pins' σ H s :=
  ⟨I.ok, I.os, I.bare, I.base, I.loc, I.cell, I.free, I.freeC, fun p hp => (List.mem_append.mp hp).elim (fun z => I.pin p (List.mem_append_left _ z)) (h p), I.hok, I.len⟩
theorem nodup_ix {N : List Str} (hN : N.Nodup) {i j : Nat} {x : Str} (a : N[i]? = some x) (b : N[j]? = some x) : i = j := by
  obtain ⟨h1, e1⟩ := List.getElem?_eq_some_iff.mp a
  obtain ⟨h2, e2⟩ := List.getElem?_eq_some_iff.mp b
  exact (List.getElem_inj hN).mp (e1.trans e2.symm)
theorem store_ok2 {M : Model} {A : Around} {E : Value → Shared → Prop} {i : Nat} {x : Str} {v : V} {u : Value} {Q : Unit → Shared → Prop} (I : Inv X pins σ H s) (hN : X.N.Nodup) (hi : X.N[i]? = some x) (hx : Loc X.env.scope x) (r : RelV v u)
    (h : ∀ s', Inv X pins (σ.set i (some v)) H s' → (∃ a, Heap.SameBut a s.heap s'.heap ∧ (a = X.env.locals ∨ X.env.cells.lookup x = some a)) → Q () s') (hf : X.fn x = true ∨ X.env.scope.names.lookup x = some .local := by first | exact .inl rfl | exact .inr rfl | assumption) : wpAny M A (storeName X.env x u) Q E s := by
  obtain ⟨m, hn, hl⟩ := id I.loc
  have hcls : (X.env.scope.kind == .class || (X.env.scope.kind == .module && X.env.locals != X.env.globals)) = false := by rw [I.ok.kind]; rfl
  have hiσ : i < σ.length := by rw [I.len]; exact (List.getElem?_eq_some_iff.mp hi).1
  have cne := I.cne
  have tracked : ∀ {a : Addr} {h' : Heap}, (∃ o, s.heap.get? a = some o ∧ H a = none) → Heap.SameBut a s.heap h' → HOk X.prog X.w H h' := fun {a h'} ha hs b ob e => by
    obtain ⟨_, _, hfree⟩ := ha
    refine (I.hok b ob e).stay (fun c w' hc q => (hs.2 c ?_).trans q) (fun _ q => q) fun _ _ q => q
    rintro rfl
    rcases hc with rfl | hc
    · rw [hfree] at e; cases e
    · rw [hfree] at hc; cases hc
  rcases hx with hk | hk
  · refine wpAny_storeName_local hk hn (fun h' hn' hs => ?_) hcls
    obtain ⟨oL, _, _, hoL, _⟩ := id hn
    refine h _ ⟨I.ok, I.os, I.bare, ⟨fun b o e n hb hx => ?_, fun b o e n hb hx => ?_, I.base.free, fun b o e hx => ?_, I.base.tups, I.base.frzs, I.base.tbls⟩, ⟨_, hn', fun j y v' e1 e2 e3 => ?_⟩, fun y c e => ?_, I.free, I.freeC, fun p hp => ?_, tracked ⟨oL, hoL, I.free⟩ hs, by simpa using I.len⟩ ⟨_, hs, .inl rfl⟩
    · exact (hs.2 b (Nat.ne_of_lt (Nat.lt_of_lt_of_le (Heap.lt_size e) I.ok.above))).trans (I.base.keep b o e n hb hx)
    · obtain ⟨sl, e1⟩ := I.base.slot b o e n hb hx
      exact ⟨sl, (hs.2 b (Nat.ne_of_lt (Nat.lt_of_lt_of_le (Heap.lt_size e) I.ok.above))).trans e1⟩
    · obtain ⟨o', e1⟩ := I.base.there b o e hx
      exact ⟨o', (hs.2 b (Nat.ne_of_lt (Nat.lt_of_lt_of_le (Heap.lt_size e) I.ok.above))).trans e1⟩
    · by_cases hj : j = i
      · subst hj
        rw [hi] at e1; cases e1
        rw [List.getElem?_set_self hiσ] at e2
        cases e2
        exact ⟨u, r, .inl ⟨hk, by simp⟩⟩
      · rw [List.getElem?_set_ne (Ne.symm hj)] at e2
        obtain ⟨u', r', q⟩ := hl j y v' e1 e2 e3
        refine ⟨u', r', ?_⟩
        rcases q with ⟨k, e⟩ | ⟨k, c, e, z⟩
        · refine .inl ⟨k, ?_⟩
          have : y ≠ x := fun e => hj (nodup_ix hN e1 (e ▸ hi))
          simp [this, e]
        · exact .inr ⟨k, c, e, z.sameBut hs (cne y c e)⟩
    · obtain ⟨w', z⟩ := I.cell y c e
      exact ⟨w', z.sameBut hs (cne y c e)⟩
    · obtain ⟨e, n, ne, nf, d⟩ := I.pin p hp
      exact ⟨(hs.2 p.1 ne).trans e, n, ne, nf, d⟩
  · have hfn : X.fn x = true := by
      rcases hf with z | z
      · exact z
      · rw [z] at hk; cases hk
    obtain ⟨c, hc⟩ := I.ok.has x (.inl hk)
    obtain ⟨w', z⟩ := I.cell x c hc
    refine wpAny_storeName_cell I.ok.kind hk hc z (fun h' hc' hs => ?_)
    obtain ⟨oc, hoc, hocd⟩ := id z
    refine h { s with heap := h' } ⟨I.ok, I.os, I.bare, ⟨fun b o e n hb hx => ?_, fun b o e n hb hx => ?_, I.base.free, fun b o e hx => ?_, I.base.tups, I.base.frzs, I.base.tbls⟩, ⟨m, hn.sameBut hs (Ne.symm (cne x c hc)), fun j y v' e1 e2 e3 => ?_⟩, fun y c' e => ?_, I.free, I.freeC, fun p hp => ?_, tracked ⟨oc, hoc, I.freeC x c hc⟩ hs, by simpa using I.len⟩ ⟨c, hs, .inr hc⟩
    · exact (hs.2 b (Nat.ne_of_lt (Nat.lt_of_lt_of_le (Heap.lt_size e) (I.ok.cab x c hfn hc)))).trans (I.base.keep b o e n hb hx)
    · obtain ⟨sl, e1⟩ := I.base.slot b o e n hb hx
      exact ⟨sl, (hs.2 b (Nat.ne_of_lt (Nat.lt_of_lt_of_le (Heap.lt_size e) (I.ok.cab x c hfn hc)))).trans e1⟩
    · obtain ⟨o', e1⟩ := I.base.there b o e hx
      exact ⟨o', (hs.2 b (Nat.ne_of_lt (Nat.lt_of_lt_of_le (Heap.lt_size e) (I.ok.cab x c hfn hc)))).trans e1⟩
    · by_cases hj : j = i
      · subst hj
        rw [hi] at e1; cases e1
        rw [List.getElem?_set_self hiσ] at e2
        cases e2
        exact ⟨u, r, .inr ⟨.inl hk, c, hc, hc'⟩⟩
      · rw [List.getElem?_set_ne (Ne.symm hj)] at e2
        obtain ⟨u', r', q⟩ := hl j y v' e1 e2 e3
        refine ⟨u', r', ?_⟩
        rcases q with q | ⟨k, c', e, z'⟩
        · exact .inl q
        · refine .inr ⟨k, c', e, z'.sameBut hs ?_⟩
          rintro rfl
          exact hj (nodup_ix hN e1 (I.ok.inj _ _ _ e hc ▸ hi))
    · by_cases hcc : c' = c
      · subst hcc; exact ⟨_, hc'⟩
      · obtain ⟨w2, z2⟩ := I.cell y c' e
        exact ⟨w2, z2.sameBut hs hcc⟩
    · obtain ⟨e, n, ne, nf, d⟩ := I.pin p hp
      refine ⟨(hs.2 p.1 ?_).trans e, n, ne, nf, d⟩
      intro q
      rw [q, hoc] at e
      have q' : oc = p.2 := Option.some.inj e
      exact d w' (by rw [← q']; exact hocd)
theorem store_ok {M : Model} {A : Around} {E : Value → Shared → Prop} {i : Nat} {x : Str} {v : V} {u : Value} {Q : Unit → Shared → Prop} (I : Inv X pins σ H s) (hN : X.N.Nodup) (hi : X.N[i]? = some x) (hx : Loc X.env.scope x) (r : RelV v u)
    (h : ∀ s', Inv X pins (σ.set i (some v)) H s' → Q () s') (hf : X.fn x = true ∨ X.env.scope.names.lookup x = some .local := by first | exact .inl rfl | exact .inr rfl | assumption) : wpAny M A (storeName X.env x u) Q E s :=
  store_ok2 I hN hi hx r (fun s' I' _ => h s' I') hf
theorem Inv.call' {s' : Shared} {ch : List Addr} (I : Inv X pins σ H s) (ho : s'.os = s.os) (u : Un (frs X.stack) ch H H' s.heap s'.heap) (hok : HOk X.prog X.w H' s'.heap) (hg : AllBare s'.gens)
    (hch : ∀ b ∈ ch, (b ∈ X.ex ∨ X.s₀.heap.objs.size ≤ b) ∧ b ≠ X.env.locals ∧ (∀ x c, X.env.cells.lookup x = some c → c ≠ b) ∧ ∀ p ∈ X.pn ++ pins, p.1 ≠ b) : Inv X pins σ H' s' := by
  obtain ⟨h', g', d', t', o'⟩ := s'
  have e : o' = s.os := ho
  subst e
  exact I.call (g' := g') (t' := t') (d' := d') u hok hg hch
end
abbrev XK := Value → Option Addr → Hp → Prop
abbrev St := List (Option V)
abbrev VK := V → Hp → Prop
abbrev TE := St → Hp → VK → Prop
abbrev TT := St → Hp → (Bool → Hp → Prop) → Prop
abbrev TA := St → Hp → (List V → Hp → Prop) → Prop
structure Ends where
  nx : St → Hp → Prop
  rt : VK
  bk : St → Hp → Prop := fun _ _ => False
  ct : St → Hp → Prop := fun _ _ => False
abbrev TS := Ends → St → Hp → Prop
noncomputable def EP (X : Cx) (pins : List (Addr × Obj)) (σ : St) (Q : VK) (u : Value) (s' : Shared) : Prop := ∃ v H', Inv X pins σ H' s' ∧ RelV v u ∧ Q v H'
noncomputable def TP (X : Cx) (pins : List (Addr × Obj)) (σ : St) (Q : Bool → Hp → Prop) (b : Bool) (s' : Shared) : Prop := ∃ H', Inv X pins σ H' s' ∧ Q b H'
noncomputable def AP (X : Cx) (pins : List (Addr × Obj)) (σ : St) (Q : List V → Hp → Prop) (us : List Value) (s' : Shared) : Prop := ∃ vs H', Inv X pins σ H' s' ∧ Vals vs us ∧ Q vs H'
noncomputable def SP (X : Cx) (pins : List (Addr × Obj)) (D : Ends) (f : Flow) (s' : Shared) : Prop :=
  match f with
  | .next => ∃ σ' H', Inv X pins σ' H' s' ∧ D.nx σ' H'
  | .brk => ∃ σ' H', Inv X pins σ' H' s' ∧ D.bk σ' H'
  | .cont => ∃ σ' H', Inv X pins σ' H' s' ∧ D.ct σ' H'
  | .ret u => ∃ v σ' H', Inv X pins σ' H' s' ∧ RelV v u ∧ D.rt v H'
noncomputable def PE (X : Cx) (e : Expr) (t : TE) : Prop :=
  ∀ (pins : List (Addr × Obj)) (s : Shared) (σ : St) (H : Hp) (Q : VK), Inv X pins σ H s → t σ H Q → wpAny (model X.prog X.w) X.A (eval e X.env) (EP X pins σ Q) X.xe s
noncomputable def PT (X : Cx) (e : Expr) (t : TT) : Prop :=
  ∀ (pins : List (Addr × Obj)) (s : Shared) (σ : St) (H : Hp) (Q : Bool → Hp → Prop), Inv X pins σ H s → t σ H Q → wpAny (model X.prog X.w) X.A (isTrue e X.env (eval e X.env)) (TP X pins σ Q) X.xe s
noncomputable def PW (X : Cx) (e : Expr) (t : TT) : Prop :=
  ∀ (whole : Sem Value) (pins : List (Addr × Obj)) (s : Shared) (σ : St) (H : Hp) (Q : Bool → Hp → Prop), Inv X pins σ H s → t σ H Q → wpAny (model X.prog X.w) X.A (isTrue e X.env whole) (TP X pins σ Q) X.xe s
theorem PW.pt {X : Cx} {e : Expr} {t : TT} (h : PW X e t) : PT X e t := h _
noncomputable def PA (X : Cx) (es : List Expr) (t : TA) : Prop :=
  ∀ (pos : Pos) (pins : List (Addr × Obj)) (s : Shared) (σ : St) (H : Hp) (Q : List V → Hp → Prop), Inv X pins σ H s → t σ H Q → wpAny (model X.prog X.w) X.A (spliced (backTo pos (starEach es X.env))) (AP X pins σ Q) X.xe s
noncomputable def PS (X : Cx) (st : Stmt) (t : TS) : Prop :=
  ∀ (pins : List (Addr × Obj)) (s : Shared) (σ : St) (H : Hp) (D : Ends), Inv X pins σ H s → t D σ H → wpAny (model X.prog X.w) X.A (exec st X.env) (SP X pins D) X.xe s
noncomputable def PSs (X : Cx) (st : List Stmt) (t : TS) : Prop :=
  ∀ (pins : List (Addr × Obj)) (s : Shared) (σ : St) (H : Hp) (D : Ends), Inv X pins σ H s → t D σ H → wpAny (model X.prog X.w) X.A (execs st X.env) (SP X pins D) X.xe s
theorem thn {α : Type} {t : Sem α} {Q Q' : α → Shared → Prop} {M : Model} {A : Around} {E : Value → Shared → Prop} {s : Shared} (h : wpAny M A t Q E s) (hQ : ∀ a s, Q a s → Q' a s) : wpAny M A t Q' E s := wpAny_mono h hQ fun _ _ x => x
end L2
namespace L2
open PySem PySem.Spec PyProof.Rows
section
variable {X : Cx}
noncomputable def tVar (i : Nat) : TE := fun σ H Q => ∃ v, σ[i]? = some (some v) ∧ Q v H
noncomputable def tC (v : V) : TE := fun _ H Q => Q v H
theorem pe_var {i : Nat} {x : Str} {pos : Pos} (hN : X.N[i]? = some x) (hv : Vis X.env.scope x) (hd : (x == ("__debug__" : Str)) = false := by decide) (hcd : (x == ("__classdict__" : Str)) = false := by decide) : PE X (.Name x pos) (tVar i) := by
  intro pins s σ H Q I h
  obtain ⟨v, e, h⟩ := h
  obtain ⟨m, hn, hl⟩ := I.loc
  obtain ⟨u, r, l⟩ := hl i x v hN e hv
  have fin : EP X pins σ Q u s := ⟨v, H, I, r, h⟩
  rcases l with ⟨hk, hm⟩ | ⟨hk, c, hc, hcell⟩
  · exact wpAny_Name (wpAny_loadName_local I.ok.kind hk hn hm fin) hd
  · rcases hk with hk | hk
    · exact wpAny_Name (wpAny_loadName_cell I.ok.kind hk hc hcell fin) hd
    · exact wpAny_Name (wpAny_loadName_free I.ok.kind hk hc hcell fin hcd) hd
theorem pe_int {i j pos} : PE X (.Constant (.int i) j pos) (tC (.int i)) := fun _ _ _ H _ I h => wpAny_Constant_int ⟨.int i, H, I.tok _, ⟨_, rfl⟩, h⟩
theorem pe_bl {b j pos} : PE X (.Constant (.bool b) j pos) (tC (.bl b)) := fun _ _ _ H _ I h => Constant_bool ⟨.bl b, H, I, rfl, h⟩
theorem pe_non {j pos} : PE X (.Constant .none j pos) (tC .non) := fun _ _ _ H _ I h => Constant_none ⟨.non, H, I, rfl, h⟩
theorem pe_str {x j pos} : PE X (.Constant (.str x) j pos) (tC (.str x)) := fun _ _ _ H _ I h => Calls.Constant_str ⟨.str x, H, I.tok _, ⟨_, rfl⟩, h⟩
noncomputable def Gl (X : Cx) (x : Str) : Prop := X.env.kindOf x = some .globalImplicit
theorem ld_glob {E : Value → Shared → Prop} {pins : List (Addr × Obj)} {s : Shared} {σ : St} {H : Hp} {x : Str} {u : Value} {pos : Pos} {Q : Value → Shared → Prop} (I : Inv X pins σ H s) (hg : Gl X x) (hm : X.mg x = some u) (h : Q u s)
    (hd : (x == ("__debug__" : Str)) = false := by decide) : wpAny (model X.prog X.w) X.A (eval (.Name x pos) X.env) Q E s :=
  Calls.Name_function_global I.ok.kind hg (Calls.loadGlobal_global (by rw [I.ok.glob]; exact I.mod.glob.keeps I.bk) hm h) hd
theorem ld_blt {E : Value → Shared → Prop} {pins : List (Addr × Obj)} {s : Shared} {σ : St} {H : Hp} {x : Str} {u : Value} {pos : Pos} {Q : Value → Shared → Prop} (I : Inv X pins σ H s) (hg : Gl X x) (hm : X.mg x = none) (hv : bootBuiltins x = some u) (h : Q u s)
    (hn : x ≠ "__name__" := by decide) (hd : (x == ("__debug__" : Str)) = false := by decide) : wpAny (model X.prog X.w) X.A (eval (.Name x pos) X.env) Q E s := by
  obtain ⟨mb, h1, h2⟩ := I.mod.blt
  exact Calls.Name_function_global I.ok.kind hg (Calls.loadGlobal_builtin (by rw [I.ok.glob]; exact I.mod.glob.keeps I.bk) hm (by rw [I.ok.blt]; exact h1.keeps I.bk) ((h2 x hn).trans hv) h) hd
theorem pe_glob {x : Str} {v : V} {u : Value} {pos : Pos} (hg : Gl X x) (hm : X.mg x = some u) (r : RelV v u) (hd : (x == ("__debug__" : Str)) = false := by decide) : PE X (.Name x pos) (tC v) :=
  fun _ _ _ H _ I h => ld_glob I hg hm ⟨v, H, I, r, h⟩ hd
theorem pe_bltn {x : Str} {v : V} {u : Value} {pos : Pos} (hg : Gl X x) (hm : X.mg x = none) (hv : bootBuiltins x = some u) (r : RelV v u) (hn : x ≠ "__name__" := by decide) (hd : (x == ("__debug__" : Str)) = false := by decide) : PE X (.Name x pos) (tC v) :=
  fun _ _ _ H _ I h => ld_blt I hg hm hv ⟨v, H, I, r, h⟩ hn hd
variable {a b : Expr} {ta tb : TE} {pos : Pos}
noncomputable def PC (X : Cx) (op : CmpOp) (a b : Expr) (t : TE) : Prop :=
  ∀ (pins : List (Addr × Obj)) (s : Shared) (σ : St) (H : Hp) (Q : VK), Inv X pins σ H s → t σ H Q →
    wpAny (model X.prog X.w) X.A (eval a X.env) (fun v s₁ => wpAny (model X.prog X.w) X.A (eval b X.env) (fun u s₂ => wpAny (model X.prog X.w) X.A (compareOp op v u) (EP X pins σ Q) X.xe s₂) X.xe s₁) X.xe s
theorem nobehind (b : Expr) {op : CmpOp} (h : op ≠ .In) (h2 : op ≠ .NotIn) : behindInMarks op b = false := by
  have e1 : (op == CmpOp.In) = false := by cases op <;> first | rfl | exact absurd rfl h
  have e2 : (op == CmpOp.NotIn) = false := by cases op <;> first | rfl | exact absurd rfl h2
  cases b <;> simp [behindInMarks, e1, e2]
noncomputable def tB (t : TE) : TT := fun σ H Q => t σ H fun x H1 => ∃ c, x = .bl c ∧ Q c H1
theorem pt_cmp {op : CmpOp} {t : TE} (h : PC X op a b t) (h1 : behindInMarks op b = false := by first | exact nobehind _ (by decide) (by decide) | rfl) : PT X (.Compare a [op] [b] pos) (tB t) := by
  intro pins s σ H Q I hw
  refine wpAny_isTrue_Compare1 (thn (h pins s σ H _ I hw) fun v s1 h1 => thn h1 fun u s2 h2 => thn h2 fun c s3 ⟨x, H1, I1, r1, q1⟩ => ?_) h1
  obtain ⟨d, rfl, q⟩ := q1
  cases r1
  exact wpAny_truthy_bool ⟨H1, I1, q⟩
theorem pt_val {e : Expr} {t : TE} (h : PE X e t) (he : ∀ whole, isTrue e X.env whole = (do let v ← whole; standAt e.pos; holding [v] (truthy v)) := by intro _; rfl) : PT X e (tB t) := by
  intro pins s σ H Q I hw
  refine isTrue_plain (thn (h pins s σ H _ I hw) fun v s1 ⟨x, H1, I1, r1, q1⟩ => ?_) (he _)
  obtain ⟨d, rfl, q⟩ := q1
  cases r1
  exact wpAny_truthy_bool ⟨H1, I1, q⟩
variable {tA tB' : TT} {rest : List Expr}
noncomputable def tAnd (t u : TT) : TT := fun σ H Q => t σ H fun c H1 => if c = true then u σ H1 Q else Q false H1
noncomputable def tOr (t u : TT) : TT := fun σ H Q => t σ H fun c H1 => if c = true then Q true H1 else u σ H1 Q
noncomputable def tNot (t : TT) : TT := fun σ H Q => t σ H fun c H1 => Q (!c) H1
theorem pw_and1 (ha : PT X a tA) : PW X (.BoolOp .And [a] pos) tA := by
  intro wh pins s σ H Q I h
  refine isTrue_and (thn (ha pins s σ H Q I h) fun c s1 e => ?_)
  cases c with
  | true => exact isTrue_and_nil e
  | false => exact e
theorem pw_or1 (ha : PT X a tA) : PW X (.BoolOp .Or [a] pos) tA := by
  intro wh pins s σ H Q I h
  refine isTrue_or (thn (ha pins s σ H Q I h) fun c s1 e => ?_)
  cases c with
  | false => exact isTrue_or_nil e
  | true => exact e
theorem pw_and (ha : PT X a tA) (hb : PW X (.BoolOp .And (b :: rest) pos) tB') : PW X (.BoolOp .And (a :: b :: rest) pos) (tAnd tA tB') := by
  intro wh pins s σ H Q I h
  refine isTrue_and (thn (ha pins s σ H _ I h) fun c s1 ⟨H1, I1, q1⟩ => ?_)
  cases c with
  | true => exact hb wh pins s1 σ H1 Q I1 q1
  | false => exact ⟨H1, I1, q1⟩
theorem pw_or (ha : PT X a tA) (hb : PW X (.BoolOp .Or (b :: rest) pos) tB') : PW X (.BoolOp .Or (a :: b :: rest) pos) (tOr tA tB') := by
  intro wh pins s σ H Q I h
  refine isTrue_or (thn (ha pins s σ H _ I h) fun c s1 ⟨H1, I1, q1⟩ => ?_)
  cases c with
  | true => exact ⟨H1, I1, q1⟩
  | false => exact hb wh pins s1 σ H1 Q I1 q1
theorem pt_not (ha : PT X a tA) : PT X (.UnaryOp .Not a pos) (tNot tA) := by
  intro pins s σ H Q I h
  exact isTrue_not (ha pins s σ H (fun c H1 => Q (!c) H1) I h)
noncomputable def tAndV (ta tb : TE) : TE := fun σ H Q => ta σ H fun x H1 => ∃ c, x = .bl c ∧ if c = true then tb σ H1 Q else Q (.bl false) H1
theorem pe_one {op} {t : TE} (h : PE X a t) : PE X (.BoolOp op [a] pos) t := fun pins s σ H Q I hw => BoolOp_one (h pins s σ H Q I hw)
theorem pe_and (ha : PE X a ta) (hb : PE X (.BoolOp .And (b :: rest) pos) tb) : PE X (.BoolOp .And (a :: b :: rest) pos) (tAndV ta tb) := by
  intro pins s σ H Q I h
  refine BoolOp_and (thn (ha pins s σ H _ I h) fun v s1 ⟨x, H1, I1, r1, q1⟩ => ?_)
  obtain ⟨c, rfl, q1⟩ := q1
  cases r1
  refine wpAny_truthy_bool ?_
  cases c with
  | true => exact hb pins s1 σ H1 Q I1 q1
  | false => exact ⟨.bl false, H1, I1, rfl, q1⟩
noncomputable def tIf (t : TT) (ta tb : TE) : TE := fun σ H Q => t σ H fun c H1 => if c = true then ta σ H1 Q else tb σ H1 Q
theorem pe_ifExp {c : Expr} (hc : PT X c tA) (ha : PE X a ta) (hb : PE X b tb) : PE X (.IfExp c a b pos) (tIf tA ta tb) := by
  intro pins s σ H Q I h
  refine wpAny_IfExp (thn (hc pins s σ H _ I h) fun d s1 ⟨H1, I1, q1⟩ => ?_)
  cases d with
  | true => exact ha pins s1 σ H1 Q I1 q1
  | false => exact hb pins s1 σ H1 Q I1 q1
end
end L2
namespace L2
open PySem PySem.Spec PyProof.Rows
noncomputable def SqL (K : PySem.W.Frag) (H : Hp) (a : Addr) (xs : List V) : Prop :=
  Rd H a (.lst xs) ∨
    ∃ (o : Obj) (its : Array Value) (n : Nat), K.lookup a = some o ∧ o.cls = .type "list" ∧ o.dict = none ∧ o.data = .seq its n ∧ its.size ≤ sizeLine ∧ Vals xs its.toList
noncomputable def SqT (K : PySem.W.Frag) (H : Hp) (a : Addr) (xs : List V) : Prop :=
  Rd H a (.tup xs) ∨
    ∃ (o : Obj) (its : Array Value) (n : Nat), K.lookup a = some o ∧ o.cls = .type "tuple" ∧ o.data = .seq its n ∧ its.size ≤ sizeLine ∧ Vals xs its.toList
noncomputable def absV : Value → Option V
  | .none => some .non
  | .bool b => some (.bl b)
  | .int i _ => some (.int i)
  | .str x _ => some (.str x)
  | .bytes b _ => some (.byt b)
  | .float b _ => some (.flt b)
  | .ref a => some (.ref a)
  | .type n => some (.ty n)
  | _ => none
theorem RelV.abs {x : V} {u : Value} (r : RelV x u) : absV u = some x := by
  cases x with
  | non => cases r; rfl
  | bl _ => cases r; rfl
  | int _ => obtain ⟨t, rfl⟩ := r; rfl
  | str _ => obtain ⟨t, rfl⟩ := r; rfl
  | byt _ => obtain ⟨t, rfl⟩ := r; rfl
  | flt _ => obtain ⟨t, rfl⟩ := r; rfl
  | ref _ => cases r; rfl
  | ty _ => cases r; rfl
theorem RelV.inj {x y : V} {u : Value} (r : RelV x u) (q : RelV y u) : x = y := Option.some.inj (r.abs.symm.trans q.abs)
theorem Vals.inj : ∀ {xs ys : List V} {us : List Value}, Vals xs us → Vals ys us → xs = ys
  | _, _, _, .nil, .nil => rfl
  | _, _, _, .cons r t, .cons r' t' => by rw [r.inj r', Vals.inj t t']
section
variable {X : Cx} {pins : List (Addr × Obj)} {σ : St} {H : Hp} {s : Shared} {a : Addr} {xs ys : List V}
theorem SqL.of {K : PySem.W.Frag} (h : H a = some (.lst xs)) : SqL K H a xs := .inl (.inl h)
theorem SqT.of {K : PySem.W.Frag} (h : H a = some (.tup xs)) : SqT K H a xs := .inl (.inl h)
theorem Inv.list (I : Inv X pins σ H s) (h : SqL X.K H a xs) : ∃ its : List Value, Vals xs its ∧ PlainL s.heap a its.toArray ∧ xs.length ≤ sizeLine := by
  rcases h with h | ⟨o, its, n, hk, hc, hd, hs, hz, r⟩
  · obtain ⟨z, its, n, r, e⟩ := h.ok I.hok
    exact ⟨its, r, ⟨_, n, e, rfl, rfl, rfl⟩, z⟩
  · refine ⟨its.toList, r, ⟨o, n, I.kIn a o hk, hc, hd, by simpa using hs⟩, ?_⟩
    have e := r.length
    simp only [Array.length_toList] at e
    omega
theorem Inv.tuple (I : Inv X pins σ H s) (h : SqT X.K H a xs) : ∃ its : List Value, Vals xs its ∧ IsTup s.heap a its.toArray ∧ xs.length ≤ sizeLine := by
  rcases h with h | ⟨o, its, n, hk, hc, hs, hz, r⟩
  · obtain ⟨z, its, r, p⟩ := h.ok I.hok
    exact ⟨its, r, p, z⟩
  · refine ⟨its.toList, r, ⟨o, I.kIn a o hk, hc, n, by simpa using hs⟩, ?_⟩
    have e := r.length
    simp only [Array.length_toList] at e
    omega
theorem Inv.list_inj (I : Inv X pins σ H s) (h : SqL X.K H a xs) (h' : SqL X.K H a ys) : xs = ys := by
  obtain ⟨its, r, ⟨o, n, e, _, _, d⟩, _⟩ := I.list h
  obtain ⟨its', r', ⟨o', n', e', _, _, d'⟩, _⟩ := I.list h'
  rw [e] at e'; cases e'
  rw [d] at d'
  injection d' with d1 _
  have : its = its' := by simpa using congrArg Array.toList d1
  subst this
  exact r.inj r'
theorem Inv.tuple_inj (I : Inv X pins σ H s) (h : SqT X.K H a xs) (h' : SqT X.K H a ys) : xs = ys := by
  obtain ⟨its, r, ⟨o, e, _, n, d⟩, _⟩ := I.tuple h
  obtain ⟨its', r', ⟨o', e', _, n', d'⟩, _⟩ := I.tuple h'
  rw [e] at e'; cases e'
  rw [d] at d'
  injection d' with d1 _
  have : its = its' := by simpa using congrArg Array.toList d1
  subst this
  exact r.inj r'
end
abbrev Cx.wish (X : Cx) (E : Value → Shared → Prop) : Cx := { X with xe := E }
abbrev Cx.nox (X : Cx) : Cx := X.wish fun _ _ => False
theorem Cx.Ok.wish {X : Cx} (ok : X.Ok) (E : Value → Shared → Prop) : (X.wish E).Ok :=
  ⟨ok.mod, ok.kind, ok.glob, ok.blt, ok.above, ok.inj, ok.has, ok.cab, ok.hd, ok.frames, ok.stk, ok.exf, ok.bs, ok.bsz, ok.noex, ok.exfs, ok.funs, ok.frf⟩
theorem Cx.Ok.unwish {X : Cx} {E : Value → Shared → Prop} (ok : (X.wish E).Ok) : X.Ok :=
  ⟨ok.mod, ok.kind, ok.glob, ok.blt, ok.above, ok.inj, ok.has, ok.cab, ok.hd, ok.frames, ok.stk, ok.exf, ok.bs, ok.bsz, ok.noex, ok.exfs, ok.funs, ok.frf⟩
section
variable {X : Cx} {pins : List (Addr × Obj)} {σ : St} {H : Hp} {s : Shared} {E : Value → Shared → Prop}
theorem Inv.wish (I : Inv X pins σ H s) (E : Value → Shared → Prop) : Inv (X.wish E) pins σ H s := ⟨I.ok.wish E, I.os, I.bare, I.base, I.loc, I.cell, I.free, I.freeC, I.pin, I.hok, I.len⟩
theorem Inv.unwish (I : Inv (X.wish E) pins σ H s) : Inv X pins σ H s := ⟨I.ok.unwish, I.os, I.bare, I.base, I.loc, I.cell, I.free, I.freeC, I.pin, I.hok, I.len⟩
theorem SP.unwish {D : Ends} {f : Flow} {s' : Shared} (h : SP (X.wish E) pins D f s') : SP X pins D f s' := by
  cases f with
  | next => obtain ⟨σ', H', I, q⟩ := h; exact ⟨σ', H', I.unwish, q⟩
  | brk => obtain ⟨σ', H', I, q⟩ := h; exact ⟨σ', H', I.unwish, q⟩
  | cont => obtain ⟨σ', H', I, q⟩ := h; exact ⟨σ', H', I.unwish, q⟩
  | ret u => obtain ⟨v, σ', H', I, r, q⟩ := h; exact ⟨v, σ', H', I.unwish, r, q⟩
theorem PE.nox {e : Expr} {t : TE} (h : PE X.nox e t) : PE X e t := fun pins s σ H Q I hw =>
  wpAny_mono (h pins s σ H Q (I.wish _) hw) (fun _ _ ⟨v, H', I', r, q⟩ => ⟨v, H', I'.unwish, r, q⟩) fun _ _ z => False.elim z
theorem PT.nox {e : Expr} {t : TT} (h : PT X.nox e t) : PT X e t := fun pins s σ H Q I hw =>
  wpAny_mono (h pins s σ H Q (I.wish _) hw) (fun _ _ ⟨H', I', q⟩ => ⟨H', I'.unwish, q⟩) fun _ _ z => False.elim z
theorem PSs.nox {st : List Stmt} {t : TS} (h : PSs X.nox st t) : PSs X st t := fun pins s σ H D I hw =>
  wpAny_mono (h pins s σ H D (I.wish _) hw) (fun _ _ q => q.unwish) fun _ _ z => False.elim z
end
section
variable {X : Cx} {st : Stmt} {rest : List Stmt} {t u : TS} {e : Expr} {te : TE} {pos : Pos}
noncomputable def tNext : TS := fun D σ H => D.nx σ H
noncomputable def tSeq (t u : TS) : TS := fun D σ H => t { D with nx := u D } σ H
theorem pss_nil : PSs X [] tNext := fun _ _ σ H _ I h => wpAny_execs_nil ⟨σ, H, I, h⟩
theorem pss_cons (h1 : PS X st t) (h2 : PSs X rest u) : PSs X (st :: rest) (tSeq t u) := by
  intro pins s σ H D I h
  refine wpAny_execs_cons (thn (h1 pins s σ H { D with nx := u D } I h) fun f s1 q => ?_)
  cases f with
  | next =>
    obtain ⟨σ', H', I', q⟩ := q
    exact h2 pins s1 σ' H' D I' q
  | ret v => exact q
  | brk => exact q
  | cont => exact q
theorem pss_one (h1 : PS X st t) : PSs X [st] t := by
  intro pins s σ H D I h
  refine wpAny_execs_cons (thn (h1 pins s σ H D I h) fun f s1 q => ?_)
  cases f with
  | next => exact wpAny_execs_nil q
  | ret v => exact q
  | brk => exact q
  | cont => exact q
theorem Inv.quiet {pins : List (Addr × Obj)} {σ : St} {H : Hp} {s : Shared} (I : Inv X pins σ H s) : interactive X.env = false := by simp [interactive, I.ok.kind]
noncomputable def tDrop (te : TE) : TS := fun D σ H => te σ H fun _ H1 => D.nx σ H1
theorem ps_expr (he : PE X e te) (hs : swapsWith e none pos.line X.env = pure false := by rfl) : PS X (.Expr e pos) (tDrop te) := by
  intro pins s σ H D I h
  exact wpAny_Expr_any (thn (he pins s σ H _ I h) fun v s1 ⟨x, H1, I1, r1, q1⟩ => ⟨σ, H1, I1, q1⟩) I.quiet hs
noncomputable def tRet (te : TE) : TS := fun D σ H => te σ H D.rt
theorem ps_ret (he : PE X e te) : PS X (.Return (some e) pos) (tRet te) := by
  intro pins s σ H D I h
  exact wpAny_Return_some (thn (he pins s σ H _ I h) fun v s1 ⟨x, H1, I1, r1, q1⟩ => ⟨x, σ, H1, I1, r1, q1⟩)
noncomputable def tIfS (c : TT) (t u : TS) : TS := fun D σ H => c σ H fun b H1 => if b = true then t D σ H1 else u D σ H1
theorem ps_if {c : Expr} {a b : List Stmt} {tc : TT} (hc : PT X c tc) (ha : PSs X a t) (hb : PSs X b u) : PS X (.If c a b pos) (tIfS tc t u) := by
  intro pins s σ H D I h
  refine wpAny_If (thn (hc pins s σ H _ I h) fun d s1 ⟨H1, I1, q1⟩ => ?_)
  cases d with
  | true => exact ha pins s1 σ H1 D I1 q1
  | false => exact hb pins s1 σ H1 D I1 q1
end
abbrev TG := V → St → Hp → (St → Hp → Prop) → Prop
abbrev TGs := List V → St → Hp → (St → Hp → Prop) → Prop
noncomputable def PG (X : Cx) (target : Expr) (t : TG) : Prop :=
  ∀ (pins : List (Addr × Obj)) (s : Shared) (σ : St) (H : Hp) (v : V) (u : Value) (Q : St → Hp → Prop), Inv X pins σ H s → RelV v u → t v σ H Q →
    wpAny (model X.prog X.w) X.A (assign target X.env u) (fun _ s' => ∃ σ' H', Inv X pins σ' H' s' ∧ Q σ' H') X.xe s
noncomputable def PGs (X : Cx) (ts : List Expr) (t : TGs) : Prop :=
  ∀ (pins : List (Addr × Obj)) (s : Shared) (σ : St) (H : Hp) (vs : List V) (us : List Value) (Q : St → Hp → Prop), Inv X pins σ H s → Vals vs us → t vs σ H Q →
    wpAny (model X.prog X.w) X.A (assignInOrder ((assignEach ts X.env).map (·.2)) us) (fun _ s' => ∃ σ' H', Inv X pins σ' H' s' ∧ Q σ' H') X.xe s
abbrev TSet := V → V → V → Hp → (Hp → Prop) → Prop
noncomputable def PSet (X : Cx) (t : TSet) : Prop :=
  ∀ (pins : List (Addr × Obj)) (s : Shared) (σ : St) (H : Hp) (o i v : V) (ov iv u : Value) (Q : Hp → Prop), Inv X pins σ H s → RelV o ov → RelV i iv → RelV v u → t o i v H Q →
    wpAny (model X.prog X.w) X.A (setItem ov iv u) (fun _ s' => ∃ H', Inv X pins σ H' s' ∧ Q H') X.xe s
section
variable {X : Cx} {pos : Pos}
noncomputable def gName (i : Nat) : TG := fun v σ H Q => Q (σ.set i (some v)) H
theorem pg_name {i : Nat} {x : Str} (hN : X.N.Nodup) (hi : X.N[i]? = some x) (hx : Loc X.env.scope x) (hf : X.fn x = true ∨ X.env.scope.names.lookup x = some .local := by first | exact .inl rfl | exact .inr rfl | assumption) : PG X (.Name x pos) (gName i) := by
  intro pins s σ H v u Q I r h
  exact wpAny_assign_Name (store_ok I hN hi hx r (fun s' I' => ⟨_, H, I', h⟩) hf)
noncomputable def gNil : TGs := fun vs σ H Q => vs = [] ∧ Q σ H
noncomputable def gCons (t : TG) (u : TGs) : TGs := fun vs σ H Q => ∃ v r, vs = v :: r ∧ t v σ H fun σ' H' => u r σ' H' Q
theorem pgs_nil : PGs X [] gNil := by
  intro pins s σ H vs us Q I r h
  obtain ⟨e, h⟩ := h
  subst e
  cases r
  exact assignInOrder_nil ⟨σ, H, I, h⟩
theorem pgs_cons {e : Expr} {es : List Expr} {t : TG} {u : TGs} (h1 : PG X e t) (h2 : PGs X es u)
    (hs : (assignEach (e :: es) X.env).map (·.2) = assign e X.env :: (assignEach es X.env).map (·.2) := by rfl) : PGs X (e :: es) (gCons t u) := by
  intro pins s σ H vs us Q I r h
  obtain ⟨v, vr, e1, h⟩ := h
  subst e1
  cases r with
  | cons r rr =>
    rw [hs]
    refine assignInOrder_cons (thn (h1 pins s σ H _ _ _ I r h) fun _ s1 ⟨σ1, H1, I1, q1⟩ => ?_)
    exact h2 pins s1 σ1 H1 _ _ Q I1 rr q1
noncomputable def gTup (K : PySem.W.Frag) (n : Nat) (t : TGs) : TG := fun v σ H Q => ∃ a xs, v = .ref a ∧ SqT K H a xs ∧ xs.length = n ∧ t xs σ H Q
theorem pg_tup {es : List Expr} {k : Nat} {t : TGs} {n : Nat} (hc : X.calm = true) (h : PGs X es t)
    (hn : (assignEach es X.env).length = n := by rfl) (hst : (assignEach es X.env).findIdx? (·.1) = none := by rfl) : PG X (.Tuple es k pos) (gTup X.K n t) := by
  intro pins s σ H v u Q I r hw
  obtain ⟨a, xs, e1, hq, hl, hw⟩ := hw
  subst e1
  cases r
  obtain ⟨its, rv, ht, hz⟩ := I.tuple hq
  refine assign_Tuple_tuple (I.ok.hd hc) ht (by simp [hn, ← hl, rv.length]) hst fun h' hx => ?_
  have I1 : Inv X pins σ H { s with heap := h' } := I.kept (t' := s.toks) fun b o e => hx b o (Nat.ne_of_lt (Heap.lt_size e)) e
  exact h pins _ σ H xs _ Q I1 (by simpa using rv) hw
noncomputable def gSub (to ti : TE) (t : TSet) : TG := fun v σ H Q => to σ H fun o H1 => ti σ H1 fun i H2 => t o i v H2 fun H3 => Q σ H3
theorem pg_sub {o i : Expr} {to ti : TE} {t : TSet} (ho : PE X o to) (hi : PE X i ti) (hs : PSet X t)
    (ha : ∀ v, assign (.Subscript o i pos) X.env v = (do
      let ov ← holding [v] (eval o X.env)
      let iv ← holding [v, ov] (eval i X.env)
      standAt pos
      holding [v, ov, iv] (setItem ov iv v)
      release [v, ov, iv] []) := by intro _; rfl) : PG X (.Subscript o i pos) (gSub to ti t) := by
  intro pins s σ H v u Q I r h
  rw [ha]
  refine wpAny_bind (wpAny_holding (thn (ho pins s σ H _ I h) fun ov s1 ⟨x, H1, I1, r1, q1⟩ => ?_))
  refine wpAny_bind (wpAny_holding (thn (hi pins s1 σ H1 _ I1 q1) fun iv s2 ⟨y, H2, I2, r2, q2⟩ => ?_))
  refine wpAny_bind (wpAny_standAt (wpAny_bind (wpAny_holding (thn (hs pins s2 σ H2 x y v ov iv u _ I2 r1 r2 r q2) fun _ s3 ⟨H3, I3, q3⟩ => ?_))))
  exact wpAny_release ⟨σ, H3, I3, q3⟩
noncomputable def tAsg (te : TE) (g : TG) : TS := fun D σ H => te σ H fun x H1 => g x σ H1 D.nx
theorem ps_asg {tg e : Expr} {te : TE} {g : TG} (he : PE X e te) (hg : PG X tg g) (hs : swapsWithSole [tg] e pos.line X.env = pure false := by rfl) (hw : swappedStores [tg] e X.env = pure none := by rfl)
    (h1 : (assignEach [tg] X.env).map (·.2) = [assign tg X.env] := by rfl) : PS X (.Assign [tg] e pos) (tAsg te g) := by
  intro pins s σ H D I h
  refine wpAny_Assign_stores (thn (he pins s σ H _ I h) fun v s1 ⟨x, H1, I1, r1, q1⟩ => ?_) hs hw
  rw [h1]
  exact thn (hg pins s1 σ H1 x v _ I1 r1 q1) fun _ s2 q => q
theorem ps_set {i : Nat} {x : Str} {e : Expr} {te : TE} {pos' : Pos} (hN : X.N.Nodup) (hi : X.N[i]? = some x) (hx : Loc X.env.scope x) (he : PE X e te) (hs : swapsWith e (some (.Name x pos')) pos.line X.env = pure false := by rfl) (hf : X.fn x = true ∨ X.env.scope.names.lookup x = some .local := by first | exact .inl rfl | exact .inr rfl | assumption) :
    PS X (.Assign [.Name x pos'] e pos) (tAsg te (gName i)) := by
  intro pins s σ H D I h
  refine wpAny_Assign_Name (thn (he pins s σ H _ I h) fun v s1 ⟨y, H1, I1, r1, q1⟩ => ?_) hs
  exact store_ok I1 hN hi hx r1 (fun s2 I2 => ⟨_, H1, I2, q1⟩) hf
end
section
variable {X : Cx} {pos : Pos}
noncomputable def tWhile (c : TT) (tb : TS) : TS := fun D σ H => ∃ W : Nat → St → Hp → Prop, (∃ m, W m σ H) ∧ ∀ m σ H, W m σ H →
  c σ H fun b H1 => if b = true then ∃ N : St → Hp → Prop, (∀ σ' H', N σ' H' → ∃ m', m' < m ∧ W m' σ' H') ∧ tb { D with nx := N, ct := N, bk := D.nx } σ H1 else D.nx σ H1
theorem ps_while {c : Expr} {body : List Stmt} {tc : TT} {tb : TS} (hp : PassesOwn (model X.prog X.w) X.A X.env X.xe) (hc : PT X c tc) (hb : PSs X body tb) : PS X (.While c body [] pos) (tWhile tc tb) := by
  intro pins s σ H D I h
  obtain ⟨W, ⟨m0, w0⟩, turn⟩ := h
  refine wpAny_While (codeAny_whileLoop (fun n s' => ∃ σ' H', Inv X pins σ' H' s' ∧ W n σ' H') ?_ m0 ⟨σ, H, I, w0⟩)
  rintro n s1 ⟨σ1, H1, I1, w1⟩
  refine wpAny_passesOwn hp (thn (hc pins s1 σ1 H1 _ I1 (turn n σ1 H1 w1)) fun b s2 ⟨H2, I2, q2⟩ => ?_)
  cases b with
  | true =>
    obtain ⟨N, hN, q2⟩ := q2
    rw [if_pos rfl]
    refine wpAny_passesOwn hp (thn (hb pins s2 σ1 H2 _ I2 q2) fun f s3 q3 => ?_)
    cases f with
    | next =>
      obtain ⟨σ3, H3, I3, n3⟩ := q3
      obtain ⟨m', hm, w3⟩ := hN σ3 H3 n3
      exact ⟨m', hm, σ3, H3, I3, w3⟩
    | cont =>
      obtain ⟨σ3, H3, I3, n3⟩ := q3
      obtain ⟨m', hm, w3⟩ := hN σ3 H3 n3
      exact ⟨m', hm, σ3, H3, I3, w3⟩
    | brk => exact q3
    | ret v => exact q3
  | false =>
    rw [if_neg Bool.false_ne_true]
    exact wpAny_execs_nil ⟨σ1, H2, I2, q2⟩
end
structure It where
  go : Nat → Hp → Prop
  yld : Nat → Hp → V → Hp → Prop
  stop : Nat → Hp → Prop
noncomputable def FpOk (X : Cx) (pins : List (Addr × Obj)) (H : Hp) (b : Addr) : Prop :=
  H b = none ∧ b ≠ X.env.locals ∧ b ∉ X.fs ∧ (b ∈ X.ex ∨ X.s₀.heap.objs.size ≤ b) ∧ (∀ x c, X.env.cells.lookup x = some c → c ≠ b) ∧ ∀ p ∈ X.pn ++ pins, p.1 ≠ b
theorem Inv.fpOk {X : Cx} {pins : List (Addr × Obj)} {σ : St} {H H' : Hp} {s : Shared} {b : Addr} (I : Inv X pins σ H s) (hb : s.heap.objs.size ≤ b) (hn : H' b = none) : FpOk X pins H' b := by
  refine ⟨hn, Nat.ne_of_gt (Nat.lt_of_lt_of_le I.lt hb), I.nofs hb, .inr (Nat.le_trans I.sz hb), fun x c e z => ?_, fun p hp z => ?_⟩
  · obtain ⟨v, q⟩ := I.cell x c e
    exact absurd (Nat.lt_of_lt_of_le q.lt (by rw [z]; exact hb)) (Nat.lt_irrefl _)
  · exact absurd (Nat.lt_of_lt_of_le (Heap.lt_size (I.pin p hp).1) (by rw [z]; exact hb)) (Nat.lt_irrefl _)
structure Turn (P : Program) (w : World) (K : PySem.W.Frag) (tg : Expr) (J : It) (fp : List Addr) (it : Addr) (tn : Nat → Heap → Prop) : Prop where
  mem : it ∈ fp
  obj : ∀ i h, tn i h → ∀ b ∈ fp, ∃ o, h.get? b = some o ∧ ∀ v, o.data ≠ .cell v
  keep : ∀ i h h', tn i h → (∀ b ∈ fp, ∀ o, h.get? b = some o → h'.get? b = some o) → tn i h'
  item : ∀ (X : Cx), X.prog = P → X.w = w → X.K = K → X.calm = true → ∀ (i : Nat) (pins : List (Addr × Obj)) (s : Shared) (σ : St) (H : Hp) (E : Value → Shared → Prop), Inv X pins σ H s → (∀ b ∈ fp, FpOk X pins H b) → tn i s.heap → J.go i H →
    wpAny (model P w) X.A (pyNext (.ref it)) (fun r s1 => ∃ u, r = some u ∧
      wpAny (model P w) X.A (letOwnedTupleGo tg (.ref it) u) (fun _ s2 => ∃ x H', Inv X pins σ H' s2 ∧ RelV x u ∧ J.yld i H x H' ∧ tn (i + 1) s2.heap ∧ ∀ b ∈ fp, H' b = none) E s1) E s
  done : ∀ (X : Cx), X.prog = P → X.w = w → X.K = K → X.calm = true → ∀ (i : Nat) (pins : List (Addr × Obj)) (s : Shared) (σ : St) (H : Hp) (E : Value → Shared → Prop), Inv X pins σ H s → (∀ b ∈ fp, FpOk X pins H b) → tn i s.heap → J.stop i H →
    wpAny (model P w) X.A (pyNext (.ref it)) (fun r s1 => r = none ∧ Inv X pins σ H s1) E s
  self : ∀ (A : Around) (i : Nat) (s : Shared) (Q : Value → Shared → Prop) (E : Value → Shared → Prop), tn i s.heap → Q (.ref it) s → wpAny (model P w) A (pyIter (.ref it)) Q E s
abbrev TI := St → Hp → (It → Hp → Prop) → Prop
noncomputable def PIE (X : Cx) (pins : List (Addr × Obj)) (σ : St) (tg : Expr) (R : It → Hp → Prop) (itv : Value) (s2 : Shared) : Prop :=
  ∃ (it : Addr) (fp : List Addr) (tn : Nat → Heap → Prop) (J : It) (H' : Hp), itv = .ref it ∧ Inv X pins σ H' s2 ∧ Turn X.prog X.w X.K tg J fp it tn ∧ tn 0 s2.heap ∧ (∀ b ∈ fp, FpOk X pins H' b) ∧ R J H'
noncomputable def PI (X : Cx) (tg iter : Expr) (wi : TI) : Prop :=
  ∀ (pins : List (Addr × Obj)) (s : Shared) (σ : St) (H : Hp) (R : It → Hp → Prop), Inv X pins σ H s → wi σ H R →
    wpAny (model X.prog X.w) X.A (eval iter X.env) (fun v s1 => wpAny (model X.prog X.w) X.A (pyIter v) (PIE X pins σ tg R) X.xe s1) X.xe s
theorem go_of {M : Model} {A : Around} {E : Value → Shared → Prop} {s : Shared} {tg : Expr} {it : Addr} {u : Value} {o : Obj} {n : String} {vs : Array Value} {Q : Unit → Shared → Prop} (ho : s.heap.get? it = some o) (hc : o.cls = .type n) (hd : o.data = .fields vs)
    (hn : ["enumerate", "zip", "dict_itemiterator", "dict_reverseitemiterator", "odict_iterator", "itertools.zip_longest", "itertools.pairwise"].contains n = false) (hQ : Q () s) : wpAny M A (letOwnedTupleGo tg (.ref it) u) Q E s := by
  unfold letOwnedTupleGo
  cases tg <;> first
    | exact wpAny_pure hQ
    | (cases u <;> first
        | exact wpAny_pure hQ
        | (refine wpAny_bind (wpAny_load ho ?_)
           rw [hc, hd]
           show wpAny M A (if (["enumerate", "zip", "dict_itemiterator", "dict_reverseitemiterator", "odict_iterator", "itertools.zip_longest", "itertools.pairwise"].contains n && vs[0]? == some (rawInt _)) = true then _ else _) Q E s
           rw [if_neg (by intro h; rw [hn, Bool.false_and] at h; cases h)]
           exact wpAny_pure hQ))
noncomputable def Itl (K : PySem.W.Frag) (a : Addr) : It :=
  ⟨fun i H => ∃ xs x, SqL K H a xs ∧ xs[i]? = some x, fun i H x H' => H' = H ∧ ∀ xs, SqL K H a xs → xs[i]? = some x, fun i H => ∃ xs, SqL K H a xs ∧ xs.length ≤ i⟩
noncomputable def Itt (K : PySem.W.Frag) (a : Addr) : It :=
  ⟨fun i H => ∃ xs x, SqT K H a xs ∧ xs[i]? = some x, fun i H x H' => H' = H ∧ ∀ xs, SqT K H a xs → xs[i]? = some x, fun i H => ∃ xs, SqT K H a xs ∧ xs.length ≤ i⟩
noncomputable def Itr (lo : Int) (n : Nat) : It := ⟨fun i _ => i < n, fun i H x H' => H' = H ∧ x = .int (lo + i), fun i _ => n ≤ i⟩
theorem turn_list {P : Program} {w : World} {K : PySem.W.Frag} {tg : Expr} (a it : Addr) : Turn P w K tg (Itl K a) [it] it (fun i h => h.IsListIter it a i) where
  mem := by simp
  obj := fun i h st b hb => by
    have e : b = it := by simpa using hb
    subst e
    obtain ⟨o, e, c, d⟩ := st
    exact ⟨o, e, fun v z => by rw [d] at z; cases z⟩
  keep := fun i h h' st k => st.at fun o e => k it (by simp) o e
  item := by
    intro X hP hw hK hc i pins s σ H E I hf st hg
    subst hP hw hK
    obtain ⟨xs, x, hq, hx⟩ := hg
    obtain ⟨its, rv, p, hz⟩ := I.list hq
    obtain ⟨u, hu, ru⟩ := rv.get hx
    obtain ⟨f0, f1, f2, f3, f4, f5⟩ := hf it (by simp)
    refine wpAny_pyNext_list_item st p.isList (x := u) (by simpa using hu) fun h' st' sb => ?_
    have I1 : Inv X pins σ H { s with heap := h' } := I.turned (t' := s.toks) (fun b o hb e => (sb.2 b hb).trans e) f0 f1 f3 f4 f5
    obtain ⟨o, e, c, d⟩ := id st'
    exact ⟨u, rfl, go_of (s := { s with heap := h' }) e c d (by decide) ⟨x, H, I1, ru, ⟨rfl, fun ys hy => by rw [I.list_inj hy hq]; exact hx⟩, st', fun b hb => (hf b hb).1⟩⟩
  done := by
    intro X hP hw hK hc i pins s σ H E I hf st hg
    subst hP hw hK
    obtain ⟨xs, hq, hx⟩ := hg
    obtain ⟨its, rv, p, hz⟩ := I.list hq
    obtain ⟨f0, f1, f2, f3, f4, f5⟩ := hf it (by simp)
    have hl := rv.length
    exact wpAny_pyNext_list_end (I.ok.hd hc) st p.isList (by simp; omega) fun h' eb => ⟨rfl, I.turned (t' := s.toks) (fun b o hb e => eb b o hb e) f0 f1 f3 f4 f5⟩
  self := fun _ _ _ _ _ st h => wpAny_pyIter_listiter st h
theorem turn_tuple {P : Program} {w : World} {K : PySem.W.Frag} {tg : Expr} (a it : Addr) : Turn P w K tg (Itt K a) [it] it (fun i h => h.IsTupleIter it a i) where
  mem := by simp
  obj := fun i h st b hb => by
    have e : b = it := by simpa using hb
    subst e
    obtain ⟨o, e, c, d⟩ := st
    exact ⟨o, e, fun v z => by rw [d] at z; cases z⟩
  keep := fun i h h' st k => st.at fun o e => k it (by simp) o e
  item := by
    intro X hP hw hK hc i pins s σ H E I hf st hg
    subst hP hw hK
    obtain ⟨xs, x, hq, hx⟩ := hg
    obtain ⟨its, rv, p, hz⟩ := I.tuple hq
    obtain ⟨u, hu, ru⟩ := rv.get hx
    obtain ⟨f0, f1, f2, f3, f4, f5⟩ := hf it (by simp)
    refine wpAny_pyNext_tuple_item st (show s.heap.IsTuple a its.toArray from p) (x := u) (by simpa using hu) fun h' st' sb => ?_
    have I1 : Inv X pins σ H { s with heap := h' } := I.turned (t' := s.toks) (fun b o hb e => (sb.2 b hb).trans e) f0 f1 f3 f4 f5
    obtain ⟨o, e, c, d⟩ := id st'
    exact ⟨u, rfl, go_of (s := { s with heap := h' }) e c d (by decide) ⟨x, H, I1, ru, ⟨rfl, fun ys hy => by rw [I.tuple_inj hy hq]; exact hx⟩, st', fun b hb => (hf b hb).1⟩⟩
  done := by
    intro X hP hw hK hc i pins s σ H E I hf st hg
    subst hP hw hK
    obtain ⟨xs, hq, hx⟩ := hg
    obtain ⟨its, rv, p, hz⟩ := I.tuple hq
    obtain ⟨f0, f1, f2, f3, f4, f5⟩ := hf it (by simp)
    have hl := rv.length
    exact wpAny_pyNext_tuple_end (I.ok.hd hc) st (show s.heap.IsTuple a its.toArray from p) (by simp; omega) fun h' eb => ⟨rfl, I.turned (t' := s.toks) (fun b o hb e => eb b o hb e) f0 f1 f3 f4 f5⟩
  self := fun _ _ _ _ _ st h => wpAny_pyIter_tupleiter st h
theorem turn_range {P : Program} {w : World} {K : PySem.W.Frag} {tg : Expr} (it : Addr) (lo : Int) (n : Nat) : Turn P w K tg (Itr lo n) [it] it (fun i h => IsRangeIter h it (lo + (i : Nat) * 1) ((n : Int) - (i : Nat)) 1) where
  mem := by simp
  obj := fun i h st b hb => by
    have e : b = it := by simpa using hb
    subst e
    exact ⟨_, st, fun v z => by
      have z' : Data.fields _ = Data.cell v := z
      cases z'⟩
  keep := fun i h h' st k => k it (by simp) _ st
  item := by
    intro X hP hw hK hc i pins s σ H E I hf st hg
    subst hP hw hK
    obtain ⟨f0, f1, f2, f3, f4, f5⟩ := hf it (by simp)
    have W := Walks.range (prog := X.prog) (w := X.w) (I.ok.hd hc) it lo 1 n
    refine W.item i s _ _ hg st fun v h' tk hv st' kk => ?_
    obtain ⟨t, rfl⟩ := hv
    have I1 : Inv X pins σ H { s with heap := h', toks := tk } := I.turned (fun b o hb e => kk b o (by simpa using hb) e) f0 f1 f3 f4 f5
    refine ⟨_, rfl, go_of (s := { s with heap := h', toks := tk }) (n := "range_iterator") st' rfl rfl (by decide) ⟨.int (lo + i), H, I1, ⟨t, ?_⟩, ⟨rfl, rfl⟩, st', fun b hb => (hf b hb).1⟩⟩
    rw [Int.mul_one]
  done := by
    intro X hP hw hK hc i pins s σ H E I hf st hg
    subst hP hw hK
    obtain ⟨f0, f1, f2, f3, f4, f5⟩ := hf it (by simp)
    exact wpAny_pyNext_range_end (I.ok.hd hc) st (by have : n ≤ i := hg; omega) fun h' eb => ⟨rfl, I.turned (t' := s.toks) (fun b o hb e => eb b o hb e) f0 f1 f3 f4 f5⟩
  self := fun _ _ _ _ _ st h => wpAny_pyIter_rangeiter st h
end L2
namespace L2
open PySem PySem.Spec PyProof.Rows
section
variable {X : Cx} {tg : Expr}
noncomputable def iList (K : PySem.W.Frag) (tl : TE) : TI := fun σ H R => tl σ H fun x H1 => ∃ a, x = .ref a ∧ (∃ xs, SqL K H1 a xs) ∧ R (Itl K a) H1
noncomputable def iTup (K : PySem.W.Frag) (tl : TE) : TI := fun σ H R => tl σ H fun x H1 => ∃ a, x = .ref a ∧ (∃ xs, SqT K H1 a xs) ∧ R (Itt K a) H1
theorem pi_list {l : Expr} {tl : TE} (hl : PE X l tl) : PI X tg l (iList X.K tl) := by
  intro pins s σ H R I h
  refine thn (hl pins s σ H _ I h) fun v s1 ⟨x, H1, I1, r1, q1⟩ => ?_
  obtain ⟨a, e, ⟨xs, hq⟩, q⟩ := q1
  subst e
  cases r1
  obtain ⟨its, rv, p, hz⟩ := I1.list hq
  refine wpAny_pyIter_list p.isList ?_
  refine ⟨s1.heap.objs.size, [s1.heap.objs.size], _, _, H1, rfl, I1.kept (t' := s1.toks) fun b o e => Heap.get?_push_of_some _ e, turn_list a _, ⟨_, Heap.get?_push_size _ rfl, rfl, rfl⟩, fun b hb => ?_, q⟩
  have e : b = s1.heap.objs.size := by simpa using hb
  subst e
  exact I1.fpOk (Nat.le_refl _) (I1.hok.fresh (Nat.le_refl _))
theorem pi_tup {l : Expr} {tl : TE} (hl : PE X l tl) : PI X tg l (iTup X.K tl) := by
  intro pins s σ H R I h
  refine thn (hl pins s σ H _ I h) fun v s1 ⟨x, H1, I1, r1, q1⟩ => ?_
  obtain ⟨a, e, ⟨xs, hq⟩, q⟩ := q1
  subst e
  cases r1
  obtain ⟨its, rv, p, hz⟩ := I1.tuple hq
  refine wpAny_pyIter_tuple (show s1.heap.IsTuple a its.toArray from p) ?_
  refine ⟨s1.heap.objs.size, [s1.heap.objs.size], _, _, H1, rfl, I1.kept (t' := s1.toks) fun b o e => Heap.get?_push_of_some _ e, turn_tuple a _, ⟨_, Heap.get?_push_size _ rfl, rfl, rfl⟩, fun b hb => ?_, q⟩
  have e : b = s1.heap.objs.size := by simpa using hb
  subst e
  exact I1.fpOk (Nat.le_refl _) (I1.hok.fresh (Nat.le_refl _))
theorem range_it {pins : List (Addr × Obj)} {σ : St} {H : Hp} {s : Shared} {R : It → Hp → Prop} {E : Value → Shared → Prop} {lo hi : Int} {t u v : Tok} {tk : Nat} (I : Inv X pins σ H s) (h1 : -(2 ^ 62) ≤ lo) (h2 : lo < 2 ^ 62) (h3 : -(2 ^ 62) ≤ hi) (h4 : hi < 2 ^ 62)
    (q : R (Itr lo (hi - lo).toNat) H) : wpAny (model X.prog X.w) X.A (pyIter (.ref s.heap.objs.size)) (PIE X pins σ tg R) E { s with heap := s.heap.push { cls := .type "range", data := .fields #[.int lo t, .int hi u, .int 1 v] }, toks := tk } := by
  refine wpAny_pyIter_range (IsRange.new ..) (small_one h1 h2 h3 h4) ?_
  have I1 : Inv X pins σ H { s with heap := s.heap.push { cls := .type "range", data := .fields #[.int lo t, .int hi u, .int 1 v] }, toks := tk } := I.kept fun b o e => Heap.get?_push_of_some _ e
  refine ⟨(s.heap.push { cls := .type "range", data := .fields #[.int lo t, .int hi u, .int 1 v] }).objs.size, [(s.heap.push { cls := .type "range", data := .fields #[.int lo t, .int hi u, .int 1 v] }).objs.size], _, _, H, rfl,
    I1.kept (t' := tk) fun b o e => Heap.get?_push_of_some _ e, turn_range _ lo (hi - lo).toNat, ?_, fun b hb => ?_, q⟩
  · have e1 : lo + ((0 : Nat) : Int) * 1 = lo := by simp
    have e2 : (((hi - lo).toNat : Nat) : Int) - ((0 : Nat) : Int) = Builtin.Range.rangeSize lo hi 1 := by rw [rangeSize_one]; split <;> omega
    show IsRangeIter _ _ (lo + ((0 : Nat) : Int) * 1) ((((hi - lo).toNat : Nat) : Int) - ((0 : Nat) : Int)) 1
    rw [e1, e2]
    exact Heap.get?_push_size _ rfl
  · have e : b = (s.heap.push { cls := .type "range", data := .fields #[.int lo t, .int hi u, .int 1 v] }).objs.size := by simpa using hb
    subst e
    exact I1.fpOk (Nat.le_refl _) (I1.hok.fresh (Nat.le_refl _))
noncomputable def iRng1 (ta : TA) : TI := fun σ H R => ta σ H fun vs H1 => ∃ j : Int, vs = [.int j] ∧ -(2 ^ 62) ≤ j ∧ j < 2 ^ 62 ∧ R (Itr 0 j.toNat) H1
noncomputable def iRng2 (ta : TA) : TI := fun σ H R => ta σ H fun vs H1 => ∃ i j : Int, vs = [.int i, .int j] ∧ (-(2 ^ 62) ≤ i ∧ i < 2 ^ 62 ∧ -(2 ^ 62) ≤ j ∧ j < 2 ^ 62) ∧ R (Itr i (j - i).toNat) H1
theorem pi_range1 {a : Expr} {ta : TA} {p pos : Pos} (hg : Gl X "range") (hm : X.mg "range" = none) (ha : PA X [a] ta) (hs : starEach [a] X.env = [(false, eval a X.env)] := by rfl) : PI X tg (.Call (.Name "range" p) [a] [] pos) (iRng1 ta) := by
  intro pins s σ H R I h
  refine Call_ (ld_blt I hg hm boot_range (PyProof.Rows.callWith_type1 (thn (ha pos pins s σ H _ I h) fun us s1 ⟨vs, H1, I1, r1, q1⟩ => ?_) hs rfl))
  obtain ⟨j, e, q1, q2, q⟩ := q1
  subst e
  cases r1 with
  | cons r rr =>
    cases rr
    obtain ⟨t, rfl⟩ := r
    exact call_range_1 (range_it I1 (by omega) (by omega) q1 q2 (by simpa using q))
theorem pi_range2 {a b : Expr} {ta : TA} {p pos : Pos} (hg : Gl X "range") (hm : X.mg "range" = none) (ha : PA X [a, b] ta) (hs : starEach [a, b] X.env = [(false, eval a X.env), (false, eval b X.env)] := by rfl) (hs2 : starEach [b] X.env = [(false, eval b X.env)] := by rfl) :
    PI X tg (.Call (.Name "range" p) [a, b] [] pos) (iRng2 ta) := by
  intro pins s σ H R I h
  refine Call_ (ld_blt I hg hm boot_range (PyProof.Rows.callWith_type1 (thn (ha pos pins s σ H _ I h) fun us s1 ⟨vs, H1, I1, r1, q1⟩ => ?_) (by rw [hs, hs2]) (by rw [hs2]; rfl)))
  obtain ⟨i, j, e, ⟨q1, q2, q3, q4⟩, q⟩ := q1
  subst e
  cases r1 with
  | cons r rr =>
    cases rr with
    | cons r' rr =>
      cases rr
      obtain ⟨t, rfl⟩ := r
      obtain ⟨t', rfl⟩ := r'
      exact call_range_2 (range_it I1 q1 q2 q3 q4 q)
noncomputable def tFor (wi : TI) (g : TG) (tb : TS) : TS := fun D σ H => wi σ H fun J H1 => ∃ W : Nat → Nat → St → Hp → Prop, (∃ m, W 0 m σ H1) ∧ ∀ i m σ H, W i m σ H →
  (J.stop i H ∧ D.nx σ H) ∨ (J.go i H ∧ ∃ N : St → Hp → Prop, (∀ σ' H', N σ' H' → ∃ m', m' < m ∧ W (i + 1) m' σ' H') ∧ ∀ x H', J.yld i H x H' → g x σ H' fun σ2 H2 => tb { D with nx := N, ct := N, bk := D.nx } σ2 H2)
noncomputable def pinsAt (fp : List Addr) (h : Heap) : List (Addr × Obj) := fp.filterMap fun b => (h.get? b).map fun o => (b, o)
theorem mem_pinsAt {fp : List Addr} {h : Heap} {b : Addr} {o : Obj} (hb : b ∈ fp) (e : h.get? b = some o) : (b, o) ∈ pinsAt fp h := List.mem_filterMap.mpr ⟨b, hb, by rw [e]; rfl⟩
theorem of_pinsAt {fp : List Addr} {h : Heap} {p : Addr × Obj} (hp : p ∈ pinsAt fp h) : p.1 ∈ fp ∧ h.get? p.1 = some p.2 := by
  obtain ⟨b, hb, e⟩ := List.mem_filterMap.mp hp
  cases q : h.get? b with
  | none => rw [q] at e; cases e
  | some o =>
    rw [q] at e
    have e' : (b, o) = p := Option.some.inj e
    subst e'
    exact ⟨hb, q⟩
theorem Inv.pinned {pins : List (Addr × Obj)} {σ : St} {H : Hp} {s : Shared} {fp : List Addr} (I : Inv X pins σ H s) (hf : ∀ b ∈ fp, FpOk X pins H b) (ho : ∀ b ∈ fp, ∃ o, s.heap.get? b = some o ∧ ∀ v, o.data ≠ .cell v) : Inv X (pins ++ pinsAt fp s.heap) σ H s :=
  I.pins_of fun p hp => (List.mem_append.mp hp).elim (fun z => I.pin p (List.mem_append_right _ z)) fun z => by
    obtain ⟨hb, e⟩ := of_pinsAt z
    obtain ⟨f0, f1, f2, _⟩ := hf p.1 hb
    obtain ⟨o, e', d⟩ := ho p.1 hb
    rw [e] at e'; cases e'
    exact ⟨e, f0, f1, f2, d⟩
theorem Inv.unpinned {pins pl : List (Addr × Obj)} {σ : St} {H : Hp} {s : Shared} (I : Inv X (pins ++ pl) σ H s) : Inv X pins σ H s := I.pins_of fun p hp => I.pin p (List.mem_append_right _ (List.mem_append_left _ hp))
theorem ps_for {iter : Expr} {body : List Stmt} {wi : TI} {g : TG} {tb : TS} {pos : Pos} (hp : PassesOwn (model X.prog X.w) X.A X.env X.xe) (hc : X.calm = true) (hi : PI X tg iter wi) (hg : PG X tg g) (hb : PSs X body tb)
    (hs : ∀ x, foldedSetIterable iter X.env x = pure x := by intro _; rfl) : PS X (.For tg iter body [] pos) (tFor wi g tb) := by
  intro pins s σ H D I h
  refine wpAny_For (thn (hi pins s σ H _ I h) fun v s1 h1 => thn h1 fun itv s2 h2 => ?_) hs
  obtain ⟨it, fp, tn, J, H2, e, I2, T, st2, f2, W, ⟨m0, w0⟩, turn⟩ := h2
  subst e
  have stat : ∀ {H' : Hp}, (∀ b ∈ fp, H' b = none) → ∀ b ∈ fp, FpOk X pins H' b := fun hn b hb => ⟨hn b hb, (f2 b hb).2⟩
  refine codeAny_forLoop_any (fun n s' => ∃ i σ' H', Inv X pins σ' H' s' ∧ tn i s'.heap ∧ (∀ b ∈ fp, H' b = none) ∧ W i n σ' H') ?_ m0 ⟨0, σ, H2, I2, st2, fun b hb => (f2 b hb).1, w0⟩
  rintro n s3 ⟨i, σ3, H3, I3, st3, fr3, w3⟩
  rcases turn i n σ3 H3 w3 with ⟨stop, qn⟩ | ⟨go, N, hN, step⟩
  · refine wpAny_passesOwn hp (thn (T.done X rfl rfl rfl hc i pins s3 σ3 H3 X.xe I3 (stat fr3) st3 stop) fun r s4 ⟨hr, I4⟩ => ?_)
    subst hr
    exact wpAny_execs_nil ⟨σ3, H3, I4, qn⟩
  · refine wpAny_passesOwn hp (thn (T.item X rfl rfl rfl hc i pins s3 σ3 H3 X.xe I3 (stat fr3) st3 go) fun r s4 ⟨u, hr, h4⟩ => ?_)
    subst hr
    refine wpAny_passesOwn hp (thn h4 fun _ s5 ⟨x, H5, I5, r5, y5, st5, fr5⟩ => ?_)
    have I5' := I5.pinned (stat fr5) (T.obj _ _ st5)
    refine wpAny_passesOwn hp (thn (hg _ s5 σ3 H5 x u _ I5' r5 (step x H5 y5)) fun _ s6 ⟨σ6, H6, I6, q6⟩ => ?_)
    refine wpAny_passesOwn hp (thn (hb _ s6 σ6 H6 _ I6 q6) fun f s7 q7 => ?_)
    have again : ∀ {σ7 : St} {H7 : Hp}, Inv X (pins ++ pinsAt fp s5.heap) σ7 H7 s7 → N σ7 H7 → ∃ m, m < n ∧ ∃ i σ' H', Inv X pins σ' H' s7 ∧ tn i s7.heap ∧ (∀ b ∈ fp, H' b = none) ∧ W i m σ' H' := fun {σ7 H7} I7 n7 => by
      obtain ⟨m', hm, w7⟩ := hN σ7 H7 n7
      refine ⟨m', hm, i + 1, σ7, H7, I7.unpinned, T.keep _ _ _ st5 fun b hb o e => (I7.pin (b, o) (List.mem_append_right _ (List.mem_append_right _ (mem_pinsAt hb e)))).1, fun b hb => ?_, w7⟩
      obtain ⟨o, e, d⟩ := T.obj _ _ st5 b hb
      exact (I7.pin (b, o) (List.mem_append_right _ (List.mem_append_right _ (mem_pinsAt hb e)))).2.1
    cases f with
    | next => obtain ⟨σ7, H7, I7, n7⟩ := q7; exact again I7 n7
    | cont => obtain ⟨σ7, H7, I7, n7⟩ := q7; exact again I7 n7
    | brk => obtain ⟨σ7, H7, I7, q7⟩ := q7; exact ⟨σ7, H7, I7.unpinned, q7⟩
    | ret v => obtain ⟨x7, σ7, H7, I7, r7, q7⟩ := q7; exact ⟨x7, σ7, H7, I7.unpinned, r7, q7⟩
end
theorem for_list {K : PySem.W.Frag} {a : Addr} {xs : List V} {g : TG} {tb : TS} {D : Ends} {σ : St} {H : Hp} (Pv : Nat → St → Hp → Prop) (h0 : Pv 0 σ H) (hl : ∀ i σ H, i ≤ xs.length → Pv i σ H → SqL K H a xs)
    (hs : ∀ i x σ H, xs[i]? = some x → Pv i σ H → g x σ H fun σ2 H2 => tb { D with nx := Pv (i + 1), ct := Pv (i + 1), bk := D.nx } σ2 H2) (hd : ∀ σ H, Pv xs.length σ H → D.nx σ H) :
    ∃ W : Nat → Nat → St → Hp → Prop, (∃ m, W 0 m σ H) ∧ ∀ i m σ H, W i m σ H →
      ((Itl K a).stop i H ∧ D.nx σ H) ∨ ((Itl K a).go i H ∧ ∃ N : St → Hp → Prop, (∀ σ' H', N σ' H' → ∃ m', m' < m ∧ W (i + 1) m' σ' H') ∧ ∀ x H', (Itl K a).yld i H x H' → g x σ H' fun σ2 H2 => tb { D with nx := N, ct := N, bk := D.nx } σ2 H2) := by
  refine ⟨fun i m σ H => m = xs.length - i ∧ i ≤ xs.length ∧ Pv i σ H, ⟨xs.length, by simp, Nat.zero_le _, h0⟩, ?_⟩
  rintro i m σ H ⟨rfl, hi, p⟩
  have q := hl i σ H hi p
  by_cases hlt : i < xs.length
  · refine .inr ⟨⟨xs, xs[i], q, by simp [hlt]⟩, Pv (i + 1), fun σ' H' p' => ⟨xs.length - (i + 1), by omega, rfl, hlt, p'⟩, fun x H' y => ?_⟩
    obtain ⟨e, y⟩ := y
    subst e
    exact hs i x σ _ (y xs q) p
  · have e : i = xs.length := by omega
    subst e
    exact .inl ⟨⟨xs, q, Nat.le_refl _⟩, hd σ H p⟩
theorem for_range {lo : Int} {n : Nat} {g : TG} {tb : TS} {D : Ends} {σ : St} {H : Hp} (Pv : Nat → St → Hp → Prop) (h0 : Pv 0 σ H)
    (hs : ∀ i σ H, i < n → Pv i σ H → g (.int (lo + i)) σ H fun σ2 H2 => tb { D with nx := Pv (i + 1), ct := Pv (i + 1), bk := D.nx } σ2 H2) (hd : ∀ σ H, Pv n σ H → D.nx σ H) :
    ∃ W : Nat → Nat → St → Hp → Prop, (∃ m, W 0 m σ H) ∧ ∀ i m σ H, W i m σ H →
      ((Itr lo n).stop i H ∧ D.nx σ H) ∨ ((Itr lo n).go i H ∧ ∃ N : St → Hp → Prop, (∀ σ' H', N σ' H' → ∃ m', m' < m ∧ W (i + 1) m' σ' H') ∧ ∀ x H', (Itr lo n).yld i H x H' → g x σ H' fun σ2 H2 => tb { D with nx := N, ct := N, bk := D.nx } σ2 H2) := by
  refine ⟨fun i m σ H => m = n - i ∧ i ≤ n ∧ Pv i σ H, ⟨n, by simp, Nat.zero_le _, h0⟩, ?_⟩
  rintro i m σ H ⟨rfl, hi, p⟩
  by_cases hlt : i < n
  · refine .inr ⟨hlt, Pv (i + 1), fun σ' H' p' => ⟨n - (i + 1), by omega, rfl, hlt, p'⟩, fun x H' y => ?_⟩
    obtain ⟨e, y⟩ := y
    subst e y
    exact hs i σ _ hlt p
  · have e : i = n := by omega
    subst e
    exact .inl ⟨Nat.le_refl _, hd σ H p⟩
theorem while_by {c : TT} {tb : TS} {D : Ends} {σ : St} {H : Hp} (Pv : St → Hp → Prop) (μ : St → Hp → Nat) (h0 : Pv σ H)
    (hs : ∀ σ H, Pv σ H → c σ H fun b H1 => if b = true then tb { D with nx := fun σ' H' => Pv σ' H' ∧ μ σ' H' < μ σ H, ct := fun σ' H' => Pv σ' H' ∧ μ σ' H' < μ σ H, bk := D.nx } σ H1 else D.nx σ H1)
    (mono : ∀ σ H Q Q', (∀ b H1, Q b H1 → Q' b H1) → c σ H Q → c σ H Q') : tWhile c tb D σ H := by
  refine ⟨fun m σ H => m = μ σ H ∧ Pv σ H, ⟨_, rfl, h0⟩, ?_⟩
  rintro m σ H ⟨rfl, p⟩
  refine mono σ H _ _ (fun b H1 q => ?_) (hs σ H p)
  cases b with
  | true => exact ⟨_, fun σ' H' ⟨p', l⟩ => ⟨_, l, rfl, p'⟩, q⟩
  | false => exact q
end L2
namespace L2
open PySem PySem.Spec PyProof.Rows
abbrev R2 := V → V → Hp → VK → Prop
noncomputable def OpR (X : Cx) (f : Value → Value → Sem Value) (r : R2) : Prop :=
  ∀ (pins : List (Addr × Obj)) (s : Shared) (σ : St) (H : Hp) (x y : V) (v u : Value) (Q : VK), Inv X pins σ H s → RelV x v → RelV y u → r x y H Q →
    wpAny (model X.prog X.w) X.A (f v u) (EP X pins σ Q) X.xe s
noncomputable def UnR (X : Cx) (f : Value → Sem Value) (r : V → Hp → VK → Prop) : Prop :=
  ∀ (pins : List (Addr × Obj)) (s : Shared) (σ : St) (H : Hp) (x : V) (v : Value) (Q : VK), Inv X pins σ H s → RelV x v → r x H Q →
    wpAny (model X.prog X.w) X.A (f v) (EP X pins σ Q) X.xe s
noncomputable def CallR (X : Cx) (f : Value) (r : List V → Hp → VK → Prop) : Prop :=
  ∀ (pins : List (Addr × Obj)) (s : Shared) (σ : St) (H : Hp) (xs : List V) (us : List Value) (Q : VK), Inv X pins σ H s → Vals xs us → r xs H Q →
    wpAny (model X.prog X.w) X.A (call f us) (EP X pins σ Q) X.xe s
noncomputable def TruR (X : Cx) (r : V → Hp → (Bool → Hp → Prop) → Prop) : Prop :=
  ∀ (pins : List (Addr × Obj)) (s : Shared) (σ : St) (H : Hp) (x : V) (v : Value) (Q : Bool → Hp → Prop), Inv X pins σ H s → RelV x v → r x H Q →
    wpAny (model X.prog X.w) X.A (truthy v) (TP X pins σ Q) X.xe s
noncomputable def tOp (r : R2) (ta tb : TE) : TE := fun σ H Q => ta σ H fun x H1 => tb σ H1 fun y H2 => r x y H2 Q
noncomputable def tUn (r : V → Hp → VK → Prop) (ta : TE) : TE := fun σ H Q => ta σ H fun x H1 => r x H1 Q
noncomputable def rI (C : Int → Int → Prop) (g : Int → Int → V) : R2 := fun x y H Q => ∃ i j, x = .int i ∧ y = .int j ∧ C i j ∧ Q (g i j) H
noncomputable def rI0 (g : Int → Int → V) : R2 := fun x y H Q => ∃ i j, x = .int i ∧ y = .int j ∧ Q (g i j) H
noncomputable def rU (g : Int → V) : V → Hp → VK → Prop := fun x H Q => ∃ i, x = .int i ∧ Q (g i) H
section
variable {X : Cx} {a b c : Expr} {ta tb tc : TE} {pos : Pos}
theorem binT (ha : PE X a ta) (hb : PE X b tb) {pins : List (Addr × Obj)} {s : Shared} {σ : St} {H : Hp} {R : V → V → Hp → Prop} (I : Inv X pins σ H s)
    (h : ta σ H fun x H1 => tb σ H1 fun y H2 => R x y H2) {Q : Value → Shared → Prop} {f : Value → Value → Sem Value}
    (hf : ∀ v u s2 x y H2, Inv X pins σ H2 s2 → RelV x v → RelV y u → R x y H2 → wpAny (model X.prog X.w) X.A (f v u) Q X.xe s2) :
    wpAny (model X.prog X.w) X.A (eval a X.env) (fun v s₁ => wpAny (model X.prog X.w) X.A (eval b X.env) (fun u s₂ => wpAny (model X.prog X.w) X.A (f v u) Q X.xe s₂) X.xe s₁) X.xe s := by
  refine thn (ha pins s σ H _ I h) fun v s1 ⟨x, H1, I1, r1, q1⟩ => ?_
  refine thn (hb pins s1 σ H1 _ I1 q1) fun u s2 ⟨y, H2, I2, r2, q2⟩ => ?_
  exact hf v u s2 x y H2 I2 r1 r2 q2
theorem pe_op {op : Operator} {r : R2} (ho : OpR X (binaryOp op) r) (ha : PE X a ta) (hb : PE X b tb) : PE X (.BinOp a op b pos) (tOp r ta tb) := by
  intro pins s σ H Q I h
  exact wpAny_BinOp (binT ha hb I h fun v u s2 x y H2 I2 rx ry q => ho pins s2 σ H2 x y v u Q I2 rx ry q)
theorem pe_un {op : UnaryOp} {r : V → Hp → VK → Prop} (ho : UnR X (unaryOp op) r) (ha : PE X a ta) : PE X (.UnaryOp op a pos) (tUn r ta) := by
  intro pins s σ H Q I h
  exact UnaryOp_ (thn (ha pins s σ H _ I h) fun v s1 ⟨x, H1, I1, r1, q1⟩ => ho pins s1 σ H1 x v Q I1 r1 q1)
theorem opI {f : Value → Value → Sem Value} {C : Int → Int → Prop} {g : Int → Int → Int}
    (rule : ∀ (i j : Int) (t u : Tok) (s : Shared) (Q : Value → Shared → Prop) (E : Value → Shared → Prop), C i j → Q (.int (g i j) s.toks) { s with toks := s.toks + 1 } → wpAny (model X.prog X.w) X.A (f (.int i t) (.int j u)) Q E s) :
    OpR X f (rI C fun i j => .int (g i j)) := by
  intro pins s σ H x y v u Q I rx ry h
  obtain ⟨i, j, rfl, rfl, hc, q⟩ := h
  obtain ⟨t, rfl⟩ := rx
  obtain ⟨t', rfl⟩ := ry
  exact rule i j t t' s _ _ hc ⟨.int (g i j), H, I.tok _, ⟨_, rfl⟩, q⟩
theorem opI0 {f : Value → Value → Sem Value} {g : Int → Int → Int}
    (rule : ∀ (i j : Int) (t u : Tok) (s : Shared) (Q : Value → Shared → Prop) (E : Value → Shared → Prop), Q (.int (g i j) s.toks) { s with toks := s.toks + 1 } → wpAny (model X.prog X.w) X.A (f (.int i t) (.int j u)) Q E s) :
    OpR X f (rI0 fun i j => .int (g i j)) := by
  intro pins s σ H x y v u Q I rx ry h
  obtain ⟨i, j, rfl, rfl, q⟩ := h
  obtain ⟨t, rfl⟩ := rx
  obtain ⟨t', rfl⟩ := ry
  exact rule i j t t' s _ _ ⟨.int (g i j), H, I.tok _, ⟨_, rfl⟩, q⟩
theorem opB0 {f : Value → Value → Sem Value} {g : Int → Int → Bool}
    (rule : ∀ (i j : Int) (t u : Tok) (s : Shared) (Q : Value → Shared → Prop) (E : Value → Shared → Prop), Q (.bool (g i j)) s → wpAny (model X.prog X.w) X.A (f (.int i t) (.int j u)) Q E s) :
    OpR X f (rI0 fun i j => .bl (g i j)) := by
  intro pins s σ H x y v u Q I rx ry h
  obtain ⟨i, j, rfl, rfl, q⟩ := h
  obtain ⟨t, rfl⟩ := rx
  obtain ⟨t', rfl⟩ := ry
  exact rule i j t t' s _ _ ⟨.bl (g i j), H, I, rfl, q⟩
noncomputable def CPow (i j : Int) : Prop := 0 ≤ j ∧ j ≤ 1000000 ∧ i.natAbs < 2 ^ 64
noncomputable def CMul (i j : Int) : Prop := (-(2 ^ 64) < i ∧ i < 2 ^ 64) ∨ (-(2 ^ 64) < j ∧ j < 2 ^ 64)
theorem CMul.ok {i j : Int} (h : CMul i j) : IntMulOk i j := by
  rcases h with ⟨h1, h2⟩ | ⟨h1, h2⟩
  · exact .of_left (intBits_le_64 h1 h2)
  · exact .of_right (intBits_le_64 h1 h2)
theorem op_add : OpR X (binaryOp .Add) (rI0 fun i j => .int (i + j)) := opI0 fun _ _ _ _ _ _ _ q => add_int q
theorem op_sub : OpR X (binaryOp .Sub) (rI0 fun i j => .int (i - j)) := opI0 fun _ _ _ _ _ _ _ q => sub_int q
theorem op_mod : OpR X (binaryOp .Mod) (rI (fun _ j => 0 < j) fun i j => .int (i % j)) := opI fun i j _ _ _ _ _ hc q => by
  have h1 : (0 : Int) < j := hc
  exact mod_int' (by omega) (by rw [Int.fmod_eq_emod_of_nonneg i (by omega)]; exact q)
theorem op_pow : OpR X (binaryOp .Pow) (rI CPow fun i j => .int (i ^ j.toNat)) := opI fun _ _ _ _ _ _ _ hc q => pow_int_small hc.1 hc.2.1 hc.2.2 q
theorem op_shl : OpR X (binaryOp .LShift) (rI CPow fun i j => .int (i * 2 ^ j.toNat)) := opI fun _ _ _ _ _ _ _ hc q => lshift_int_small hc.1 hc.2.1 hc.2.2 q
theorem unI {f : Value → Sem Value} {g : Int → Int}
    (rule : ∀ (i : Int) (t : Tok) (s : Shared) (Q : Value → Shared → Prop) (E : Value → Shared → Prop), Q (.int (g i) s.toks) { s with toks := s.toks + 1 } → wpAny (model X.prog X.w) X.A (f (.int i t)) Q E s) :
    UnR X f (rU fun i => .int (g i)) := by
  intro pins s σ H x v Q I rx h
  obtain ⟨i, rfl, q⟩ := h
  obtain ⟨t, rfl⟩ := rx
  exact rule i t s _ _ ⟨.int (g i), H, I.tok _, ⟨_, rfl⟩, q⟩
theorem un_neg : UnR X (unaryOp .USub) (rU fun i => .int (-i)) := unI fun _ _ _ _ _ q => neg_int q
end
noncomputable def scal : V → V → Bool
  | .non, .non => true | .non, .int _ => true | .int _, .non => true | .non, .bl _ => true | .bl _, .non => true | .non, .str _ => true | .str _, .non => true
  | .int _, .int _ => true | .bl _, .bl _ => true | .str _, .str _ => true | .byt _, .byt _ => true
  | .int _, .str _ => true | .str _, .int _ => true | .bl _, .str _ => true | .str _, .bl _ => true
  | _, _ => false
noncomputable def rEq : R2 := fun x y H Q => scal x y = true ∧ Q (.bl (decide (x = y))) H
noncomputable def rNe : R2 := fun x y H Q => scal x y = true ∧ Q (.bl (!decide (x = y))) H
theorem dec_int {i j : Int} : decide (V.int i = V.int j) = (i == j) := by
  rw [Bool.eq_iff_iff]
  simp
theorem dec_bl {i j : Bool} : decide (V.bl i = V.bl j) = (i == j) := by
  rw [Bool.eq_iff_iff]
  simp
theorem dec_str {i j : Str} : decide (V.str i = V.str j) = (i == j) := by
  rw [Bool.eq_iff_iff]
  simp
theorem dec_byt {i j : Array UInt8} : decide (V.byt i = V.byt j) = (i.toList == j.toList) := by
  rw [Bool.eq_iff_iff]
  cases i
  cases j
  simp
section
variable {X : Cx} {a b c : Expr} {ta tb tc : TE} {pos : Pos}
theorem fin_bl {pins : List (Addr × Obj)} {σ : St} {H : Hp} {s : Shared} {Q : VK} {k k' : Bool} (I : Inv X pins σ H s) (q : Q (.bl k) H) (e : k = k') : EP X pins σ Q (.bool k') s := by
  subst e
  exact ⟨.bl k, H, I, rfl, q⟩
theorem op_eq : OpR X (compareOp .Eq) rEq := by
  intro pins s σ H x y v u Q I rx ry h
  obtain ⟨hs, q⟩ := h
  cases x with
  | non =>
    cases rx
    cases y with
    | non => cases ry; exact PySem.EqNone.eq_none_none (fin_bl I q (by simp))
    | bl j => cases ry; exact PySem.EqNone.eq_none_bool (fin_bl I q (by simp))
    | int j => obtain ⟨t', rfl⟩ := ry; exact PySem.EqNone.eq_none_int (fin_bl I q (by simp))
    | str j => obtain ⟨t', rfl⟩ := ry; exact PySem.EqNone.eq_none_str (fin_bl I q (by simp))
    | _ => exact absurd (show false = true from hs) Bool.false_ne_true
  | bl i =>
    cases rx
    cases y with
    | non => cases ry; exact PySem.EqNone.eq_bool_none (fin_bl I q (by simp))
    | bl j => cases ry; exact eq_bool (fin_bl I q dec_bl)
    | str j => obtain ⟨t', rfl⟩ := ry; exact PySem.EqMixed.eq_bool_str (fin_bl I q (by simp))
    | _ => exact absurd (show false = true from hs) Bool.false_ne_true
  | int i =>
    obtain ⟨t, rfl⟩ := rx
    cases y with
    | non => cases ry; exact PySem.EqNone.eq_int_none (fin_bl I q (by simp))
    | int j => obtain ⟨t', rfl⟩ := ry; exact eq_int (fin_bl I q dec_int)
    | str j => obtain ⟨t', rfl⟩ := ry; exact PySem.EqMixed.eq_int_str (fin_bl I q (by simp))
    | _ => exact absurd (show false = true from hs) Bool.false_ne_true
  | str i =>
    obtain ⟨t, rfl⟩ := rx
    cases y with
    | non => cases ry; exact PySem.EqNone.eq_str_none (fin_bl I q (by simp))
    | bl j => cases ry; exact PySem.EqMixed.eq_str_bool (fin_bl I q (by simp))
    | int j => obtain ⟨t', rfl⟩ := ry; exact PySem.EqMixed.eq_str_int (fin_bl I q (by simp))
    | str j => obtain ⟨t', rfl⟩ := ry; exact eq_str (fin_bl I q dec_str)
    | _ => exact absurd (show false = true from hs) Bool.false_ne_true
  | byt i =>
    obtain ⟨t, rfl⟩ := rx
    cases y with
    | byt j => obtain ⟨t', rfl⟩ := ry; exact PySem.W.eq_bytes (fin_bl I q dec_byt)
    | _ => exact absurd (show false = true from hs) Bool.false_ne_true
  | _ => cases y <;> exact absurd (show false = true from hs) Bool.false_ne_true
theorem op_ne : OpR X (compareOp .NotEq) rNe := by
  intro pins s σ H x y v u Q I rx ry h
  obtain ⟨hs, q⟩ := h
  cases x with
  | non =>
    cases rx
    cases y with
    | non => cases ry; exact PySem.EqNone.ne_none_none (fin_bl I q (by simp))
    | bl j => cases ry; exact PySem.EqNone.ne_none_bool (fin_bl I q (by simp))
    | int j => obtain ⟨t', rfl⟩ := ry; exact PySem.EqNone.ne_none_int (fin_bl I q (by simp))
    | str j => obtain ⟨t', rfl⟩ := ry; exact PySem.EqNone.ne_none_str (fin_bl I q (by simp))
    | _ => exact absurd (show false = true from hs) Bool.false_ne_true
  | bl i =>
    cases rx
    cases y with
    | non => cases ry; exact PySem.EqNone.ne_bool_none (fin_bl I q (by simp))
    | bl j => cases ry; exact ne_bool (fin_bl I q (congrArg not dec_bl))
    | str j => obtain ⟨t', rfl⟩ := ry; exact PySem.EqMixed.ne_bool_str (fin_bl I q (by simp))
    | _ => exact absurd (show false = true from hs) Bool.false_ne_true
  | int i =>
    obtain ⟨t, rfl⟩ := rx
    cases y with
    | non => cases ry; exact PySem.EqNone.ne_int_none (fin_bl I q (by simp))
    | int j => obtain ⟨t', rfl⟩ := ry; exact ne_int (fin_bl I q (congrArg not dec_int))
    | str j => obtain ⟨t', rfl⟩ := ry; exact PySem.EqMixed.ne_int_str (fin_bl I q (by simp))
    | _ => exact absurd (show false = true from hs) Bool.false_ne_true
  | str i =>
    obtain ⟨t, rfl⟩ := rx
    cases y with
    | non => cases ry; exact PySem.EqNone.ne_str_none (fin_bl I q (by simp))
    | bl j => cases ry; exact PySem.EqMixed.ne_str_bool (fin_bl I q (by simp))
    | int j => obtain ⟨t', rfl⟩ := ry; exact PySem.EqMixed.ne_str_int (fin_bl I q (by simp))
    | str j => obtain ⟨t', rfl⟩ := ry; exact ne_str (fin_bl I q (congrArg not dec_str))
    | _ => exact absurd (show false = true from hs) Bool.false_ne_true
  | byt i =>
    obtain ⟨t, rfl⟩ := rx
    cases y with
    | byt j => obtain ⟨t', rfl⟩ := ry; exact PySem.W.ne_bytes (fin_bl I q (congrArg not dec_byt))
    | _ => exact absurd (show false = true from hs) Bool.false_ne_true
  | _ => cases y <;> exact absurd (show false = true from hs) Bool.false_ne_true
theorem op_lt : OpR X (compareOp .Lt) (rI0 fun i j => .bl (decide (i < j))) := opB0 fun _ _ _ _ _ _ _ q => lt_int q
theorem op_le : OpR X (compareOp .LtE) (rI0 fun i j => .bl (decide (i ≤ j))) := opB0 fun _ _ _ _ _ _ _ q => le_int q
theorem op_gt : OpR X (compareOp .Gt) (rI0 fun i j => .bl (decide (j < i))) := opB0 fun _ _ _ _ _ _ _ q => gt_int q
theorem op_ge : OpR X (compareOp .GtE) (rI0 fun i j => .bl (decide (j ≤ i))) := opB0 fun _ _ _ _ _ _ _ q => ge_int q
theorem op_in_str : OpR X (compareOp .In) (fun x y H Q => ∃ i j, x = .str i ∧ y = .str j ∧ Q (.bl (!(Builtin.Str.occurrences j i 0 j.length 1).isEmpty)) H) := by
  intro pins s σ H x y v u Q I rx ry h
  obtain ⟨i, j, rfl, rfl, q⟩ := h
  obtain ⟨t, rfl⟩ := rx
  obtain ⟨t', rfl⟩ := ry
  exact in_str (fin_bl I q rfl)
theorem op_isN : OpR X (compareOp .Is) (fun x y H Q => y = .non ∧ Q (.bl (decide (x = .non))) H) := by
  intro pins s σ H x y v u Q I rx ry h
  obtain ⟨rfl, q⟩ := h
  cases ry
  refine is_none_gen (fin_bl I q ?_)
  cases x <;> first
    | (cases rx; rfl)
    | (obtain ⟨t, rfl⟩ := rx; rfl)
theorem op_notN : OpR X (compareOp .IsNot) (fun x y H Q => y = .non ∧ Q (.bl (!decide (x = .non))) H) := by
  intro pins s σ H x y v u Q I rx ry h
  obtain ⟨rfl, q⟩ := h
  cases ry
  refine isnot_none_gen (fin_bl I q ?_)
  cases x <;> first
    | (cases rx; rfl)
    | (obtain ⟨t, rfl⟩ := rx; rfl)
theorem OpR.or {f : Value → Value → Sem Value} {r r' : R2} (h : OpR X f r) (h' : OpR X f r') : OpR X f (fun x y H Q => r x y H Q ∨ r' x y H Q) := by
  intro pins s σ H x y v u Q I rx ry q
  rcases q with q | q
  · exact h pins s σ H x y v u Q I rx ry q
  · exact h' pins s σ H x y v u Q I rx ry q
theorem nomark (b : Expr) {op : CmpOp} (h : op ≠ .In := by decide) (h2 : op ≠ .NotIn := by decide) : behindInMarks op b = false := by
  have e1 : (op == CmpOp.In) = false := by cases op <;> first | rfl | exact absurd rfl h
  have e2 : (op == CmpOp.NotIn) = false := by cases op <;> first | rfl | exact absurd rfl h2
  cases b <;> simp [behindInMarks, e1, e2]
theorem pe_cmpR {op : CmpOp} {r : R2} (ho : OpR X (compareOp op) r) (ha : PE X a ta) (hb : PE X b tb) (hm : behindInMarks op b = false) : PE X (.Compare a [op] [b] pos) (tOp r ta tb) := by
  intro pins s σ H Q I h
  exact wpAny_Compare1 (binT ha hb I h fun v u s2 x y H2 I2 rx ry q => ho pins s2 σ H2 x y v u Q I2 rx ry q) hm
noncomputable def tTest (t : TE) : TT := fun σ H Q => t σ H fun x H' => ∃ k, x = .bl k ∧ Q k H'
theorem pt_cmpR {op : CmpOp} {r : R2} (ho : OpR X (compareOp op) r) (ha : PE X a ta) (hb : PE X b tb) (hm : behindInMarks op b = false) : PT X (.Compare a [op] [b] pos) (tTest (tOp r ta tb)) := by
  intro pins s σ H Q I h
  refine wpAny_isTrue_Compare1 (thn (ha pins s σ H _ I h) fun v s1 ⟨x, H1, I1, r1, q1⟩ => thn (hb pins s1 σ H1 _ I1 q1) fun u s2 ⟨y, H2, I2, r2, q2⟩ =>
    thn (ho pins s2 σ H2 x y v u _ I2 r1 r2 q2) fun c s3 ⟨z, H3, I3, r3, k, e, q3⟩ => ?_) hm
  subst e
  cases r3
  exact wpAny_truthy_bool ⟨H3, I3, q3⟩
noncomputable def tChain (r r' : R2) (ta tb tc : TE) : TE := fun σ H Q => ta σ H fun x H1 => tb σ H1 fun y H2 => r x y H2 fun z H3 => ∃ k, z = .bl k ∧
  (if k = true then tc σ H3 fun w' H4 => r' y w' H4 Q else Q (.bl false) H3)
theorem pe_chain {op op' : CmpOp} {r r' : R2} (ho : OpR X (compareOp op) r) (ho' : OpR X (compareOp op') r') (ha : PE X a ta) (hb : PE X b tb) (hc : PE X c tc)
    (hm : lastMarks [op, op'] [b, c] = false := by with_unfolding_all rfl) : PE X (.Compare a [op, op'] [b, c] pos) (tChain r r' ta tb tc) := by
  intro pins s σ H Q I h
  refine Compare_chain (thn (ha pins s σ H _ I h) fun v s1 ⟨x, H1, I1, r1, q1⟩ => chain_link (thn (hb pins s1 σ H1 _ I1 q1) fun u s2 ⟨y, H2, I2, r2, q2⟩ =>
    thn (ho pins s2 σ H2 x y v u _ I2 r1 r2 q2) fun d s3 ⟨z, H3, I3, r3, k, e, q3⟩ => ?_)) hm
  subst e
  cases r3
  refine wpAny_truthy_bool ?_
  cases k with
  | false => exact ite_ff ⟨.bl false, H3, I3, rfl, q3⟩
  | true => exact ite_tt (chain_last (thn (hc pins s3 σ H3 _ I3 q3) fun w' s4 ⟨z', H4, I4, r4, q4⟩ => ho' pins s4 σ H4 y z' u w' Q I4 r2 r4 q4))
noncomputable def TruV (K : PySem.W.Frag) (x : V) (H : Hp) (k : Bool) : Prop :=
  match x with
  | .non => k = false
  | .bl b => k = b
  | .int i => k = (i != 0)
  | .str y => y.length ≤ sizeLine ∧ k = ((y.length : Int) != 0)
  | .byt y => y.size ≤ sizeLine ∧ k = ((y.size : Int) != 0)
  | .ref p => (∃ xs, SqL K H p xs ∧ k = !xs.isEmpty) ∨ (∃ xs, SqT K H p xs ∧ k = !xs.isEmpty) ∨ ∃ kvs, H p = some (.dK kvs) ∧ k = !kvs.isEmpty
  | _ => False
theorem isEmpty_kv {κ : Type} {kvs : List (κ × V)} {vs : List (κ × Value)} (r : KV kvs vs) : (!vs.isEmpty) = !kvs.isEmpty := by
  cases r <;> rfl
theorem isEmpty_of {xs : List V} {its : List Value} (r : Vals xs its) : (!its.toArray.isEmpty) = !xs.isEmpty := by
  cases r <;> simp
theorem line63 : (sizeLine : Nat) < 2 ^ 63 := by rw [sizeLine_eq]; decide
theorem tru_ok : TruR X (fun x H Q => ∃ k, TruV X.K x H k ∧ Q k H) := by
  intro pins s σ H x v Q I rx h
  obtain ⟨k, e, q⟩ := h
  have hl := line63
  have hs : sizeLine = 16777216 := sizeLine_eq
  cases x with
  | non =>
    cases rx
    have e' : k = false := e
    subst e'
    exact truthy_none ⟨H, I, q⟩
  | bl b =>
    cases rx
    have e' : k = b := e
    subst e'
    exact wpAny_truthy_bool ⟨H, I, q⟩
  | int i =>
    obtain ⟨t, rfl⟩ := rx
    have e' : k = (i != 0) := e
    subst e'
    exact PySem.P.truthy_int ⟨H, I, q⟩
  | str y =>
    obtain ⟨t, rfl⟩ := rx
    obtain ⟨hy, e'⟩ : y.length ≤ sizeLine ∧ k = ((y.length : Int) != 0) := e
    subst e'
    exact PySem.P.truthy_str (by omega) ⟨H, I.tok _, q⟩
  | byt y =>
    obtain ⟨t, rfl⟩ := rx
    obtain ⟨hy, e'⟩ : y.size ≤ sizeLine ∧ k = ((y.size : Int) != 0) := e
    subst e'
    exact PySem.W.truthy_bytes (by omega) ⟨H, I.tok _, q⟩
  | ref p =>
    cases rx
    have e' : (∃ xs, SqL X.K H p xs ∧ k = !xs.isEmpty) ∨ (∃ xs, SqT X.K H p xs ∧ k = !xs.isEmpty) ∨ ∃ kvs, H p = some (.dK kvs) ∧ k = !kvs.isEmpty := e
    rcases e' with ⟨xs, hx, e'⟩ | ⟨xs, hx, e'⟩ | ⟨kvs, hx, e'⟩
    · subst e'
      obtain ⟨its, r, pl, hz⟩ := I.list hx
      have hlen := r.length
      exact wpAny_truthy_list pl.isList (by simp only [List.size_toArray]; omega) ⟨H, I.tok _, by rw [isEmpty_of r]; exact q⟩
    · subst e'
      obtain ⟨its, r, pl, hz⟩ := I.tuple hx
      have hlen := r.length
      exact truthy_tuple pl (by simp only [List.size_toArray]; omega) ⟨H, I.tok _, by rw [isEmpty_of r]; exact q⟩
    · subst e'
      obtain ⟨hz, hS, vs, r, m⟩ : kvs.length ≤ sizeLine ∧ (p == sysModules) = false ∧ ∃ vs, KV kvs vs ∧ s.heap.DictOf (mixKind X.prog X.w) p vs := I.hok p _ hx
      have hlen : kvs.length = vs.length := Paired.length r
      exact wpAny_truthy_dict hS m (by omega) ⟨H, I.tok _, by rw [isEmpty_kv r]; exact q⟩
  | _ => exact (show False from e).elim
theorem pt_truth (ha : PE X a ta) (he : ∀ whole, isTrue a X.env whole = (do let v ← whole; standAt a.pos; holding [v] (truthy v))) :
    PT X a (fun σ H Q => ta σ H fun x H' => ∃ k, TruV X.K x H' k ∧ Q k H') := by
  intro pins s σ H Q I h
  exact isTrue_plain (thn (ha pins s σ H _ I h) fun v s1 ⟨x, H1, I1, r1, q1⟩ => tru_ok pins s1 σ H1 x v Q I1 r1 q1) (he _)
theorem op_add_str : OpR X (binaryOp .Add) (fun x y H Q => ∃ i j, x = .str i ∧ y = .str j ∧ i.length + j.length ≤ sizeLine ∧ Q (.str (i ++ j)) H) := by
  intro pins s σ H x y v u Q I rx ry h
  obtain ⟨i, j, rfl, rfl, hz, q⟩ := h
  obtain ⟨t, rfl⟩ := rx
  obtain ⟨t', rfl⟩ := ry
  exact add_str (fun t' tk => ⟨.str (i ++ j), H, I.tok _, ⟨_, rfl⟩, q⟩) hz
theorem vals1 {x : V} {us : List Value} (r : Vals [x] us) : ∃ u, us = [u] ∧ RelV x u := by
  cases r with
  | cons r1 r2 => cases r2; exact ⟨_, rfl, r1⟩
theorem vals2 {x y : V} {us : List Value} (r : Vals [x, y] us) : ∃ u w', us = [u, w'] ∧ RelV x u ∧ RelV y w' := by
  cases r with
  | cons r1 r2 =>
    cases r2 with
    | cons r3 r4 => cases r4; exact ⟨_, _, rfl, r1, r3⟩
theorem call_max2 (hc : X.calm = true) : CallR X (.builtin "max") (fun xs H Q => ∃ i j, xs = [.int i, .int j] ∧ Q (.int (if j > i then j else i)) H) := by
  intro pins s σ H xs us Q I r h
  obtain ⟨i, j, rfl, q⟩ := h
  obtain ⟨u, w', rfl, ⟨t, rfl⟩, ⟨t', rfl⟩⟩ := vals2 r
  refine max_two_ints (I.ok.hd hc) fun h' tk k => ⟨_, H, I.kept k, ?_, q⟩
  by_cases hj : j > i
  · rw [if_pos hj, if_pos hj]; exact ⟨_, rfl⟩
  · rw [if_neg hj, if_neg hj]; exact ⟨_, rfl⟩
theorem call_min2 (hc : X.calm = true) : CallR X (.builtin "min") (fun xs H Q => ∃ i j, xs = [.int i, .int j] ∧ Q (.int (if j < i then j else i)) H) := by
  intro pins s σ H xs us Q I r h
  obtain ⟨i, j, rfl, q⟩ := h
  obtain ⟨u, w', rfl, ⟨t, rfl⟩, ⟨t', rfl⟩⟩ := vals2 r
  refine min_two_ints (I.ok.hd hc) fun h' tk k => ⟨_, H, I.kept k, ?_, q⟩
  by_cases hj : j < i
  · rw [if_pos hj, if_pos hj]; exact ⟨_, rfl⟩
  · rw [if_neg hj, if_neg hj]; exact ⟨_, rfl⟩
theorem call_int1 : CallR X (.type "int") (fun xs H Q => (∃ i, xs = [.int i] ∧ Q (.int i) H) ∨ ∃ k, xs = [.bl k] ∧ Q (.int (if k then 1 else 0)) H) := by
  intro pins s σ H xs us Q I r h
  rcases h with ⟨i, rfl, q⟩ | ⟨k, rfl, q⟩
  · obtain ⟨u, rfl, t, rfl⟩ := vals1 r
    exact call_int_int ⟨.int i, H, I, ⟨_, rfl⟩, q⟩
  · obtain ⟨u, rfl, r1⟩ := vals1 r
    cases r1
    exact call_int_bool ⟨.int (if k then 1 else 0), H, I.tok _, ⟨_, rfl⟩, q⟩
end
end L2
namespace L2
open PySem PySem.Spec PyProof.Rows
structure ObjM (h : Heap) (x dx C : Addr) (mA : Str → Option Value) : Prop where
  obj : h.get? x = some (PySem.W.instObj C dx)
  ns : h.Ns1 dx mA
  ne : dx ≠ x
theorem lookIn_ns {h : Heap} {dx : Addr} {mA : Str → Option Value} (n : h.Ns1 dx mA) : ∃ od, h.get? dx = some od ∧ ∀ name, PySem.W.lookIn name od = some (mA name) := by
  obtain ⟨o, es, ep, ho, hd, hk, _, hm⟩ := n
  refine ⟨o, ho, fun name => ?_⟩
  have e := hm name
  unfold nsFind findBy at e
  rw [← Array.find?_toList] at e
  unfold PySem.W.lookIn
  rw [hd]
  dsimp only
  split
  · rename_i y q
    rw [q] at e
    exact congrArg some e
  · rename_i q
    rw [q] at e
    have a : es.toList.any (·.refKey) = false := by
      rw [List.any_eq_false]
      intro y hy
      obtain ⟨z, t, hkey⟩ := hk y (Array.mem_toList_iff.mp hy)
      simp [DictEntry.refKey, hkey]
    have a' : ¬ es.toList.any (·.refKey) = true := by rw [a]; exact Bool.false_ne_true
    rw [if_neg a']
    exact congrArg some e
theorem ObjM.look {h : Heap} {x dx C : Addr} {mA : Str → Option Value} (I : ObjM h x dx C mA) : ∃ od, PySem.W.InstAt h x (PySem.W.instObj C dx) C (some od) ∧ ∀ name, PySem.W.lookIn name od = some (mA name) :=
  let ⟨od, ho, hl⟩ := lookIn_ns I.ns
  ⟨od, ⟨I.obj, rfl, rfl, ho⟩, hl⟩
section
variable {prog : Program} {w : World} {A : Around} {E : Value → Shared → Prop} {s : Shared} {K : PySem.W.Frag} {x dx C f : Addr} {mA : Str → Option Value} {name : Str} {v : Value}
theorem get_map {expr : Bool} {Q : Value → Shared → Prop} (X : K.In s.heap) (I : ObjM s.heap x dx C mA) (hg : PySem.W.plainGet K C name = true) (hh : PySem.W.hasDictIn K C = true)
    (ha : PySem.W.findIn K (.ref C) name = some none) (hv : mA name = some v) (hv' : PySem.W.handedIn v = true) (h : Q v { s with toks := s.toks + 1 }) :
    wpAny (model prog w) A (getAttr (.ref x) name expr) Q E s := by
  obtain ⟨od, J, hl⟩ := I.look
  exact PySem.W.get_value X J (PySem.W.plainGet_of hg).1 (PySem.W.findObj_own hh ha rfl (by rw [hl, hv])) hv' h
theorem get_meth {pl : Sem Bool} {Q : Value × List Value → Shared → Prop} (X : K.In s.heap) (I : ObjM s.heap x dx C mA) (hg : PySem.W.plainGet K C name = true)
    (hf : PySem.W.findIn K (.ref C) name = some (some (.ref f))) (ht : PySem.W.isFn K (.ref f) = true) (hv : mA name = none) (h : Q (.ref f, [.ref x]) s) :
    wpAny (model prog w) A (getMethod (.ref x) name pl) Q E s := by
  obtain ⟨od, J, hl⟩ := I.look
  exact PySem.W.method_fn X J (PySem.W.plainGet_of hg).1 (PySem.W.plainGet_of hg).2 hf (beq_iff_eq.mp ht) (by show (PySem.W.lookIn name od).map (·.isSome) = some false; rw [hl, hv]; rfl) h
theorem set_map {ns : List Str} {Q : Unit → Shared → Prop} (X : K.In s.heap) (I : ObjM s.heap x dx C mA)
    (hs : PySem.W.findIn K (.ref C) "__setattr__" = some (some (.builtin "object.__setattr__"))) (hp : PySem.W.plainOver K C = true) (ht : PySem.W.takerIn K C name = some none) (hh : PySem.W.hasDictIn K C = true)
    (hw : PySem.Within mA ns) (hsz : ns.length ≤ sizeLine)
    (h : ∀ h', ObjM h' x dx C (fun y => if y = name then some v else mA y) → Heap.SameBut dx s.heap h' → Q () { s with heap := h', toks := s.toks + 2 }) :
    wpAny (model prog w) A (setAttr (.ref x) name v) Q E s := by
  obtain ⟨od, J, hl⟩ := I.look
  refine PySem.W.set_plain X J hs (PySem.W.osa_open (s := { s with toks := s.toks + 1 }) (r := none) X J hp ht fun b => ?_)
  obtain ⟨cd, hc, hd'⟩ := PySem.W.any_some hh
  have hx : s.heap.get? x = some ⟨.ref C, some dx, .plain, #[]⟩ := I.obj
  refine wpAny_bind (wpAny_pure (wpAny_bind (wpAny_bind (wpAny_loadPart hx (wpAny_bind (PySem.W.Looks.here (s := { s with toks := s.toks + 1 }) (PySem.W.looks_clsIn X hc) ?_))))))
  rw [hd']
  refine wpAny_pure (a := some dx) (wpAny_bind (wpAny_pure (wpAny_bind ?_)))
  refine wpAny_nsSet1 (s := { s with toks := s.toks + 1 }) I.ns fun h' hn2 hs2 => ?_
  obtain ⟨oD, esD, epD, hoD, hdD, hcD⟩ := hn2.count (PySem.Within.cons name v hw)
  refine wpAny_bind (wpAny_lookBehind hoD (by rw [hdD]; exact pastItsLine_dict (Nat.le_trans hcD (by rw [List.length_cons]; omega))) ?_)
  exact wpAny_pure (h _ ⟨(hs2.2 _ (Ne.symm I.ne)).trans I.obj, hn2, I.ne⟩ hs2)
theorem make_map {R : Result → Shared → Prop} {vs : List Value} {kw : List (Str × Value)} (X : K.In s.heap) (hm : PySem.W.makesIn K C = true)
    (hi : PySem.W.findIn K (.ref C) "__init__" = some (some (.ref f))) (hf : PySem.W.typeIn K (.ref f) = some (.type "function"))
    (h : codeAny (model prog w) (A.under (.builtin "type.__call__" ⟨.ref C :: vs, kw⟩)) (.call (.ref f) ⟨.ref (s.heap.objs.size + 1) :: vs, kw⟩) (PySem.W.InitBack (s.heap.objs.size + 1) R)
      { s with heap := (s.heap.push PySem.W.emptyDict).push (PySem.W.instObj C s.heap.objs.size) }) :
    codeAny (model prog w) A (.call (.ref C) ⟨vs, kw⟩) R s := by
  obtain ⟨hh, g, d, t, os⟩ := s
  exact PySem.W.make_core (PySem.W.makes_of X hm) (PySem.W.looks_findIn X hi) (fun self => PySem.W.bind_fn X self hf) (.inl rfl) h
end
noncomputable def putF (f : Str) (v : V) : List (Str × V) → List (Str × V)
  | [] => [(f, v)]
  | (g, x) :: r => if g = f then (g, v) :: r else (g, x) :: putF f v r
theorem lookup_putF (f g : Str) (v : V) : ∀ fs : List (Str × V), (putF f v fs).lookup g = if g = f then some v else fs.lookup g
  | [] => by
    show List.lookup g [(f, v)] = _
    by_cases h : g = f
    · have hb : (g == f) = true := beq_iff_eq.mpr h
      simp only [List.lookup, hb, if_pos h]
    · have hb : (g == f) = false := beq_eq_false_iff_ne.mpr h
      simp only [List.lookup, hb, if_neg h]
  | (k, x) :: r => by
    have ih := lookup_putF f g v r
    rw [show putF f v ((k, x) :: r) = (if k = f then (k, v) :: r else (k, x) :: putF f v r) from rfl]
    by_cases hk : k = f
    · rw [if_pos hk]
      by_cases h : g = k
      · have hb : (g == k) = true := beq_iff_eq.mpr h
        simp only [List.lookup, hb, if_pos (h.trans hk)]
      · have hb : (g == k) = false := beq_eq_false_iff_ne.mpr h
        simp only [List.lookup, hb, if_neg (fun e : g = f => h (e.trans hk.symm))]
    · rw [if_neg hk]
      by_cases h : g = k
      · have hb : (g == k) = true := beq_iff_eq.mpr h
        simp only [List.lookup, hb, if_neg (fun e : g = f => hk (h.symm.trans e))]
      · have hb : (g == k) = false := beq_eq_false_iff_ne.mpr h
        simp only [List.lookup, hb]
        exact ih
theorem keys_putF (f : Str) (v : V) : ∀ fs : List (Str × V), f ∈ (putF f v fs).map (·.1) ∧ ∀ g, g ∈ fs.map (·.1) → g ∈ (putF f v fs).map (·.1)
  | [] => ⟨by simp [putF], fun g h => by simp at h⟩
  | (k, x) :: r => by
    obtain ⟨i1, i2⟩ := keys_putF f v r
    rw [show putF f v ((k, x) :: r) = (if k = f then (k, v) :: r else (k, x) :: putF f v r) from rfl]
    by_cases hk : k = f
    · rw [if_pos hk]
      subst hk
      exact ⟨by simp, fun g h => by simpa using h⟩
    · rw [if_neg hk]
      refine ⟨?_, fun g h => ?_⟩
      · rw [List.map_cons]
        exact List.mem_cons_of_mem _ i1
      · rw [List.map_cons] at h ⊢
        rcases List.mem_cons.mp h with e | e
        · exact List.mem_cons.mpr (.inl e)
        · exact List.mem_cons_of_mem _ (i2 g e)
theorem length_putF (f : Str) (v : V) : ∀ fs : List (Str × V), (putF f v fs).length ≤ fs.length + 1
  | [] => by simp [putF]
  | (k, x) :: r => by
    have ih := length_putF f v r
    rw [show putF f v ((k, x) :: r) = (if k = f then (k, v) :: r else (k, x) :: putF f v r) from rfl]
    by_cases hk : k = f
    · rw [if_pos hk, List.length_cons, List.length_cons]; omega
    · rw [if_neg hk, List.length_cons, List.length_cons]; omega
theorem RelO.some_of {v : V} {o : Option Value} (r : RelO (some v) o) : ∃ u, o = some u ∧ RelV v u := by
  cases o with
  | none => exact (show False from r).elim
  | some u => exact ⟨u, rfl, r⟩
theorem RelO.none_of {o : Option Value} (r : RelO none o) : o = none := by
  cases o with
  | none => rfl
  | some u => exact (show False from r).elim
theorem handed_of {v : V} {u : Value} (r : RelV v u) : PySem.W.handedIn u = true := by
  cases v with
  | non => cases (show u = Value.none from r); rfl
  | bl b => cases (show u = Value.bool b from r); rfl
  | int i => obtain ⟨t, e⟩ := (show ∃ t, u = Value.int i t from r); cases e; rfl
  | str x => obtain ⟨t, e⟩ := (show ∃ t, u = Value.str x t from r); cases e; rfl
  | byt b => obtain ⟨t, e⟩ := (show ∃ t, u = Value.bytes b t from r); cases e; rfl
  | flt b => obtain ⟨t, e⟩ := (show ∃ t, u = Value.float b t from r); cases e; rfl
  | ref a => cases (show u = Value.ref a from r); rfl
  | ty n => cases (show u = Value.type n from r); rfl
section
variable {P : Program} {w : World} {H H' : Hp} {h h' : Heap} {a C dx : Addr} {fs fs' : List (Str × V)}
theorem ins_get (hok : HOk P w H h) (e : H a = some (.ins C dx fs)) : ∃ mA, ObjM h a dx C mA ∧ (∀ f, RelO (fs.lookup f) (mA f)) ∧ PySem.Within mA (fs.map (·.1)) ∧ fs.length ≤ 1000 ∧ H dx = some (.own a) := by
  obtain ⟨d, z, ne, ob, mA, n, r, q⟩ := (show ObjOk P w H h a (.ins C dx fs) from hok a _ e)
  exact ⟨mA, ⟨ob, n, ne⟩, r, q, z, d⟩
end
structure Cls (K : PySem.W.Frag) (C : Addr) : Prop where
  pg : PySem.W.plainGet K C Str.empty = true
  hd : PySem.W.hasDictIn K C = true
  po : PySem.W.plainOver K C = true
  sa : PySem.W.findIn K (.ref C) "__setattr__" = some (some (.builtin "object.__setattr__"))
theorem Cls.get {K : PySem.W.Frag} {C : Addr} (c : Cls K C) (f : Str) : PySem.W.plainGet K C f = true := c.pg
noncomputable def NoAttr (K : PySem.W.Frag) (C : Addr) (f : Str) : Prop := PySem.W.findIn K (.ref C) f = some none
theorem NoAttr.taker {K : PySem.W.Frag} {C : Addr} {f : Str} (n : NoAttr K C f) : PySem.W.takerIn K C f = some none := by
  unfold PySem.W.takerIn
  rw [show PySem.W.findIn K (.ref C) f = some none from n]
  rfl
structure Con (K : PySem.W.Frag) (C : Addr) (f : Str) (v : V) (u : Value) : Prop where
  at_ : PySem.W.findIn K (.ref C) f = some (some u)
  rel : RelV v u
  get : PySem.W.specialIn K u "__get__" = some none
  cp : PySem.W.copiedNames.contains f = false
structure Meth (K : PySem.W.Frag) (C : Addr) (m : Str) (f : Addr) : Prop where
  at_ : PySem.W.findIn K (.ref C) m = some (some (.ref f))
  fn : PySem.W.isFn K (.ref f) = true
  kp : PySem.W.keepIn K (.ref f) = true
section
variable {X : Cx} {pins : List (Addr × Obj)} {σ : St} {H : Hp} {s : Shared} {a C dx : Addr} {fs : List (Str × V)} {f : Str} {v : V} {A : Around} {E : Value → Shared → Prop}
theorem getattr_ok {b : Bool} {Q : Value → Shared → Prop} (I : Inv X pins σ H s) (e : H a = some (.ins C dx fs)) (c : Cls X.K C) (n : NoAttr X.K C f) (l : fs.lookup f = some v)
    (h : ∀ u s', Inv X pins σ H s' → RelV v u → Q u s') : wpAny (model X.prog X.w) A (getAttr (.ref a) f b) Q E s := by
  obtain ⟨mA, O, r, _, _, _⟩ := ins_get I.hok e
  obtain ⟨u, hu, ru⟩ := RelO.some_of (v := v) (o := mA f) (by rw [← l]; exact r f)
  exact get_map I.kIn O (c.get f) c.hd n hu (handed_of ru) (h u _ (I.tok _) ru)
theorem getmeth_ok {m : Str} {g : Addr} {pl : Sem Bool} {Q : Value × List Value → Shared → Prop} (I : Inv X pins σ H s) (e : H a = some (.ins C dx fs)) (c : Cls X.K C) (k : Meth X.K C m g) (l : fs.lookup m = none)
    (h : Q (.ref g, [.ref a]) s) : wpAny (model X.prog X.w) A (getMethod (.ref a) m pl) Q E s := by
  obtain ⟨mA, O, r, _, _, _⟩ := ins_get I.hok e
  have hn : mA m = none := RelO.none_of (by rw [← l]; exact r m)
  exact get_meth I.kIn O (c.get m) k.at_ k.fn hn h
theorem setattr_ok {y : V} {u : Value} {Q : Unit → Shared → Prop} (I : Inv X pins σ H s) (e : H a = some (.ins C dx fs)) (c : Cls X.K C) (n : NoAttr X.K C f) (hl : fs.length < 1000) (ry : RelV y u)
    (h : ∀ s', Inv X pins σ (upd H a (.ins C dx (putF f y fs))) s' → Q () s') : wpAny (model X.prog X.w) A (setAttr (.ref a) f u) Q E s := by
  obtain ⟨mA, O, r, wi, _, ho⟩ := ins_get I.hok e
  have hz : (fs.map (·.1)).length ≤ sizeLine := by rw [List.length_map, sizeLine_eq]; omega
  refine set_map I.kIn O c.sa c.po n.taker c.hd wi hz fun h' O' sb => h _ ?_
  have hd : ∃ o, h'.get? dx = some o := let ⟨o, _, _, e', _⟩ := O'.ns; ⟨o, e'⟩
  refine I.write (x := a) (e := dx) (by rw [e]; exact True.intro) (.inr ho) (fun b q hb z => (sb.2 b hb).trans z) hd ?_
  refine ⟨by rw [upd_ne O.ne]; exact ho, ?_, O.ne, O'.obj, _, O'.ns, fun g => ?_, fun g hg => ?_⟩
  · have := length_putF f y fs; omega
  · show RelO ((putF f y fs).lookup g) (if g = f then some u else mA g)
    rw [lookup_putF]
    by_cases q : g = f
    · rw [if_pos q, if_pos q]; exact ry
    · rw [if_neg q, if_neg q]; exact r g
  · by_cases q : g = f
    · rw [q]; exact (keys_putF f y fs).1
    · refine (keys_putF f y fs).2 g (wi g fun z => hg ?_)
      show (if g = f then some u else mA g) = none
      rw [if_neg q]; exact z
theorem Inv.made (I : Inv X pins σ H s) : Inv X pins σ (upd (upd H s.heap.objs.size (.own (s.heap.objs.size + 1))) (s.heap.objs.size + 1) (.ins C s.heap.objs.size []))
    { s with heap := (s.heap.push PySem.W.emptyDict).push (PySem.W.instObj C s.heap.objs.size) } := by
  have e1 : (s.heap.push PySem.W.emptyDict).get? s.heap.objs.size = some PySem.W.emptyDict := Heap.get?_push_size s.heap rfl
  have e2 : ((s.heap.push PySem.W.emptyDict).push (PySem.W.instObj C s.heap.objs.size)).get? (s.heap.objs.size + 1) = some (PySem.W.instObj C s.heap.objs.size) := by
    have := Heap.get?_push_size (s.heap.push PySem.W.emptyDict) (o := PySem.W.instObj C s.heap.objs.size) rfl
    rwa [Heap.size_push] at this
  have e3 : (s.heap.push PySem.W.emptyDict).Ns s.heap.objs.size (fun _ => none) := ⟨PySem.W.emptyDict, #[], _, e1, rfl, (fun e he => absurd he (by simp)), fun _ => rfl⟩
  have I1 := I.laid (a := s.heap.objs.size) (o := .own (s.heap.objs.size + 1)) (h' := s.heap.push PySem.W.emptyDict) (t' := s.toks) (fun b u q => Heap.get?_push_of_some _ q) (Nat.le_refl _) ⟨_, e1⟩
  refine I1.laid (a := s.heap.objs.size + 1) (o := .ins C s.heap.objs.size []) (t' := s.toks) (fun b u q => Heap.get?_push_of_some _ q) (Nat.le_of_eq (Heap.size_push _ _)) ?_
  have ne : s.heap.objs.size ≠ s.heap.objs.size + 1 := Nat.ne_of_lt (Nat.lt_succ_self _)
  refine ⟨by rw [upd_ne ne, upd_same], Nat.zero_le _, ne, e2, fun _ => none, (Heap.Ns1.of_empty e3).at fun o q => Heap.get?_push_of_some _ q, fun _ => True.intro, fun y hy => absurd rfl hy⟩
theorem attr_of {prog : Program} {w : World} {env : Env} {e : Expr} {f : Str} {pos : Pos} {s : Shared} {Q : Value → Shared → Prop} (hb : attributeBase e f env (eval e env) = eval e env)
    (h : wpAny (model prog w) A (eval e env) (fun o s₁ => wpAny (model prog w) A (getAttr o f true) Q E s₁) E s) : wpAny (model prog w) A (eval (.Attribute e f pos) env) Q E s :=
  Attribute_any_ h (by rw [arm_eval_Attribute, hb])
end
noncomputable def tFld (K : PySem.W.Frag) (ta : TE) (f : Str) : TE := fun σ H Q => ta σ H fun x H1 => ∃ a C dx fs v, x = .ref a ∧ H1 a = some (.ins C dx fs) ∧ Cls K C ∧ NoAttr K C f ∧ fs.lookup f = some v ∧ Q v H1
noncomputable def sFld (K : PySem.W.Frag) (ta tv : TE) (f : Str) : TS := fun D σ H => tv σ H fun y H1 => ta σ H1 fun x H2 => ∃ a C dx fs, x = .ref a ∧ H2 a = some (.ins C dx fs) ∧ Cls K C ∧ NoAttr K C f ∧ fs.length < 1000 ∧
  D.nx σ (upd H2 a (.ins C dx (putF f y fs)))
section
variable {X : Cx} {o e value : Expr} {f : Str} {pos pos' tpos : Pos} {ta tv : TE}
theorem pe_fld (he : PE X e ta) (hb : attributeBase e f X.env (eval e X.env) = eval e X.env) : PE X (.Attribute e f pos) (tFld X.K ta f) := by
  intro pins s σ H Q I h
  refine attr_of hb (thn (he pins s σ H _ I h) fun u s1 ⟨x, H1, I1, rx, a, C, dx, fs, v, ex, ea, c, n, l, q⟩ => ?_)
  subst ex
  obtain rfl : u = Value.ref a := rx
  exact getattr_ok I1 ea c n l fun u' s2 I2 ru => ⟨v, H1, I2, ru, q⟩
theorem ps_fld (ha : PE X o ta) (hv : PE X value tv) (hs : swapsWith value (some (.Attribute o f pos')) pos.line X.env = pure false) : PS X (.Assign [.Attribute o f pos'] value pos) (sFld X.K ta tv f) := by
  intro pins s σ H D I h
  refine plainObj_wpAny_Assign_Attribute (thn (hv pins s σ H _ I h) fun u s1 ⟨y, H1, I1, ry, q⟩ => thn (ha pins s1 σ H1 _ I1 q) fun ov s2 ⟨x, H2, I2, rx, a, C, dx, fs, ex, ea, c, n, l, q2⟩ => ?_) hs
  subst ex
  obtain rfl : ov = Value.ref a := rx
  exact setattr_ok I2 ea c n l ry fun s3 I3 => ⟨σ, _, I3, q2⟩
end
section
variable {X : Cx} {pins : List (Addr × Obj)} {σ : St} {H : Hp} {s : Shared} {A : Around} {E : Value → Shared → Prop} {Q : Value → Shared → Prop} {c : Value} {b : Bool}
inductive TyOf (K : PySem.W.Frag) (H : Hp) : V → Value → Prop where
  | non : TyOf K H .non (.type "NoneType")
  | bl (x : Bool) : TyOf K H (.bl x) (.type "bool")
  | int (i : Int) : TyOf K H (.int i) (.type "int")
  | str (x : Str) : TyOf K H (.str x) (.type "str")
  | flt (x : UInt64) : TyOf K H (.flt x) (.type "float")
  | lst {a : Addr} {xs : List V} (e : H a = some (.lst xs)) : TyOf K H (.ref a) (.type "list")
  | frz {a : Addr} {o : Obj} {xs : List V} (e : H a = some (.frz o (.lst xs))) : TyOf K H (.ref a) (.type "list")
  | tup {a : Addr} {xs : List V} (e : H a = some (.tup xs)) : TyOf K H (.ref a) (.type "tuple")
  | dK {a : Addr} {kvs : List (Key × V)} (e : H a = some (.dK kvs)) : TyOf K H (.ref a) (.type "dict")
  | dT {a : Addr} {kvs : List (List Key × V)} (e : H a = some (.dT kvs)) : TyOf K H (.ref a) (.type "dict")
  | ins {a C dx : Addr} {fs : List (Str × V)} (e : H a = some (.ins C dx fs)) (cl : Cls K C) (ha : PySem.W.findIn K (.ref C) "__class__" = some (some (.builtin "object.__class__")))
      (hn : PySem.W.specialIn K (.builtin "object.__class__") "__get__" = some (some (.builtin "getset_descriptor.__get__"))) (htk : PySem.W.takesIn K (.builtin "object.__class__") = some true)
      (hm : PySem.W.mroIn K C (.type "object") = some true) : TyOf K H (.ref a) (.ref C)
theorem isinst_ok {x : V} {u t : Value} (I : Inv X pins σ H s) (rx : RelV x u) (ty : TyOf X.K H x t) (e : PySem.W.kitOne X.K t c = some b) (h : ∀ tk, Q (.bool b) { s with toks := tk }) :
    wpAny (model X.prog X.w) A (call (.builtin "isinstance") [u, c]) Q E s := by
  cases ty with
  | non => cases (show u = Value.none from rx); exact PySem.W.kia_one PySem.W.kitx_none I.kIn True.intro e (fun z => nomatch z) h
  | bl y => cases (show u = Value.bool y from rx); exact PySem.W.kia_one PySem.W.kitx_bool I.kIn True.intro e (fun z => nomatch z) h
  | int i => obtain ⟨t, q⟩ := (show ∃ t, u = Value.int i t from rx); cases q; exact PySem.W.kia_one PySem.W.kitx_int I.kIn True.intro e (fun z => nomatch z) h
  | str y => obtain ⟨t, q⟩ := (show ∃ t, u = Value.str y t from rx); cases q; exact PySem.W.kia_one PySem.W.kitx_str I.kIn True.intro e (fun z => nomatch z) h
  | flt y => obtain ⟨t, q⟩ := (show ∃ t, u = Value.float y t from rx); cases q; exact PySem.W.kia_one PySem.W.kitx_float I.kIn True.intro e (fun z => nomatch z) h
  | @lst a xs ea =>
    cases (show u = Value.ref a from rx)
    obtain ⟨_, _, n, _, h1⟩ := (show ObjOk X.prog X.w H s.heap a (.lst xs) from I.hok a _ ea)
    exact PySem.W.kia_one PySem.W.kitx_list I.kIn ⟨_, h1, rfl⟩ e (fun z => nomatch z) h
  | @frz a ob xs ea =>
    cases (show u = Value.ref a from rx)
    obtain ⟨_, _, _, n, _, h1⟩ := (show ObjOk X.prog X.w H s.heap a (.frz ob (.lst xs)) from I.hok a _ ea)
    exact PySem.W.kia_one PySem.W.kitx_list I.kIn ⟨_, h1, rfl⟩ e (fun z => nomatch z) h
  | @tup a xs ea =>
    cases (show u = Value.ref a from rx)
    obtain ⟨_, _, _, p⟩ := (show ObjOk X.prog X.w H s.heap a (.tup xs) from I.hok a _ ea)
    obtain ⟨o, h1, h2, _⟩ := p
    exact PySem.W.kia_one PySem.W.kitx_tuple I.kIn ⟨o, h1, h2⟩ e (fun z => nomatch z) h
  | @dK a kvs ea =>
    cases (show u = Value.ref a from rx)
    obtain ⟨_, _, vs, _, p⟩ := (show ObjOk X.prog X.w H s.heap a (.dK kvs) from I.hok a _ ea)
    obtain ⟨o, es, ep, h1, h2, _⟩ := p
    exact PySem.W.kia_one PySem.W.kitx_dict I.kIn ⟨o, h1, h2.1⟩ e (fun z => nomatch z) h
  | @dT a kvs ea =>
    cases (show u = Value.ref a from rx)
    obtain ⟨_, _, xs, _, o, es, ep, h1, h2, _⟩ := (show ObjOk X.prog X.w H s.heap a (.dT kvs) from I.hok a _ ea)
    exact PySem.W.kia_one PySem.W.kitx_dict I.kIn ⟨o, h1, h2.1⟩ e (fun z => nomatch z) h
  | @ins a C dx fs ea cl ha hn htk hm =>
    cases (show u = Value.ref a from rx)
    obtain ⟨mA, O, _⟩ := ins_get I.hok ea
    obtain ⟨od, J, _⟩ := O.look
    exact PySem.W.kia_one (PySem.W.kitx_own (cl.get _) cl.hd ha hn htk hm) I.kIn J e (fun z => nomatch z) h
end
end L2
namespace L2
open PySem PySem.Spec PyProof.Rows
structure Room (k : Nat) (A : Around) : Prop where
  hd : A.handled = none
  dp : A.depth + 3 * k + 5 < recursionLimit
  un : A.units + 16 * k + 200 < cLine
theorem Room.mono {j k : Nat} {A : Around} (r : Room k A) (h : j ≤ k) : Room j A := ⟨r.hd, by have := r.dp; omega, by have := r.un; omega⟩
theorem Room.deeper {k : Nat} {A : Around} (r : Room (k + 1) A) (env : Env) : Room k (A.deeper env) :=
  ⟨r.hd, by have := r.dp; show A.depth + 1 + 3 * k + 5 < _; omega, by have := r.un; show A.units + 3 + 16 * k + 200 < _; omega⟩
theorem Room.in1 {k : Nat} {A : Around} (r : Room (k + 1) A) : Room k A.in1 :=
  ⟨r.hd, by have := r.dp; show A.depth + 3 * k + 5 < _; omega, by have := r.un; show A.units + 1 + 16 * k + 200 < _; omega⟩
theorem make_depth {A : Around} {C : Addr} {us : List Value} {kw : List (Str × Value)} : (A.under (.builtin "type.__call__" ⟨.ref C :: us, kw⟩)).depth = A.depth + 1 := by
  first | rfl | simp [Around.under, Code.weight, Code.isCreation, Code.isGuard, Code.isCaller, Code.frames, Code.isFrame, guardIds]
theorem make_units {A : Around} {C : Addr} {us : List Value} {kw : List (Str × Value)} : (A.under (.builtin "type.__call__" ⟨.ref C :: us, kw⟩)).units = A.units + 1 := by
  first | rfl | simp [Around.under, Code.cUnits, Code.frames, Code.isFrame]
theorem Room.make {k : Nat} {A : Around} (r : Room (k + 1) A) (C : Addr) (us : List Value) (kw : List (Str × Value)) : Room k (A.under (.builtin "type.__call__" ⟨.ref C :: us, kw⟩)) :=
  ⟨r.hd, by have := r.dp; rw [make_depth]; omega, by have := r.un; rw [make_units]; omega⟩
theorem Room.depth {k : Nat} {A : Around} (r : Room k A) : A.depth < recursionLimit := by have := r.dp; omega
theorem Room.units {k : Nat} {A : Around} (r : Room k A) : A.units + 64 < cLine := by have := r.un; omega
noncomputable def tNil : TA := fun _ H Q => Q [] H
noncomputable def tCons (ta : TE) (tr : TA) : TA := fun σ H Q => ta σ H fun x H1 => tr σ H1 fun xs H2 => Q (x :: xs) H2
section
variable {X : Cx} {e : Expr} {es : List Expr} {te : TE} {t : TA} {pos : Pos}
theorem pa_nil : PA X [] tNil := fun _ _ _ _ H Q I h => Calls.spliced_nil ⟨[], H, I, .nil, h⟩
theorem pa_cons (ha : PE X e te) (hr : PA X es t) (hs : starEach (e :: es) X.env = (false, eval e X.env) :: starEach es X.env := by rfl) : PA X (e :: es) (tCons te t) := by
  intro pos pins s σ H Q I h
  rw [hs]
  show wpAny _ _ (spliced ((false, eval e X.env) :: backTo pos (starEach es X.env))) _ _ s
  refine Calls.spliced_cons (thn (ha pins s σ H _ I h) fun u s1 ⟨x, H1, I1, r1, q1⟩ => ?_)
  exact thn (hr pos pins s1 σ H1 _ I1 q1) fun us s2 ⟨xs, H2, I2, r2, q2⟩ => ⟨x :: xs, H2, I2, .cons r1 r2, q2⟩
noncomputable def tTup (t : TA) : TE := fun σ H Q => t σ H fun xs H1 => xs.length ≤ sizeLine ∧ ∀ p, H1 p = none → Q (.ref p) (upd H1 p (.tup xs))
noncomputable def tLst (t : TA) : TE := fun σ H Q => t σ H fun xs H1 => xs.length ≤ sizeLine ∧ ∀ p, H1 p = none → Q (.ref p) (upd H1 p (.lst xs))
theorem pe_tup {x1} (h : PA X es t) : PE X (.Tuple es x1 pos) (tTup t) := by
  intro pins s σ H Q I hq
  refine wpAny_Tuple_spliced (thn (h pos pins s σ H _ I hq) fun us s1 ⟨xs, H1, I1, r, z, q⟩ => ⟨by rw [← r.length]; exact z, ?_⟩)
  have hf : H1 s1.heap.objs.size = none := I1.hok.fresh (Nat.le_refl _)
  refine ⟨.ref s1.heap.objs.size, upd H1 s1.heap.objs.size (.tup xs), I1.laid (t' := s1.toks) (fun b u e => Heap.get?_push_of_some _ e) (Nat.le_refl _) ?_, rfl, q _ hf⟩
  exact ⟨z, us, r, ⟨_, Heap.get?_push_size _ rfl, rfl, _, rfl⟩⟩
theorem pe_lst (h : PA X es t) : PE X (.List es pos) (tLst t) := by
  intro pins s σ H Q I hq
  refine wpAny_List_spliced (thn (h pos pins s σ H _ I hq) fun us s1 ⟨xs, H1, I1, r, z, q⟩ => ⟨by rw [← r.length]; exact z, ?_⟩)
  have hf : H1 s1.heap.objs.size = none := I1.hok.fresh (Nat.le_refl _)
  refine ⟨.ref s1.heap.objs.size, upd H1 s1.heap.objs.size (.lst xs), I1.laid (t' := s1.toks) (fun b u e => Heap.get?_push_of_some _ e) (Nat.le_refl _) ?_, rfl, q _ hf⟩
  exact ⟨z, us, 0, r, Heap.get?_push_size _ rfl⟩
end
abbrev Sp := List V → Hp → VK → XK → Prop
abbrev CXT := List Env → Hp → Shared → XK → Value → Shared → Prop
structure Env0 (P : Program) (w : World) (K : PySem.W.Frag) (mg : Str → Option Value) (base : Heap) (A : Around) (outer : List Env) (s : Shared) (H : Hp) : Prop where
  frames : A.frames = some outer
  mod : Mod K mg base
  bs : ∀ b o, base.get? b = some o → s.heap.get? b = some o ∧ H b = none
  bsz : base.objs.size ≤ s.heap.objs.size
  funs : s.heap.FunFrames base outer
  frf : ∀ b ∈ frs outer, H b = none
  hok : HOk P w H s.heap
  bare : AllBare s.gens
noncomputable def CE (outer : List Env) (P : Program) (w : World) (H : Hp) (s : Shared) (Q : VK) (u : Value) (s' : Shared) : Prop :=
  ∃ v H', s'.os = s.os ∧ AllBare s'.gens ∧ Un (frs outer) [] H H' s.heap s'.heap ∧ HOk P w H' s'.heap ∧ RelV v u ∧ Q v H'
noncomputable def CR (CX : CXT) (outer : List Env) (P : Program) (w : World) (H : Hp) (s : Shared) (Q : VK) (E : XK) (r : Result) (s' : Shared) : Prop :=
  match r with
  | .ok (.ret u) => CE outer P w H s Q u s'
  | .ok _ => False
  | .error e => CX outer H s E e s'
structure FnOk (P : Program) (w : World) (K : PySem.W.Frag) (mg : Str → Option Value) (base : Heap) (CX : CXT) (k : Nat) (f : Addr) (fd : FuncData) (ps : List Str) (sp : Sp) : Prop where
  len : ∀ vs H Q E, sp vs H Q E → vs.length = ps.length
  run : ∀ (A : Around) (outer : List Env) (s : Shared) (H : Hp) (args : Args) (us : List Value) (vs : List V) (Q : VK) (E : XK), Room k A → Env0 P w K mg base A outer s H → BindsTo s fd args (ps.zip us) → Vals vs us → sp vs H Q E →
    codeAny (model P w) A (.call (.ref f) args) (CR CX outer P w H s Q E) s
theorem FnOk.mono {P : Program} {w : World} {K : PySem.W.Frag} {mg : Str → Option Value} {base : Heap} {CX : CXT} {j k : Nat} {f : Addr} {fd : FuncData} {ps : List Str} {sp : Sp} (F : FnOk P w K mg base CX j f fd ps sp) (h : j ≤ k) :
    FnOk P w K mg base CX k f fd ps sp := ⟨F.len, fun A outer s H args us vs Q E hr => F.run A outer s H args us vs Q E (hr.mono h)⟩
theorem FnOk.imp {P : Program} {w : World} {K : PySem.W.Frag} {mg : Str → Option Value} {base : Heap} {CX : CXT} {k : Nat} {f : Addr} {fd : FuncData} {ps : List Str} {sp sp' : Sp} (F : FnOk P w K mg base CX k f fd ps sp)
    (h : ∀ vs H Q E, sp' vs H Q E → sp vs H Q E) : FnOk P w K mg base CX k f fd ps sp' :=
  ⟨fun vs H Q E q => F.len vs H Q E (h _ _ _ _ q), fun A outer s H args us vs Q E hr he hb hv hs => F.run A outer s H args us vs Q E hr he hb hv (h _ _ _ _ hs)⟩
theorem Env0.make {P : Program} {w : World} {K : PySem.W.Frag} {mg : Str → Option Value} {base : Heap} {A : Around} {outer : List Env} {s : Shared} {H : Hp} (e : Env0 P w K mg base A outer s H) (C : Addr) (us : List Value) (kw : List (Str × Value)) :
    Env0 P w K mg base (A.under (.builtin "type.__call__" ⟨.ref C :: us, kw⟩)) outer s H := ⟨by first | exact e.frames | (simpa [Around.under, Code.envs, Code.isFrame, pushEnvs] using e.frames), e.mod, e.bs, e.bsz, e.funs, e.frf, e.hok, e.bare⟩
theorem Env0.in1 {P : Program} {w : World} {K : PySem.W.Frag} {mg : Str → Option Value} {base : Heap} {A : Around} {outer : List Env} {s : Shared} {H : Hp} (e : Env0 P w K mg base A outer s H) :
    Env0 P w K mg base A.in1 outer s H := ⟨e.frames, e.mod, e.bs, e.bsz, e.funs, e.frf, e.hok, e.bare⟩
section
variable {X : Cx} {pins : List (Addr × Obj)} {σ : St} {H : Hp} {s s' : Shared}
theorem Inv.env0 (I : Inv X pins σ H s) : Env0 X.prog X.w X.K X.mg X.base X.A X.stack s H :=
  ⟨I.ok.frames, I.ok.mod, I.bs, Nat.le_trans I.ok.bsz I.sz, I.stack, I.stkFree, I.hok, I.bare⟩
theorem Inv.after {Q : VK} {u : Value} (I : Inv X pins σ H s) (h : CE X.stack X.prog X.w H s Q u s') : EP X pins σ Q u s' := by
  obtain ⟨v, H', os, bare, un, hok, r, q⟩ := h
  obtain ⟨hh, g, d, t, os'⟩ := s'
  obtain rfl : os' = s.os := os
  exact ⟨v, H', I.call (h' := hh) (g' := g) (d' := d) (t' := t) (ch := []) un hok bare (fun b z => absurd z (by simp)), r, q⟩
end
noncomputable def tCall (sp : Sp) (dvs : List V) (E : XK) (t : TA) : TE := fun σ H Q => t σ H fun vs H1 => sp (vs ++ dvs) H1 Q E
noncomputable def Binds (K : PySem.W.Frag) (fd : FuncData) (ps : List Str) (ds : List Value) : Prop :=
  ∀ (s : Shared) (us : List Value), K.In s.heap → (us ++ ds).length = ps.length → BindsTo s fd ⟨us, []⟩ (ps.zip (us ++ ds))
theorem Binds.all {K : PySem.W.Frag} {fd : FuncData} {ps : List Str} (h : ∀ us : List Value, us.length = ps.length → bindArgs fd ⟨us, []⟩ = pure (ps.zip us)) : Binds K fd ps [] := fun s us _ hl => by
  rw [List.append_nil] at hl ⊢
  exact .of_eq (h us hl)
noncomputable def Passes (CX : CXT) (X : Cx) (E : XK) : Prop := ∀ (pins : List (Addr × Obj)) (σ : St) (H : Hp) (s : Shared) (e : Value) (s' : Shared), Inv X pins σ H s → CX X.stack H s E e s' → X.xe e s'
section
variable {X : Cx} {CX : CXT} {k : Nat} {f C : Addr} {fd : FuncData} {ps : List Str} {sp : Sp} {dvs : List V} {ds : List Value} {E : XK} {x m : Str} {p pos apos : Pos} {e o : Expr} {es : List Expr} {ta : TE} {t : TA}
theorem run_fn {pins : List (Addr × Obj)} {σ : St} {H : Hp} {s : Shared} {Q : VK} {us : List Value} {vs : List V} (F : FnOk X.prog X.w X.K X.mg X.base CX k f fd ps sp) (hr : Room k X.A) (hb : Binds X.K fd ps ds) (hd : Vals dvs ds) (hx : Passes CX X E)
    (I : Inv X pins σ H s) (r : Vals vs us) (h : sp (vs ++ dvs) H Q E) : wpAny (model X.prog X.w) X.A (call (.ref f) us) (EP X pins σ Q) X.xe s := by
  have r2 : Vals (vs ++ dvs) (us ++ ds) := r.append hd
  have hl : (us ++ ds).length = ps.length := by rw [← r2.length]; exact F.len _ _ _ _ h
  refine wpAny_call (codeAny_mono (F.run X.A X.stack s H ⟨us, []⟩ (us ++ ds) (vs ++ dvs) Q E hr I.env0 (hb s us I.kIn hl) r2 h) fun r s' hq => ?_)
  cases r with
  | error e => exact hx pins σ H s e s' I hq
  | ok fl =>
    cases fl with
    | ret u => exact I.after hq
    | next => exact False.elim hq
    | brk => exact False.elim hq
    | cont => exact False.elim hq
theorem pe_call (F : FnOk X.prog X.w X.K X.mg X.base CX k f fd ps sp) (hr : Room k X.A) (hg : Gl X x) (hm : X.mg x = some (.ref f)) (hk : PySem.W.keepIn X.K (.ref f) = true) (hb : Binds X.K fd ps ds) (hd : Vals dvs ds) (hx : Passes CX X E)
    (ha : PA X (e :: es) t) (hdb : (x == ("__debug__" : Str)) = false := by decide) (he : starEach (e :: es) X.env = (false, eval e X.env) :: starEach es X.env := by rfl) (hpl : (backTo pos (starEach es X.env)).any (·.1) = false := by rfl) :
    PE X (.Call (.Name x p) (e :: es) [] pos) (tCall sp dvs E t) := by
  intro pins s σ H Q I h
  refine wpAny_Call_Name_kw (ld_glob I hg hm ?_ hdb)
  refine PySem.W.callWith_K (h₀ := X.base) I.ok.mod.kin hk (thn (ha pos pins s σ H _ I h) fun us s1 ⟨vs, H1, I1, r, q⟩ => ⟨I1.kIn, ?_⟩) he hpl
  exact run_fn F hr hb hd hx I1 r q
structure Mk (K : PySem.W.Frag) (C f : Addr) : Prop where
  makes : PySem.W.makesIn K C = true
  init : PySem.W.findIn K (.ref C) "__init__" = some (some (.ref f))
  fn : PySem.W.isFn K (.ref f) = true
  kp : PySem.W.keepIn K (.ref C) = true
end
section
variable {X : Cx} {CX : CXT} {k : Nat} {f C : Addr} {fd : FuncData} {ps ks : List Str} {sp : Sp} {E : XK} {x m : Str} {p pos apos kpos : Pos} {e o : Expr} {es : List Expr} {kws : List Keyword} {te ta : TE} {t tk : TA} {nm : Option Str}
structure KBinds (K : PySem.W.Frag) (fd : FuncData) (ps ks : List Str) (g : List Value → List Value → List Value) (gV : List V → List V → List V) : Prop where
  to : ∀ (s : Shared) (us ws : List Value), K.In s.heap → (g us ws).length = ps.length → BindsTo s fd ⟨us, ks.zip ws⟩ (ps.zip (g us ws))
  rel : ∀ {vs : List V} {us : List Value} {zs : List V} {ws : List Value}, Vals vs us → Vals zs ws → Vals (gV vs zs) (g us ws)
variable {g : List Value → List Value → List Value} {gV : List V → List V → List V}
end
structure FnScope (N P : List Str) (sc : Scope) : Prop where
  kind : sc.kind = .function
  co : sc.isCoroutine = false
  gen : sc.isGenerator = false
  nd : N.Nodup
  pre : N.take P.length = P
  par : ∀ x ∈ P, sc.names.lookup x = some .local ∨ sc.names.lookup x = some .cell
  nofree : ∀ y ∈ sc.names, y.2 ≠ .free
theorem bindL_out {kindOf : Str → Option NameKind} {x : Str} : ∀ {binds : List (Str × Value)} {m : Str → Option Value}, (∀ v, (x, v) ∉ binds) → bindL kindOf binds m x = m x
  | [], _, _ => rfl
  | (n, v) :: r, m, h => by
    unfold bindL
    rw [bindL_out fun w hw => h w (List.mem_cons_of_mem _ hw)]
    split
    · have : x ≠ n := by rintro rfl; exact h v List.mem_cons_self
      simp [this]
    · rfl
theorem bindC_out {kindOf : Str → Option NameKind} {x : Str} : ∀ {binds : List (Str × Value)} {m : Str → Option Value}, (∀ v, (x, v) ∉ binds) → bindC kindOf binds m x = m x
  | [], _, _ => rfl
  | (n, v) :: r, m, h => by
    unfold bindC
    rw [bindC_out fun w hw => h w (List.mem_cons_of_mem _ hw)]
    split
    · rfl
    · have : x ≠ n := by rintro rfl; exact h v List.mem_cons_self
      simp [this]
theorem bindL_get {kindOf : Str → Option NameKind} {x : Str} {v : Value} : ∀ {P : List Str} {vs : List Value} {i : Nat} {m : Str → Option Value}, P.Nodup → P[i]? = some x → vs[i]? = some v → kindOf x = some .local →
    bindL kindOf (P.zip vs) m x = some v
  | [], _, _, _, _, h, _, _ => by simp at h
  | _ :: _, [], _, _, _, _, h, _ => by simp at h
  | p :: P, w :: vs, 0, m, nd, h1, h2, hk => by
    simp at h1 h2; subst h1; subst h2
    show bindL kindOf ((p, w) :: P.zip vs) m p = _
    unfold bindL
    rw [bindL_out fun v hv => (List.nodup_cons.mp nd).1 (List.of_mem_zip hv).1, if_pos hk]
    simp
  | p :: P, w :: vs, i + 1, m, nd, h1, h2, hk => by
    show bindL kindOf ((p, w) :: P.zip vs) m x = _
    unfold bindL
    exact bindL_get (i := i) (List.nodup_cons.mp nd).2 (by simpa using h1) (by simpa using h2) hk
theorem bindC_get {kindOf : Str → Option NameKind} {x : Str} {v : Value} : ∀ {P : List Str} {vs : List Value} {i : Nat} {m : Str → Option Value}, P.Nodup → P[i]? = some x → vs[i]? = some v → kindOf x ≠ some .local →
    bindC kindOf (P.zip vs) m x = some v
  | [], _, _, _, _, h, _, _ => by simp at h
  | _ :: _, [], _, _, _, _, h, _ => by simp at h
  | p :: P, w :: vs, 0, m, nd, h1, h2, hk => by
    simp at h1 h2; subst h1; subst h2
    show bindC kindOf ((p, w) :: P.zip vs) m p = _
    unfold bindC
    rw [bindC_out fun v hv => (List.nodup_cons.mp nd).1 (List.of_mem_zip hv).1, if_neg hk]
    simp
  | p :: P, w :: vs, i + 1, m, nd, h1, h2, hk => by
    show bindC kindOf ((p, w) :: P.zip vs) m x = _
    unfold bindC
    exact bindC_get (i := i) (List.nodup_cons.mp nd).2 (by simpa using h1) (by simpa using h2) hk
noncomputable def start (N : List Str) (vs : List V) : St := vs.map some ++ List.replicate (N.length - vs.length) none
noncomputable def cxOf (CX : CXT) (P : Program) (w : World) (K : PySem.W.Frag) (mg : Str → Option Value) (base : Heap) (N : List Str) (qual : Str) (scope : Scope) (f : Addr) (cd : Value) (A : Around) (outer : List Env) (s : Shared) (H : Hp) (E : XK) : Cx where
  prog := P
  w := w
  K := K
  mg := mg
  base := base
  A := A.deeper (envOfC qual scope s.heap.objs.size f cd)
  N := N
  s₀ := s
  H₀ := H
  env := envOfC qual scope s.heap.objs.size f cd
  outer := outer
  stack := envOfC qual scope s.heap.objs.size f cd :: outer
  ex := []
  calm := true
  fn := fun _ => true
  pn := []
  xe := fun e s' => wpAny (model P w) (A.deeper (envOfC qual scope s.heap.objs.size f cd)) (leaving (envOfC qual scope s.heap.objs.size f cd) e) (fun _ s'' => CX outer H s E e s'') (fun e' s'' => CX outer H s E e' s'') s'
theorem cell_has {sc : Scope} {n : Nat} {x : Str} (h : sc.names.lookup x = some .cell) : ∃ c, (cellsFrom n sc.names []).lookup x = some c := by
  have q := PySem.W.cellsFrom_some sc.names n [] (.inl h)
  exact Option.isSome_iff_exists.mp q
theorem inv_start {CX : CXT} {P : Program} {w : World} {K : PySem.W.Frag} {mg : Str → Option Value} {base : Heap} {N ps : List Str} {qual : Str} {scope : Scope} {f : Addr} {cd : Value} {A : Around} {outer : List Env} {s s1 : Shared} {H : Hp} {E : XK} {us : List Value} {vs : List V}
    (S : FnScope N ps scope) (hd : A.handled = none) (e0 : Env0 P w K mg base A outer s H) (hl : vs.length = ps.length) (r : Vals vs us)
    (x : InCallC s s.heap.objs.size (bindL (envOfC qual scope s.heap.objs.size f cd).kindOf (ps.zip us) fun _ => none) (cellsFrom (s.heap.objs.size + 1) scope.names []) (bindC (envOfC qual scope s.heap.objs.size f cd).kindOf (ps.zip us) fun _ => none) s1) :
    Inv (cxOf CX P w K mg base N qual scope f cd A outer s H E) [] (start N vs) H s1 := by
  have hpl : ps.length ≤ N.length := by have := congrArg List.length S.pre; rw [List.length_take] at this; omega
  obtain ⟨h1, tk, rfl, hk⟩ := x.done
  have noA : ∀ b : Addr, b ∉ (cxOf CX P w K mg base N qual scope f cd A outer s H E).ex := fun b z => absurd (show b ∈ ([] : List Addr) from z) (by simp)
  refine ⟨⟨e0.mod, S.kind, rfl, rfl, Nat.le_refl _, fun y z c h1 h2 => ?_, fun y hy => ?_, fun y c _ h => ?_, fun _ => hd, Around.frames_deeper e0.frames, .inr ⟨rfl, rfl⟩, fun b z => absurd z (noA b), e0.bs, e0.bsz, fun b _ _ => noA b, fun b z => absurd z (noA b), e0.funs, e0.frf⟩,
    rfl, e0.bare, Un.kept hk, ⟨_, x.toInCall.ns, fun i y v h1 h2 h3 => ?_⟩, fun y c h => ⟨_, x.cell y c h⟩, e0.hok.fresh (Nat.le_refl _), fun y c h => ?_, fun p hp => absurd (show p ∈ ([] : List (Addr × Obj)) from hp) (by simp), e0.hok.kept hk, ?_⟩
  · exact name_of_addr x.apart (PySem.mem_of_lookup h1) (PySem.mem_of_lookup h2)
  · have hy : scope.names.lookup y = some .cell ∨ scope.names.lookup y = some .free := hy
    rcases hy with hy | hy
    · exact cell_has hy
    · exact absurd rfl (S.nofree _ (PySem.mem_of_lookup hy))
  · exact Nat.le_of_lt (x.above y c (PySem.mem_of_lookup h))
  · have hi : i < vs.length := by
      unfold start at h2
      by_cases hi : i < vs.length
      · exact hi
      · rw [List.getElem?_append_right (by simpa using hi)] at h2
        rw [List.getElem?_replicate] at h2
        split at h2 <;> cases h2
    have ha : vs[i]? = some v := by
      unfold start at h2
      rw [List.getElem?_append_left (by simpa using hi), List.getElem?_map] at h2
      cases e : vs[i]? with
      | none => rw [e] at h2; cases h2
      | some a => rw [e] at h2; cases h2; rfl
    obtain ⟨u, hu, rv⟩ := r.get ha
    have hp : ps[i]? = some y := by
      rw [← S.pre, List.getElem?_take_of_lt (by omega)]; exact h1
    have ndP : ps.Nodup := by rw [← S.pre]; exact S.nd.sublist (List.take_sublist _ _)
    refine ⟨u, rv, ?_⟩
    rcases S.par y (List.mem_of_getElem? hp) with k | k
    · exact .inl ⟨k, bindL_get ndP hp hu k⟩
    · obtain ⟨c, e⟩ := cell_has (n := s.heap.objs.size + 1) k
      refine .inr ⟨.inl k, c, e, ?_⟩
      have q := x.cell y c e
      rw [bindC_get ndP hp hu (by show scope.names.lookup y ≠ _; rw [k]; decide)] at q
      exact q
  · exact e0.hok.fresh (Nat.le_of_lt (x.above y c (PySem.mem_of_lookup h)))
  · unfold start
    show _ = N.length
    rw [List.length_append, List.length_map, List.length_replicate]
    omega
theorem fn_of {CX : CXT} {P : Program} {w : World} {K : PySem.W.Frag} {mg : Str → Option Value} {base : Heap} {k : Nat} {f : Addr} {name qual : Str} {params : Arguments} {body : List Stmt} {scope : Scope} {dV kV doc pm cdv ct oc : Value} {an od : Option Addr}
    {osl : Array (Option Value)} {N ps : List Str} {sp : Sp} (lk : K.lookup f = some ⟨oc, od, .func (PySem.W.fnOf name qual params body scope dV kV doc pm an cdv ct), osl⟩) (hcd : PySem.W.codeIn K cdv qual = true) (S : FnScope N ps scope)
    (len : ∀ vs H Q E, sp vs H Q E → vs.length = ps.length)
    (hbody : ∀ (A : Around) (outer : List Env) (s : Shared) (H : Hp) (vs : List V) (Q : VK) (E : XK), Room k (A.deeper (envOfC qual scope s.heap.objs.size f cdv)) → sp vs H Q E →
      ∃ t, PSs (cxOf CX P w K mg base N qual scope f cdv A outer s H E) body t ∧ t { nx := fun _ H' => Q .non H', rt := Q } (start N vs) H) :
    FnOk P w K mg base CX (k + 1) f (PySem.W.fnOf name qual params body scope dV kV doc pm an cdv ct) ps sp := by
  refine ⟨len, fun A outer s H args us vs Q E hr e0 hb r hsp => ?_⟩
  have hl := len _ _ _ _ hsp
  have KX : K.In s.heap := e0.mod.kin.keeps fun b o e => (e0.bs b o e).1
  have lim : s.heap.NoLimit := e0.mod.nolimit.keeps fun b o e => (e0.bs b o e).1
  have hkind : ∀ y ∈ ps.zip us, scope.names.lookup y.1 = some .local ∨ (scope.names.lookup y.1 = some .cell ∧ ((cellsFrom (s.heap.objs.size + 1) scope.names []).lookup y.1).isSome = true) := fun ⟨n, v⟩ hy => by
    rcases S.par n (List.of_mem_zip hy).1 with q | q
    · exact .inl q
    · exact .inr ⟨q, PySem.W.cellsFrom_some _ _ _ (.inl q)⟩
  refine codeAny_call_function hr.depth (KX _ _ lk) rfl S.co S.gen rfl (PySem.W.codeRec_of KX hcd) (hb _ _ _ _ ?_)
  refine wpAny_newFunctionEnv_cells S.kind hkind fun env he s1 x => ?_
  subst he
  refine ⟨lim.keeps x.toInCall.keep, codeAny_func ?_⟩
  obtain ⟨t, ht, hq⟩ := hbody A outer s H vs Q E (hr.deeper _) hsp
  have I : Inv (cxOf CX P w K mg base N qual scope f cdv A outer s H E) [] (start N vs) H s1 := inv_start S hr.hd e0 hl r x
  refine wpAny_mono (ht [] s1 (start N vs) H _ I hq) (fun fl s' hs => ?_) fun e s' hs => hs
  have fin : ∀ {σ' : St} {H' : Hp} {v : V} {u : Value}, Inv (cxOf CX P w K mg base N qual scope f cdv A outer s H E) [] σ' H' s' → RelV v u → Q v H' → CE outer P w H s Q u s' :=
    fun {σ' H' v u} J rv q => ⟨v, H', J.os, J.bare, J.base, J.hok, rv, q⟩
  cases fl with
  | ret u =>
    obtain ⟨v, σ', H', J, rv, q⟩ := hs
    exact fin J rv q
  | next =>
    obtain ⟨σ', H', J, q⟩ := hs
    exact fin (v := V.non) (u := Value.none) J rfl q
  | brk =>
    obtain ⟨_, _, _, q⟩ := hs
    exact False.elim q
  | cont =>
    obtain ⟨_, _, _, q⟩ := hs
    exact False.elim q
end L2
namespace L2
open PySem PySem.Spec PyProof.Rows
section
variable {X : Cx} {x : Str} {p pos : Pos} {e : Expr} {es : List Expr} {t : TA} {id T : String} {r : List V → Hp → VK → Prop}
noncomputable def tCB (r : List V → Hp → VK → Prop) (t : TA) : TE := fun σ H Q => t σ H fun vs H1 => r vs H1 Q
theorem pe_callB (hc : CallR X (.builtin id) r) (hg : Gl X x) (hm : X.mg x = none) (hv : bootBuiltins x = some (.builtin id)) (ha : PA X (e :: es) t) (hn : x ≠ "__name__" := by decide) (hdb : (x == ("__debug__" : Str)) = false := by decide)
    (he : starEach (e :: es) X.env = (false, eval e X.env) :: starEach es X.env := by rfl) (hpl : (backTo pos (starEach es X.env)).any (·.1) = false := by rfl) : PE X (.Call (.Name x p) (e :: es) [] pos) (tCB r t) := by
  intro pins s σ H Q I h
  refine wpAny_Call_Name_kw (ld_blt I hg hm hv ?_ hn hdb)
  exact PyProof.Rows.callWith_builtin1 (thn (ha pos pins s σ H _ I h) fun us s1 ⟨vs, H1, I1, r1, q1⟩ => hc pins s1 σ H1 vs us Q I1 r1 q1) he hpl
theorem pe_callTy (hc : CallR X (.type T) r) (hg : Gl X x) (hm : X.mg x = none) (hv : bootBuiltins x = some (.type T)) (ha : PA X (e :: es) t) (hn : x ≠ "__name__" := by decide) (hdb : (x == ("__debug__" : Str)) = false := by decide)
    (he : starEach (e :: es) X.env = (false, eval e X.env) :: starEach es X.env := by rfl) (hpl : (backTo pos (starEach es X.env)).any (·.1) = false := by rfl) : PE X (.Call (.Name x p) (e :: es) [] pos) (tCB r t) := by
  intro pins s σ H Q I h
  refine wpAny_Call_Name_kw (ld_blt I hg hm hv ?_ hn hdb)
  exact PyProof.Rows.callWith_type1 (thn (ha pos pins s σ H _ I h) fun us s1 ⟨vs, H1, I1, r1, q1⟩ => hc pins s1 σ H1 vs us Q I1 r1 q1) he hpl
end
end L2
namespace HT
open PySem PyProof.Rows
section
open PySem.SeqAt
open PySem.AutoSeq1 (wpAny_loadPart')
open PySem.MeetsSeq PySem.MeetsSeq2 PySem.MeetsSeq3
end
section
variable {prog : Program} {w : World} {A : Around} {E : Value → Shared → Prop} {s : Shared}
noncomputable def sIx (n d : Nat) : Option Int → Nat
  | none => d
  | some v => if v < 0 then (v + (n : Int)).toNat else min v.toNat n
theorem sIx_nat (n d k : Nat) : sIx n d (some (k : Int)) = min k n := by
  show (if (k : Int) < 0 then ((k : Int) + (n : Int)).toNat else min (k : Int).toNat n) = min k n
  rw [if_neg (by omega), Int.toNat_natCast]
end
end HT
namespace L2
open PySem PySem.Spec PyProof.Rows
abbrev TO := St → Hp → (Option Int → Hp → Prop) → Prop
noncomputable def PO (X : Cx) (e : Option Expr) (t : TO) : Prop :=
  ∀ (pins : List (Addr × Obj)) (s : Shared) (σ : St) (H : Hp) (Q : Option Int → Hp → Prop), Inv X pins σ H s → t σ H Q →
    wpAny (model X.prog X.w) X.A (evalPart e X.env) (fun u s' => ∃ o H', Inv X pins σ H' s' ∧ IsPart u o ∧ Q o H') X.xe s
noncomputable def tNoPart : TO := fun _ H Q => Q none H
noncomputable def tPart (t : TE) : TO := fun σ H Q => t σ H fun x H1 => ∃ i, x = .int i ∧ Q (some i) H1
theorem intsAre_of {ns : List Int} : ∀ {us : List Value}, Vals (ns.map V.int) us → IntsAre us ns := by
  induction ns with
  | nil => intro us r; rw [List.map_nil] at r; cases r; exact .nil
  | cons n ns ih =>
    intro us r
    rw [List.map_cons] at r
    cases r with
    | cons r1 r2 =>
      obtain ⟨t, e⟩ := r1
      subst e
      exact .cons n t (ih r2)
section
variable {X : Cx} {e : Expr} {te : TE} {lo hi : Option Expr} {tl th : TO} {pos p2 : Pos}
theorem po_none : PO X none tNoPart := by
  intro pins s σ H Q I h
  rw [evalPart_none]
  exact wpAny_pure ⟨none, H, I, .none, h⟩
theorem po_some (h : PE X e te) : PO X (some e) (tPart te) := by
  intro pins s σ H Q I hw
  rw [evalPart_some]
  refine thn (h pins s σ H _ I hw) fun u s1 ⟨x, H1, I1, r1, q1⟩ => ?_
  obtain ⟨i, rfl, q⟩ := q1
  obtain ⟨t, rfl⟩ := r1
  exact ⟨some i, H1, I1, .int i t, q⟩
noncomputable def SlR (X : Cx) (r : V → Option Int → Option Int → Hp → VK → Prop) : Prop :=
  ∀ (pins : List (Addr × Obj)) (s : Shared) (σ : St) (H : Hp) (x : V) (v vl vu : Value) (lo hi : Option Int) (sl : Addr) (Q : VK), Inv X pins σ H s → RelV x v → s.heap.IsSliceOf sl vl vu .none → IsPart vl lo → IsPart vu hi → r x lo hi H Q →
    ∃ T id, typeLookup (.type T) "__getitem__" = pure (some (.builtin id)) ∧ s.TypeIs v T ∧ wpAny (model X.prog X.w) X.A (getItem v (.ref sl)) (EP X pins σ Q) X.xe s
theorem SlR.or {r r' : V → Option Int → Option Int → Hp → VK → Prop} (h : SlR X r) (h' : SlR X r') : SlR X (fun x lo hi H Q => r x lo hi H Q ∨ r' x lo hi H Q) := by
  intro pins s σ H x v vl vu lo hi sl Q I rx hs pl pu q
  rcases q with q | q
  · exact h pins s σ H x v vl vu lo hi sl Q I rx hs pl pu q
  · exact h' pins s σ H x v vl vu lo hi sl Q I rx hs pl pu q
noncomputable def tSl (r : V → Option Int → Option Int → Hp → VK → Prop) (te : TE) (tl th : TO) : TE := fun σ H Q => te σ H fun x H1 => tl σ H1 fun l H2 => th σ H2 fun u H3 => r x l u H3 Q
theorem pe_slice {r : V → Option Int → Option Int → Hp → VK → Prop} (hr : SlR X r) (he : PE X e te) (hl : PO X lo tl) (hu : PO X hi th) : PE X (.Subscript e (.Slice lo hi none p2) pos) (tSl r te tl th) := by
  intro pins s σ H Q I h
  refine Subscript_ (thn (he pins s σ H _ I h) fun v s1 ⟨x, H1, I1, r1, q1⟩ => ?_)
  refine wpAny_Slice (thn (hl pins s1 σ H1 _ I1 q1) fun vl s2 ⟨l, H2, I2, pl, q2⟩ => thn (hu pins s2 σ H2 _ I2 q2) fun vu s3 ⟨u, H3, I3, pu, q3⟩ => ?_)
  rw [evalPart_none]
  refine wpAny_pure ?_
  have I4 : Inv X pins σ H3 { s3 with heap := s3.heap.push { cls := .type "slice", data := .fields #[vl, vu, .none] } } := I3.kept (t' := s3.toks) fun b ob q => Heap.get?_push_of_some _ q
  obtain ⟨T, id, hT, ht, hg⟩ := hr pins { s3 with heap := s3.heap.push { cls := .type "slice", data := .fields #[vl, vu, .none] } } σ H3 x v vl vu l u s3.heap.objs.size Q I4 r1 (Heap.IsSliceOf.new ..) pl pu q3
  show wpAny (model X.prog X.w) X.A (subscriptTail e (.Slice lo hi none p2) v (.ref s3.heap.objs.size)) (EP X pins σ Q) X.xe { s3 with heap := s3.heap.push { cls := .type "slice", data := .fields #[vl, vu, .none] } }
  exact tail_any (ops := [.ref s3.heap.objs.size, v]) ht hT hg (by with_unfolding_all rfl)
noncomputable def cutV (xs : List V) (lo hi : Option Int) : List V := (xs.drop (HT.sIx xs.length 0 lo)).take (HT.sIx xs.length xs.length hi - HT.sIx xs.length 0 lo)
theorem cutV_length (xs : List V) (lo hi : Option Int) : (cutV xs lo hi).length ≤ xs.length := by
  unfold cutV
  rw [List.length_take, List.length_drop]
  omega
end
end L2
namespace L2
open PySem PySem.Spec PyProof.Rows
noncomputable def ixN (n : Nat) (i : Int) : Option Nat := if 0 ≤ i then (if i < n then some i.toNat else none) else if -(n : Int) ≤ i then some (i + n).toNat else none
noncomputable def atI {α : Type} (xs : List α) (i : Int) : Option α := (ixN xs.length i).bind fun j => xs[j]?
theorem ixN_seq {n : Nat} {i : Int} {j : Nat} (h : ixN n i = some j) : seqIndex? i n = some j ∧ j < n ∧ -(n : Int) ≤ i ∧ i < n := by
  unfold ixN at h
  by_cases h0 : 0 ≤ i
  · rw [if_pos h0] at h
    by_cases h1 : i < n
    · rw [if_pos h1] at h
      have e : i.toNat = j := Option.some.inj h
      exact ⟨by rw [seqIndex_of h0 h1, e], by omega, by omega, h1⟩
    · rw [if_neg h1] at h; cases h
  · rw [if_neg h0] at h
    by_cases h1 : -(n : Int) ≤ i
    · rw [if_pos h1] at h
      have e : (i + n).toNat = j := Option.some.inj h
      exact ⟨by rw [seqIndex_neg (by omega) h1, e], by omega, h1, by omega⟩
    · rw [if_neg h1] at h; cases h
theorem atI_get {α : Type} {xs : List α} {i : Int} {v : α} (h : atI xs i = some v) : ∃ j, seqIndex? i xs.length = some j ∧ xs[j]? = some v ∧ j < xs.length ∧ -(xs.length : Int) ≤ i ∧ i < xs.length := by
  unfold atI at h
  cases e : ixN xs.length i with
  | none => rw [e] at h; cases h
  | some j =>
    rw [e] at h
    obtain ⟨h1, h2, h3, h4⟩ := ixN_seq e
    exact ⟨j, h1, h, h2, h3, h4⟩
theorem atI_nat {α : Type} {xs : List α} {j : Nat} {v : α} (h : xs[j]? = some v) : atI xs (j : Int) = some v := by
  have hj : j < xs.length := (List.getElem?_eq_some_iff.mp h).1
  have e : ixN xs.length (j : Int) = some j := by
    unfold ixN
    rw [if_pos (by omega), if_pos (by omega)]; simp
  unfold atI; rw [e]; exact h
noncomputable def PlainIx (b : Expr) : Prop := ∀ o i, subscripted b false o i = operate [o, i] (getItem o i)
noncomputable def IxR (X : Cx) (r : R2) : Prop :=
  ∀ (value slice : Expr) (pins : List (Addr × Obj)) (s : Shared) (σ : St) (H : Hp) (x y : V) (v u : Value) (Q : VK), Inv X pins σ H s → RelV x v → RelV y u → r x y H Q →
    subscripted slice false v u = operate [v, u] (getItem v u) → wpAny (model X.prog X.w) X.A (subscriptTail value slice v u) (EP X pins σ Q) X.xe s
noncomputable def MtR (X : Cx) (id : String) (r : V → List V → Hp → VK → Prop) : Prop :=
  ∀ (pins : List (Addr × Obj)) (s : Shared) (σ : St) (H : Hp) (x : V) (xs : List V) (v : Value) (us : List Value) (Q : VK), Inv X pins σ H s → RelV x v → Vals xs us → r x xs H Q →
    wpAny (model X.prog X.w) X.A (call (.builtin id) (v :: us)) (EP X pins σ Q) X.xe s
section
variable {X : Cx} {a b : Expr} {ta tb : TE} {pos : Pos}
theorem IxR.or {r r' : R2} (h : IxR X r) (h' : IxR X r') : IxR X (fun x y H Q => r x y H Q ∨ r' x y H Q) := by
  intro value slice pins s σ H x y v u Q I rx ry q hs
  rcases q with q | q
  · exact h value slice pins s σ H x y v u Q I rx ry q hs
  · exact h' value slice pins s σ H x y v u Q I rx ry q hs
theorem MtR.or {id : String} {r r' : V → List V → Hp → VK → Prop} (h : MtR X id r) (h' : MtR X id r') : MtR X id (fun x xs H Q => r x xs H Q ∨ r' x xs H Q) := by
  intro pins s σ H x xs v us Q I rx rs q
  rcases q with q | q
  · exact h pins s σ H x xs v us Q I rx rs q
  · exact h' pins s σ H x xs v us Q I rx rs q
theorem pe_ix {r : R2} (hr : IxR X r) (ha : PE X a ta) (hb : PE X b tb) (hs : PlainIx b) : PE X (.Subscript a b pos) (tOp r ta tb) := by
  intro pins s σ H Q I h
  exact Subscript_ (binT ha hb I h fun v u s2 x y H2 I2 rx ry q => hr a b pins s2 σ H2 x y v u Q I2 rx ry q (hs _ _))
noncomputable def rIxL (K : PySem.W.Frag) : R2 := fun x y H Q => ∃ p xs i v, x = .ref p ∧ y = .int i ∧ SqL K H p xs ∧ atI xs i = some v ∧ Q v H
noncomputable def rIxT (K : PySem.W.Frag) : R2 := fun x y H Q => ∃ p xs i v, x = .ref p ∧ y = .int i ∧ SqT K H p xs ∧ atI xs i = some v ∧ Q v H
noncomputable def rIxS : R2 := fun x y H Q => ∃ z i c, x = .str z ∧ y = .int i ∧ z.length ≤ sizeLine ∧ atI z.cps.toList i = some c ∧ Q (.str ⟨#[c]⟩) H
theorem ix_list : IxR X (rIxL X.K) := by
  intro value slice pins s σ H x y v u Q I rx ry h hs
  obtain ⟨p, xs, i, z, rfl, rfl, hq, he, q⟩ := h
  cases rx
  obtain ⟨t, rfl⟩ := ry
  obtain ⟨its, r, pl, hz⟩ := I.list hq
  obtain ⟨j, h1, h2, h3, h4, h5⟩ := atI_get he
  obtain ⟨w, ew, rw'⟩ := r.get h2
  have hl := r.length
  have hn := line63
  have fin : EP X pins σ Q w s := ⟨z, H, I, rw', q⟩
  by_cases h0 : 0 ≤ i
  · have hj : i.toNat = j := by
      rw [seqIndex_of h0 h5] at h1
      exact Option.some.inj h1
    exact item_listR pl.isList h0 (by omega) (by rw [hj]; simpa using ew) fin hs
  · have hj : (i + (its.toArray.size : Int)).toNat = j := by
      rw [seqIndex_neg (by omega) h4] at h1
      rw [List.size_toArray, ← hl]
      exact Option.some.inj h1
    exact subscriptTail_builtinR (x := w) pl.isList.typeIs slot_list_getitem.lookup
      (wpAny_getItem_list_neg (Q := fun r s' => r = w ∧ EP X pins σ Q r s') pl.isList (by omega) (by rw [List.size_toArray] <;> omega) (by omega) (by rw [hj]; simpa using ew) ⟨rfl, fin⟩) hs
theorem ix_tup : IxR X (rIxT X.K) := by
  intro value slice pins s σ H x y v u Q I rx ry h hs
  obtain ⟨p, xs, i, z, rfl, rfl, hq, he, q⟩ := h
  cases rx
  obtain ⟨t, rfl⟩ := ry
  obtain ⟨its, r, pl, hz⟩ := I.tuple hq
  obtain ⟨j, h1, h2, h3, h4, h5⟩ := atI_get he
  obtain ⟨w, ew, rw'⟩ := r.get h2
  have hl := r.length
  have hn := line63
  have fin : EP X pins σ Q w s := ⟨z, H, I, rw', q⟩
  exact subscriptTail_builtinR (x := w) pl.typeIs slot_tuple_getitem.lookup
    (getItem_tuple (j := j) (Q := fun r s' => r = w ∧ EP X pins σ Q r s') pl (by omega) (by omega) (by rw [List.size_toArray, ← hl]; exact h1) (by simpa using ew) ⟨rfl, fin⟩) hs
theorem ix_str : IxR X rIxS := by
  intro value slice pins s σ H x y v u Q I rx ry h hs
  obtain ⟨z, i, c, rfl, rfl, hz, he, q⟩ := h
  obtain ⟨t, rfl⟩ := rx
  obtain ⟨t', rfl⟩ := ry
  obtain ⟨j, h1, h2, h3, h4, h5⟩ := atI_get he
  have hl : z.cps.toList.length = z.length := by simp [Str.length]
  rw [hl] at h1 h4 h5
  have hn := line63
  exact tail_any (typeIs_str s z t) slot_str_getitem.lookup (getItem_str (c := c) (by
    have e1 : decide (i < -(2 ^ 63 : Int)) = false := decide_eq_false (by omega)
    have e2 : decide (i ≥ 2 ^ 63) = false := decide_eq_false (by omega)
    rw [e1, e2, Bool.or_false]) (by rw [h1]; simpa using h2) ⟨.str ⟨#[c]⟩, H, I.tok _, ⟨_, rfl⟩, q⟩) hs
theorem mapSeq_set (its : List Value) (n j : Nat) (u : Value) : Obj.mapSeq (·.setIfInBounds j u) { cls := .type "list", data := .seq its.toArray n } = { cls := .type "list", data := .seq (its.set j u).toArray n } := by
  simp [Obj.mapSeq]
theorem Inv.lst {pins : List (Addr × Obj)} {σ : St} {H : Hp} {s : Shared} {p : Addr} {xs : List V} (I : Inv X pins σ H s) (h : H p = some (.lst xs)) :
    ∃ (its : List Value) (n : Nat), Vals xs its ∧ s.heap.get? p = some { cls := .type "list", data := .seq its.toArray n } ∧ xs.length ≤ sizeLine := by
  obtain ⟨z, its, n, r, e⟩ := I.hok p _ h
  exact ⟨its, n, r, e, z⟩
theorem Inv.lstUpd {pins : List (Addr × Obj)} {σ : St} {H : Hp} {s : Shared} {p : Addr} {xs ys : List V} {its its' : List Value} {n n' : Nat} {f : Obj → Obj} (I : Inv X pins σ H s) (h : H p = some (.lst xs))
    (ho : s.heap.get? p = some { cls := .type "list", data := .seq its.toArray n }) (hf : f { cls := .type "list", data := .seq its.toArray n } = { cls := .type "list", data := .seq its'.toArray n' }) (r : Vals ys its') (hz : ys.length ≤ sizeLine) (t : Nat) :
    Inv X pins σ (upd H p (.lst ys)) { s with heap := s.heap.update p f, toks := t } := by
  have e : (s.heap.update p f).get? p = some { cls := .type "list", data := .seq its'.toArray n' } := by
    rw [Heap.get?_update_self f ho (by rw [hf] <;> rfl), hf]
  refine I.write (x := p) (e := p) (by rw [h]; trivial) (.inl rfl) (fun b u hb q => (Heap.get?_update_other _ _ (Ne.symm hb)).trans q) ⟨_, e⟩ ?_
  exact ⟨hz, its', n', r, e⟩
noncomputable def rSetL : V → V → V → Hp → (Hp → Prop) → Prop := fun o i v H Q => ∃ p xs k j, o = .ref p ∧ i = .int k ∧ H p = some (.lst xs) ∧ ixN xs.length k = some j ∧ Q (upd H p (.lst (xs.set j v)))
theorem set_list : PSet X rSetL := by
  intro pins s σ H o i v ov iv u Q I ro ri rv h
  obtain ⟨p, xs, k, j, rfl, rfl, hp, hj, q⟩ := h
  cases ro
  obtain ⟨t, rfl⟩ := ri
  obtain ⟨its, n, r, ho, hz⟩ := I.lst hp
  obtain ⟨h1, h2, h3, h4⟩ := ixN_seq hj
  have hl := r.length
  have hn := line63
  have I' : Inv X pins σ (upd H p (.lst (xs.set j v))) { s with heap := s.heap.update p (Obj.mapSeq (·.setIfInBounds j u)) } :=
    I.lstUpd hp ho (mapSeq_set its n j u) (r.set rv j) (by rw [List.length_set]; exact hz) s.toks
  by_cases h0 : 0 ≤ k
  · have hk : k.toNat = j := by
      rw [seqIndex_of h0 h4] at h1
      exact Option.some.inj h1
    exact PySem.W.ki_setAt ho h0 (by omega) (by rw [List.size_toArray, ← hl]; exact h4) (by rw [hk]; exact ⟨_, I', q⟩)
  · have hk : (k + (its.toArray.size : Int)).toNat = j := by
      rw [seqIndex_neg (by omega) h3] at h1
      rw [List.size_toArray, ← hl]
      exact Option.some.inj h1
    exact PySem.W.ki_setBack ho (by omega) (by rw [List.size_toArray, ← hl]; exact h3) (by omega) (by rw [hk]; exact ⟨_, I', q⟩)
theorem slice_bounds (lo hi : Option Int) (n : Nat) : (sliceBounds lo hi none n).1 = ((HT.sIx n 0 lo : Nat) : Int) ∧ (sliceBounds lo hi none n).2.1 = ((HT.sIx n n hi : Nat) : Int) ∧ (sliceBounds lo hi none n).2.2 = 1 := by
  refine ⟨?_, ?_, rfl⟩
  · cases lo with
    | none => simp [sliceBounds, HT.sIx]
    | some i =>
      simp only [sliceBounds, HT.sIx, Option.getD_none, show (1 : Int) > 0 by decide, if_true]
      by_cases h : i < 0
      · simp only [h, if_true] <;> omega
      · simp only [h, if_false] <;> omega
  · cases hi with
    | none => simp [sliceBounds, HT.sIx]
    | some i =>
      simp only [sliceBounds, HT.sIx, Option.getD_none, show (1 : Int) > 0 by decide, if_true]
      by_cases h : i < 0
      · simp only [h, if_true] <;> omega
      · simp only [h, if_false] <;> omega
theorem slicePick_cut (its : List Value) (lo hi : Option Int) : slicePick its.toArray lo hi none = ((its.drop (HT.sIx its.length 0 lo)).take (HT.sIx its.length its.length hi - HT.sIx its.length 0 lo)).toArray := by
  obtain ⟨h1, h2, h3⟩ := slice_bounds lo hi its.toArray.size
  unfold slicePick
  rw [h1, h2, h3]
  simp only [sliceRange_one, pick_run, List.size_toArray] <;> rfl
noncomputable def rSlL (K : PySem.W.Frag) : V → Option Int → Option Int → Hp → VK → Prop := fun x lo hi H Q => ∃ a xs, x = .ref a ∧ SqL K H a xs ∧ ∀ p, H p = none → Q (.ref p) (upd H p (.lst (cutV xs lo hi)))
theorem sl_list : SlR X (rSlL X.K) := by
  intro pins s σ H x v vl vu lo hi sl Q I rx hs pl pu h
  obtain ⟨a, xs, rfl, hx, q⟩ := h
  cases rx
  obtain ⟨its, r, ht, hz⟩ := I.list hx
  have hlen := r.length
  refine ⟨"list", _, slot_list_getitem.lookup, ht.isList.typeIs, ?_⟩
  refine wpAny_getItem_list_slice ht.isList hs pl pu .none (by simp) ?_ (by rw [List.size_toArray] <;> omega)
  rw [slicePick_cut, ← hlen]
  refine ⟨.ref s.heap.objs.size, _, I.laid (t' := s.toks) (o := .lst (cutV xs lo hi)) (fun b ob q => Heap.get?_push_of_some _ q) (Nat.le_refl _) ?_, rfl, q _ (I.hok.fresh (Nat.le_refl _))⟩
  exact ⟨Nat.le_trans (cutV_length xs lo hi) hz, _, 0, (r.drop (HT.sIx xs.length 0 lo)).take (HT.sIx xs.length xs.length hi - HT.sIx xs.length 0 lo), Heap.get?_push_size _ rfl⟩
noncomputable def flatV : V → Bool
  | .non => true
  | .bl _ => true
  | .int _ => true
  | .str _ => true
  | _ => false
noncomputable def eqV : V → V → Bool
  | .non, .non => true
  | .bl a, .bl b => a == b
  | .bl a, .int b => (if a then 1 else 0) == b
  | .int a, .bl b => a == (if b then 1 else 0)
  | .int a, .int b => a == b
  | .str a, .str b => a == b
  | _, _ => false
theorem eqAt_V {A : Around} {s : Shared} {y x : V} {u v : Value} (ry : RelV y u) (rx : RelV x v) (fy : flatV y = true) (fx : flatV x = true) : SeqAt.EqAt A s u v (eqV y x) := by
  cases y with
  | non =>
    cases ry
    cases x with
    | non => cases rx; exact SeqAt.EqAt.same _
    | bl b => cases rx; exact SeqAt.EqAt.none_bool b
    | int b => obtain ⟨t, rfl⟩ := rx; exact SeqAt.EqAt.none_int b t
    | str b => obtain ⟨t, rfl⟩ := rx; exact SeqAt.EqAt.none_str b t
    | _ => exact absurd (show false = true from fx) Bool.false_ne_true
  | bl a =>
    cases ry
    cases x with
    | non => cases rx; exact SeqAt.EqAt.bool_none a
    | bl b => cases rx; exact SeqAt.EqAt.bool_bool a b
    | int b => obtain ⟨t, rfl⟩ := rx; exact SeqAt.EqAt.bool_int a b t
    | str b => obtain ⟨t, rfl⟩ := rx; exact SeqAt.EqAt.bool_str a b t
    | _ => exact absurd (show false = true from fx) Bool.false_ne_true
  | int a =>
    obtain ⟨t', rfl⟩ := ry
    cases x with
    | non => cases rx; exact SeqAt.EqAt.int_none a t'
    | bl b => cases rx; exact SeqAt.EqAt.int_bool a t' b
    | int b => obtain ⟨t, rfl⟩ := rx; exact SeqAt.EqAt.int_int a t' b t
    | str b => obtain ⟨t, rfl⟩ := rx; exact SeqAt.EqAt.int_str a t' b t
    | _ => exact absurd (show false = true from fx) Bool.false_ne_true
  | str a =>
    obtain ⟨t', rfl⟩ := ry
    cases x with
    | non => cases rx; exact SeqAt.EqAt.str_none a t'
    | bl b => cases rx; exact SeqAt.EqAt.str_bool a t' b
    | int b => obtain ⟨t, rfl⟩ := rx; exact SeqAt.EqAt.str_int a t' b t
    | str b => obtain ⟨t, rfl⟩ := rx; exact SeqAt.EqAt.str_str a t' b t
    | _ => exact absurd (show false = true from fx) Bool.false_ne_true
  | _ => exact absurd (show false = true from fy) Bool.false_ne_true
noncomputable def eqU (x : V) (u : Value) : Bool := match u with
  | .none => eqV .non x
  | .bool b => eqV (.bl b) x
  | .int i _ => eqV (.int i) x
  | .str z _ => eqV (.str z) x
  | _ => false
theorem eqU_of {x y : V} {u : Value} (r : RelV y u) (f : flatV y = true) : eqU x u = eqV y x := by
  cases y with
  | non => cases r; rfl
  | bl b => cases r; rfl
  | int i => obtain ⟨t, rfl⟩ := r; rfl
  | str z => obtain ⟨t, rfl⟩ := r; rfl
  | _ => exact absurd (show false = true from f) Bool.false_ne_true
theorem any_eqU {x : V} : ∀ {xs : List V} {us : List Value}, Vals xs us → xs.all flatV = true → us.any (eqU x) = xs.any fun y => eqV y x
  | _, _, .nil, _ => rfl
  | y :: xs, u :: us, .cons r t, f => by
    rw [List.all_cons, Bool.and_eq_true] at f
    rw [List.any_cons, List.any_cons, eqU_of r f.1, any_eqU t f.2]
theorem mem_eqAt {A : Around} {s : Shared} {x : V} {v : Value} (rx : RelV x v) (fx : flatV x = true) : ∀ {xs : List V} {us : List Value}, Vals xs us → xs.all flatV = true → ∀ u ∈ us, SeqAt.EqAt A s u v (eqU x u)
  | _, _, .nil, _ => fun u hu => by cases hu
  | y :: xs, u :: us, .cons r t, f => fun u' hu => by
    rw [List.all_cons, Bool.and_eq_true] at f
    rcases List.mem_cons.mp hu with rfl | hu
    · rw [eqU_of r f.1]; exact eqAt_V r rx f.1 fx
    · exact mem_eqAt rx fx t f.2 u' hu
noncomputable def inV (x : V) (xs : List V) : Bool := xs.any fun y => eqV y x
noncomputable def rIn (K : PySem.W.Frag) (neg : Bool) : R2 := fun x y H Q => ∃ p xs, y = .ref p ∧ (SqL K H p xs ∨ SqT K H p xs) ∧ flatV x = true ∧ xs.all flatV = true ∧ Q (.bl (if neg then !inV x xs else inV x xs)) H
theorem op_in_seq : OpR X (compareOp .In) (rIn X.K false) := by
  intro pins s σ H x y v u Q I rx ry h
  obtain ⟨p, xs, rfl, hq, fx, fs, q⟩ := h
  cases ry
  rcases hq with hq | hq
  · obtain ⟨its, r, pl, hz⟩ := I.list hq
    refine SeqAt.in_listAt (eqU x) pl.isList (fun w hw => mem_eqAt rx fx r fs w (by simpa using hw)) ⟨.bl _, H, I, rfl, ?_⟩
    rw [show its.toArray.any (eqU x) = its.any (eqU x) by simp, any_eqU r fs]
    exact q
  · obtain ⟨its, r, pl, hz⟩ := I.tuple hq
    refine SeqAt.in_tupleAt (eqU x) pl (fun w hw => mem_eqAt rx fx r fs w (by simpa using hw)) ⟨.bl _, H, I, rfl, ?_⟩
    rw [show its.toArray.any (eqU x) = its.any (eqU x) by simp, any_eqU r fs]
    exact q
theorem call_len_seq : CallR X (.builtin "len") (fun xs H Q => ∃ p ys, xs = [.ref p] ∧ (SqL X.K H p ys ∨ SqT X.K H p ys) ∧ Q (.int ys.length) H) := by
  intro pins s σ H xs us Q I r h
  obtain ⟨p, ys, rfl, hq, q⟩ := h
  obtain ⟨u, rfl, rx⟩ := vals1 r
  cases rx
  have hn := line63
  rcases hq with hq | hq
  · obtain ⟨its, r', pl, hz⟩ := I.list hq
    have hlen := r'.length
    exact Calls.call_len_list pl.isList (by simp only [List.size_toArray] <;> omega) ⟨.int ys.length, H, I.tok _, ⟨s.toks + 1, by rw [List.size_toArray, hlen]⟩, q⟩
  · obtain ⟨its, r', pl, hz⟩ := I.tuple hq
    have hlen := r'.length
    exact len_tuple pl (by simp only [List.size_toArray] <;> omega) ⟨.int ys.length, H, I.tok _, ⟨s.toks + 1, by rw [List.size_toArray, hlen]⟩, q⟩
theorem call_len_str : CallR X (.builtin "len") (fun xs H Q => ∃ z, xs = [.str z] ∧ z.length ≤ sizeLine ∧ Q (.int z.length) H) := by
  intro pins s σ H xs us Q I r h
  obtain ⟨z, rfl, hz, q⟩ := h
  obtain ⟨u, rfl, t, rfl⟩ := vals1 r
  have hn := line63
  exact len_str (by omega) ⟨.int z.length, H, I.tok _, ⟨_, rfl⟩, q⟩
theorem CallR.or {f : Value} {r r' : List V → Hp → VK → Prop} (h : CallR X f r) (h' : CallR X f r') : CallR X f (fun xs H Q => r xs H Q ∨ r' xs H Q) := by
  intro pins s σ H xs us Q I rs q
  rcases q with q | q
  · exact h pins s σ H xs us Q I rs q
  · exact h' pins s σ H xs us Q I rs q
noncomputable def tyV (K : PySem.W.Frag) (T : String) (x : V) (H : Hp) : Prop := match x with
  | .str _ => T = "str"
  | .int _ => T = "int"
  | .ref p => (T = "list" ∧ ∃ xs, SqL K H p xs) ∨ (T = "tuple" ∧ ∃ o, K.lookup p = some o ∧ o.cls = .type "tuple" ∧ o.dict = none) ∨
      (T = "dict" ∧ ((∃ kvs, H p = some (.dK kvs)) ∨ ∃ kvs, H p = some (.dT kvs))) ∨ (T = "set" ∧ ∃ S n, H p = some (.set S n))
  | _ => False
theorem tyV_is {pins : List (Addr × Obj)} {σ : St} {H : Hp} {s : Shared} {T : String} {x : V} {v : Value} (I : Inv X pins σ H s) (r : RelV x v) (ty : tyV X.K T x H) :
    s.TypeIs v T ∧ ∀ a, v = .ref a → ∃ ob, s.heap.get? a = some ob ∧ ob.dict = none := by
  cases x with
  | str z =>
    obtain ⟨t, rfl⟩ := r
    cases (show T = "str" from ty)
    exact ⟨typeIs_str s z t, fun _ e => nomatch e⟩
  | int i =>
    obtain ⟨t, rfl⟩ := r
    cases (show T = "int" from ty)
    exact ⟨typeIs_int s i t, fun _ e => nomatch e⟩
  | ref p =>
    cases r
    rcases ty with ⟨rfl, xs, hq⟩ | ⟨rfl, o, hk, hc, hd⟩ | ⟨rfl, hk⟩ | ⟨rfl, S, n, hk⟩
    · obtain ⟨its, _, pl, _⟩ := I.list hq
      refine ⟨pl.isList.typeIs, fun a e => ?_⟩
      cases e
      obtain ⟨o, n, e, c, hd, _⟩ := pl
      exact ⟨o, e, hd⟩
    · refine ⟨⟨o, I.kIn p o hk, hc⟩, fun a e => ?_⟩
      cases e
      exact ⟨o, I.kIn _ o hk, hd⟩
    · have z : ∃ o, s.heap.get? p = some o ∧ o.ExactDict := by
        rcases hk with ⟨kvs, hk⟩ | ⟨kvs, hk⟩
        · obtain ⟨_, _, _, _, o, _, _, e, ex, _⟩ := I.hok p _ hk
          exact ⟨o, e, ex⟩
        · obtain ⟨_, _, _, _, o, _, _, e, ex, _⟩ := I.hok p _ hk
          exact ⟨o, e, ex⟩
      obtain ⟨o, e, ex⟩ := z
      refine ⟨⟨o, e, ex.1⟩, fun a e2 => ?_⟩
      cases e2
      exact ⟨o, e, ex.2.1⟩
    · obtain ⟨o, _, _, _, e, ex, _⟩ := I.hok p _ hk
      refine ⟨⟨o, e, ex.1⟩, fun a e2 => ?_⟩
      cases e2
      exact ⟨o, e, ex.2.1⟩
  | _ => exact False.elim ty
noncomputable def tBM0 (K : PySem.W.Frag) (T : String) (r : V → List V → Hp → VK → Prop) (to : TE) : TE := fun σ H Q => to σ H fun x H1 => tyV K T x H1 ∧ r x [] H1 Q
noncomputable def tBM (K : PySem.W.Frag) (T : String) (r : V → List V → Hp → VK → Prop) (to : TE) (t : TA) : TE := fun σ H Q => to σ H fun x H1 => tyV K T x H1 ∧ t σ H1 fun xs H2 => r x xs H2 Q
variable {o e : Expr} {es : List Expr} {to : TE} {t : TA} {name : Str} {apos cpos : Pos} {T id : String} {r : V → List V → Hp → VK → Prop}
theorem pe_bm0 (pa : PlainAttrs T) (slot : Slot T name id) (hty : typeOf (.builtin id) = pure (.type "method_descriptor")) (hm : MtR X id r) (ho : PE X o to)
    (hbase : attributeBase o name X.env (eval o X.env) = eval o X.env := by rfl) (hline : (apos.endLine == cpos.line) = true := by rfl) : PE X (.Call (.Attribute o name apos) [] [] cpos) (tBM0 X.K T r to) := by
  intro pins s σ H Q I h
  refine wpAny_Call_method0_late hbase hline (thn (ho pins s σ H _ I h) fun v s1 ⟨x, H1, I1, r1, ty, q1⟩ => ?_)
  obtain ⟨h1, h2⟩ := tyV_is I1 r1 ty
  exact ⟨T, id, pa, slot, hty, h1, h2, Calls.callWith_builtin rfl (PySem.evalArgs_none (hm pins s1 σ H1 x [] v [] Q I1 r1 .nil q1))⟩
theorem pe_bm (pa : PlainAttrs T) (slot : Slot T name id) (hty : typeOf (.builtin id) = pure (.type "method_descriptor")) (hm : MtR X id r) (ho : PE X o to) (ha : PA X (e :: es) t)
    (hbase : attributeBase o name X.env (eval o X.env) = eval o X.env := by rfl)
    (hfew : ((backTo cpos (starEach (e :: es) X.env)).all (fun x => !x.1) && (backToKw cpos (keywordEach [] X.env)).all (fun x => x.1.isSome)
      && decide ((e :: es).length + ([] : List Keyword).length + (if ([] : List Keyword).isEmpty then 0 else 1) < 30)) = true := by rfl)
    (hline : (apos.endLine == cpos.line) = true := by rfl) (hs : starEach (e :: es) X.env = (false, eval e X.env) :: starEach es X.env := by rfl) (hplain : (backTo cpos (starEach es X.env)).any (·.1) = false := by rfl) :
    PE X (.Call (.Attribute o name apos) (e :: es) [] cpos) (tBM X.K T r to t) := by
  intro pins s σ H Q I h
  refine wpAny_Call_method_late hbase hfew hline rfl (thn (ho pins s σ H _ I h) fun v s1 ⟨x, H1, I1, r1, ty, q1⟩ => ?_)
  obtain ⟨h1, h2⟩ := tyV_is I1 r1 ty
  refine ⟨T, id, pa, slot, hty, h1, h2, ?_⟩
  have hA := ha cpos pins s1 σ H1 _ I1 q1
  rw [hs] at hA ⊢
  refine Calls.callWith_builtin (by show (false || (backTo cpos (starEach es X.env)).any (·.1)) = false; rw [hplain] <;> rfl) (Calls.evalArgs_plain ?_)
  exact thn hA fun us s2 ⟨vs, H2, I2, r2, q2⟩ => hm pins s2 σ H2 x vs v us Q I2 r1 r2 q2
end
end L2
namespace L2
open PySem PySem.Spec PyProof.Rows
noncomputable def MtM (X : Cx) (id : String) (r : V → List V → Hp → VK → Prop) : Prop :=
  ∀ (pins : List (Addr × Obj)) (s : Shared) (σ : St) (H : Hp) (x : V) (xs : List V) (v : Value) (us : List Value) (Q : VK), Inv X pins σ H s → RelV x v → Vals xs us → r x xs H Q →
    wpAny (model X.prog X.w) X.A (call (.builtin id) (v :: us)) (EP X pins σ Q) X.xe s
theorem Vals.one : ∀ {x : V} {us : List Value}, Vals [x] us → ∃ u, us = [u] ∧ RelV x u
  | _, _, .cons r .nil => ⟨_, rfl, r⟩
theorem Vals.zero : ∀ {us : List Value}, Vals [] us → us = []
  | _, .nil => rfl
theorem Vals.eraseIdx : ∀ {xs : List V} {us : List Value} (i : Nat), Vals xs us → Vals (xs.eraseIdx i) (us.eraseIdx i)
  | _, _, _, .nil => .nil
  | _, _, 0, .cons _ t => t
  | _, _, i + 1, .cons r t => .cons r (Vals.eraseIdx i t)
theorem Vals.reverse {xs : List V} {us : List Value} (h : Vals xs us) : Vals xs.reverse us.reverse := by
  induction h with
  | nil => exact .nil
  | cons r t ih => rw [List.reverse_cons, List.reverse_cons]; exact Vals.append ih (.cons r .nil)
theorem Vals.rep {xs : List V} {us : List Value} (h : Vals xs us) : ∀ k : Nat, Vals (List.replicate k xs).flatten (List.replicate k us).flatten
  | 0 => .nil
  | k + 1 => by
    rw [List.replicate_succ, List.replicate_succ, List.flatten_cons, List.flatten_cons]
    exact Vals.append h (Vals.rep h k)
theorem len_erase {α : Type} : ∀ (l : List α) (i : Nat), (l.eraseIdx i).length ≤ l.length
  | [], _ => Nat.le_refl _
  | _ :: _, 0 => Nat.le_succ _
  | _ :: r, i + 1 => Nat.succ_le_succ (len_erase r i)
theorem foldl_rep (its : List Value) : ∀ (k : Nat) (acc : List Value),
    List.foldl (fun x1 x2 => x1 ++ x2) acc.toArray (List.replicate k its.toArray) = (acc ++ (List.replicate k its).flatten).toArray
  | 0, acc => by simp
  | k + 1, acc => by
    have e : acc.toArray ++ its.toArray = (acc ++ its).toArray := by simp
    have e2 : (acc ++ its) ++ (List.replicate k its).flatten = acc ++ (List.replicate (k + 1) its).flatten := by
      rw [List.replicate_succ, List.flatten_cons, List.append_assoc]
    rw [← e2, ← foldl_rep its k (acc ++ its), ← e, List.replicate_succ, List.foldl_cons]
section
variable {X : Cx} {pins : List (Addr × Obj)} {σ : St} {H : Hp} {s : Shared} {l b : Addr} {xs ys zs : List V}
theorem Inv.lset {its its' : List Value} {n : Nat} {f : Array Value → Array Value} {t' : Nat} (I : Inv X pins σ H s) (hH : H l = some (.lst xs))
    (e : s.heap.get? l = some { cls := .type "list", data := .seq its.toArray n }) (hf : f its.toArray = its'.toArray) (hv : Vals ys its') (hz : ys.length ≤ sizeLine) :
    Inv X pins σ (upd H l (.lst ys)) { s with heap := s.heap.update l (Obj.mapSeq f), toks := t' } := by
  have q := PySem.IsL.update e f
  rw [hf] at q
  refine I.write (x := l) (e := l) (by rw [hH]; exact trivial) (.inl rfl) (fun b' u hb hu => (Heap.get?_update_other s.heap (Obj.mapSeq f) (Ne.symm hb)).trans hu) ⟨_, q⟩ ?_
  exact ⟨hz, its', _, hv, q⟩
theorem Inv.lnew {its : List Value} {t' : Nat} (I : Inv X pins σ H s) (hv : Vals ys its) (hz : ys.length ≤ sizeLine) :
    Inv X pins σ (upd H s.heap.objs.size (.lst ys)) { s with heap := s.heap.push { cls := .type "list", data := .seq its.toArray }, toks := t' } :=
  I.laid (fun _ _ q => Heap.get?_push_of_some _ q) (Nat.le_refl _) ⟨hz, its, 0, hv, Heap.get?_push_size _ rfl⟩
theorem Inv.fresh (I : Inv X pins σ H s) : H s.heap.objs.size = none := I.hok.fresh (Nat.le_refl _)
theorem Inv.lstM (I : Inv X pins σ H s) (hH : H l = some (.lst xs)) : xs.length ≤ sizeLine ∧ ∃ (its : List Value) (n : Nat), Vals xs its ∧ xs.length = its.length ∧ s.heap.get? l = some { cls := .type "list", data := .seq its.toArray n } := by
  obtain ⟨z, its, n, r, e⟩ := I.hok l _ hH
  exact ⟨z, its, n, r, r.length, e⟩
theorem notLongL {n : Nat} (h : n ≤ sizeLine) : Builtin.List.listTooLong n = false := by
  unfold Builtin.List.listTooLong
  exact decide_eq_false (by omega)
end
section
variable {X : Cx}
noncomputable def rAppend : V → List V → Hp → VK → Prop := fun x vs H Q => ∃ l xs y, x = .ref l ∧ vs = [y] ∧ H l = some (.lst xs) ∧ xs.length < sizeLine ∧ Q .non (upd H l (.lst (xs ++ [y])))
theorem mt_append : MtM X "list.append" rAppend := by
  intro pins s σ H x vs v us Q I rx rv h
  obtain ⟨l, xs, y, rfl, rfl, hH, hz, q⟩ := h
  cases rx
  obtain ⟨u, rfl, ru⟩ := rv.one
  obtain ⟨z, its, n, r, hl, e⟩ := I.lstM hH
  refine call_meets F.slot_list_append ⟨_, e, rfl⟩ F.entry_list_append (F.args_list_append_2 _ _) (PySem.list_append l its.toArray n u (by rw [List.size_toArray]; omega)) ⟨e, ?_⟩
  refine ⟨.non, _, I.lset (its' := its ++ [u]) hH e (by simp) (r.append (.cons ru .nil)) ?_, rfl, q⟩
  rw [List.length_append, List.length_singleton]
  omega
noncomputable def rPopAt : V → List V → Hp → VK → Prop := fun x vs H Q => ∃ l xs i k y, x = .ref l ∧ vs = [.int i] ∧ H l = some (.lst xs) ∧ -(2 ^ 63) ≤ i ∧ i < 2 ^ 63 ∧ seqIndex? i xs.length = some k ∧ xs[k]? = some y ∧ Q y (upd H l (.lst (xs.eraseIdx k)))
theorem mt_popAt : MtM X "list.pop" rPopAt := by
  intro pins s σ H x vs v us Q I rx rv h
  obtain ⟨l, xs, i, k, y, rfl, rfl, hH, h1, h2, hk, hy, q⟩ := h
  cases rx
  obtain ⟨u, rfl, ru⟩ := rv.one
  obtain ⟨t, rfl⟩ := ru
  obtain ⟨z, its, n, r, hl, e⟩ := I.lstM hH
  obtain ⟨w, hw, rw'⟩ := r.get hy
  refine call_meets F.slot_list_pop ⟨_, e, rfl⟩ F.entry_list_pop (F.args_list_pop_2 _ _)
    (MeetsSeq.list_pop_at l its.toArray n i t k w (fitsIndex_both h1 h2) (by rw [List.size_toArray, ← hl]; exact hk) (by rw [← Array.getElem?_toList]; exact hw) (by rw [List.size_toArray]; omega)) ⟨e, ?_⟩
  refine ⟨y, _, I.lset (its' := its.eraseIdx k) hH e ?_ (r.eraseIdx k) ?_, rw', q⟩
  · show its.toArray.eraseIdxIfInBounds k = (its.eraseIdx k).toArray
    rw [List.eraseIdxIfInBounds_toArray]
  · have := len_erase xs k
    omega
noncomputable def rCat : R2 := fun x y H Q => ∃ l b xs zs, x = .ref l ∧ y = .ref b ∧ H l = some (.lst xs) ∧ H b = some (.lst zs) ∧ xs.length + zs.length ≤ sizeLine ∧ ∀ p, H p = none → Q (.ref p) (upd H p (.lst (xs ++ zs)))
theorem op_cat : OpR X (binaryOp .Add) rCat := by
  intro pins s σ H x y v u Q I rx ry h
  obtain ⟨l, b, xs, zs, rfl, rfl, hH, hB, hz, q⟩ := h
  cases rx
  cases ry
  obtain ⟨z, its, n, r, hl, e⟩ := I.lstM hH
  obtain ⟨z2, its2, n2, r2, hl2, e2⟩ := I.lstM hB
  refine PySem.P.add_list e e2 ?_ (by rw [List.size_toArray, List.size_toArray]; omega)
  have ea : its.toArray ++ its2.toArray = (its ++ its2).toArray := by simp
  rw [ea]
  exact ⟨.ref _, _, I.lnew (t' := s.toks) (r.append r2) (by rw [List.length_append]; omega), rfl, q _ I.fresh⟩
noncomputable def rRep : R2 := fun x y H Q => ∃ l k xs, x = .ref l ∧ y = .int k ∧ H l = some (.lst xs) ∧ -(2 ^ 63) ≤ k ∧ k < 2 ^ 63 ∧ xs.length * k.toNat ≤ sizeLine ∧
  ∀ p, H p = none → Q (.ref p) (upd H p (.lst (List.replicate k.toNat xs).flatten))
theorem len_rep {α : Type} (xs : List α) (k : Nat) : (List.replicate k xs).flatten.length = k * xs.length := by
  induction k with
  | zero => simp
  | succ k ih => rw [List.replicate_succ, List.flatten_cons, List.length_append, ih, Nat.succ_mul, Nat.add_comm]
theorem op_rep : OpR X (binaryOp .Mult) rRep := by
  intro pins s σ H x y v u Q I rx ry h
  obtain ⟨l, k, xs, rfl, rfl, hH, h1, h2, hz, q⟩ := h
  cases rx
  obtain ⟨t, rfl⟩ := ry
  obtain ⟨z, its, n, r, hl, e⟩ := I.lstM hH
  have hlen : its.toArray.size * k.toNat ≤ sizeLine := by rw [List.size_toArray, ← hl]; exact hz
  have hcap : ¬ its.toArray.size * k.toNat > (2 ^ 63 - 1) / 8 := by
    have : (sizeLine : Nat) ≤ (2 ^ 63 - 1) / 8 := by decide
    omega
  have hfit : ¬ (!Builtin.List.listFitsIndex k) = true := by
    rw [fitsIndex_both h1 h2]
    exact Bool.false_ne_true
  have hlong : ¬ Builtin.List.listTooLong (its.toArray.size * k.toNat) = true := by
    rw [notLongL hlen]
    exact Bool.false_ne_true
  have hnew : List.foldl (fun x1 x2 => x1 ++ x2) #[] (List.replicate (if its.toArray.isEmpty = true then 0 else k.toNat) its.toArray) = (List.replicate k.toNat its).flatten.toArray := by
    have f0 : ∀ m : Nat, List.foldl (fun x1 x2 => x1 ++ x2) #[] (List.replicate m its.toArray) = (List.replicate m its).flatten.toArray := fun m => by
      have := foldl_rep its m []
      rw [List.nil_append] at this
      exact this
    rw [f0]
    cases its with
    | nil => simp
    | cons a r' => rw [if_neg (by simp)]
  refine wpAny_binaryOp_repeat_ref (T := "list") (U := "int") (by decide) ⟨_, e, rfl⟩ (fun s' => typeIs_int s' k t) noFill_list_mul F.fills_int_mul F.slot_int_rmul repeat_list F.slot_int_index.lookup
    (call_meets F.slot_int_rmul (typeIs_int s k t) F.entry_int_rmul (F.args_int_rmul_2 _ _) (int___rmul___int_list k t l its.toArray n)
      ⟨e, rfl, ⟨_, e, rfl⟩, call_meets F.slot_list_mul ⟨_, e, rfl⟩ F.entry_list_mul (F.args_list_mul_2 _ _) (AutoListH.list___mul___list_int_3 l its.toArray n k t hfit hcap hlong) ⟨e, ?_⟩⟩)
  rw [hnew]
  exact ⟨.ref _, _, I.lnew (t' := s.toks) (r.rep k.toNat) (by rw [len_rep, Nat.mul_comm]; exact hz), rfl, q _ I.fresh⟩
end
section
variable {prog : Program} {w : World} {A : Around} {E : Value → Shared → Prop} {s : Shared}
end
section
variable {X : Cx}
end
end L2
namespace Att
open PySem PySem.W PySem.Calls PyProof.Rows
theorem ints_of_wellAll {P : Params} {h : Heap} : ∀ (ns : List Int) (vs : List Value), WellAll P h vs (ns.map WData.int) → IntsAre vs ns := by
  intro ns
  induction ns with
  | nil =>
    intro vs w
    rw [List.map_nil] at w
    cases w
    exact .nil
  | cons n ns ih =>
    intro vs w
    rw [List.map_cons] at w
    cases w with
    | cons a b =>
      cases a
      exact .cons _ _ (ih _ b)
theorem script_of {l : OpenLaw} {n : Nat} (hn : l.most = some n) {P : Params} {h : Heap} {args : List WData} {vals : List Value}
    (hpre : l.row.toRowW.claim.pre args = true) (hwl : WellAll P h vals args) :
    ∃ a vs ns, vals = [Value.ref a] ∧ args = [WData.list (ns.map WData.int)] ∧ h.get? a = some { cls := .type "list", data := .seq vs.toArray } ∧ IntsAre vs ns ∧ ns.length ≤ n := by
  have hsh : WShape.hasAll [] args [.list .int] = true := (pre_splitW hpre).1
  have hc : l.pre.holds [] { args := args } = true := (pre_splitW hpre).2
  obtain ⟨d, r, rfl, h1, h2⟩ := hasAllW_cons hsh
  obtain rfl := hasAllW_nil h2
  obtain ⟨xs, rfl, h3⟩ := hasW_list h1
  obtain ⟨ns, rfl⟩ := items_int h3
  have hlen : ns.length ≤ n := by
    unfold OpenLaw.pre at hc
    have h4 : (WTm.not (.lt (.lit (.int (n : Int))) (.len (.arg 0)))).holds [] { args := [.list (ns.map .int)] } = true := by
      have h4 := (holds_andW hc).1
      rw [hn] at h4
      exact h4
    have h5 := condW_of h4 (w_not (w_lt w_lit (w_len_list (w_arg rfl))))
    rw [List.length_map] at h5
    refine Nat.le_of_not_lt fun q => ?_
    have q' : (n : Int) < ((ns.length : Nat) : Int) := by omega
    first
      | (rw [decide_eq_true q'] at h5; exact absurd h5 (by decide))
      | (simp at h5; omega)
  cases hwl with
  | cons w1 w2 =>
    cases w2
    cases w1 with
    | list ho hall => exact ⟨_, _, ns, rfl, rfl, ho, ints_of_wellAll ns _ hall, hlen⟩
theorem post_true (l : OpenLaw) (args : List WData) : l.row.toRowW.claim.post args (.bool true) args = true :=
  postW_of (r := l.row.toRowW) (X := (true == true))
    (show WShape.has [] (.bool true) .bool = true by first | rfl | decide | simp [WShape.has, WShape.arms, WShape.armsAll])
    (show (WTm.eq .res (.lit (.bool true))).value [] { args := args, res := some (.bool true), after := args } = some (.bool (true == true)) from w_eq_bool (w_res rfl) w_lit) rfl
theorem lay_bits {ns : List Int} (h : WData.layableAll [WData.list (ns.map WData.int)] = true) : ∀ x ∈ ns, Builtin.Int.intBits x ≤ 1048576 := by
  have h1 : WData.layable (WData.list (ns.map WData.int)) = true := by
    have h' : (WData.layable (WData.list (ns.map WData.int)) && true) = true := h
    rwa [Bool.and_true] at h'
  unfold WData.layable at h1
  rw [Bool.and_eq_true] at h1
  have h2 := of_decide_eq_true h1.2
  have h3 : WData.weightAll (ns.map WData.int) ≤ 2 ^ 20 := by
    have e : WData.weight (WData.list (ns.map WData.int)) = WData.weightAll (ns.map WData.int) := by simp only [WData.weight]
    rwa [e] at h2
  have h4 : ∀ (l : List Int), ∀ x ∈ l, WData.weight (WData.int x) ≤ WData.weightAll (l.map WData.int) := by
    intro l
    induction l with
    | nil => intro x hx; cases hx
    | cons y r ih =>
      intro x hx
      have e : WData.weightAll ((y :: r).map WData.int) = WData.weight (WData.int y) + 1 + WData.weightAll (r.map WData.int) := by
        rw [List.map_cons]; simp only [WData.weightAll]
      rw [e]
      rcases List.mem_cons.mp hx with z | z
      · subst z; omega
      · have := ih x z; omega
  intro x hx
  have h5 := Nat.le_trans (h4 ns x hx) h3
  have e : WData.weight (WData.int x) = Builtin.Int.intBits x := by
    simp only [WData.weight]
    unfold Builtin.Int.intBits
    by_cases hz : x = 0
    · subst hz; rfl
    · have hb : (x == 0) = false := by simpa using hz
      simp [hz]
  rw [e] at h5
  exact h5
theorem attach_call {l : OpenLaw} {n : Nat} {q : Program} {loose : List Str} {XP : (Str → Option Value) → Heap → Prop} {YP : World → Heap → Prop} {d : DefRec}
    (hn : l.most = some n) (hdf : d.params.defaults = [])
    (call : ∀ (w : World) (s₀ s₁ : Shared) (mg mb : Str → Option Value) (fa : Addr) (o : Obj) (pm cd doc : Value) (a : Addr) (vs : List Value) (ns : List Int),
      Ground q loose [] XP w s₀ mg mb s₁.heap → YP w s₁.heap →
      s₁.heap.get? fa = some o → o.data = .func (docDef d.name d.params d.body d.scope pm cd doc) → s₁.heap.CodeRec cd d.name → mg d.name = some (.ref fa) →
      s₁.heap.get? a = some { cls := .type "list", data := .seq vs.toArray } → IntsAre vs ns → ns.length ≤ n → (∀ x ∈ ns, Builtin.Int.intBits x ≤ 1048576) → s₁.gens = #[] →
      codeAny (model l.prog w) callerA (.call (.ref fa) ⟨[.ref a], []⟩) (fun r s' => r = .ok (.ret (.bool true)) ∧ OldK s₁.heap s'.heap ∧ s'.os = s₁.os ∧ AllBare s'.gens) s₁) :
    WalkO q loose XP YP l.row.toRowW d [] (fun f vs => PySem.call f vs) := by
  intro w s₀ s₁ mg mb G Y fa o pm cd doc dV kV ho hd hcd hD hmg hg args vals as hpre hlay hrd hwl hlo
  obtain rfl : dV = .none := Dflts.none hD hdf
  obtain rfl : kV = .none := Dflts.noKw hD
  obtain ⟨a, vs, ns, rfl, rfl, hobj, hints, hlen⟩ := script_of hn hpre hwl
  refine enter_call (codeAny_mono (call w s₀ s₁ mg mb fa o pm cd doc a vs ns G Y ho (fd_plain hd) hcd hmg hobj hints hlen (lay_bits hlay) hg) fun r s' hq => ?_)
  obtain ⟨rfl, h2, h3, h4⟩ := hq
  exact ⟨.inl ⟨.bool true, .bool true, [], rfl, fun _ => rfl, .bool true, post_true l _, fun _ => ⟨List.Pairwise.nil, fun _ hm => (nomatch hm)⟩⟩, h2, h3, h4⟩
section
variable {prog : Program} {w : World} {A : Around} {E : Value → Shared → Prop} {s : Shared} {K : Frag}
end
end Att
namespace L2
open PySem PySem.Spec PyProof.Rows
theorem vals_ints : ∀ {vs : List Value} {ns : List Int}, IntsAre vs ns → Vals (ns.map V.int) vs
  | _, _, .nil => .nil
  | _, _, .cons n t h => .cons ⟨t, rfl⟩ (vals_ints h)
noncomputable def Only (H : Hp) : Prop := ∀ b, H b = none ∨ ∃ o xs, H b = some (.frz o (.lst xs))
theorem law_call {P : Program} {w : World} {K : PySem.W.Frag} {mg mb : Str → Option Value} {CX : CXT} {k : Nat} {fa a : Addr} {fd : FuncData} {x : Str} {sp : Sp} {s₁ : Shared} {vs : List Value} {ns : List Int}
    (KX : K.In s₁.heap) (hns : s₁.heap.Ns mainGlobals mg) (hb : s₁.heap.Ns builtinsNs mb) (hbb : ∀ x : Str, x ≠ "__name__" → mb x = bootBuiltins x) (hlim : s₁.heap.NoLimit) (hsr : s₁.heap.NoSeer) (hg : s₁.gens = #[])
    (ha : s₁.heap.get? a = some { cls := .type "list", data := .seq vs.toArray }) (hi : IntsAre vs ns) (hl : ns.length ≤ sizeLine) (hr : Room k callerA)
    (F : ∀ base : Heap, K.In base → base.Ns mainGlobals mg → FnOk P w K mg base CX k fa fd [x] sp) (hbind : ∀ (s : Shared) (u : Value), BindsTo s fd ⟨[u], []⟩ [(x, u)])
    (hsp : ∀ H : Hp, Only H → SqL K H a (ns.map V.int) → sp [.ref a] H (fun v _ => v = .bl true) fun _ _ _ => False)
    (hCX : ∀ H e s', CX [] H s₁ (fun _ _ _ => False) e s' → False) :
    codeAny (model P w) callerA (.call (.ref fa) ⟨[.ref a], []⟩) (fun r s' => r = .ok (.ret (.bool true)) ∧ OldK s₁.heap s'.heap ∧ s'.os = s₁.os ∧ AllBare s'.gens) s₁ := by
  have rv := vals_ints hi
  have lenV := hi.length
  have core : ∀ H : Hp, Only H → SqL K H a (ns.map V.int) → HOk P w H s₁.heap → (∀ b, H b ≠ none → b = a) → (H a ≠ none → K.lookup a = none) →
      codeAny (model P w) callerA (.call (.ref fa) ⟨[.ref a], []⟩) (fun r s' => r = .ok (.ret (.bool true)) ∧ OldK s₁.heap s'.heap ∧ s'.os = s₁.os ∧ AllBare s'.gens) s₁ := by
    intro H hO hS hok hA hK
    have base_of : ∀ {b : Addr} {o : Obj}, s₁.heap.get? b = some o → H b = none → (hidT s₁.heap H).get? b = some o := fun e n => hidT_get e n
    have noA : ∀ {b : Addr} {o : Obj} {es : Array DictEntry} {ep : Nat}, s₁.heap.get? b = some o → o.data = .dict es ep → H b = none := fun {b o es ep} e d => by
      cases q : H b with
      | none => rfl
      | some u =>
        have e' : b = a := hA b (by rw [q]; simp)
        subst e'
        rw [ha] at e; cases e
        have d' : Data.seq vs.toArray _ = Data.dict es ep := d
        cases d'
    have nsK : ∀ {b : Addr} {m : Str → Option Value}, s₁.heap.Ns b m → (hidT s₁.heap H).Ns b m := fun {b m} ⟨o, es, ep, e, d, r⟩ => ⟨o, es, ep, base_of e (noA e d), d, r⟩
    have hKb : K.In (hidT s₁.heap H) := fun b o e => base_of (KX b o e) (by
      cases q : H b with
      | none => rfl
      | some u =>
        have e' : b = a := hA b (by rw [q]; simp)
        subst e'
        rw [hK (by rw [q]; simp)] at e; cases e)
    have noC : ∀ {b : Addr} {o : Obj}, s₁.heap.get? b = some o → o.cls ≠ .type "list" → H b = none := fun {b o} e d => by
      cases q : H b with
      | none => rfl
      | some u =>
        have e' : b = a := hA b (by rw [q]; simp)
        subst e'
        rw [ha] at e; cases e
        exact absurd rfl d
    have hSr : (hidT s₁.heap H).NoSeer := ⟨let ⟨mc, h1, h2⟩ := hsr.statics; ⟨mc, nsK h1, h2⟩, let ⟨mc, h1, h2⟩ := hsr.mods; ⟨mc, nsK h1, h2⟩, let ⟨mc, h1, h2⟩ := hsr.imp; ⟨mc, nsK h1, h2⟩,
      let ⟨mg', bm, ob, h1, h2, h3, h4, h5⟩ := hsr.main; ⟨mg', bm, ob, nsK h1, h2, base_of h3 (noC h3 (by rw [h4]; decide)), h4, h5⟩⟩
    have hM : Mod K mg (hidT s₁.heap H) := ⟨hKb, nsK hns, ⟨mb, nsK hb, hbb⟩, let ⟨mc, h1, h2⟩ := hlim; ⟨mc, nsK h1, h2⟩, hSr⟩
    have e0 : Env0 P w K mg (hidT s₁.heap H) callerA [] s₁ H := ⟨rfl, hM, fun b o e => of_hidT e, Nat.le_of_eq (hidT_size _ _), trivial, fun b hb => absurd (show b ∈ ([] : List Addr) from hb) (by simp), hok, .of_eq hg⟩
    refine codeAny_mono ((F _ hKb (nsK hns)).run callerA [] s₁ H ⟨[.ref a], []⟩ [.ref a] [.ref a] _ _ hr e0 (hbind s₁ (.ref a)) (.cons rfl .nil) (hsp H hO hS)) fun r s' h => ?_
    cases r with
    | error e => exact (hCX H e s' h).elim
    | ok fl =>
      cases fl with
      | next => exact False.elim h
      | brk => exact False.elim h
      | cont => exact False.elim h
      | ret u =>
        obtain ⟨v, H', os, bare, un, hok', r', q⟩ := h
        have q' : v = .bl true := q
        subst q'
        obtain rfl : u = Value.bool true := r'
        refine ⟨rfl, OldK.of_keep fun b o e => ?_, os, bare⟩
        cases q : H b with
        | none => exact un.keep b o e q (by intro z; exact absurd (show b ∈ ([] : List Addr) from z) (by simp)) (by simp)
        | some u =>
          rcases hO b with z | ⟨ob, xs, z⟩
          · rw [q] at z; cases z
          · have z2 := un.frzs b ob _ z
            obtain ⟨e1, _⟩ := hok b _ z
            obtain ⟨e2, _⟩ := hok' b _ z2
            rw [e] at e1; cases e1
            exact e2
  cases hk : K.lookup a with
  | some o =>
    have e := KX a o hk
    rw [ha] at e
    cases e
    refine core (fun _ => none) (fun _ => .inl rfl) (.inr ⟨_, vs.toArray, _, hk, rfl, rfl, rfl, by rw [List.size_toArray, lenV]; exact hl, by simpa using rv⟩) (fun b u z => by have z' : (none : Option HO) = some u := z; cases z') (fun b z => absurd rfl z) fun z => absurd rfl z
  | none =>
    refine core (fun b => if b = a then some (.frz { cls := .type "list", data := .seq vs.toArray } (.lst (ns.map V.int))) else none) (fun b => ?_) (.inl (.inr ⟨{ cls := .type "list", data := .seq vs.toArray }, if_pos rfl⟩)) (fun b u z => ?_) (fun b z => ?_) fun _ => hk
    · by_cases hb : b = a
      · exact .inr ⟨_, _, if_pos hb⟩
      · exact .inl (if_neg hb)
    · by_cases hb : b = a
      · have z' := (if_pos hb).symm.trans z
        cases z'
        subst hb
        exact ⟨ha, by rw [List.length_map]; exact hl, vs, _, rv, ha⟩
      · have z' := (if_neg hb).symm.trans z
        cases z'
    · by_cases hb : b = a
      · exact hb
      · exact absurd (if_neg hb) z
end L2
namespace L2
open PySem PySem.Spec PyProof.Rows
theorem walk_of {l : PySem.W.OpenLaw} {n k : Nat} {q : Program} {loose : List Str} {XP : (Str → Option Value) → Heap → Prop} {YP : World → Heap → Prop} {d : DefRec} {K : Params → PySem.W.Frag} {CX : World → CXT} {sp : World → Sp} {x : Str}
    (hn : l.most = some n) (hn2 : n ≤ sizeLine) (hdf : d.params.defaults = []) (hq : importsNone q = true) (hr : Room k callerA)
    (hY : ∀ (w : World) (h : Heap), YP w h → (K w.params).In h)
    (F : ∀ (w : World) (mg : Str → Option Value) (fa : Addr) (h : Heap), (K w.params).In h → h.Ns mainGlobals mg → mg d.name = some (.ref fa) →
      ∃ fd : FuncData, (∀ (s : Shared) (u : Value), BindsTo s fd ⟨[u], []⟩ [(x, u)]) ∧
        ∀ base : Heap, (K w.params).In base → base.Ns mainGlobals mg → FnOk l.prog w (K w.params) mg base (CX w) k fa fd [x] (sp w))
    (hsp : ∀ (w : World) (H : Hp) (a : Addr) (ns : List Int), ns.length ≤ n → (∀ x ∈ ns, Builtin.Int.intBits x ≤ 1048576) → Only H → SqL (K w.params) H a (ns.map V.int) → sp w [.ref a] H (fun v _ => v = .bl true) fun _ _ _ => False)
    (hCX : ∀ (w : World) (H : Hp) (s : Shared) (e : Value) (s' : Shared), CX w [] H s (fun _ _ _ => False) e s' → False) :
    PySem.W.WalkO q loose XP YP l.row.toRowW d [] (fun f vs => PySem.call f vs) := by
  refine Att.attach_call hn hdf fun w s₀ s₁ mg mb fa o pm cd doc a vs ns G Y ho hd hcd hmg hobj hints hlen hbt hg => ?_
  have KX := hY w _ Y
  obtain ⟨fd, hb, hF⟩ := F w mg fa _ KX G.T.g hmg
  exact law_call KX G.T.g G.T.b G.T.builtins G.T.nolimit (G.T.seer hq) hg hobj hints (Nat.le_trans hlen hn2) hr hF hb (fun H hO hS => hsp w H a ns hlen hbt hO hS) fun H e s' => hCX w H s₁ e s'
end L2
namespace L2
open PySem PySem.Spec PyProof.Rows
def inClass (s : Stmt) (j : Nat) : Stmt := match s with
  | .ClassDef _ _ _ body _ _ _ _ _ _ _ => body.getD j (.Pass ⟨0, 0, 0, 0⟩)
  | _ => .Pass ⟨0, 0, 0, 0⟩
noncomputable def defArgs (s : Stmt) : Arguments := match s with
  | .FunctionDef _ a _ _ _ _ _ _ _ _ => a
  | _ => { posonlyargs := [], args := [], vararg := none, kwonlyargs := [], kw_defaults := [], kwarg := none, defaults := [] }
noncomputable def defBody (s : Stmt) : List Stmt := match s with
  | .FunctionDef _ _ b _ _ _ _ _ _ _ => b
  | _ => []
noncomputable def defScope (s : Stmt) : Scope := match s with
  | .FunctionDef _ _ _ _ _ _ sc _ _ _ => sc
  | _ => { kind := .function, names := [], isGenerator := false, isCoroutine := false }
abbrev CX0 : CXT := fun _ _ _ _ _ _ => False
abbrev E0 : XK := fun _ _ _ => False
theorem pass0 {X : Cx} : Passes CX0 X E0 := fun _ _ _ _ _ _ _ h => h.elim
structure Fun (K : PySem.W.Frag) (x qual : Str) (st : Stmt) (f : Addr) (fd : FuncData) : Prop where
  ex : ∃ (oc : Value) (od : Option Addr) (kV doc pm : Value) (an : Option Addr) (cdv ct : Value) (osl : Array (Option Value)),
    fd = PySem.W.fnOf x qual (defArgs st) (defBody st) (defScope st) .none kV doc pm an cdv ct ∧ K.lookup f = some ⟨oc, od, .func fd, osl⟩ ∧ PySem.W.codeIn K cdv qual = true
  kp : PySem.W.keepIn K (.ref f) = true
section
variable {P : Program} {w : World} {K : PySem.W.Frag} {mg : Str → Option Value} {base : Heap}
theorem Fun.ok {x qual : Str} {st : Stmt} {f : Addr} {fd : FuncData} {N ps : List Str} {k : Nat} {sp : Sp} (F : Fun K x qual st f fd) (S : FnScope N ps (defScope st)) (len : ∀ vs H Q E, sp vs H Q E → vs.length = ps.length)
    (hbody : ∀ (cdv : Value) (A : Around) (outer : List Env) (s : Shared) (H : Hp) (vs : List V) (Q : VK) (E : XK), Room k (A.deeper (envOfC qual (defScope st) s.heap.objs.size f cdv)) → sp vs H Q E →
      ∃ t, PSs (cxOf CX0 P w K mg base N qual (defScope st) f cdv A outer s H E).nox (defBody st) t ∧ t { nx := fun _ H' => Q .non H', rt := Q } (start N vs) H) : FnOk P w K mg base CX0 (k + 1) f fd ps sp := by
  obtain ⟨oc, od, kV, doc, pm, an, cdv, ct, osl, rfl, lk, hcd⟩ := F.ex
  refine fn_of lk hcd S len fun A outer s H vs Q E hr hsp => ?_
  obtain ⟨t, h, q⟩ := hbody cdv A outer s H vs Q E hr hsp
  exact ⟨t, h.nox, q⟩
theorem Fun.binds {x qual : Str} {st : Stmt} {f : Addr} {fd : FuncData} {ps : List Str} (F : Fun K x qual st f fd)
    (h : ∀ (kV doc pm : Value) (an : Option Addr) (cdv ct : Value) (us : List Value), us.length = ps.length → bindArgs (PySem.W.fnOf x qual (defArgs st) (defBody st) (defScope st) .none kV doc pm an cdv ct) ⟨us, []⟩ = pure (ps.zip us)) : Binds K fd ps [] := by
  obtain ⟨oc, od, kV, doc, pm, an, cdv, ct, osl, rfl, lk, hcd⟩ := F.ex
  exact .all (h kV doc pm an cdv ct)
theorem fun_mk {x qual : Str} {st : Stmt} {f : Addr} {oc : Value} {od an : Option Addr} {osl : Array (Option Value)} {kV doc pm cdv ct : Value} (l : K.lookup f = some ⟨oc, od, .func (PySem.W.fnOf x qual (defArgs st) (defBody st) (defScope st) .none kV doc pm an cdv ct), osl⟩)
    (c : PySem.W.codeIn K cdv qual = true) (k : PySem.W.keepIn K (.ref f) = true) : Fun K x qual st f (PySem.W.fnOf x qual (defArgs st) (defBody st) (defScope st) .none kV doc pm an cdv ct) := ⟨⟨oc, od, kV, doc, pm, an, cdv, ct, osl, rfl, l, c⟩, k⟩
end
theorem hu_of {A : Around} {k : Nat} (hr : Room k A) : A.units + 1 < cLine := Nat.lt_of_le_of_lt (Nat.add_le_add_left (by decide : 1 ≤ 64) _) hr.units
theorem small1000 {n : Nat} (h : n ≤ 1000) : n < sizeLine := Nat.lt_of_le_of_lt h (by decide)
section
variable {X : Cx}
theorem pv (i : Nat) {x : Str} {pos : Pos} (hN : X.N[i]? = some x := by rfl) (hv : Vis X.env.scope x := by first | exact Or.inl rfl | exact Or.inr (Or.inl rfl) | exact Or.inr (Or.inr rfl)) (hd : (x == ("__debug__" : Str)) = false := by decide)
    (hcd : (x == ("__classdict__" : Str)) = false := by decide) : PE X (.Name x pos) (tVar i) := pe_var hN hv hd hcd
end
theorem iteF {A B : Prop} (h : B) : if false = true then A else B := by
  rw [if_neg Bool.false_ne_true]
  exact h
theorem iteT {A B : Prop} (h : A) : if true = true then A else B := by
  rw [if_pos rfl]
  exact h
theorem ite2 {c A B : Prop} [Decidable c] (h1 : c → A) (h2 : ¬ c → B) : if c then A else B := by
  by_cases h : c
  · rw [if_pos h]
    exact h1 h
  · rw [if_neg h]
    exact h2 h
noncomputable def Same (H H' : Hp) : Prop := ∀ b o, H b = some o → H' b = some o
theorem Same.refl (H : Hp) : Same H H := fun _ _ h => h
theorem Same.trans {H H1 H2 : Hp} (a : Same H H1) (b : Same H1 H2) : Same H H2 := fun c o h => b c o (a c o h)
theorem Same.free {H H' : Hp} (e : Same H H') {l : Addr} (h : H' l = Option.none) : H l = Option.none := by
  cases q : H l with
  | none => rfl
  | some o =>
    rw [e l o q] at h
    cases h
theorem Same.seq {K : PySem.W.Frag} {H H' : Hp} {a : Addr} {xs : List V} (e : Same H H') (h : SqL K H a xs) : SqL K H' a xs := by
  rcases h with (h | ⟨o, h⟩) | h
  · exact .inl (.inl (e _ _ h))
  · exact .inl (.inr ⟨o, e _ _ h⟩)
  · exact .inr h
end L2
namespace L2
open PySem PySem.Spec PyProof.Rows
section
variable {X : Cx}
noncomputable def ziS:R2:=fun x y H Q=>∃i j,x=.int i∧y=.int j∧Q (.int (i+j)) H
noncomputable def ziT:R2:=fun x y H Q=>∃i j,x=.int i∧y=.int j∧Q (.int (i-j)) H
theorem qz:OpR X (binaryOp .Add) ziS:=op_add
theorem ji:OpR X (binaryOp .Sub) ziT:=op_sub
noncomputable def zeX (i j:Int):Prop:=∃m n:Nat,Builtin.Int.intBits i≤m∧Builtin.Int.intBits j≤n∧m+n≤134217728
noncomputable def ziU:R2:=fun x y H Q=>∃i j,x=.int i∧y=.int j∧zeX i j∧Q (.int (i*j)) H
theorem jc:OpR X (binaryOp .Mult) ziU:=opI (C:=zeX) (g:=fun i j=>i*j) fun _ _ _ _ _ _ _ hc q=>by
 obtain⟨m,n,h1,h2,h3⟩:=hc
 exact mul_int q (IntMulOk.of_le h1 h2 h3)
noncomputable def zeY (j:Int):Prop:=0<j∧Builtin.Int.intBits j≤9000
noncomputable def ziV:R2:=fun x y H Q=>∃i j,x=.int i∧y=.int j∧zeY j∧Q (.int (i / j)) H
theorem Xu:OpR X (binaryOp .FloorDiv) ziV:=opI (C:=fun _ j=>zeY j) (g:=fun i j=>i / j) fun i j _ _ _ _ _ hc q=>by
 have h1:(0:Int)<j:=hc.1
 have h3:j.natAbs.log2<9000:=(Nat.log2_lt (by omega)).mpr (intBits_le_iff.mp hc.2)
 exact floordiv_int (by omega) (by rw [Int.fdiv_eq_ediv_of_nonneg i (by omega)];exact q) (.inl (PyProof.noPylong_of_log2 h3))
noncomputable def ziW:R2:=fun x y H Q=>∃i j,x=.int i∧y=.int j∧0<j∧Q (.int (i % j)) H
theorem ql:OpR X (binaryOp .Mod) ziW:=op_mod
noncomputable def ziX:R2:=fun x y H Q=>∃i j,x=.int i∧y=.int j∧CPow i j∧Q (.int (i ^ j.toNat)) H
theorem vU:OpR X (binaryOp .Pow) ziX:=op_pow
noncomputable def ziY:R2:=fun x y H Q=>∃i j,x=.int i∧y=.int j∧CPow i j∧Q (.int (i*2 ^ j.toNat)) H
theorem zek:OpR X (binaryOp .LShift) ziY:=op_shl
noncomputable def zj3:R2:=fun x y H Q=>∃i j,x=.int i∧y=.int j∧Q (.bl (decide (i<j))) H
noncomputable def zj4:R2:=fun x y H Q=>∃i j,x=.int i∧y=.int j∧Q (.bl (decide (i≤j))) H
noncomputable def zj5:R2:=fun x y H Q=>∃i j,x=.int i∧y=.int j∧Q (.bl (decide (j<i))) H
noncomputable def zj6:R2:=fun x y H Q=>∃i j,x=.int i∧y=.int j∧Q (.bl (decide (j≤i))) H
noncomputable def zj7:R2:=fun x y H Q=>∃i j:Int,x=.int i∧y=.int j∧Q (.bl (decide (i=j))) H
noncomputable def zj8:R2:=fun x y H Q=>∃i j:Int,x=.int i∧y=.int j∧Q (.bl (!decide (i=j))) H
theorem X7:OpR X (compareOp .Lt) zj3:=op_lt
theorem zdg:OpR X (compareOp .LtE) zj4:=op_le
theorem X8:OpR X (compareOp .Gt) zj5:=op_gt
theorem Km:OpR X (compareOp .GtE) zj6:=op_ge
theorem vq:OpR X (compareOp .Eq) zj7:=by
 intro pins s σ H x y v u Q I rx ry h
 obtain⟨i,j,rfl,rfl,q⟩:=h
 refine op_eq pins s σ H _ _ v u Q I rx ry ⟨rfl,?_⟩
 have e:decide (V.int i=V.int j)=decide (i=j):=decide_eq_decide.mpr ⟨fun z=>V.int.inj z,fun z=>by rw [z]⟩
 rw [e];exact q
theorem zbI:OpR X (compareOp .NotEq) zj8:=by
 intro pins s σ H x y v u Q I rx ry h
 obtain⟨i,j,rfl,rfl,q⟩:=h
 refine op_ne pins s σ H _ _ v u Q I rx ry ⟨rfl,?_⟩
 have e:decide (V.int i=V.int j)=decide (i=j):=decide_eq_decide.mpr ⟨fun z=>V.int.inj z,fun z=>by rw [z]⟩
 rw [e];exact q
noncomputable def zeZ (X:Cx):Prop:=∀(pins:List (Addr×Obj)) (σ:St) (H:Hp) (s:Shared),Inv X pins σ H s→PylongRoom (model X.prog X.w) X.A s
noncomputable def ziZ:R2:=fun x y H Q=>∃i j,x=.int i∧y=.int j∧0<j∧Q (.int (i / j)) H
theorem zaV (hp:zeZ X):OpR X (binaryOp .FloorDiv) ziZ:=by
 intro pins s σ H x y v u Q I rx ry h
 obtain⟨i,j,rfl,rfl,hj,q⟩:=h
 obtain⟨t,rfl⟩:=rx
 obtain⟨t',rfl⟩:=ry
 refine floordiv_int (by omega) ?_ (.inr (hp pins σ H s I))
 rw [Int.fdiv_eq_ediv_of_nonneg i (by omega)]
 exact⟨.int (i / j),H,I.tok _,⟨_,rfl⟩,q⟩
theorem zdh {CX:CXT}{P:Program}{w:World}{K:PySem.W.Frag}{mg:Str→Option Value}{base:Heap}{N ps:List Str}{qual:Str}{scope:Scope}{f:Addr}{cdv:Value}{A:Around}{outer:List Env}{s:Shared}{H:Hp}{E:XK}
  (hP:P.given.tree=none) (S:FnScope N ps scope) (hr:Room 35 (A.deeper (envOfC qual scope s.heap.objs.size f cdv))):zeZ ((cxOf CX P w K mg base N qual scope f cdv A outer s H E).nox):=by
 intro pins σ H' s' I
 have I':=I.unwish
 refine PylongRoom.of I'.nolimit ?_ (SeerAt.of (I'.mod.seer.keeps I'.bk) hP I'.ok.frames S.gen S.co rfl rfl)
 have:=hr.dp
 show (A.deeper (envOfC qual scope s.heap.objs.size f cdv)).depth+100 < _
 omega
theorem Wn:MtR X "int.bit_length" (fun x vs H Q=>∃i,x=.int i∧vs=[]∧Q (.int (Builtin.Int.intBits i:Nat)) H):=by
 intro pins s σ H x xs v us Q I rx rv h
 obtain⟨i,rfl,rfl,q⟩:=h
 obtain⟨t,rfl⟩:=rx
 cases rv
 exact call_int_bit_length ⟨.int _,H,I.tok _,⟨_,rfl⟩,q⟩
theorem VD:CallR X (.builtin "isinstance") (fun xs H Q=>∃x n t b,xs=[x,.ty n]∧TyOf X.K H x t∧PySem.W.kitOne X.K t (.type n)=some b∧Q (.bl b) H):=by
 intro pins s σ H xs us Q I r h
 obtain⟨x,n,t,b,rfl,ty,e,q⟩:=h
 obtain⟨u,c,rfl,rx,rc⟩:=vals2 r
 cases (show c=Value.type n from rc)
 exact isinst_ok I rx ty e fun tk=>⟨.bl b,H,I.tok tk,rfl,q⟩
end
noncomputable def Def (K:PySem.W.Frag) (mg:Str→Option Value) (x:Str) (st:Stmt) (ps:List Str):Prop:=
 ∃f fd,Fun K x x st f fd∧Binds K fd ps []∧mg x=some (.ref f)
noncomputable def Fn (P:Program) (w:World) (K:PySem.W.Frag) (mg:Str→Option Value) (base:Heap) (k:Nat) (x:Str) (ps:List Str) (sp:Sp):Prop:=
 ∃f fd,FnOk P w K mg base CX0 k f fd ps sp∧PySem.W.keepIn K (.ref f)=true∧Binds K fd ps []∧mg x=some (.ref f)
section
variable {P:Program}{w:World}{K:PySem.W.Frag}{mg:Str→Option Value}{base:Heap}
theorem Def.fn {x:Str}{st:Stmt}{N ps:List Str}{k:Nat}{sp:Sp} (D:Def K mg x st ps) (S:FnScope N ps (defScope st)) (len:∀vs H Q E,sp vs H Q E→vs.length=ps.length)
  (hbody:∀(f:Addr) (cdv:Value) (A:Around) (outer:List Env) (s:Shared) (H:Hp) (vs:List V) (Q:VK) (E:XK),Room k (A.deeper (envOfC x (defScope st) s.heap.objs.size f cdv))→sp vs H Q E →
   ∃t,PSs (cxOf CX0 P w K mg base N x (defScope st) f cdv A outer s H E).nox (defBody st) t∧t { nx:=fun _ H'=>Q .non H',rt:=Q } (start N vs) H):Fn P w K mg base (k+1) x ps sp:=by
 obtain⟨f,fd,F,b,m⟩:=D
 exact⟨f,fd,F.ok S len (fun cdv A outer s H vs Q E hr h=>hbody f cdv A outer s H vs Q E hr h),F.kp,b,m⟩
theorem Fn.mono {j k:Nat}{x:Str}{ps:List Str}{sp:Sp} (F:Fn P w K mg base j x ps sp) (h:j≤k):Fn P w K mg base k x ps sp:=by
 obtain⟨f,fd,F,r⟩:=F
 exact⟨f,fd,F.mono h,r⟩
theorem Fn.imp {k:Nat}{x:Str}{ps:List Str} {sp sp':Sp} (F:Fn P w K mg base k x ps sp) (h:∀vs H Q E,sp' vs H Q E→sp vs H Q E):Fn P w K mg base k x ps sp':=by
 obtain⟨f,fd,F,r⟩:=F
 exact⟨f,fd,F.imp h,r⟩
end
section
variable {X:Cx}{k:Nat}{x:Str}{ps:List Str}{sp:Sp}{p pos:Pos}{e:Expr}{es:List Expr}{t:TA}
noncomputable def tFn (sp:Sp) (t:TA):TE:=fun σ H Q=>t σ H fun vs H1=>sp vs H1 Q E0
theorem zA (F:Fn X.prog X.w X.K X.mg X.base k x ps sp) (hr:Room k X.A) (hg:Gl X x) (ha:PA X (e::es) t) (hdb:(x == ("__debug__":Str))=false:=by decide)
  (he:starEach (e::es) X.env=(false,eval e X.env)::starEach es X.env:=by rfl) (hpl:(backTo pos (starEach es X.env)).any (·.1)=false:=by rfl) :
  PE X (.Call (.Name x p) (e::es) [] pos) (tFn sp t):=by
 obtain⟨f,fd,F,kp,b,m⟩:=F
 have h:=pe_call (p:=p) (pos:=pos) (dvs:=[]) (ds:=[]) F hr hg m kp b .nil pass0 ha hdb he hpl
 intro pins s σ H Q I q
 refine h pins s σ H Q I ?_
 show t σ H fun vs H1=>sp (vs++[]) H1 Q E0
 have q':t σ H fun vs H1=>sp vs H1 Q E0:=q
 simpa only [List.append_nil] using q'
end
theorem ifD {c A B:Prop} [Decidable c] (h1:c→A) (h2:¬c→B):if decide c=true then A else B:=by
 by_cases h:c
 ·rw [if_pos (decide_eq_true h)];exact h1 h
 ·rw [if_neg (fun z=>h (of_decide_eq_true z))];exact h2 h
theorem zbJ {c A B:Prop} [Decidable c] (h1:¬c→A) (h2:c→B):if (!decide c)=true then A else B:=by
 by_cases h:c
 ·rw [if_neg (by rw [decide_eq_true h];decide)];exact h2 h
 ·rw [if_pos (by rw [decide_eq_false h];decide)];exact h1 h
theorem ifF {c A B:Prop} [Decidable c] (h:¬c) (b:B):if decide c=true then A else B:=ifD (fun z=>absurd z h) (fun _=>b)
theorem jy:bootBuiltins "isinstance"=some (.builtin "isinstance"):=by decide +kernel
theorem zaW:bootBuiltins "int"=some (.type "int"):=by decide +kernel
theorem Xv:bootBuiltins "str"=some (.type "str"):=by decide +kernel
theorem QR:bootBuiltins "len"=some (.builtin "len"):=by decide +kernel
theorem zcn:bootBuiltins "max"=some (.builtin "max"):=by decide +kernel
theorem zi0:bootBuiltins "min"=some (.builtin "min"):=by decide +kernel
theorem zaX:bootBuiltins "sorted"=some (.builtin "sorted"):=by decide +kernel
theorem zi1:bootBuiltins "all"=some (.builtin "all"):=by decide +kernel
theorem zaY:bootBuiltins "enumerate"=some (.type "enumerate"):=by decide +kernel
theorem zag:bootBuiltins "ValueError"=some (.type "ValueError"):=by decide +kernel
theorem Same.put {H H':Hp}{p:Addr}{o:HO} (s:Same H H') (h:H' p=Option.none):Same H (upd H' p o):=fun b u e=>by
 have e':=s b u e
 rw [upd_ne (ne_of_none e' h)]
 exact e'
theorem Same.new {H:Hp}{p:Addr}{o:HO} (h:H p=Option.none):Same H (upd H p o):=(Same.refl H).put h
end L2
namespace L2
open PySem PySem.Spec PyProof.Rows
noncomputable def zdi (lo c:Int) (n:Nat):It:=⟨fun i _=>i<n,fun i H x H'=>H'=H∧x=.int (lo+i*c),fun i _=>n≤i⟩
theorem zaZ {P:Program}{w:World}{K:PySem.W.Frag}{tg:Expr} (it:Addr) (lo c:Int) (n:Nat):Turn P w K tg (zdi lo c n) [it] it (fun i h=>IsRangeIter h it (lo+(i:Nat)*c) ((n:Int)-(i:Nat)) c) where
 mem:=by simp
 obj:=fun i h st b hb=>by
  have e:b=it:=by simpa using hb
  subst e
  exact⟨_,st,fun v z=>by
   have z':Data.fields _=Data.cell v:=z
   cases z'⟩
 keep:=fun i h h' st k=>k it (by simp) _ st
 item:=by
  intro X hP hw hK hc i pins s σ H E I hf st hg
  subst hP hw hK
  obtain⟨f0,f1,f2,f3,f4,f5⟩:=hf it (by simp)
  have W:=Walks.range (prog:=X.prog) (w:=X.w) (I.ok.hd hc) it lo c n
  refine W.item i s _ _ hg st fun v h' tk hv st' kk=>?_
  obtain⟨t,rfl⟩:=hv
  have I1:Inv X pins σ H { s with heap:=h',toks:=tk }:=I.turned (fun b o hb e=>kk b o (by simpa using hb) e) f0 f1 f3 f4 f5
  exact⟨_,rfl,go_of (s:={ s with heap:=h',toks:=tk }) (n:="range_iterator") st' rfl rfl (by decide) ⟨.int (lo+i*c),H,I1,⟨t,rfl⟩,⟨rfl,rfl⟩,st',fun b hb=>(hf b hb).1⟩⟩
 done:=by
  intro X hP hw hK hc i pins s σ H E I hf st hg
  subst hP hw hK
  obtain⟨f0,f1,f2,f3,f4,f5⟩:=hf it (by simp)
  exact wpAny_pyNext_range_end (I.ok.hd hc) st (by have:n≤i:=hg;omega) fun h' eb=>⟨rfl,I.turned (t':=s.toks) (fun b o hb e=>eb b o hb e) f0 f1 f3 f4 f5⟩
 self:=fun _ _ _ _ _ st h=>wpAny_pyIter_rangeiter st h
section
variable {X:Cx}{tg:Expr}
noncomputable def zi2 (ta:TA):TI:=fun σ H R=>ta σ H fun vs H1=>∃(i j c:Int) (n:Nat),vs=[.int i,.int j,.int c]∧(c≠0∧c.natAbs<1073741824∧Builtin.Range.small i j c=true∧Builtin.Range.rangeSize i j c=(n:Int))∧R (zdi i c n) H1
theorem zcP {a b c:Expr}{ta:TA}{p pos:Pos} (hg:Gl X "range") (hm:X.mg "range"=none) (ha:PA X [a,b,c] ta) (hs:starEach [a,b,c] X.env=(false,eval a X.env)::starEach [b,c] X.env:=by rfl) (hs2:(backTo pos (starEach [b,c] X.env)).any (·.1)=false:=by rfl) :
  PI X tg (.Call (.Name "range" p) [a,b,c] [] pos) (zi2 ta):=by
 intro pins s σ H R I h
 refine Call_ (ld_blt I hg hm boot_range (PyProof.Rows.callWith_type1 (thn (ha pos pins s σ H _ I h) fun us s1 ⟨vs,H1,I1,r1,q1⟩=>?_) hs hs2))
 obtain⟨i,j,k,n,e,⟨q1,q2,q3,q4⟩,q⟩:=q1
 subst e
 cases r1 with
 | cons r rr=>
  cases rr with
  | cons r' rr=>
   cases rr with
   | cons r'' rr=>
    cases rr
    obtain⟨t,rfl⟩:=r
    obtain⟨t',rfl⟩:=r'
    obtain⟨t'',rfl⟩:=r''
    refine call_range_3 q1 ?_ (.inl (PyProof.noPylong_small q2))
    refine wpAny_pyIter_range (IsRange.new ..) q3 ?_
    have I2:Inv X pins σ H1 { s1 with heap:=s1.heap.push { cls:=.type "range",data:=.fields #[.int i t,.int j t',.int k t''] },toks:=s1.toks }:=I1.kept fun b o e=>Heap.get?_push_of_some _ e
    refine⟨(s1.heap.push { cls:=.type "range",data:=.fields #[.int i t,.int j t',.int k t''] }).objs.size,[(s1.heap.push { cls:=.type "range",data:=.fields #[.int i t,.int j t',.int k t''] }).objs.size],_,_,H1,rfl,
     I2.kept (t':=s1.toks) fun b o e=>Heap.get?_push_of_some _ e,zaZ _ i k n,?_,fun b hb=>?_,q⟩
    ·have e1:i+((0:Nat):Int)*k=i:=by simp
     have e2:((n:Nat):Int)-((0:Nat):Int)=Builtin.Range.rangeSize i j k:=by rw [q4];simp
     show IsRangeIter _ _ (i+((0:Nat):Int)*k) (((n:Nat):Int)-((0:Nat):Int)) k
     rw [e1,e2]
     exact Heap.get?_push_size _ rfl
    ·have e:b=(s1.heap.push { cls:=.type "range",data:=.fields #[.int i t,.int j t',.int k t''] }).objs.size:=by simpa using hb
     subst e
     exact I2.fpOk (Nat.le_refl _) (I2.hok.fresh (Nat.le_refl _))
end
theorem zbK {lo c:Int}{n:Nat}{g:TG}{tb:TS}{D:Ends}{σ:St}{H:Hp} (Pv:Nat→St→Hp→Prop) (h0:Pv 0 σ H)
  (hs:∀i σ H,i<n→Pv i σ H→g (.int (lo+i*c)) σ H fun σ2 H2=>tb { D with nx:=Pv (i+1),ct:=Pv (i+1),bk:=D.nx } σ2 H2) (hd:∀σ H,Pv n σ H→D.nx σ H) :
  ∃W:Nat→Nat→St→Hp→Prop,(∃m,W 0 m σ H)∧∀i m σ H,W i m σ H →
   ((zdi lo c n).stop i H∧D.nx σ H)∨((zdi lo c n).go i H∧∃N:St→Hp→Prop,(∀σ' H',N σ' H'→∃m',m'<m∧W (i+1) m' σ' H')∧∀x H',(zdi lo c n).yld i H x H'→g x σ H' fun σ2 H2=>tb { D with nx:=N,ct:=N,bk:=D.nx } σ2 H2):=by
 refine⟨fun i m σ H=>m=n-i∧i≤n∧Pv i σ H,⟨n,by simp,Nat.zero_le _,h0⟩,?_⟩
 rintro i m σ H ⟨rfl,hi,p⟩
 by_cases hlt:i<n
 ·refine .inr ⟨hlt,Pv (i+1),fun σ' H' p'=>⟨n-(i+1),by omega,rfl,hlt,p'⟩,fun x H' y=>?_⟩
  obtain⟨e,y⟩:=y
  subst e y
  exact hs i σ _ hlt p
 ·have e:i=n:=by omega
  subst e
  exact .inl ⟨Nat.le_refl _,hd σ H p⟩
end L2
namespace L2
open PySem PySem.Spec PyProof.Rows
def vA (env:Env):List (Str×NameKind)→List (Str×Addr)→List (Str×Addr)
 | [],acc=>acc
 | (n,k)::r,acc=>if k == .free then vA env r ((n,(env.cells.lookup n).getD 0)::acc) else vA env r acc
theorem JH {scope:Scope}{env:Env} (h:∀p∈scope.names,p.2=.free→∃c,env.cells.lookup p.1=some c):closureFor scope env=pure (vA env scope.names []):=by
 unfold closureFor
 have key:∀(names:List (Str×NameKind)) (acc:List (Str×Addr)),(∀p∈names,p.2=.free→∃c,env.cells.lookup p.1=some c) →
   (forIn names acc (fun(x:Str×NameKind) (cs:List (Str×Addr))=>match x with
    | (name,kind)=>if (kind == NameKind.free)=true then (cellOf env name >>= fun c=>pure (ForInStep.yield ((name,c)::cs))) else pure (ForInStep.yield cs)):Sem (List (Str×Addr)))=pure (vA env names acc):=by
  intro names
  induction names with
  | nil=>intro acc _;rfl
  | cons p r ih=>
   intro acc hp
   obtain⟨n,k⟩:=p
   have hr:∀p∈r,p.2=.free→∃c,env.cells.lookup p.1=some c:=fun p hm=>hp p (List.mem_cons_of_mem _ hm)
   rw [List.forIn_cons]
   by_cases hk:k=.free
   ·subst hk
    obtain⟨c,hc⟩:=hp (n,.free) List.mem_cons_self rfl
    have hc:env.cells.lookup n=some c:=hc
    have e1:cellOf env n=pure c:=by unfold cellOf;rw [hc]
    have e2:vA env ((n,.free)::r) acc=vA env r ((n,c)::acc):=by
     show vA env r ((n,(env.cells.lookup n).getD 0)::acc)=_
     rw [hc];rfl
    simp only [beq_self_eq_true,if_true,e1,pure_bind]
    rw [e2]
    exact ih _ hr
   ·have hb:(k == NameKind.free)=false:=by simpa using hk
    have e2:vA env ((n,k)::r) acc=vA env r acc:=by
     show (if (k == NameKind.free)=true then vA env r ((n,(env.cells.lookup n).getD 0)::acc) else vA env r acc)=_
     rw [hb];rfl
    simp only [hb,Bool.false_eq_true,if_false,pure_bind]
    rw [e2]
    exact ih _ hr
 have k0:=key scope.names [] h
 show (forIn scope.names ([]:List (Str×Addr)) _ >>= fun r=>pure r)=_
 refine Eq.trans (congrArg (fun m=>m >>= fun r=>pure r) k0) ?_
 rfl
theorem Va {env:Env}:∀{names:List (Str×NameKind)}{acc:List (Str×Addr)},(∀p∈names,p.2=.free→∃c,env.cells.lookup p.1=some c)→(∀x c,acc.lookup x=some c→env.cells.lookup x=some c) →
  ∀x c,(vA env names acc).lookup x=some c→env.cells.lookup x=some c
 | [],_,_,ha,x,c,h=>ha x c h
 | (n,k)::r,acc,hp,ha,x,c,h=>by
  have hr:∀p∈r,p.2=.free→∃c,env.cells.lookup p.1=some c:=fun p hm=>hp p (List.mem_cons_of_mem _ hm)
  by_cases hk:k=.free
  ·subst hk
   obtain⟨d,hd⟩:=hp (n,.free) List.mem_cons_self rfl
   have hd:env.cells.lookup n=some d:=hd
   have e2:vA env ((n,.free)::r) acc=vA env r ((n,d)::acc):=by
    show vA env r ((n,(env.cells.lookup n).getD 0)::acc)=_
    rw [hd];rfl
   rw [e2] at h
   refine Va hr (fun y e hy=>?_) x c h
   rw [List.lookup_cons] at hy
   cases hyn:y == n with
   | true=>rw [hyn] at hy;cases hy;rw [beq_iff_eq.mp hyn];exact hd
   | false=>rw [hyn] at hy;exact ha y e hy
  ·have hb:(k == NameKind.free)=false:=by simpa using hk
   have e2:vA env ((n,k)::r) acc=vA env r acc:=by
    show (if (k == NameKind.free)=true then vA env r ((n,(env.cells.lookup n).getD 0)::acc) else vA env r acc)=_
    rw [hb];rfl
   rw [e2] at h
   exact Va hr ha x c h
theorem Xw {env:Env}:∀{names:List (Str×NameKind)}{acc:List (Str×Addr)}{x:Str},((x,NameKind.free)∈names∨∃c,acc.lookup x=some c)→∃c,(vA env names acc).lookup x=some c
 | [],_,_,h=>h.elim (fun z=>nomatch z) id
 | (n,k)::r,acc,x,h=>by
  by_cases hk:k=.free
  ·subst hk
   show ∃c,(vA env r ((n,(env.cells.lookup n).getD 0)::acc)).lookup x=some c
   refine Xw ?_
   by_cases hx:x=n
   ·subst hx;exact .inr ⟨_,by rw [List.lookup_cons,beq_self_eq_true]⟩
   ·rcases h with h | ⟨c,h⟩
    ·rcases List.mem_cons.mp h with e | e
     ·cases e;exact absurd rfl hx
     ·exact .inl e
    ·exact .inr ⟨c,by rw [List.lookup_cons,beq_eq_false_iff_ne.mpr hx];exact h⟩
  ·have hb:(k == NameKind.free)=false:=by simpa using hk
   have e2:vA env ((n,k)::r) acc=vA env r acc:=by
    show (if (k == NameKind.free)=true then vA env r ((n,(env.cells.lookup n).getD 0)::acc) else vA env r acc)=_
    rw [hb];rfl
   rw [e2]
   refine Xw ?_
   rcases h with h | h
   ·rcases List.mem_cons.mp h with e | e
    ·cases e;exact absurd rfl hk
    ·exact .inl e
   ·exact .inr h
section
variable {prog:Program}{w:World}{A:Around}
theorem QS {elt target iter:Expr}{ifs:List Expr}{scope:Scope}{pos:Pos}{it acc:Value}{env:Env}{s:Shared}{R:Result→Shared→Prop} (I:Nat→Shared→Prop)
  (turn:∀n s,I n s→wpAny (model prog w) A (pyNext it) (fun r s₁=>match r with
   | none=>R (.ok .next) s₁
   | some v=>wpAny (model prog w) A (letOwnedTupleGo target it v) (fun _ s₁'=>wpAny (model prog w) A (assign target env v) (fun _ s₂=>
     wpAny (model prog w) A (forIn ifs true fun c r=>if r=true then do let ok ← isTrue c env (eval c env);pure (ForInStep.yield ok) else pure (ForInStep.yield r)) (fun ok s₃=>
      if ok=true then wpAny (model prog w) A (eval elt env) (fun x s₄=>wpAny (model prog w) A (call (.builtin "list.append") [acc,x]) (fun _ s₅=>∃m,m<n∧I m s₅) (fun _ _=>False) s₄) (fun _ _=>False) s₃
      else ∃m,m<n∧I m s₃) (fun _ _=>False) s₂) (fun _ _=>False) s₁') (fun _ _=>False) s₁) (fun _ _=>False) s)
  (n:Nat) (h:I n s):codeAny (model prog w) A (.compLoop (.ListComp elt [⟨target,iter,ifs,0⟩] scope pos) 0 it acc env) R s:=by
 refine codeAny_loop rfl I (fun n s hI=>?_) n h
 show wpAny _ A ((compTurn (.ListComp elt [⟨target,iter,ifs,0⟩] scope pos) 0 it acc env).onRaise (fun x=>do noteFrame x env;theTreesLotGoes x)) _ _ s
 refine wpAny_noted ?_
 rw [compTurn_list]
 refine wpAny_bind (wpAny_standAt (wpAny_bind (wpAny_mono (turn n s hI) (fun r s₁ h₁=>?_) fun _ _ h'=>h'.elim)))
 cases r with
 | none=>exact wpAny_pure h₁
 | some v=>
  refine wpAny_bind (wpAny_mono h₁ (fun _ s₁' h₁'=>?_) fun _ _ h'=>h'.elim)
  refine wpAny_bind (wpAny_mono h₁' (fun _ s₂ h₂=>wpAny_bind (wpAny_mono h₂ (fun ok s₃ h₃=>?_) fun _ _ h'=>h'.elim)) fun _ _ h'=>h'.elim)
  cases ok with
  | false=>exact wpAny_pure ⟨rfl,h₃⟩
  | true=>exact wpAny_bind (wpAny_bind (wpAny_mono h₃ (fun x s₄ h₄=>wpAny_bind (wpAny_mono h₄ (fun _ s₅ h₅=>wpAny_pure (wpAny_pure ⟨rfl,h₅⟩)) fun _ _ h'=>h'.elim)) fun _ _ h'=>h'.elim))
end
abbrev jg (X:Cx) (pins:List (Addr×Obj)) (N:List Str) (scope:Scope) (C:Addr) (sF:Shared) (HF:Hp) (fp:List Addr):Cx where
 prog:=X.prog
 w:=X.w
 K:=X.K
 mg:=X.mg
 base:=X.base
 A:=X.A
 N:=N
 s₀:=sF
 H₀:=HF
 env:=compEnvC scope (vA X.env scope.names []) C X.env
 outer:=X.stack
 stack:=X.stack
 ex:=fp
 fn:=fun _=>false
 calm:=X.calm
 pn:=X.pn++pins
 xe:=fun _ _=>False
noncomputable def jD (own:Nat) (ix:List Nat) (σ:St):St:=List.replicate own none++ix.map fun i=>(σ[i]?).getD none
noncomputable def JK (J:It) (own:Nat) (ix:List Nat) (g:TG) (tt:TT) (te:TE) (σ:St) (H1:Hp) (acc:Addr) (Q:VK):Prop:=
 ∃W:Nat→Nat→List V→Hp→Prop,(∃m,W 0 m [] (upd H1 acc (.lst [])))∧∀i m ys H2,W i m ys H2 →
  H2 acc=some (.lst ys)∧((J.stop i H2∧Q (.ref acc) H2)∨(J.go i H2∧ys.length<sizeLine∧∀x H3,J.yld i H2 x H3→g x (jD own ix σ) H3 fun σ4 H4=>σ4.drop own=ix.map (fun i=>(σ[i]?).getD none)∧tt σ4 H4 fun ok H5=>
   if ok=true then te σ4 H5 fun y H6=>H6 acc=some (.lst ys)∧∃m',m'<m∧W (i+1) m' (ys++[y]) (upd H6 acc (.lst (ys++[y])))
   else ∃m',m'<m∧W (i+1) m' ys H5))
noncomputable def zdj (wi:TI) (own:Nat) (ix:List Nat) (g:TG) (tt:TT) (te:TE):TE:=fun σ H Q=>wi σ H fun J H1=>∀acc,H1 acc=none→JK J own ix g tt te σ H1 acc Q
noncomputable def Qh:TT:=fun _ H Q=>Q true H
noncomputable def PTs (X:Cx) (ifs:List Expr) (t:TT):Prop:=
 ∀(pins:List (Addr×Obj)) (s:Shared) (σ:St) (H:Hp) (Q:Bool→Hp→Prop),Inv X pins σ H s→t σ H Q →
  wpAny (model X.prog X.w) X.A (forIn ifs true fun c r=>if r=true then do let ok ← isTrue c X.env (eval c X.env);pure (ForInStep.yield ok) else pure (ForInStep.yield r)) (TP X pins σ Q) X.xe s
theorem xX {X:Cx}:PTs X [] Qh:=fun _ _ _ H _ I h=>wpAny_tests_nil ⟨H,I,h⟩
structure Ka (X:Cx) (scope:Scope) (own:List Str) (fr:List Str) (ix:List Nat):Prop where
 kind:scope.kind=.function
 nocell:∀y∈scope.names,y.2≠.cell
 names:∀y∈scope.names,y.2=.local→scope.names.lookup y.1=some .local
 free:∀p∈scope.names,p.2=.free→∃c,X.env.cells.lookup p.1=some c
 frd:∀x∈fr,(x,NameKind.free)∈scope.names∧X.env.kindOf x=some .cell∧scope.names.lookup x=some .free
 len:fr.length=ix.length
 at_:∀(j:Nat) x i,fr[j]?=some x→ix[j]?=some i→X.N[i]?=some x
structure Ko (X:Cx) (scope:Scope) (own:List Str) (fr:List Str) (ix:List Nat):Prop where
 kind:scope.kind=.function
 nocell:(scope.names.all fun y=>y.2 != .cell)=true
 names:(scope.names.all fun y=>y.2 != .local || scope.names.lookup y.1 == some .local)=true
 free:(scope.names.all fun p=>p.2 != .free || X.env.kindOf p.1 == some .cell)=true
 frd:(fr.all fun x=>X.env.kindOf x == some .cell && scope.names.lookup x == some .free)=true
 at_:(ix.map fun i=>X.N[i]?)=fr.map some
theorem mem_of_lookup {x:Str}{k:NameKind}:∀{names:List (Str×NameKind)},names.lookup x=some k→(x,k)∈names
 | [],h=>by simp at h
 | (n,k')::r,h=>by
  rw [List.lookup_cons] at h
  cases hx:x == n with
  | true=>
   rw [hx] at h
   cases h
   rw [beq_iff_eq.mp hx]
   exact List.mem_cons_self
  | false=>
   rw [hx] at h
   exact List.mem_cons_of_mem _ (mem_of_lookup h)
theorem Ko.ok {X:Cx}{scope:Scope}{own fr:List Str}{ix:List Nat} (B:Ko X scope own fr ix) (ok:X.Ok):Ka X scope own fr ix where
 kind:=B.kind
 nocell:=fun y hy=>by simpa using List.all_eq_true.mp B.nocell y hy
 names:=fun y hy hl=>by
  have:=List.all_eq_true.mp B.names y hy
  rw [hl] at this
  simpa using this
 free:=fun p hp hf=>by
  have:=List.all_eq_true.mp B.free p hp
  rw [hf] at this
  exact ok.has p.1 (.inl (by simpa using this))
 frd:=fun x hx=>by
  have:=List.all_eq_true.mp B.frd x hx
  rw [Bool.and_eq_true] at this
  have h2:scope.names.lookup x=some .free:=by simpa using this.2
  exact⟨mem_of_lookup h2,by simpa using this.1,h2⟩
 len:=by
  have:=congrArg List.length B.at_
  simpa using this.symm
 at_:=fun j x i hx hi=>by
  have e:=congrArg (fun l=>l[j]?) B.at_
  simp only [List.getElem?_map,hx,hi,Option.map_some] at e
  exact Option.some.inj e
theorem Xx {env:Env} (hf:env.scope.kind=.function):∀{names:List (Str×NameKind)}{x:Str},names.lookup x=some .free→env.kindOf x=some .cell →
  (names.map fun(n,k)=>if (k == NameKind.free && env.scope.kind == .function && env.kindOf n == some .cell) then (n,NameKind.cell) else (n,k)).lookup x=some .cell
 | [],_,h,_=>by simp at h
 | (n,k)::r,x,h,hx=>by
  have ih:=@Xx env hf r x
  show List.lookup x ((if (k == NameKind.free && env.scope.kind == .function && env.kindOf n == some .cell)=true then (n,NameKind.cell) else (n,k))::_)=_
  cases hxn:x == n with
  | true=>
   have e:=beq_iff_eq.mp hxn
   subst e
   simp only [List.lookup_cons,hxn] at h
   cases h
   rw [if_pos (by rw [hf,hx];rfl)]
   simp only [List.lookup_cons,hxn]
  | false=>
   simp only [List.lookup_cons,hxn] at h
   by_cases hc:(k == NameKind.free && env.scope.kind == .function && env.kindOf n == some .cell)=true
   ·rw [if_pos hc];simp only [List.lookup_cons,hxn];exact ih h hx
   ·rw [if_neg hc];simp only [List.lookup_cons,hxn];exact ih h hx
theorem VF {env:Env}:∀{names:List (Str×NameKind)}{x:Str},(∀y∈names,y.2≠.cell) →
    ((names.map fun(n,k)=>if (k == NameKind.free && env.scope.kind == .function && env.kindOf n == some .cell) then (n,NameKind.cell) else (n,k)).lookup x=some .cell ∨
     (names.map fun(n,k)=>if (k == NameKind.free && env.scope.kind == .function && env.kindOf n == some .cell) then (n,NameKind.cell) else (n,k)).lookup x=some .free)→(x,NameKind.free)∈names
  | [],_,_,h=>by simp at h
  | (n,k)::r,x,hn,h=>by
    have ih:=@VF env r x (fun y hy=>hn y (List.mem_cons_of_mem _ hy))
    have hk:k≠.cell:=hn (n,k) List.mem_cons_self
    have h':List.lookup x ((if (k == NameKind.free && env.scope.kind == .function && env.kindOf n == some .cell)=true then (n,NameKind.cell) else (n,k))::r.map fun(n,k)=>if (k == NameKind.free && env.scope.kind == .function && env.kindOf n == some .cell) then (n,NameKind.cell) else (n,k))=some .cell ∨
      List.lookup x ((if (k == NameKind.free && env.scope.kind == .function && env.kindOf n == some .cell)=true then (n,NameKind.cell) else (n,k))::r.map fun(n,k)=>if (k == NameKind.free && env.scope.kind == .function && env.kindOf n == some .cell) then (n,NameKind.cell) else (n,k))=some .free:=h
    by_cases hc:(k == NameKind.free && env.scope.kind == .function && env.kindOf n == some .cell)=true
    · have hf:k=.free:=by
        rw [Bool.and_eq_true,Bool.and_eq_true] at hc
        exact beq_iff_eq.mp hc.1.1
      subst hf
      cases hxn:x == n with
      | true=>rw [beq_iff_eq.mp hxn];exact List.mem_cons_self
      | false=>
        rw [if_pos hc] at h'
        simp only [List.lookup_cons,hxn] at h'
        exact List.mem_cons_of_mem _ (ih h')
    · rw [if_neg hc] at h'
      cases hxn:x == n with
      | true=>
        simp only [List.lookup_cons,hxn] at h'
        rcases h' with e | e
        · cases e;exact absurd rfl hk
        · cases e;rw [beq_iff_eq.mp hxn];exact List.mem_cons_self
      | false=>
        simp only [List.lookup_cons,hxn] at h'
        exact List.mem_cons_of_mem _ (ih h')
section
variable {X:Cx}{pins:List (Addr×Obj)}{σ:St}{H:Hp}{s:Shared}
theorem VG {scope:Scope}{own fr:List Str}{ix:List Nat}{C:Addr}{h₁:Heap}{tk:Nat}{fp:List Addr}{m:Str→Option Value} (I:Inv X pins σ H s) (B:Ka X scope own fr ix) (hC:C=s.heap.objs.size)
  (hf:∀b∈fp,FpOk X pins H b) (hb:∀b∈fp,∃o,s.heap.get? b=some o) (old:∀b o,s.heap.get? b=some o→h₁.get? b=some o) (hns:h₁.Ns C m) :
  Inv (jg X pins (own++fr) scope C s H fp) [] (jD own.length ix σ) H { s with heap:=h₁,toks:=tk }:=by
 have look:∀x c,(vA X.env scope.names []).lookup x=some c→X.env.cells.lookup x=some c:=Va B.free (fun _ _ z=>by cases z)
 have lt:∀b o,s.heap.get? b=some o→b≠C:=fun b o e=>by rw [hC];exact Nat.ne_of_lt (Heap.lt_size e)
 have ok:(jg X pins (own++fr) scope C s H fp).Ok:={
  mod:=I.ok.mod
  kind:=B.kind
  glob:=I.ok.glob
  blt:=I.ok.blt
  above:=by show s.heap.objs.size≤C;rw [hC];exact Nat.le_refl _
  inj:=fun x y c a b=>I.ok.inj x y c (look x c a) (look y c b)
  has:=fun x hx=>Xw (.inl (VF B.nocell hx))
  cab:=fun x c z=>nomatch z
  hd:=I.ok.hd
  frames:=I.ok.frames
  stk:=.inl rfl
  exf:=fun b hbf=>⟨by obtain⟨o,e⟩:=hb b hbf;exact lt b o e,fun x c e=>(hf b hbf).2.2.2.2.1 x c (look x c e)⟩
  bs:=I.bs
  bsz:=Nat.le_trans I.ok.bsz I.sz
  noex:=fun b o e hbf=>by
   rcases (hf b hbf).2.2.2.1 with z | z
   ·exact I.ok.noex b o e z
   ·exact absurd (Nat.lt_of_lt_of_le (Heap.lt_size e) (Nat.le_trans I.ok.bsz z)) (Nat.lt_irrefl _)
  exfs:=fun b hbf hs=>by
   rcases List.mem_cons.mp (I.stkSub b hs) with z | z
   ·exact(hf b hbf).2.1 z
   ·exact(hf b hbf).2.2.1 z
  funs:=I.stack
  frf:=I.stkFree }
 refine⟨ok,rfl,I.bare,Un.kept old,⟨m,hns,fun i x v e1 e2 e3=>?_⟩,fun x c e=>?_,?_,fun x c e=>I.freeC x c (look x c e),fun p hp=>?_,I.hok.kept old,?_⟩
 ·have e1:(own++fr)[i]?=some x:=e1
  have e2:(List.replicate own.length none++ix.map fun i=>(σ[i]?).getD none)[i]?=some (some v):=e2
  by_cases hi:i<own.length
  ·rw [List.getElem?_append_left (by rw [List.length_replicate];exact hi),List.getElem?_replicate,if_pos hi] at e2
   cases e2
  ·rw [List.getElem?_append_right (by omega)] at e1
   rw [List.getElem?_append_right (by rw [List.length_replicate];omega),List.length_replicate,List.getElem?_map] at e2
   obtain⟨i',hi',e4⟩:=Option.map_eq_some_iff.mp e2
   have e5:σ[i']?=some (some v):=by
    cases z:σ[i']? with
    | none=>rw [z] at e4;cases e4
    | some y=>rw [z] at e4;exact congrArg some e4
   have hm:x∈fr:=List.mem_of_getElem? e1
   obtain⟨f1,f2,f3⟩:=B.frd x hm
   obtain⟨mX,_,hl⟩:=I.loc
   obtain⟨u,r,l⟩:=hl i' x v (B.at_ _ x i' e1 hi') e5 (.inr (.inl f2))
   rcases l with ⟨l,_⟩ | ⟨_,c,ec,z⟩
   ·rw [f2] at l;cases l
   ·obtain⟨c',ec'⟩:=Xw (env:=X.env) (names:=scope.names) (acc:=[]) (x:=x) (.inl f1)
    have:=look x c' ec'
    rw [ec] at this
    cases this
    obtain⟨o,ho,hd⟩:=z
    exact⟨u,r,.inr ⟨.inl (Xx I.ok.kind f3 f2),c,ec',o,old _ _ ho,hd⟩⟩
 ·obtain⟨v,o,ho,hd⟩:=I.cell x c (look x c e)
  exact⟨v,o,old _ _ ho,hd⟩
 ·show H C=none
  rw [hC];exact I.hok.fresh (Nat.le_refl _)
 ·have hp':p∈X.pn++pins:=by simpa using hp
  obtain⟨e,n,ne,nf,d⟩:=I.pin p hp'
  refine⟨old _ _ e,n,lt _ _ e,fun z=>?_,d⟩
  rcases List.mem_cons.mp (I.stkSub _ z) with q | q
  ·exact ne q
  ·exact nf q
 ·show (List.replicate own.length none++ix.map fun i=>(σ[i]?).getD none).length=(own++fr).length
  rw [List.length_append,List.length_append,List.length_replicate,List.length_map,B.len]
theorem Vb {N:List Str}{scope:Scope}{C:Addr}{fp:List Addr} {σ':St} {H':Hp} {s':Shared} {h'':Heap}{pl:List (Addr×Obj)} (I:Inv X pins σ H s) (hf:∀b∈fp,FpOk X pins H b) (hC:C=s.heap.objs.size)
  (J:Inv (jg X pins N scope C s H fp) pl σ' H' s') (hs:Heap.SameBut C s'.heap h''):Inv X pins σ H' { s' with heap:=h'' }:=by
 have u:=J.base
 have k:∀b o,b≠C→s'.heap.get? b=some o→h''.get? b=some o:=fun b o hb e=>hs.extBut b o hb e
 have hn:H' C=none:=J.free
 have lt:∀b o,s.heap.get? b=some o→b≠C:=fun b o e=>by rw [hC];exact Nat.ne_of_lt (Heap.lt_size e)
 refine I.call' (s':={ s' with heap:=h'' }) (ch:=fp) J.os ?_ ?_ J.bare fun b hb=>⟨(hf b hb).2.2.2.1,(hf b hb).2.1,(hf b hb).2.2.2.2.1,(hf b hb).2.2.2.2.2⟩
 ·exact⟨fun b o q n hb he=>k b o (lt b o q) (u.keep b o q n hb he),fun b o q n hb he=>by
    obtain⟨sl,e⟩:=u.slot b o q n hb he
    exact⟨sl,k b _ (lt b o q) e⟩,u.free,fun b o q he=>by
    obtain⟨o',e⟩:=u.there b o q he
    exact⟨o',k b _ (lt b o q) e⟩,u.tups,u.frzs,u.tbls⟩
 ·intro b o e
  have nit:∀b u,H' b=some u→b≠C:=fun b u e z=>by rw [z,hn] at e;cases e
  refine(J.hok b o e).stay (fun c v hc q=>k c v ?_ q) (fun _ q=>q) fun _ _ q=>q
  rcases hc with z | z
  ·rw [z];exact nit b o e
  ·exact nit c _ z
theorem Kp {tg iter elt:Expr}{ifs:List Expr}{scope:Scope}{own fr:List Str}{ix:List Nat}{g:TG}{tt:TT}{te:TE}{pos:Pos}{Q:VK}{sF:Shared}{HF:Hp}{C acc it:Addr}{h₁:Heap}{fp:List Addr}{tn:Nat→Heap→Prop}{J:It}{W:Nat→Nat→List V→Hp→Prop}{m:Str→Option Value}{m0:Nat}{RR:Result→Shared→Prop}
  (hc:X.calm=true) (B:Ka X scope own fr ix)
  (hg:∀pins C sF HF fp,PG (jg X pins (own++fr) scope C sF HF fp) tg g) (ht:∀pins C sF HF fp,PTs (jg X pins (own++fr) scope C sF HF fp) ifs tt) (he:∀pins C sF HF fp,PE (jg X pins (own++fr) scope C sF HF fp) elt te)
  (I3:Inv X pins σ HF sF) (T:Turn X.prog X.w X.K tg J fp it tn) (st3:tn 0 sF.heap) (f3:∀b∈fp,FpOk X pins HF b) (f3':∀b∈fp,∃o,sF.heap.get? b=some o) (hC:sF.heap.objs.size=C) (old:∀b o,sF.heap.get? b=some o→h₁.get? b=some o) (hns₁:h₁.Ns C m)
  (w0:W 0 m0 [] HF) (turn:∀i m ys H2,W i m ys H2→H2 acc=some (.lst ys)∧((J.stop i H2∧Q (.ref acc) H2)∨(J.go i H2∧ys.length<sizeLine∧∀x H3,J.yld i H2 x H3→g x (jD own.length ix σ) H3 fun σ4 H4=>σ4.drop own.length=ix.map (fun i=>(σ[i]?).getD none)∧tt σ4 H4 fun ok H5=>
   if ok=true then te σ4 H5 fun y H6=>H6 acc=some (.lst ys)∧∃m',m'<m∧W (i+1) m' (ys++[y]) (upd H6 acc (.lst (ys++[y])))
   else ∃m',m'<m∧W (i+1) m' ys H5)))
  (fin:∀s6 H5,Inv (jg X pins (own++fr) scope C sF HF fp) [] (jD own.length ix σ) H5 s6→Q (.ref acc) H5→RR (.ok .next) s6) :
  codeAny (model X.prog X.w) X.A (.compStart (.ListComp elt [⟨tg,iter,ifs,0⟩] scope pos) 0 (.ref it) (.ref acc) (compEnvC scope (vA X.env scope.names []) C X.env)) RR
   { sF with heap:=h₁,toks:=sF.toks+([]:List (Str×Value)).length }:=by
 have J0:Inv (jg X pins (own++fr) scope C sF HF fp) [] (jD own.length ix σ) HF { sF with heap:=h₁,toks:=sF.toks+([]:List (Str×Value)).length }:=VG I3 B hC.symm f3 f3' old hns₁
 have st4:tn 0 h₁:=T.keep _ _ _ st3 fun b _ o e=>old b o e
 have fY:∀{pl:List (Addr×Obj)} {H':Hp},(∀b∈fp,H' b=none)→(∀p∈pl,p.1 ∉ fp)→∀b∈fp,FpOk (jg X pins (own++fr) scope C sF HF fp) pl H' b:=fun {pl H'} hn hp b hb=>by
  refine⟨hn b hb,(J0.ok.exf b hb).1,J0.ok.exfs b hb,.inl hb,(J0.ok.exf b hb).2,fun p hpm=>?_⟩
  rcases List.mem_append.mp hpm with z | z
  ·exact(f3 b hb).2.2.2.2.2 p z
  ·exact fun e=>hp p z (by rw [e];exact hb)
 have weak:∀{pl:List (Addr×Obj)}{σ4:St}{H4:Hp}{s4:Shared},Inv (jg X pins (own++fr) scope C sF HF fp) pl σ4 H4 s4→σ4.drop own.length=ix.map (fun i=>(σ[i]?).getD none)→Inv (jg X pins (own++fr) scope C sF HF fp) pl (jD own.length ix σ) H4 s4:=fun {pl σ4 H4 s4} J e=>by
  refine J.weak ?_ fun i v hv=>?_
  ·have:=J.len
   have:=J0.len
   omega
  ·have hv':(List.replicate own.length none++ix.map fun i=>(σ[i]?).getD none)[i]?=some (some v):=hv
   by_cases hi:i<own.length
   ·rw [List.getElem?_append_left (by rw [List.length_replicate];exact hi),List.getElem?_replicate,if_pos hi] at hv'
    cases hv'
   ·rw [List.getElem?_append_right (by rw [List.length_replicate];omega),List.length_replicate,← e,List.getElem?_drop] at hv'
    rw [show own.length+(i-own.length)=i by omega] at hv'
    exact hv'
 have loop:∀s4:Shared,s4={ sF with heap:=h₁,toks:=sF.toks+([]:List (Str×Value)).length } →
   codeAny (model X.prog X.w) X.A (.compLoop (.ListComp elt [⟨tg,iter,ifs,0⟩] scope pos) 0 (.ref it) (.ref acc) (compEnvC scope (vA X.env scope.names []) C X.env)) RR s4:=by
  rintro s4 rfl
  refine QS (fun n s'=>∃i ys H',Inv (jg X pins (own++fr) scope C sF HF fp) [] (jD own.length ix σ) H' s'∧tn i s'.heap∧(∀b∈fp,H' b=none)∧W i n ys H') ?_ m0 ⟨0,[],HF,J0,st4,fun b hb=>(f3 b hb).1,w0⟩
  rintro n s5 ⟨i,ys,H5,J5,st5,fr5,w5⟩
  obtain⟨ha,hturn⟩:=turn i n ys H5 w5
  rcases hturn with ⟨stop,qn⟩ | ⟨go,hsz,step⟩
  ·refine thn (T.done (jg X pins (own++fr) scope C sF HF fp) rfl rfl rfl hc i [] s5 _ H5 (fun _ _=>False) J5 (fY fr5 (fun _ z=>by cases z)) st5 stop) fun r s6 ⟨hr,J6⟩=>?_
   subst hr
   exact fin s6 H5 J6 qn
  ·refine thn (T.item (jg X pins (own++fr) scope C sF HF fp) rfl rfl rfl hc i [] s5 _ H5 (fun _ _=>False) J5 (fY fr5 (fun _ z=>by cases z)) st5 go) fun r s6 ⟨u,hr,h6⟩=>?_
   subst hr
   refine thn h6 fun _ s7 ⟨x,H7,J7,r7,y7,st7,fr7⟩=>?_
   have J7':=J7.pinned (fY fr7 (fun _ z=>by cases z)) (T.obj _ _ st7)
   refine thn (hg pins C sF HF fp _ s7 _ H7 x u _ J7' r7 (step x H7 y7)) fun _ s8 ⟨σ8,H8,J8,k8,q8⟩=>?_
   have back:∀{s9:Shared}{H9:Hp},Inv (jg X pins (own++fr) scope C sF HF fp) ([]++pinsAt fp s7.heap) σ8 H9 s9→Inv (jg X pins (own++fr) scope C sF HF fp) [] (jD own.length ix σ) H9 s9∧tn (i+1) s9.heap∧∀b∈fp,H9 b=none:=fun {s9 H9} J9=>by
    refine⟨weak J9.unpinned k8,T.keep _ _ _ st7 fun b hb o e=>(J9.pin (b,o) (List.mem_append_right _ (List.mem_append_right _ (mem_pinsAt hb e)))).1,fun b hb=>?_⟩
    obtain⟨o,e,d⟩:=T.obj _ _ st7 b hb
    exact(J9.pin (b,o) (List.mem_append_right _ (List.mem_append_right _ (mem_pinsAt hb e)))).2.1
   refine thn (ht pins C sF HF fp _ s8 σ8 H8 _ J8 q8) fun ok s9 ⟨H9,J9,q9⟩=>?_
   cases ok with
   | false=>
    obtain⟨m',hm,w9⟩:=q9
    obtain⟨b1,b2,b3⟩:=back J9
    exact⟨m',hm,i+1,ys,H9,b1,b2,b3,w9⟩
   | true=>
    refine thn (he pins C sF HF fp _ s9 σ8 H9 _ J9 q9) fun v s10 ⟨y,H10,J10,r10,a10,m',hm,w10⟩=>?_
    refine thn (mt_append _ s10 σ8 H10 (.ref acc) [y] (.ref acc) [v] (fun _ H'=>H'=upd H10 acc (.lst (ys++[y]))) J10 rfl (.cons r10 .nil) ⟨acc,ys,y,rfl,rfl,a10,hsz,rfl⟩) fun _ s11 ⟨_,H11,J11,_,e11⟩=>?_
    subst e11
    obtain⟨b1,b2,b3⟩:=back J11
    exact⟨m',hm,i+1,ys++[y],_,b1,b2,b3,w10⟩
 exact codeAny_compStart_list (loop _ rfl) (T.self _ 0 _ _ _ st4 (loop _ rfl))
theorem yc {tg iter elt:Expr}{ifs:List Expr}{scope:Scope}{own fr:List Str}{ix:List Nat}{wi:TI}{g:TG}{tt:TT}{te:TE}{pos:Pos} (hc:X.calm=true) (BB:Ko X scope own fr ix) (hi:PI X tg iter wi)
  (hg:∀pins C sF HF fp,PG (jg X pins (own++fr) scope C sF HF fp) tg g) (ht:∀pins C sF HF fp,PTs (jg X pins (own++fr) scope C sF HF fp) ifs tt) (he:∀pins C sF HF fp,PE (jg X pins (own++fr) scope C sF HF fp) elt te)
  (hs:∀x,foldedSetIterable iter X.env x=pure x:=by intro _;rfl):PE X (.ListComp elt [⟨tg,iter,ifs,0⟩] scope pos) (zdj wi own.length ix g tt te):=by
 intro pins s σ H Q I h
 have B:=BB.ok I.ok
 rw [eval_ListComp]
 refine wpAny_comprehension_free (use:=none) rfl hs (JH B.free) B.kind B.names (thn (hi pins s σ H _ I h) fun xv s1 h1=>thn h1 fun itv s2 h2=>?_)
 obtain⟨it,fp,tn,J,H2,rfl,I2,T,st2,f2,R⟩:=h2
 refine wpAny_newObj_type (wpAny_newFunctionEnv B.nocell (by intro y hy;simp at hy) (fun h₁ hns₁ hsb₁=>?_) B.kind)
 dsimp only at hns₁ hsb₁
 have I3:=I2.lnew (t':=s2.toks) (its:=[]) (ys:=[]) .nil (Nat.zero_le _)
 obtain⟨W,⟨m0,w0⟩,turn⟩:=R _ I2.fresh
 have fF:∀b∈fp,∃o,s2.heap.get? b=some o:=fun b hb=>let ⟨o,e,_⟩:=T.obj _ _ st2 b hb;⟨o,e⟩
 have zcQ:∀b∈fp,b≠s2.heap.objs.size:=fun b hb=>let ⟨o,e⟩:=fF b hb;Nat.ne_of_lt (Heap.lt_size e)
 have push:∀b o,s2.heap.get? b=some o→(s2.heap.push { cls:=.type "list",data:=.seq ([]:List Value).toArray }).get? b=some o:=fun b o e=>Heap.get?_push_of_some _ e
 exact Kp hc B hg ht he I3 T (T.keep _ _ _ st2 fun b _ o e=>push b o e) (fun b hb=>⟨by rw [upd_ne (zcQ b hb)];exact(f2 b hb).1,(f2 b hb).2⟩) (fun b hb=>let ⟨o,e⟩:=fF b hb;⟨o,push b o e⟩) rfl
  (fun b o e=>hsb₁.extBut b o (Nat.ne_of_lt (Heap.lt_size e)) (Heap.get?_push_of_some _ e)) hns₁ w0 turn fun s6 H5 J6 qn=>by
   obtain⟨m6,hn6,_⟩:=J6.loc
   exact⟨m6,hn6,fun h' hs'=>⟨.ref _,H5,Vb I3 (fun b hb=>⟨by rw [upd_ne (zcQ b hb)];exact(f2 b hb).1,(f2 b hb).2⟩) rfl J6 hs',rfl,qn⟩⟩
theorem zco {tg iter elt:Expr}{ifs:List Expr}{scope:Scope}{own fr:List Str}{ix:List Nat}{wi:TI}{g:TG}{tt:TT}{te:TE}{pos spos py:Pos}{k:Nat}{y:Str} (hc:X.calm=true) (hN:X.N.Nodup) (hk:X.N[k]?=some y) (hy:X.env.scope.names.lookup y=some .local) (BB:Ko X scope own fr ix) (hi:PI X tg iter wi)
  (hg:∀pins C sF HF fp,PG (jg X pins (own++fr) scope C sF HF fp) tg g) (ht:∀pins C sF HF fp,PTs (jg X pins (own++fr) scope C sF HF fp) ifs tt) (he:∀pins C sF HF fp,PE (jg X pins (own++fr) scope C sF HF fp) elt te)
  (hsw:swapsWith (.ListComp elt [⟨tg,iter,ifs,0⟩] scope pos) (some (.Name y py)) spos.line X.env=pure true:=by rfl)
  (hs:∀x,foldedSetIterable iter X.env x=pure x:=by intro _;rfl):PS X (.Assign [.Name y py] (.ListComp elt [⟨tg,iter,ifs,0⟩] scope pos) spos) (tAsg (zdj wi own.length ix g tt te) (gName k)):=by
 intro pins s σ H D I h
 have B:=BB.ok I.ok
 rw [exec_Assign_Name_used _ _ _ _ hsw]
 refine wpAny_bind (wpAny_standAt (wpAny_bind ?_))
 show wpAny _ X.A (do let _ ← comprehension (.ListComp elt [⟨tg,iter,ifs,0⟩] scope pos) scope X.env _ (newList []) false (eval iter X.env) (some (assign (.Name y py) X.env))) _ _ s
 refine wpAny_bind (wpAny_mono (wpAny_comprehension_free (use:=some (assign (.Name y py) X.env)) (Q:=fun _ s'=>SP X pins D .next s') rfl hs (JH B.free) B.kind B.names
  (thn (hi pins s σ H _ I h) fun xv s1 h1=>thn h1 fun itv s2 h2=>?_)) (fun _ s' hq=>wpAny_pure (wpAny_pure hq)) fun _ _ e=>e)
 obtain⟨it,fp,tn,J,H2,rfl,I2,T,st2,f2,R⟩:=h2
 refine wpAny_newObj_type (wpAny_newFunctionEnv B.nocell (by intro y hy;simp at hy) (fun h₁ hns₁ hsb₁=>?_) B.kind)
 dsimp only at hns₁ hsb₁
 have I3:=I2.lnew (t':=s2.toks) (its:=[]) (ys:=[]) .nil (Nat.zero_le _)
 obtain⟨W,⟨m0,w0⟩,turn⟩:=R _ I2.fresh
 have fF:∀b∈fp,∃o,s2.heap.get? b=some o:=fun b hb=>let ⟨o,e,_⟩:=T.obj _ _ st2 b hb;⟨o,e⟩
 have zcQ:∀b∈fp,b≠s2.heap.objs.size:=fun b hb=>let ⟨o,e⟩:=fF b hb;Nat.ne_of_lt (Heap.lt_size e)
 have push:∀b o,s2.heap.get? b=some o→(s2.heap.push { cls:=.type "list",data:=.seq ([]:List Value).toArray }).get? b=some o:=fun b o e=>Heap.get?_push_of_some _ e
 have f3:∀b∈fp,FpOk X pins (upd H2 s2.heap.objs.size (.lst [])) b:=fun b hb=>⟨by rw [upd_ne (zcQ b hb)];exact(f2 b hb).1,(f2 b hb).2⟩
 refine Kp (Q:=fun x H1=>gName k x σ H1 D.nx) hc B hg ht he I3 T (T.keep _ _ _ st2 fun b _ o e=>push b o e) f3 (fun b hb=>let ⟨o,e⟩:=fF b hb;⟨o,push b o e⟩) rfl
  (fun b o e=>hsb₁.extBut b o (Nat.ne_of_lt (Heap.lt_size e)) (Heap.get?_push_of_some _ e)) hns₁ w0 turn fun s6 H5 J6 qn=>?_
 have I6:Inv X pins σ H5 { s6 with heap:=s6.heap }:=Vb I3 f3 rfl J6 (Heap.SameBut.refl ..)
 have I6:Inv X pins σ H5 s6:=I6
 obtain⟨m6,⟨o6,es6,ep6,ho6,rest6⟩,_⟩:=id J6.loc
 have sz:∀b o,(s2.heap.push { cls:=.type "list",data:=.seq ([]:List Value).toArray }).get? b=some o→b≠(s2.heap.push { cls:=.type "list",data:=.seq ([]:List Value).toArray }).objs.size:=fun b o e=>Nat.ne_of_lt (Heap.lt_size e)
 have hge:X.s₀.heap.objs.size≤(s2.heap.push { cls:=.type "list",data:=.seq ([]:List Value).toArray }).objs.size:=I3.sz
 have hloc:(s2.heap.push { cls:=.type "list",data:=.seq ([]:List Value).toArray }).objs.size≠X.env.locals:=fun z=>by
  have:=I3.lt
  rw [← z] at this
  exact Nat.lt_irrefl _ this
 have hfs:(s2.heap.push { cls:=.type "list",data:=.seq ([]:List Value).toArray }).objs.size ∉ X.fs:=I3.nofs (Nat.le_refl _)
 have hcell:∀x c,X.env.cells.lookup x=some c→c≠(s2.heap.push { cls:=.type "list",data:=.seq ([]:List Value).toArray }).objs.size:=fun x c e=>by
  obtain⟨v,ob,hob,_⟩:=I3.cell x c e
  exact sz _ _ hob
 have hpin:∀p∈X.pn++pins,p.1≠(s2.heap.push { cls:=.type "list",data:=.seq ([]:List Value).toArray }).objs.size:=fun p hp=>sz _ _ (I3.pin p hp).1
 have I7:Inv X (pins++[((s2.heap.push { cls:=.type "list",data:=.seq ([]:List Value).toArray }).objs.size,o6)]) σ H5 s6:=I6.pins_of fun p hp=>by
  rcases List.mem_append.mp hp with z | z
  ·exact I6.pin p (List.mem_append_right _ z)
  ·rw [List.mem_singleton.mp z]
   refine⟨ho6,J6.free,hloc,hfs,fun v z=>?_⟩
   rw [rest6.1] at z
   cases z
 refine wpAny_assign_Name (store_ok (v:=.ref s2.heap.objs.size) I7 hN hk (.inl hy) rfl (fun s8 I8=>?_) (.inr hy))
 have h8:=(I8.pin ((s2.heap.push { cls:=.type "list",data:=.seq ([]:List Value).toArray }).objs.size,o6) (List.mem_append_right _ (List.mem_append_right _ (List.mem_singleton.mpr rfl)))).1
 refine⟨m6,⟨o6,es6,ep6,h8,rest6⟩,fun h' hs'=>⟨_,H5,(I8.unpinned).turned (t':=s8.toks) (fun b o hb e=>hs'.extBut b o hb e) J6.free hloc (.inr hge) hcell hpin,qn⟩⟩
end
end L2
namespace L2
open PySem PySem.Spec PyProof.Rows PySem.SeqAt
noncomputable def zfc (K:PySem.W.Frag) (H:Hp) (a:Addr) (nss:List (List Int)):Prop:=∃as:List Addr,SqL K H a (as.map V.ref)∧Paired (fun b ns=>SqL K H b (ns.map V.int)) as nss
theorem zfc.same {K:PySem.W.Frag} {H H':Hp}{a:Addr}{nss:List (List Int)} (e:Same H H') (h:zfc K H a nss):zfc K H' a nss:=by
 obtain⟨as,h1,h2⟩:=h
 exact⟨as,e.seq h1,Paired.imp' (fun b ns z=>e.seq z) h2⟩
abbrev dI (ns:List Int):PyData:=.list (ns.map PyData.int)
theorem za0 (ns ms:List Int):noMix (dI ns) (dI ms)=true:=by
 simp only [noMix];exact PySem.W.noMix_ints ns ms
theorem zcp (ns ms:List Int):PySem.Spec.same (dI ns) (dI ms)=decide (ns=ms):=by
 simp only [PySem.Spec.same];exact PySem.W.same_ints ns ms
section
variable {X:Cx}{pins:List (Addr×Obj)}{σ:St}{H:Hp}{s:Shared}
theorem Inv.ints (I:Inv X pins σ H s){a:Addr}{ns:List Int} (h:SqL X.K H a (ns.map V.int)):∃vs:List Value,s.heap.IsList a vs.toArray∧IntsAre vs ns∧ns.length≤sizeLine:=by
 obtain⟨its,r,p,z⟩:=I.list h
 exact⟨its,p.isList,intsAre_of r,by rwa [List.length_map] at z⟩
theorem Inv.reads (I:Inv X pins σ H s){a:Addr}{ns:List Int} (h:SqL X.K H a (ns.map V.int)):Reads s.heap (.ref a) (dI ns) [a]:=by
 obtain⟨vs,l,i,_⟩:=I.ints h
 exact PySem.W.reads_of_ints l i
end
section
variable {X:Cx}
noncomputable def zj9 (K:PySem.W.Frag):R2:=fun x y H Q=>∃(a b:Addr) (ns ms:List Int),x=.ref a∧y=.ref b∧SqL K H a (ns.map V.int)∧SqL K H b (ms.map V.int)∧Q (.bl (decide (ns=ms))) H
noncomputable def zka (K:PySem.W.Frag):R2:=fun x y H Q=>∃(a b:Addr) (ns ms:List Int),x=.ref a∧y=.ref b∧SqL K H a (ns.map V.int)∧SqL K H b (ms.map V.int)∧Q (.bl (!decide (ns=ms))) H
theorem zfd (hu:X.A.units+64<cLine):OpR X (compareOp .Eq) (zj9 X.K):=by
 intro pins s σ H x y v u Q I rx ry h
 obtain⟨a,b,ns,ms,rfl,rfl,h1,h2,q⟩:=h
 cases rx;cases ry
 exact eq_dataH_same (I.reads h1) (I.reads h2) (PySem.W.shaped_ints ns) (PySem.W.shaped_ints ms) hu (za0 ns ms) (by rw [zcp];exact⟨.bl _,H,I,rfl,q⟩)
theorem zbL (hu:X.A.units+64<cLine):OpR X (compareOp .NotEq) (zka X.K):=by
 intro pins s σ H x y v u Q I rx ry h
 obtain⟨a,b,ns,ms,rfl,rfl,h1,h2,q⟩:=h
 cases rx;cases ry
 exact ne_dataH_same (I.reads h1) (I.reads h2) (PySem.W.shaped_ints ns) (PySem.W.shaped_ints ms) hu (za0 ns ms) (by rw [zcp];exact⟨.bl _,H,I,rfl,q⟩)
theorem zdk (hc:X.calm=true):CallR X (.builtin "all") (fun xs H Q=>∃(p:Addr) (bs:List Bool),xs=[.ref p]∧SqL X.K H p (bs.map V.bl)∧Q (.bl (bs.all id)) H):=by
 intro pins s σ H xs us Q I r h
 obtain⟨p,bs,rfl,hq,q⟩:=h
 obtain⟨u,rfl,ru⟩:=vals1 r
 cases ru
 obtain⟨its,rv,pl,hz⟩:=I.list hq
 have hl:=pl.isList
 have hlt:p<s.heap.objs.size:=by obtain⟨_,e,_⟩:=hl;exact Heap.lt_size e
 refine call_all_walk (wpAny_pyIter_list hl ?_)
 refine⟨s.heap.objs.size,[s.heap.objs.size,p],[s.heap.objs.size],its.toArray.size,_,_,fun i=>(bs[i]?).getD true,rfl,Walks.list (A:=X.A.in1) (I.ok.hd hc) _ p (Nat.ne_of_lt hlt) its.toArray,
  ⟨⟨_,Heap.get?_push_size _ rfl,rfl,rfl⟩,hl.push _⟩,fun i v s' Q' E' hP hQ=>?_,fun h' tk hk=>?_⟩
 ·have hP':its[i]?=some v:=by simpa using hP
  have zfe:bs.length=its.length:=by have:=rv.length;rwa [List.length_map] at this
  have hi:i<bs.length:=by rw [zfe];exact(List.getElem?_eq_some_iff.mp hP').1
  obtain⟨w,ew,rw'⟩:=rv.get (x:=V.bl bs[i]) (i:=i) (by rw [List.getElem?_map,List.getElem?_eq_getElem hi];rfl)
  rw [hP'] at ew
  cases ew
  cases (show v=Value.bool bs[i] from rw')
  simp only [List.getElem?_eq_getElem hi,Option.getD_some] at hQ
  exact wpAny_truthy_bool hQ
 ·have e:((List.range its.toArray.size).all fun i=>(bs[i]?).getD true)=bs.all id:=by
   have zfe:bs.length=its.length:=by have:=rv.length;rwa [List.length_map] at this
   rw [List.size_toArray,← zfe];exact PyProof.Rows.LSm.range_all bs
  rw [e]
  exact⟨.bl _,H,I.kept (PyProof.Rows.LSm.kept_iter hk),rfl,q⟩
theorem Jj:∀(ns:List Int) (j:Nat),(ns.map V.int).eraseIdx j=(ns.eraseIdx j).map V.int
 | [],_=>by simp
 | _::_,0=>by simp
 | n::r,j+1=>by simp [Jj r j]
theorem Xy:CallR X (.builtin "sorted") (fun xs H Q=>∃(p:Addr) (ns:List Int),xs=[.ref p]∧SqL X.K H p (ns.map V.int)∧ns.length<64∧∀(l:Addr) (ms:List Int),H l=none→ms.Perm ns→ms.Pairwise (·≤·)→Q (.ref l) (upd H l (.lst (ms.map V.int)))):=by
 intro pins s σ H xs us Q I r h
 obtain⟨p,ns,rfl,hq,h64,q⟩:=h
 obtain⟨u,rfl,ru⟩:=vals1 r
 cases ru
 obtain⟨vs,hl,hi,hz⟩:=I.ints hq
 refine sorted_ints hl hi (by rw [hi.length];exact h64) fun out ms a1 a2 a3=>?_
 obtain⟨e,he⟩:=sortedAll_at s.heap vs out
 have new:ObjOk X.prog X.w (upd H (s.heap.objs.size+1) (.lst (ms.map V.int))) (sortedAll s.heap vs out) (s.heap.objs.size+1) (.lst (ms.map V.int)):=⟨by rw [List.length_map,a2.length_eq];exact hz,out.toList,e,vals_ints a1,by simpa [seqObj] using he⟩
 exact⟨.ref (s.heap.objs.size+1),_,I.laid (t':=s.toks) (fun _ _=>sortedAll_old) (Nat.le_succ _) new,rfl,q _ ms (I.hok.fresh (Nat.le_succ _)) a2 a3⟩
end
end L2
namespace L2
open PySem PySem.Spec PyProof.Rows
theorem Same.wr {H H':Hp}{p:Addr}{o:HO} (s:Same H H') (h:H p=Option.none):Same H (upd H' p o):=fun b u e=>by
 rw [upd_ne (ne_of_none e h)]
 exact s b u e
theorem zel {A:Around}{k:Nat} (hr:Room k A):A.units+64<cLine:=hr.units
section
variable {X:Cx}
theorem zdl (K:PySem.W.Frag) (hK:X.K=K:=by rfl):IxR X (rIxL K):=by subst hK;exact ix_list
theorem zem (K:PySem.W.Frag) (hK:X.K=K:=by rfl):IxR X (rIxT K):=by subst hK;exact ix_tup
theorem zah (K:PySem.W.Frag){es:List Expr}{k:Nat}{t:TGs}{n:Nat}{pos:Pos} (hc:X.calm=true) (h:PGs X es t) (hK:X.K=K:=by rfl)
  (hn:(assignEach es X.env).length=n:=by rfl) (hst:(assignEach es X.env).findIdx? (·.1)=none:=by rfl):PG X (.Tuple es k pos) (gTup K n t):=by subst hK;exact pg_tup hc h hn hst
end
theorem wO {K:PySem.W.Frag}{a acc:Addr}{xs:List V}{own:Nat}{ix:List Nat}{g:TG}{te:TE}{σ:St}{H1:Hp}{Q:VK} (f:Nat→V) (hq:SqL K H1 a xs) (hn:H1 acc=none) (hz:xs.length≤sizeLine)
  (step:∀i x H (R:VK),xs[i]?=some x→Same H1 H→R (f i) H→g x (jD own ix σ) H fun σ4 H4=>σ4.drop own=ix.map (fun i=>(σ[i]?).getD none)∧te σ4 H4 R)
  (hd:Q (.ref acc) (upd H1 acc (.lst ((List.range xs.length).map f)))) :
  JK (Itl K a) own ix g Qh te σ H1 acc Q:=by
 refine⟨fun i m ys H=>m=xs.length-i∧i≤xs.length∧ys=(List.range i).map f∧H=upd H1 acc (.lst ys),⟨xs.length,by simp,Nat.zero_le _,rfl,rfl⟩,?_⟩
 rintro i m ys H ⟨rfl,hi,rfl,rfl⟩
 have q:SqL K (upd H1 acc (.lst ((List.range i).map f))) a xs:=(Same.new hn).seq hq
 refine⟨upd_same,?_⟩
 by_cases hlt:i<xs.length
 ·refine .inr ⟨⟨xs,xs[i],q,by simp [hlt]⟩,by rw [List.length_map,List.length_range];omega,fun x H3 y=>?_⟩
  obtain⟨e,y⟩:=y
  subst e
  exact step i x _ _ (y xs q) (Same.new hn) ⟨upd_same,xs.length-(i+1),by omega,rfl,hlt,by rw [List.range_succ,List.map_append];rfl,by rw [upd_upd]⟩
 ·have e:i=xs.length:=by omega
  subst e
  exact .inl ⟨⟨xs,q,Nat.le_refl _⟩,hd⟩
end L2
namespace L2
open PySem PySem.Spec PyProof.Rows
theorem Inv.turns {X:Cx}{pins:List (Addr×Obj)}{σ:St}{H:Hp}{s:Shared} {h':Heap}{ch:List Addr} {t':Nat} (I:Inv X pins σ H s) (hf:∀b∈ch,FpOk X pins H b) (k:∀b o,b ∉ ch→s.heap.get? b=some o→h'.get? b=some o) :
  Inv X pins σ H { s with heap:=h',toks:=t' }:=by
 have nit:∀b u,H b=some u→b ∉ ch:=fun b u e z=>by rw [(hf b z).1] at e;cases e
 refine I.step (g':=s.gens) (d':=s.drawn) (ch:=ch) (fun b hb=>⟨(hf b hb).2.2.2.1,(hf b hb).2.1,(hf b hb).2.2.2.2.1,(hf b hb).2.2.2.2.2⟩) (fun b o _ _ hc e _=>k b o hc e) (fun b o _ _ hc e _=>⟨o.slots,k b o hc e⟩) (fun _ _ _ _ n=>n)
  (fun b o hc e=>⟨o,k b o hc e⟩) (fun _ _ e=>e) (fun _ _ _ e=>e) (fun b ps e=>⟨#[],by rw [e];simp⟩) (fun m hm=>?_) (fun b u e=>?_) I.bare
 ·obtain⟨o,es,ep,ho,r⟩:=hm
  exact⟨o,es,ep,k _ o (fun z=>(hf _ z).2.1 rfl) ho,r⟩
 ·refine(I.hok b u e).stay (fun c v hc q=>k c v ?_ q) (fun _ q=>q) fun _ _ q=>q
  rcases hc with z | z
  ·rw [z];exact nit b u e
  ·exact nit c _ z
theorem Inv.turnsT {X:Cx}{pins:List (Addr×Obj)}{σ:St}{H:Hp}{s:Shared} {h':Heap}{ch:List Addr} {t':Nat}{T:Addr}{xs:List V}{its:List Value} (I:Inv X pins σ H s) (hf:∀b∈ch,FpOk X pins H b) (k:∀b o,b ∉ ch→s.heap.get? b=some o→h'.get? b=some o)
  (hT:s.heap.objs.size≤T) (r:Vals xs its) (ht:IsTup h' T its.toArray) (hz:xs.length≤sizeLine):Inv X pins σ (upd H T (.tup xs)) { s with heap:=h',toks:=t' }:=by
 have hn:H T=none:=I.hok.fresh hT
 have nit:∀b u,H b=some u→b ∉ ch:=fun b u e z=>by rw [(hf b z).1] at e;cases e
 have lt:∀b o,s.heap.get? b=some o→b≠T:=fun b o e=>Nat.ne_of_lt (Nat.lt_of_lt_of_le (Heap.lt_size e) hT)
 refine I.step (g':=s.gens) (d':=s.drawn) (ch:=ch) (fun b hb=>⟨(hf b hb).2.2.2.1,(hf b hb).2.1,(hf b hb).2.2.2.2.1,(hf b hb).2.2.2.2.2⟩) (fun b o _ _ hc e _=>k b o hc e) (fun b o _ _ hc e _=>⟨o.slots,k b o hc e⟩) (fun b o _ e n=>by rw [upd_ne (lt b o e)];exact n)
  (fun b o hc e=>⟨o,k b o hc e⟩) (fun b ys e=>by rw [upd_ne (ne_of_none e hn)];exact e) (fun b o u e=>by rw [upd_ne (ne_of_none e hn)];exact e) (fun b ps e=>⟨#[],by rw [upd_ne (ne_of_none e hn),e];simp⟩) (fun m hm=>?_) (fun b u e=>?_) I.bare
 ·obtain⟨o,es,ep,ho,r⟩:=hm
  exact⟨o,es,ep,k _ o (fun z=>(hf _ z).2.1 rfl) ho,r⟩
 ·by_cases hb:b=T
  ·subst hb
   rw [upd_same] at e
   cases e
   exact⟨hz,its,r,ht⟩
  ·rw [upd_ne hb] at e
   refine(I.hok b u e).stay (fun c v hc q=>k c v ?_ q) (fun c q=>?_) fun c w q=>?_
   ·rcases hc with z | z
    ·rw [z];exact nit b u e
    ·exact nit c _ z
   ·rw [upd_ne (ne_of_none q hn)];exact q
   ·rw [upd_ne (ne_of_none q hn)];exact q
section
variable {X:Cx}
end
end L2
namespace Bw
noncomputable def C:Nat→Nat→Nat
 | _,0=>1
 | 0,_+1=>0
 | n+1,k+1=>C n k+C n (k+1)
theorem JL (n:Nat):C n 0=1:=by cases n <;> rfl
theorem za1 (k:Nat):C 0 (k+1)=0:=rfl
theorem ZJ (n k:Nat):C (n+1) (k+1)=C n k+C n (k+1):=rfl
theorem Jk:∀(n k:Nat),n<k→C n k=0
 | n,0,h=>absurd h (Nat.not_lt_zero _)
 | 0,_+1,_=>rfl
 | n+1,k+1,h=>by
  rw [ZJ,Jk n k (by omega),Jk n (k+1) (by omega)]
theorem zdm:∀n:Nat,C n n=1
 | 0=>rfl
 | n+1=>by rw [ZJ,zdm n,Jk n (n+1) (by omega)]
theorem zdn:∀n:Nat,C n 1=n
 | 0=>rfl
 | n+1=>by rw [ZJ,JL,zdn n];omega
theorem zai:∀(n k:Nat),(k+1)*C n (k+1)+k*C n k=n*C n k
 | 0,0=>by simp [C]
 | 0,k+1=>by simp [C]
 | n+1,0=>by rw [zdn,JL];omega
 | n+1,k+1=>by
  have h1:=zai n k
  have h2:=zai n (k+1)
  rw [ZJ n (k+1),ZJ n k]
  have e1:(k+1+1)*(C n (k+1)+C n (k+1+1))=(k+1+1)*C n (k+1)+(k+1+1)*C n (k+1+1):=Nat.mul_add _ _ _
  have e2:(k+1)*(C n k+C n (k+1))=(k+1)*C n k+(k+1)*C n (k+1):=Nat.mul_add _ _ _
  have e3:(n+1)*(C n k+C n (k+1))=(n*C n k+C n k)+(n*C n (k+1)+C n (k+1)):=by rw [Nat.mul_add,Nat.succ_mul,Nat.succ_mul]
  have e4:(k+1+1)*C n (k+1)=(k+1)*C n (k+1)+C n (k+1):=Nat.succ_mul _ _
  have e5:(k+1)*C n k=k*C n k+C n k:=Nat.succ_mul _ _
  rw [e1,e2,e3,e4,e5]
  omega
theorem zcq {n k:Nat} (h:k≤n):(k+1)*C n (k+1)=C n k*(n-k):=by
 have e:=zai n k
 have e2:C n k*(n-k)+k*C n k=n*C n k:=by
  rw [Nat.mul_comm (C n k),← Nat.add_mul,Nat.sub_add_cancel h]
 omega
theorem ze0 {n k:Nat} (h:k≤n):C n k*(n-k) / (k+1)=C n (k+1):=by
 rw [← zcq h,Nat.mul_div_cancel_left _ (Nat.succ_pos k)]
theorem za2:∀(n k:Nat),C n k≤n ^ k
 | n,0=>by rw [JL];exact Nat.le_refl _
 | n,k+1=>by
  have ih:=za2 n k
  by_cases h:k≤n
  ·rw [← ze0 h,Nat.pow_succ]
   refine Nat.le_trans (Nat.div_le_self _ _) ?_
   exact Nat.mul_le_mul ih (Nat.sub_le _ _)
  ·rw [Jk n (k+1) (by omega)];exact Nat.zero_le _
noncomputable def ch (n k:Int):Int:=(C n.toNat k.toNat:Nat)
theorem Vc (n k:Int):0≤ch n k:=Int.natCast_nonneg _
theorem JM (n k:Nat):ch (n:Int) (k:Int)=(C n k:Nat):=by
 unfold ch;rw [Int.toNat_natCast,Int.toNat_natCast]
theorem Xz {n k:Int} (h0:0≤n) (h:n<k):ch n k=0:=by
 unfold ch;rw [Jk _ _ (by omega)];rfl
theorem XC (n:Int):ch n 0=1:=by
 unfold ch;rw [show (0:Int).toNat=0 from rfl,JL];rfl
theorem zaj {n k:Int} (hn:0≤n) (hk:0≤k):ch (n+1) (k+1)=ch n k+ch n (k+1):=by
 unfold ch
 rw [show (n+1).toNat=n.toNat+1 by omega,show (k+1).toNat=k.toNat+1 by omega,ZJ]
 omega
theorem zen {n:Int}{i:Nat} (hn:(i:Int)≤n):ch n i*(n-i) / ((i:Int)+1)=ch n ((i:Int)+1):=by
 unfold ch
 have e:n=((n.toNat:Nat):Int):=by omega
 have e1:((i:Int)+1).toNat=i+1:=by omega
 have e2:((i:Nat):Int).toNat=i:=by omega
 have e3:n-(i:Int)=((n.toNat-i:Nat):Int):=by omega
 rw [e1,e2,e3,← ze0 (n:=n.toNat) (k:=i) (by omega)]
 have e4:((i:Int)+1)=((i+1:Nat):Int):=by omega
 rw [e4,← Int.natCast_mul,← Int.natCast_ediv]
noncomputable def ff (n:Int):Nat→Int
 | 0=>1
 | i+1=>ff n i*(n-i)
noncomputable def fac:Nat→Int
 | 0=>1
 | i+1=>fac i*((i:Int)+1)
theorem Kq (i:Nat):fac (i+1)=fac i*((i:Int)+1):=rfl
end Bw
namespace Bw
theorem zeo:∀(n k:Nat),C n k≤C (n+1) k
 | n,0=>by rw [JL,JL];exact Nat.le_refl _
 | n,k+1=>by rw [ZJ];omega
theorem zbM {m n:Nat} (k:Nat) (h:m≤n):C m k≤C n k:=by
 induction h with
 | refl=>exact Nat.le_refl _
 | step _ ih=>exact Nat.le_trans ih (zeo _ _)
theorem zi3 {n k:Nat} (h:k≤n):0<C n k:=by
 have:=zbM k h
 rw [zdm] at this
 omega
theorem Kr {n k:Nat} (h:0<C n k):k≤n:=by
 rcases Nat.lt_or_ge n k with z | z
 ·rw [Jk n k z] at h;omega
 ·exact z
theorem zbN (n k:Nat):∀j:Nat,j≤n→C n (k+1)≤C (n-j) (k+1)+j*C (n-1) k
 | 0,_=>by simp
 | j+1,h=>by
  have ih:=zbN n k j (by omega)
  obtain⟨r,hr⟩:∃r,n-j=r+1:=⟨n-j-1,by omega⟩
  have e:n-(j+1)=r:=by omega
  have m:=zbM (m:=r) (n:=n-1) k (by omega)
  rw [hr,ZJ] at ih
  rw [e,Nat.succ_mul]
  omega
theorem zcR {t k number:Nat} (h:number<C t (k+1)) (d:Nat) (hd:d=(C t (k+1)-number+C (t-1) k-1) / C (t-1) k) :
  0<C (t-1) k∧1≤d∧d≤t∧number<C (t-d+1) (k+1):=by
 have hk:k+1≤t:=Kr (by omega)
 have ho:0<C (t-1) k:=zi3 (by omega)
 have hdm:d*C (t-1) k≤C t (k+1)-number+C (t-1) k-1:=by
  rw [hd];exact Nat.div_mul_le_self _ _
 have d1:1≤d:=by
  rw [hd];exact(Nat.le_div_iff_mul_le ho).mpr (by omega)
 have s:(d-1)*C (t-1) k+C (t-1) k=d*C (t-1) k:=by
  have e:d=d-1+1:=by omega
  conv=>rhs;rw [e,Nat.succ_mul]
 have lt:(d-1)*C (t-1) k<C t (k+1)-number:=by omega
 have dt:d-1≤t:=by
  rcases Nat.lt_or_ge t (d-1) with z | z
  ·have q:=zbN t k t (Nat.le_refl _)
   rw [Nat.sub_self,za1] at q
   have w:t*C (t-1) k≤(d-1)*C (t-1) k:=Nat.mul_le_mul_right _ (by omega)
   omega
  ·exact z
 have q:=zbN t k (d-1) dt
 have gt:number<C (t-(d-1)) (k+1):=by omega
 have ge:=Kr (n:=t-(d-1)) (k:=k+1) (by omega)
 have e:t-d+1=t-(d-1):=by omega
 rw [e]
 exact⟨ho,d1,by omega,gt⟩
noncomputable def Wo:Nat→Nat
 | 0=>1
 | i+1=>Wo i*(i+1)
theorem za3:∀{n k:Nat},k≤n→(n+1-k) ^ k≤C n k*Wo k
 | n,0,_=>by rw [JL];exact Nat.le_refl _
 | n,k+1,h=>by
  have ih:=za3 (n:=n) (k:=k) (by omega)
  have st:=zcq (n:=n) (k:=k) (by omega)
  have e:C n (k+1)*Wo (k+1)=C n k*Wo k*(n-k):=by
   show C n (k+1)*(Wo k*(k+1))=_
   rw [Nat.mul_comm (Wo k),← Nat.mul_assoc,Nat.mul_comm (C n (k+1)),st,Nat.mul_assoc,Nat.mul_comm (n-k),← Nat.mul_assoc]
  rw [e]
  have e2:n+1-(k+1)=n-k:=by omega
  rw [e2,Nat.pow_succ]
  refine Nat.mul_le_mul_right _ (Nat.le_trans (Nat.pow_le_pow_left (by omega) k) ih)
theorem za4 {number k f:Nat} (h:number*Wo k<2 ^ (f*k)):number<C (2 ^ f+k) k:=by
 rw [Nat.pow_mul] at h
 generalize 2 ^ f=p at h ⊢
 have q:=za3 (n:=p+k) (k:=k) (by omega)
 have e:p+k+1-k=p+1:=by omega
 rw [e] at q
 have r:p ^ k≤(p+1) ^ k:=Nat.pow_le_pow_left (by omega) k
 rcases Nat.lt_or_ge number (C (p+k) k) with z | z
 ·exact z
 ·have:=Nat.mul_le_mul_right (Wo k) z
  omega
theorem zcr:∀i:Nat,fac i=(Wo i:Nat)
 | 0=>rfl
 | i+1=>by
  rw [Kq,zcr i]
  show _=((Wo i*(i+1):Nat):Int)
  rw [Int.natCast_mul]
  rfl
structure za5 (k number t:Int):Prop where
 lo:k-1≤t
 le:ch t k≤number
 lt:number<ch (t+1) k
theorem Kc {m n k:Int} (h:m≤n):ch m k≤ch n k:=by
 unfold ch
 exact Int.ofNat_le.mpr (zbM _ (by omega))
theorem za5.unique {k number t u:Int} (a:za5 k number t) (b:za5 k number u):t=u:=by
 rcases (by omega:t=u∨t+1≤u∨u+1≤t) with e | e | e
 ·exact e
 ·have:=Kc (k:=k) e
  have h1:=a.lt
  have h2:=b.le
  omega
 ·have:=Kc (k:=k) e
  have h1:=b.lt
  have h2:=a.le
  omega
theorem zcS {n k:Int} (hn:0≤n) (h:0<ch n k):k≤n:=by
 rcases (by omega:k≤n∨n<k) with z | z
 ·exact z
 ·rw [Xz hn z] at h;omega
theorem zbO {t k number:Int} (hk:1≤k) (h0:0≤number) (ht:0≤t) (h:number<ch t k) (d:Int) (hd:d=(ch t k-number+ch (t-1) (k-1)-1) / ch (t-1) (k-1)) :
  k≤t∧0<ch (t-1) (k-1)∧1≤d∧k-1≤t-d∧number<ch (t-d+1) k:=by
 have kt:k≤t:=zcS ht (by omega)
 obtain⟨j,hj⟩:∃j:Nat,k=(j:Int)+1:=⟨(k-1).toNat,by omega⟩
 obtain⟨m,hm⟩:∃m:Nat,t=(m:Int):=⟨t.toNat,by omega⟩
 obtain⟨r,hr⟩:∃r:Nat,number=(r:Int):=⟨number.toNat,by omega⟩
 subst hj hm hr
 have e1:ch (m:Int) ((j:Int)+1)=(C m (j+1):Nat):=by
  rw [show ((j:Int)+1)=((j+1:Nat):Int) by omega,JM]
 have e2:ch ((m:Int)-1) ((j:Int)+1-1)=(C (m-1) j:Nat):=by
  rw [show ((m:Int)-1)=((m-1:Nat):Int) by omega,show ((j:Int)+1-1)=((j:Nat):Int) by omega,JM]
 rw [e1] at h
 rw [e1,e2] at hd
 have h':r<C m (j+1):=by omega
 obtain⟨s1,s2,s3,s4⟩:=zcR h' _ rfl
 have ed:d=(((C m (j+1)-r+C (m-1) j-1) / C (m-1) j:Nat):Int):=by
  rw [hd,Int.natCast_ediv]
  congr 1
  omega
 generalize (C m (j+1)-r+C (m-1) j-1) / C (m-1) j=dn at s2 s3 s4 ed
 subst ed
 have e3:ch ((m:Int)-(dn:Int)+1) ((j:Int)+1)=(C (m-dn+1) (j+1):Nat):=by
  rw [show ((m:Int)-(dn:Int)+1)=((m-dn+1:Nat):Int) by omega,show ((j:Int)+1)=((j+1:Nat):Int) by omega,JM]
 have le:=Kr (n:=m-dn+1) (k:=j+1) (by omega)
 rw [e2,e3]
 exact⟨kt,by omega,by omega,by omega,by omega⟩
theorem zff {number k:Int}{F b:Nat} (hk:1≤k) (h0:0≤number) (hb:(number*fac k.toNat).natAbs<2 ^ b) (hF:(b:Int)≤(F:Int)*k):number<ch ((2:Int) ^ F+k-1+1) k:=by
 obtain⟨j,hj⟩:∃j:Nat,k=(j:Int):=⟨k.toNat,by omega⟩
 obtain⟨r,hr⟩:∃r:Nat,number=(r:Int):=⟨number.toNat,by omega⟩
 subst hj hr
 rw [Int.toNat_natCast,zcr,← Int.natCast_mul,Int.natAbs_natCast] at hb
 have hF':b≤F*j:=by
  have:((F*j:Nat):Int)=(F:Int)*(j:Int):=Int.natCast_mul _ _
  omega
 have s:=za4 (number:=r) (k:=j) (f:=F) (Nat.lt_of_lt_of_le hb (Nat.pow_le_pow_right (by decide) hF'))
 have e:(2:Int) ^ F+(j:Int)-1+1=((2 ^ F+j:Nat):Int):=by
  rw [Int.natCast_add,Int.natCast_pow]
  show _=(2:Int) ^ F+(j:Int)
  omega
 rw [e,JM]
 exact Int.ofNat_lt.mpr s
end Bw
namespace Bw
open PySem L2
open Builtin.Int (intBits)
noncomputable def Z7:Sp:=fun vs H Q _=>∃n k:Int,vs=[.int n,.int k]∧0≤n∧0≤k∧k≤1000∧intBits n≤100000∧Q (.int (ch n k)) H
noncomputable def zak:Sp:=fun vs H Q _=>∃a b:Int,vs=[.int a,.int b]∧0<b∧Q (.int ((a+b-1) / b)) H
noncomputable def zcs:Sp:=fun vs H Q _=>∃k number:Int,vs=[.int k,.int number]∧1≤k∧k≤60∧0≤number∧intBits number≤50000∧∀t:Int,k-1≤t→number<ch (t+1) k→intBits t≤60000→Q (.int t) H
theorem zJ {x:Int}{m:Nat} (h1:0≤x) (h2:x<(2:Int) ^ m):intBits x≤m:=by
 refine intBits_le_iff.mpr ?_
 have e:((2 ^ m:Nat):Int)=(2:Int) ^ m:=by
  rw [Int.natCast_pow];rfl
 rw [← e] at h2
 omega
theorem zm {x:Int}{m n:Nat} (h:intBits x≤m) (hm:m≤n):intBits x≤n:=Nat.le_trans h hm
theorem zal {n:Int}{k m:Nat} (h:intBits n≤m) (hn:0≤n):intBits (ch n k)≤m*k+1:=by
 refine intBits_le_of_natAbs (y:=n ^ k) ?_ (intBits_pow_le h k)
 unfold ch
 rw [Int.toNat_natCast]
 have e:n=((n.toNat:Nat):Int):=by omega
 have e2:(n ^ k).natAbs=n.toNat ^ k:=by
  rw [Int.natAbs_pow]
  congr 1
  omega
 rw [e2]
 have:=za2 n.toNat k
 omega
theorem za6:∀i:Nat,i≤64→intBits (fac i)≤7*i+1
 | 0,_=>by decide
 | i+1,hi=>by
  rw [Kq]
  exact zm (intBits_mul_le (m:=7*i+1) (n:=7) (za6 i (by omega)) (zJ (by omega) (by omega))) (by omega)
end Bw
namespace L2
open PySem PySem.Spec PyProof.Rows
section
variable {X:Cx}
end
end L2
namespace L2
open PySem PySem.Spec PyProof.Rows
noncomputable def LL (H:Hp) (p:Addr) (nss:List (List Int)):Prop:=∃as:List Addr,H p=some (.lst (as.map V.ref))∧Paired (fun b (ns:List Int)=>H b=some (.lst (ns.map V.int))) as nss
noncomputable def LLm (H:Hp) (p:Addr) (nss:List (List Int)):Prop:=∃as:List Addr,H p=some (.lst (as.map V.ref))∧Paired (fun b (ns:List Int)=>b≠p∧H b=some (.lst (ns.map V.int))) as nss
theorem JN {α β:Type}{F G:α→β→Prop} (h:∀a b,F a b→G a b):∀{as:List α}{bs:List β},Paired F as bs→Paired G as bs
 | _,_,.nil=>.nil
 | _,_,.cons x y=>.cons (h _ _ x) (JN h y)
theorem LL.same {H H':Hp}{p:Addr}{nss:List (List Int)} (s:Same H H') (h:LL H p nss):LL H' p nss:=by
 obtain⟨as,e,q⟩:=h
 exact⟨as,s _ _ e,JN (fun _ _ z=>s _ _ z) q⟩
theorem LLm.push {H H':Hp}{pm t:Addr}{bs:List Addr}{nss:List (List Int)}{ns:List Int} (h2:Paired (fun b (ns:List Int)=>b≠pm∧H b=some (.lst (ns.map V.int))) bs nss) (sm:Same H H') (ht:H' t=some (.lst (ns.map V.int))) (hne:t≠pm) :
  LLm (upd H' pm (.lst (bs.map V.ref++[V.ref t]))) pm (nss++[ns]):=by
 refine⟨bs++[t],by rw [upd_same,List.map_append];rfl,Paired.snoc (JN (fun b n z=>⟨z.1,by rw [upd_ne z.1];exact sm _ _ z.2⟩) h2) ⟨hne,?_⟩⟩
 ·rw [upd_ne hne];exact ht
end L2
namespace L2
open PySem PySem.Spec PyProof.Rows
section
variable {prog:Program}{w:World}{A:Around}{E:Value→Shared→Prop}{s:Shared}
end
section
variable {X:Cx}
end
end L2
namespace L2
open PySem PySem.Spec PyProof.Rows
open PySem.W (hideAll of_hideAll hideAll_get)
noncomputable def CXE (P:Program) (w:World):CXT:=fun outer H s E e s'=>∃(x:Addr) (C a0:Value) (H':Hp) (B:Heap),e=.ref x∧s'.os=s.os∧AllBare s'.gens∧Heap.FlyingW B outer x C a0 s'.heap ∧
 (∀h3,B.StaysIn h3→s'.heap.UpToSlots h3→Un (frs outer) [] H H' s.heap h3∧HOk P w H' h3)∧s.heap.get? x=none∧H' x=none∧E C none H'
theorem zam {K:PySem.W.Frag}{h:Heap}{C:Addr}{bmB:List Value}{newId:String} (X:K.In h) (q:PySem.W.excIn K C bmB newId=true) :
  ∃bm N nm q bs hdct sn sub ab col dd k0 k1 k2 k3 k5 mN,h.get? C=some (excClassObj nm q C N bs bm hdct sn sub ab col dd k0 k1 k2 k3 k5 newId)∧h.Ns N mN∧mN "__init__"=none∧OwnTail h bmB bm∧∀v b,PySem.W.mroIn K C v=some b→(Value.ref C::bm).contains v=b:=by
 unfold PySem.W.excIn at q
 split at q
 ·rename_i dd cd sl ho
  split at q
  ·rename_i C' bm k0 k1 k2 k3 n k5 hm hs
   simp only [Bool.and_eq_true,beq_iff_eq,Bool.not_eq_true'] at q
   obtain⟨⟨⟨⟨⟨rfl,rfl⟩,hdel⟩,ht⟩,hok⟩,hni⟩:=q
   obtain⟨nm,bs,mro,ns,qn,hd,sn,sub,ab,col,del⟩:=cd
   dsimp only at hm hdel hok hni
   subst hm hdel
   have hsl:sl=#[k0,k1,k2,k3,some (.builtin n),k5]:=by
    obtain⟨l⟩:=sl
    simp only at hs
    rw [hs]
   subst hsl
   exact⟨bm,ns,nm,qn,bs,hd,sn,sub,ab,col,dd,k0,k1,k2,k3,k5,_,X _ _ ho,.of_isNs (PySem.W.isNs_of_in X hok),PySem.W.nsMap_none_of_in X hok hni,PySem.W.tail_of_in X ht,fun v b e=>by
    unfold PySem.W.mroIn PySem.W.clsIn at e
    rw [ho] at e
    simpa using e⟩
  ·cases q
 ·cases q
theorem ObjOk.there {P:Program}{w:World}{H:Hp}{h:Heap}{a:Addr}{o:HO} (x:ObjOk P w H h a o):∃ob,h.get? a=some ob:=by
 cases o with
 | lst xs=>obtain⟨_,_,_,_,e⟩:=x;exact⟨_,e⟩
 | tup xs=>obtain⟨_,_,_,ob,e,_⟩:=x;exact⟨_,e⟩
 | dK kvs=>obtain⟨_,_,_,_,o,_,_,e,_⟩:=x;exact⟨_,e⟩
 | dT kvs=>obtain⟨_,_,_,_,o,_,_,e,_⟩:=x;exact⟨_,e⟩
 | set S n=>obtain⟨o,_,_,_,e,_⟩:=x;exact⟨_,e⟩
 | ins C dx fs=>obtain⟨_,_,_,e,_⟩:=x;exact⟨_,e⟩
 | own y=>obtain⟨_,e⟩:=x;exact⟨_,e⟩
 | xd fs=>obtain⟨_,⟨_,_,_,e,_⟩,_⟩:=x;exact⟨_,e⟩
 | rng lo hi=>obtain⟨_,_,_,e⟩:=x;exact⟨_,e⟩
 | frz ob u=>obtain⟨e,_⟩:=x;exact⟨_,e⟩
 | tbl ps=>exact⟨_,(show h.get? a=some _ from x)⟩
 | met f y=>exact⟨_,(show h.get? a=some _ from x)⟩
 | ext φ=>obtain⟨_,⟨_,e⟩,_⟩:=x;exact⟨_,e⟩
section
variable {P:Program}{w:World}{K:PySem.W.Frag}{mg:Str→Option Value}{base:Heap}{N:List Str}{qual:Str}{scope:Scope}{f:Addr}{cdv:Value}{A:Around}{outer:List Env}{s s2:Shared}{H H1:Hp}{E:XK}{pins:List (Addr×Obj)}{σ:St}
theorem stands (I:Inv (cxOf (CXE P w) P w K mg base N qual scope f cdv A outer s H E) pins σ H1 s2){h3:Heap} (hst:(hideAll s2.heap (frs (envOfC qual scope s.heap.objs.size f cdv::outer))).StaysIn h3) (up:s2.heap.UpToSlots h3) :
  Un (frs outer) [] H H1 s.heap h3∧HOk P w H1 h3:=by
 have kk:∀b o,s2.heap.get? b=some o→b ∉ frs (envOfC qual scope s.heap.objs.size f cdv::outer)→h3.get? b=some o:=fun b o e hb=>hst b o (hideAll_get _ e hb)
 have frz:∀b,b∈frs (envOfC qual scope s.heap.objs.size f cdv::outer)→b=s.heap.objs.size∨b∈frs outer:=fun b hb=>by
  unfold frs at hb
  rw [List.filterMap_cons] at hb
  exact List.mem_cons.mp hb
 have zkb:∀b o,s.heap.get? b=some o→b ∉ frs outer→b ∉ frs (envOfC qual scope s.heap.objs.size f cdv::outer):=fun b o e hb z=>by
  rcases frz b z with q | q
  ·exact absurd (Heap.lt_size e) (by rw [q];exact Nat.lt_irrefl _)
  ·exact hb q
 have U:=I.base
 have stk:=I.stack
 refine⟨⟨fun b o e n hb hx=>kk b o (U.keep b o e n hb hx) (zkb b o e hb),fun b o e n hb hx=>?_,fun b o e n hx=>U.free b o e n hx,fun b o e hx=>?_,U.tups,U.frzs,U.tbls⟩,fun a u e=>?_⟩
 ·obtain⟨sl,q⟩:=U.slot b o e n hb hx
  obtain⟨_,o2,ho2,hd2⟩:=I.ok.funs.mem hb
  have ho2':s.heap.get? b=some o2:=ho2
  rw [e] at ho2'
  cases ho2'
  obtain⟨sl2,q2⟩:=up b _ q hd2
  exact⟨sl2,q2⟩
 ·obtain⟨o2,q⟩:=U.there b o e hx
  by_cases hb:b∈frs (envOfC qual scope s.heap.objs.size f cdv::outer)
  ·obtain⟨_,o3,ho3,hd3⟩:=stk.mem hb
   obtain⟨sl,q3⟩:=up b _ ho3 hd3
   exact⟨_,q3⟩
  ·exact⟨_,kk b o2 q hb⟩
 ·refine(I.hok a u e).stay (fun b v hb q=>kk b v q fun z=>?_) (fun _ q=>q) fun _ _ q=>q
  have hn:=I.stkFree b z
  rcases hb with r | r
  ·rw [r] at hn;rw [hn] at e;cases e
  ·rw [hn] at r;cases r
theorem zep {h':Heap}{e:Addr}{C:Value}{vs:List Value} (I:Inv (cxOf (CXE P w) P w K mg base N qual scope f cdv A outer s H E) pins σ H1 s2) (m:Heap.MadeExcOf s2.heap h' e C vs) (h:E C none H1) :
  (cxOf (CXE P w) P w K mg base N qual scope f cdv A outer s H E).xe (.ref e) { s2 with heap:=h' }:=by
 show wpAny (model P w) (A.deeper (envOfC qual scope s.heap.objs.size f cdv)) (leaving (envOfC qual scope s.heap.objs.size f cdv) (.ref e)) (fun _ s''=>CXE P w outer H s E (.ref e) s'') (fun e' s''=>CXE P w outer H s E e' s'') { s2 with heap:=h' }
 have stk:=I.stack
 refine wpAny_leaves_madeW (s:={ s2 with heap:=h' }) (base:=hideAll s2.heap (frs (envOfC qual scope s.heap.objs.size f cdv::outer))) (h:=s2.heap) I.ok.frames rfl (fun b o q=>of_hideAll _ q) (PySem.W.funFrames_hide stk fun env he b hb=>List.mem_filterMap.mpr ⟨env,he,hb⟩) m fun h'' t fl tup bt ups=>?_
 have up1:s2.heap.UpToSlots h'':=(Heap.UpToSlots.of_keeps m.keeps).trans ups
 refine⟨e,C,.ref t,H1,_,rfl,I.os,I.bare,fl,fun h3 st3 up3=>stands I st3 (up1.trans up3),?_,?_,h⟩
 ·have en:=m.new
  cases q:s.heap.get? e with
  | none=>rfl
  | some o=>
   obtain⟨o2,q2⟩:=I.base.there e o q (by show e ∉ ([]:List Addr);simp)
   rw [en] at q2;cases q2
 ·cases q:H1 e with
  | none=>rfl
  | some u=>
   obtain⟨ob,q2⟩:=ObjOk.there (I.hok e u q)
   rw [m.new] at q2;cases q2
theorem ze1 {b:Addr}{o:Obj} (e:s.heap.get? b=some o) (hb:b ∉ frs outer):b ∉ frs (envOfC qual scope s.heap.objs.size f cdv::outer):=fun z=>by
 have z':b∈s.heap.objs.size::frs outer:=by
  unfold frs at z ⊢
  rw [List.filterMap_cons] at z
  exact z
 rcases List.mem_cons.mp z' with q | q
 ·exact absurd (Heap.lt_size e) (by rw [q];exact Nat.lt_irrefl _)
 ·exact hb q
theorem zeq {x:Addr} {s':Shared}{e:Value} {E':XK} (I:Inv (cxOf (CXE P w) P w K mg base N qual scope f cdv A outer s H E) pins σ H1 s2) (hx:CXE P w (envOfC qual scope s.heap.objs.size f cdv::outer) H1 s2 E' e s') (h:∀C H',E' C none H'→E C none H') :
  (cxOf (CXE P w) P w K mg base N qual scope f cdv A outer s H E).xe e s':=by
 obtain⟨x,C,a0,H',B,rfl,os,bare,fl,st,xn,xh,q⟩:=hx
 show wpAny (model P w) (A.deeper (envOfC qual scope s.heap.objs.size f cdv)) (leaving (envOfC qual scope s.heap.objs.size f cdv) (.ref x)) (fun _ s''=>CXE P w outer H s E (.ref x) s'') (fun e' s''=>CXE P w outer H s E e' s'') s'
 refine wpAny_leaves_onW I.ok.frames rfl fl fun h'' fl2 up=>?_
 have U:=I.base
 refine⟨x,C,a0,H',B,rfl,os.trans I.os,bare,fl2,fun h3 st3 up3=>?_,?_,xh,h C H' q⟩
 ·obtain⟨u,ok⟩:=st h3 st3 (up.trans up3)
  refine⟨⟨fun b o e n hb hx=>u.keep b o (U.keep b o e n hb hx) (U.free b o e n hx) (ze1 e hb) hx,fun b o e n hb hx=>?_,fun b o e n hx=>?_,fun b o e hx=>?_,fun b xs e=>u.tups b xs (U.tups b xs e),fun b o v e=>u.frzs b o v (U.frzs b o v e),fun b ps e=>?_⟩,ok⟩
  ·obtain⟨sl,q1⟩:=U.slot b o e n hb hx
   have hb':b∈frs (envOfC qual scope s.heap.objs.size f cdv::outer):=by
    unfold frs;rw [List.filterMap_cons];exact List.mem_cons_of_mem _ hb
   obtain⟨sl2,q2⟩:=u.slot b _ q1 (U.free b o e n hx) hb' hx
   exact⟨sl2,q2⟩
  ·obtain⟨o2,q2⟩:=U.there b o e hx
   exact u.free b o2 q2 (U.free b o e n hx) hx
  ·obtain⟨o2,q2⟩:=U.there b o e hx
   exact u.there b o2 q2 hx
  ·obtain⟨m1,q1⟩:=U.tbls b ps e
   obtain⟨m2,q2⟩:=u.tbls b _ q1
   exact⟨m1++m2,by rw [q2,Array.append_assoc]⟩
 ·cases q1:s.heap.get? x with
  | none=>rfl
  | some o=>
   obtain⟨o2,q2⟩:=U.there x o q1 (by show x ∉ ([]:List Addr);simp)
   rw [xn] at q2;cases q2
end
section
variable {P:Program}{w:World}{K:PySem.W.Frag}{mg:Str→Option Value}{base:Heap}
noncomputable def FnE (P:Program) (w:World) (K:PySem.W.Frag) (mg:Str→Option Value) (base:Heap) (k:Nat) (x:Str) (ps:List Str) (sp:Sp):Prop:=
 ∃f fd,FnOk P w K mg base (CXE P w) k f fd ps sp∧PySem.W.keepIn K (.ref f)=true∧Binds K fd ps []∧mg x=some (.ref f)
noncomputable def zfg (C:Addr) (E:XK) (t:TA):TS:=fun _ σ H=>t σ H fun vs H1=>vs.length≤sizeLine∧E (.ref C) none H1
theorem jV {N:List Str}{qual:Str}{scope:Scope}{f:Addr}{cdv:Value}{A:Around}{outer:List Env}{s:Shared}{H:Hp}{E:XK}{xn:Str}{C:Addr}{bmB:List Value}{B newId initId:String}{e:Expr}{es:List Expr}{t:TA}{np cpos pos:Pos}
  (FB:ExcBaseFacts B newId initId bmB) (hq:PySem.W.excIn K C bmB newId=true) (hg:Gl (cxOf (CXE P w) P w K mg base N qual scope f cdv A outer s H E) xn) (hm:mg xn=some (.ref C)) (ha:PA (cxOf (CXE P w) P w K mg base N qual scope f cdv A outer s H E) (e::es) t)
  (hd:(xn == ("__debug__":Str))=false:=by decide)
  (he:starEach (e::es) (cxOf (CXE P w) P w K mg base N qual scope f cdv A outer s H E).env=(false,eval e (cxOf (CXE P w) P w K mg base N qual scope f cdv A outer s H E).env)::starEach es (cxOf (CXE P w) P w K mg base N qual scope f cdv A outer s H E).env:=by rfl)
  (hpl:(backTo cpos (starEach es (cxOf (CXE P w) P w K mg base N qual scope f cdv A outer s H E).env)).any (·.1)=false:=by rfl) :
  PS (cxOf (CXE P w) P w K mg base N qual scope f cdv A outer s H E) (.Raise (some (.Call (.Name xn np) (e::es) [] cpos)) none pos) (zfg C E t):=by
 intro pins s1 σ H0 D I h
 obtain⟨bm,N',nm,q,bs,hdct,sn,sub,ab,col,dd,k0,k1,k2,k3,k5,mN,hC,hN,hni,TL,_⟩:=zam I.mod.kin hq
 refine wpAny_Raise_call_subT (C:=C) (nm:=nm) (q:=q) (N:=N') (bs:=bs) (bm:=bm) (hdct:=hdct) (sn:=sn) (sub:=sub) (ab:=ab) (col:=col) (dd:=dd) (k0:=k0) (k1:=k1) (k2:=k2) (k3:=k3) (k5:=k5)
  FB (mN:=mN) (TL.hasType FB.hasBase) (I.ok.hd rfl) (by rw [he];show (false || (backTo cpos (starEach es _)).any (·.1))=false;rw [hpl];rfl) hni (ld_glob I hg hm ⟨rfl,?_⟩ hd)
 have hs:=ha cpos pins s1 σ H0 _ I h
 rw [he] at hs ⊢
 exact Calls.evalArgs_plain (thn hs fun us s2 x=>by
  obtain⟨vs,H1,I1,r1,z,q1⟩:=x
  exact⟨rfl,by rw [← r1.length];exact z,I1.bk _ _ hC,hN.keeps I1.bk,TL.keeps I1.bk,fun h' x m=>zep I1 m q1⟩)
end
section
variable {P:Program}{w:World}{K:PySem.W.Frag}{mg:Str→Option Value}{base:Heap}
theorem Fun.okE {x qual:Str}{st:Stmt}{f:Addr}{fd:FuncData}{N ps:List Str}{k:Nat}{sp:Sp} (F:Fun K x qual st f fd) (S:FnScope N ps (defScope st)) (len:∀vs H Q E,sp vs H Q E→vs.length=ps.length)
  (hbody:∀(cdv:Value) (A:Around) (outer:List Env) (s:Shared) (H:Hp) (vs:List V) (Q:VK) (E:XK),Room k (A.deeper (envOfC qual (defScope st) s.heap.objs.size f cdv))→sp vs H Q E →
   ∃t,PSs (cxOf (CXE P w) P w K mg base N qual (defScope st) f cdv A outer s H E) (defBody st) t∧t { nx:=fun _ H'=>Q .non H',rt:=Q } (start N vs) H):FnOk P w K mg base (CXE P w) (k+1) f fd ps sp:=by
 obtain⟨oc,od,kV,doc,pm,an,cdv,ct,osl,rfl,lk,hcd⟩:=F.ex
 exact fn_of lk hcd S len fun A outer s H vs Q E hr hsp=>hbody cdv A outer s H vs Q E hr hsp
theorem Def.fnE {x:Str}{st:Stmt}{N ps:List Str}{k:Nat}{sp:Sp} (D:Def K mg x st ps) (S:FnScope N ps (defScope st)) (len:∀vs H Q E,sp vs H Q E→vs.length=ps.length)
  (hbody:∀(f:Addr) (cdv:Value) (A:Around) (outer:List Env) (s:Shared) (H:Hp) (vs:List V) (Q:VK) (E:XK),Room k (A.deeper (envOfC x (defScope st) s.heap.objs.size f cdv))→sp vs H Q E →
   ∃t,PSs (cxOf (CXE P w) P w K mg base N x (defScope st) f cdv A outer s H E) (defBody st) t∧t { nx:=fun _ H'=>Q .non H',rt:=Q } (start N vs) H):FnE P w K mg base (k+1) x ps sp:=by
 obtain⟨f,fd,F,b,m⟩:=D
 exact⟨f,fd,F.okE S len (hbody f),F.kp,b,m⟩
end
section
variable {M:Model}{A:Around}{E:Value→Shared→Prop}{h:Heap}{g:Array GenState}{d:Drawn}{t:Nat}{os:OsState}
noncomputable def za7 (h:Heap) (C:Addr) (bm:List Value):Prop:=∃N nm q bs hdct sn sub ab col dd k0 k1 k2 k3 k5 newId,h.get? C=some (excClassObj nm q C N bs bm hdct sn sub ab col dd k0 k1 k2 k3 k5 newId)∧bm.contains (.type "BaseException")=true
end
section
variable {X:Cx}{pins:List (Addr×Obj)}{σ:St}{H:Hp}{s:Shared}
theorem zcT {M:Model}{A:Around}{E:Value→Shared→Prop}{i:Nat}{x:Str}{v:V}{Q:Unit→Shared→Prop} (I:Inv X pins σ H s) (hN:X.N.Nodup) (hi:X.N[i]?=some x) (hk:X.env.kindOf x=some .local) (hs':X.env.scope.names.lookup x=some .local) (hv:σ[i]?=some (some v))
  (h:∀s',Inv X pins (σ.set i none) H s'→Q () s'):wpAny M A (unbindName X.env x) Q E s:=by
 obtain⟨m,hn,hl⟩:=id I.loc
 have hcls:(X.env.scope.kind == .class || (X.env.scope.kind == .module && X.env.locals != X.env.globals))=false:=by rw [I.ok.kind];rfl
 have hiσ:i < σ.length:=by rw [I.len];exact(List.getElem?_eq_some_iff.mp hi).1
 have cne:=I.cne
 obtain⟨u,_,lk⟩:=hl i x v hi hv (.inl hs')
 have mx:m x=some u:=by
  rcases lk with ⟨_,e⟩ | ⟨k,_⟩
  ·exact e
  ·rw [hk] at k;rcases k with k | k <;> cases k
 refine wpAny_unbindName_local hk hn mx hcls fun h' u' hn' hs=>?_
 obtain⟨oL,_,_,hoL,_⟩:=id hn
 refine h _ ⟨I.ok,I.os,I.bare,⟨fun b o e n hb hx=>?_,fun b o e n hb hx=>?_,I.base.free,fun b o e hx=>?_,I.base.tups,I.base.frzs,I.base.tbls⟩,⟨_,hn',fun j y v' e1 e2 e3=>?_⟩,fun y c e=>?_,I.free,I.freeC,fun p hp=>?_,fun b ob e=>?_,by simpa using I.len⟩
 ·exact(hs.2 b (Nat.ne_of_lt (Nat.lt_of_lt_of_le (Heap.lt_size e) I.ok.above))).trans (I.base.keep b o e n hb hx)
 ·obtain⟨sl,e1⟩:=I.base.slot b o e n hb hx
  exact⟨sl,(hs.2 b (Nat.ne_of_lt (Nat.lt_of_lt_of_le (Heap.lt_size e) I.ok.above))).trans e1⟩
 ·obtain⟨o',e1⟩:=I.base.there b o e hx
  exact⟨o',(hs.2 b (Nat.ne_of_lt (Nat.lt_of_lt_of_le (Heap.lt_size e) I.ok.above))).trans e1⟩
 ·by_cases hj:j=i
  ·subst hj
   rw [List.getElem?_set_self hiσ] at e2
   cases e2
  ·rw [List.getElem?_set_ne (Ne.symm hj)] at e2
   obtain⟨u2,r',q⟩:=hl j y v' e1 e2 e3
   refine⟨u2,r',?_⟩
   rcases q with ⟨k,e⟩ | ⟨k,c,e,z⟩
   ·refine .inl ⟨k,?_⟩
    have:y≠x:=fun e=>hj (nodup_ix hN e1 (e ▸ hi))
    simp [this,e]
   ·exact .inr ⟨k,c,e,z.sameBut hs (cne y c e)⟩
 ·obtain⟨w',z⟩:=I.cell y c e
  exact⟨w',z.sameBut hs (cne y c e)⟩
 ·obtain⟨a,b,c,d,e⟩:=I.pin p hp
  exact⟨(hs.2 p.1 c).trans a,b,c,d,e⟩
 ·refine(I.hok b ob e).stay (fun c w' hc q=>(hs.2 c ?_).trans q) (fun _ q=>q) fun _ _ q=>q
  rintro rfl
  rcases hc with rfl | hc
  ·rw [I.free] at e;cases e
  ·rw [I.free] at hc;cases hc
abbrev Cx.inX (X:Cx) (x:Addr):Cx:={ X with A:=X.A.mark (some (.ref x)),calm:=false,xe:=fun _ _=>False }
theorem Inv.inX (I:Inv X pins σ H s) (x:Addr):Inv (X.inX x) pins σ H s:=
 ⟨⟨I.ok.mod,I.ok.kind,I.ok.glob,I.ok.blt,I.ok.above,I.ok.inj,I.ok.has,I.ok.cab,fun z=>Bool.noConfusion z,I.ok.frames,I.ok.stk,I.ok.exf,I.ok.bs,I.ok.bsz,I.ok.noex,I.ok.exfs,I.ok.funs,I.ok.frf⟩,I.os,I.bare,I.base,I.loc,I.cell,I.free,I.freeC,I.pin,I.hok,I.len⟩
theorem Inv.outX {x:Addr} (hh:X.calm=true→X.A.handled=none) (I:Inv (X.inX x) pins σ H s):Inv X pins σ H s:=
 ⟨⟨I.ok.mod,I.ok.kind,I.ok.glob,I.ok.blt,I.ok.above,I.ok.inj,I.ok.has,I.ok.cab,hh,I.ok.frames,I.ok.stk,I.ok.exf,I.ok.bs,I.ok.bsz,I.ok.noex,I.ok.exfs,I.ok.funs,I.ok.frf⟩,I.os,I.bare,I.base,I.loc,I.cell,I.free,I.freeC,I.pin,I.hok,I.len⟩
noncomputable def wN (x:Addr) (C:Value):HO:=.ext fun h=>∃o,h.get? x=some o∧o.cls=C
theorem zbP {x:Addr}{C:Value} {H':Hp}{s6:Shared}{o:Obj} (I:Inv X pins σ H s) (ho:s6.os=s.os) (hg:AllBare s6.gens) (u:Un (frs X.stack) [] H H' s.heap s6.heap) (ok:HOk X.prog X.w H' s6.heap) (xn:s.heap.get? x=none) (xh:H' x=none) (he:s6.heap.get? x=some o) (hc:o.cls=C) :
  Inv X pins σ (upd H' x (wN x C)) s6:=by
 have ne:∀b q,s.heap.get? b=some q→b≠x:=fun b q e z=>by rw [z,xn] at e;cases e
 refine I.call' (ch:=[]) ho ⟨u.keep,u.slot,fun b q e n hx=>by rw [upd_ne (ne b q e)];exact u.free b q e n hx,u.there,fun b xs e=>by rw [upd_ne (ne_of_none (u.tups b xs e) xh)];exact u.tups b xs e,fun b q v e=>by rw [upd_ne (ne_of_none (u.frzs b q v e) xh)];exact u.frzs b q v e,fun b ps e=>?_⟩ ?_ hg (fun b z=>absurd z (by simp))
 ·obtain⟨more,q⟩:=u.tbls b ps e
  exact⟨more,by rw [upd_ne (ne_of_none q xh)];exact q⟩
 ·intro b v e
  by_cases hb:b=x
  ·subst hb
   rw [upd_same] at e
   cases e
   exact⟨⟨o,he,hc⟩,⟨o,he⟩,fun h1 h2 ⟨o1,e1,c1⟩ k=>⟨o1,k o1 e1,c1⟩⟩
  ·rw [upd_ne hb] at e
   exact(ok b v e).stay (fun _ _ _ q=>q) (fun c q=>by rw [upd_ne (ne_of_none q xh)];exact q) fun c xs q=>by rw [upd_ne (ne_of_none q xh)];exact q
end
section
variable {X:Cx}{pins:List (Addr×Obj)}{σ:St}{H:Hp}{s:Shared}
end
end L2
namespace L2
open PySem PySem.Spec PyProof.Rows
noncomputable def Ite (K:PySem.W.Frag) (l:Addr) (N:Nat):It:=
  ⟨fun i H=>∃xs x,SqL K H l xs∧xs.length=N∧xs[i]?=some x,
   fun i H v H'=>∃t,H t=none∧v=.ref t∧∀xs x,SqL K H l xs→xs[i]?=some x→H'=upd H t (.tup [.int i,x]),
   fun i H=>i=N∧∃xs,SqL K H l xs∧xs.length=N⟩
theorem zbQ {P:Program}{w:World}{K:PySem.W.Frag}{elts:List Expr}{x1:Nat}{tp:Pos} (l e it:Addr) (N:Nat) (hei:e≠it) (hle:l≠e) (hli:l≠it) :
  Turn P w K (.Tuple elts x1 tp) (Ite K l N) [e,it] e (fun i h=>(∃old,IsEnum h e it i old)∧h.IsListIter it l i) where
 mem:=by simp
 obj:=fun i h ⟨⟨old,h1⟩,h2⟩ c hc=>by
  simp only [List.mem_cons,List.not_mem_nil,or_false] at hc
  rcases hc with z | z
  ·subst z;exact⟨_,h1,fun v q=>by have q':Data.fields _=Data.cell v:=q;cases q'⟩
  ·subst z
   obtain⟨o,ho,_,hd⟩:=h2
   exact⟨o,ho,fun v q=>by rw [hd] at q;cases q⟩
 keep:=fun i h h' ⟨⟨old,h1⟩,h2⟩ k=>⟨⟨old,k e (by simp) _ h1⟩,h2.at fun o z=>k it (by simp) o z⟩
 item:=by
  intro X hP hw hK hc i pins s σ H E I hf ⟨⟨old,h1⟩,h2⟩ ⟨xs,x,q1,hN,hx⟩
  subst hP hw hK
  obtain⟨it1,v1,p1,z1⟩:=I.list q1
  have hl1:=v1.length
  have hsz:it1.toArray.size=N:=by rw [List.size_toArray];omega
  have hi:i<N:=by have:=(List.getElem?_eq_some_iff.mp hx).1;omega
  obtain⟨u1,e1,r1⟩:=v1.get hx
  have D:=Draws.list (prog:=X.prog) (w:=X.w) (A:=X.A.in1) (I.ok.hd hc) it l hli it1.toArray
  rw [hsz] at D
  refine wpAny_pyNext_enum_itemD D h1 ⟨h2,p1.isList⟩ hi hei (by simp only [List.mem_cons,List.not_mem_nil,or_false,not_or];exact⟨hei,Ne.symm hle⟩) fun u h' tk hu g1 gst gT gs k=>?_
  refine⟨_,rfl,wpAny_letOwnedTupleGo_enum g1 fun h'' g1' sb=>?_⟩
  have hzT:s.heap.objs.size≠e:=Nat.ne_of_gt (Heap.lt_size h1)
  have eu:u=u1:=by
   have hu':it1[i]?=some u:=by simpa using hu
   rw [e1] at hu'
   exact(Option.some.inj hu').symm
  subst eu
  have gT':IsTup h'' s.heap.objs.size [Value.int i tk,u].toArray:=⟨_,sb.extBut _ _ hzT gT,rfl,_,rfl⟩
  have hlz:∀{c:Addr}{o:Obj},c≠e→h'.get? c=some o→h''.get? c=some o:=fun hcz z=>sb.extBut _ _ hcz z
  refine⟨.ref s.heap.objs.size,upd H s.heap.objs.size (.tup [.int i,x]),I.turnsT (ch:=[e,it]) (t':=tk+1) (fun c hcm=>hf c hcm) (fun c o hcn z=>?_) (Nat.le_refl _) (.cons ⟨tk,rfl⟩ (.cons r1 .nil)) gT' (by show 2≤sizeLine;decide),rfl,
   ⟨_,I.hok.fresh (Nat.le_refl _),rfl,fun xs' x' w1 w2=>?_⟩,⟨⟨_,g1'⟩,gst.1.at fun o z=>hlz (Ne.symm hei) z⟩,fun c hcm=>?_⟩
  ·simp only [List.mem_cons,List.not_mem_nil,or_false,not_or] at hcn
   exact hlz hcn.1 (k c o hcn.1 hcn.2 z)
  ·have a1:=I.list_inj w1 q1
   subst a1
   rw [hx] at w2
   cases w2
   rfl
  ·obtain⟨o,z,_⟩:∃o,s.heap.get? c=some o∧True:=by
    simp only [List.mem_cons,List.not_mem_nil,or_false] at hcm
    rcases hcm with z | z
    ·subst z;exact⟨_,h1,trivial⟩
    ·subst z;obtain⟨o,ho,_⟩:=h2;exact⟨o,ho,trivial⟩
   rw [upd_ne (Nat.ne_of_lt (Heap.lt_size z))]
   exact(hf c hcm).1
 done:=by
  intro X hP hw hK hc i pins s σ H E I hf ⟨⟨old,h1⟩,h2⟩ ⟨hi,xs,q1,hN⟩
  subst hP hw hK hi
  obtain⟨it1,v1,p1,z1⟩:=I.list q1
  have hl1:=v1.length
  have hsz:it1.toArray.size=i:=by rw [List.size_toArray];omega
  have D:=Draws.list (prog:=X.prog) (w:=X.w) (A:=X.A.in1) (I.ok.hd hc) it l hli it1.toArray
  rw [hsz] at D
  refine wpAny_pyNext_enum_endD D h1 ⟨h2,p1.isList⟩ fun h' k=>⟨rfl,I.turns (ch:=[e,it]) (t':=s.toks) hf fun c o hcn z=>?_⟩
  simp only [List.mem_cons,List.not_mem_nil,or_false,not_or] at hcn
  exact k c o hcn.2 z
 self:=fun _ _ _ _ _ st h=>let ⟨⟨_,z⟩,_⟩:=st;wpAny_pyIter_enum z h
section
variable {X:Cx}
noncomputable def zfh (K:PySem.W.Frag) (ta:TA):TI:=fun σ H R=>ta σ H fun vs H1=>∃a xs,vs=[.ref a]∧SqL K H1 a xs∧R (Ite K a xs.length) H1
theorem Ks {a:Expr}{ta:TA}{p pos:Pos}{elts:List Expr}{x1:Nat}{tp:Pos} (hg:Gl X "enumerate") (hm:X.mg "enumerate"=none) (ha:PA X [a] ta)
  (hs:starEach [a] X.env=(false,eval a X.env)::starEach [] X.env:=by rfl) (hs2:(backTo pos (starEach [] X.env)).any (·.1)=false:=by rfl) :
  PI X (.Tuple elts x1 tp) (.Call (.Name "enumerate" p) [a] [] pos) (zfh X.K ta):=by
 intro pins s σ H R I h
 refine Call_ (ld_blt I hg hm zaY (PyProof.Rows.callWith_type1 (thn (ha pos pins s σ H _ I h) fun us s1 ⟨vs,H1,I1,r1,q1⟩=>?_) hs hs2))
 obtain⟨l,xs,e,q1,q⟩:=q1
 subst e
 obtain⟨u,rfl,w1⟩:=vals1 r1
 cases w1
 obtain⟨its,v1,p1,z1⟩:=I1.list q1
 have hl:l<s1.heap.objs.size:=by obtain⟨_,_,e,_⟩:=p1;exact Heap.lt_size e
 refine call_enumerate_list p1.isList fun h' g1 g2 gs k=>?_
 refine wpAny_pyIter_enum g1 ?_
 refine⟨s1.heap.objs.size+1,[s1.heap.objs.size+1,s1.heap.objs.size],_,_,H1,rfl,I1.kept (t':=s1.toks) k,zbQ l _ s1.heap.objs.size xs.length ?_ ?_ ?_,⟨⟨_,g1⟩,g2⟩,fun c hcm=>?_,q⟩
 ·exact Nat.succ_ne_self _
 ·exact Nat.ne_of_lt (Nat.lt_succ_of_lt hl)
 ·exact Nat.ne_of_lt hl
 ·have hc:s1.heap.objs.size≤c:=by
   simp only [List.mem_cons,List.not_mem_nil,or_false] at hcm
   rcases hcm with e | e
   ·rw [e];exact Nat.le_succ _
   ·rw [e];exact Nat.le_refl _
  exact I1.fpOk hc (I1.hok.fresh hc)
theorem zdo (hc:X.calm=true):CallR X (.builtin "sum") (fun xs H Q=>∃(p:Addr) (ns:List Int),xs=[.ref p]∧SqL X.K H p (ns.map V.int)∧Q (.int ns.sum) H):=by
 intro pins s σ H xs us Q I r h
 obtain⟨p,ns,rfl,hq,q⟩:=h
 obtain⟨u,rfl,ru⟩:=vals1 r
 cases ru
 obtain⟨its,hl,hi,hz⟩:=I.ints hq
 obtain⟨xs,hx⟩:=hi.allInts.items
 have hl':s.heap.IsList p (intItems xs):=hx ▸ hl
 refine sum_intListG (I.ok.hd hc) hl' fun h' tk t' hk=>?_
 have e1:ns=xs.toList.map (·.1):=by
  rw [← nums_intItems,← hx]
  exact(show numsOf its.toArray.toList=ns from hi.numsOf).symm
 have e2:preSum (numAt xs) xs.size=ns.sum:=by
  rw [preSum_eq,List.take_of_length_le (by simp),e1]
 rw [e2]
 exact⟨.int _,H,I.kept (t':=tk) hk,⟨_,rfl⟩,q⟩
end
theorem zi4:bootBuiltins "sum"=some (.builtin "sum"):=by decide +kernel
theorem JP {K:PySem.W.Frag}{a acc:Addr}{xs:List V}{own:Nat}{ix:List Nat}{g:TG}{te:TE}{σ:St}{H1:Hp}{Q:VK} (f:Nat→V) (hq1:SqL K H1 a xs) (hn:H1 acc=none) (hz:xs.length≤sizeLine)
  (step:∀(i:Nat) (x:V) (t:Addr) (H:Hp) (R:VK),xs[i]?=some x→Same H1 H→H t=some (.tup [.int i,x])→R (f i) H→g (.ref t) (jD own ix σ) H fun σ4 H4=>σ4.drop own=ix.map (fun i=>(σ[i]?).getD none)∧te σ4 H4 R)
  (hd:∀H',Same H1 H'→H' acc=some (.lst ((List.range xs.length).map f))→Q (.ref acc) H'):JK (Ite K a xs.length) own ix g Qh te σ H1 acc Q:=by
 refine⟨fun i m ys H=>m=xs.length-i∧i≤xs.length∧ys=(List.range i).map f∧Same H1 H∧H acc=some (.lst ys),⟨xs.length,by simp,Nat.zero_le _,rfl,Same.new hn,upd_same⟩,?_⟩
 rintro i m zs H ⟨rfl,hi,rfl,sm,ha⟩
 refine⟨ha,?_⟩
 by_cases hlt:i<xs.length
 ·refine .inr ⟨⟨xs,xs[i],sm.seq hq1,rfl,List.getElem?_eq_getElem hlt⟩,by rw [List.length_map,List.length_range];omega,fun v H3 ⟨t,ht,hv,hy⟩=>?_⟩
  have e:=hy xs _ (sm.seq hq1) (List.getElem?_eq_getElem hlt)
  subst hv e
  have ha3:(upd H t (.tup [.int i,xs[i]])) acc=some (.lst ((List.range i).map f)):=by rw [upd_ne (ne_of_none ha ht)];exact ha
  exact step i _ t _ _ (List.getElem?_eq_getElem hlt) (sm.put ht) upd_same ⟨ha3,_,by omega,rfl,hlt,by rw [List.range_succ,List.map_append];rfl,(sm.put ht).wr hn,upd_same⟩
 ·have e:i=xs.length:=by omega
  subst e
  exact .inl ⟨⟨rfl,xs,sm.seq hq1,rfl⟩,hd H sm ha⟩
end L2
namespace L2
open PySem PySem.Spec PyProof.Rows
theorem VH {lo:Int}{n:Nat}{acc:Addr}{own:Nat}{ix:List Nat}{g:TG}{te:TE}{σ:St}{H1:Hp}{Q:VK} (Pr:Nat→V→Prop) (hn:H1 acc=none) (hz:n≤sizeLine)
  (step:∀(i:Nat) (H:Hp) (R:VK),i<n→Same H1 H→(∀v H',Same H H'→Pr i v→R v H')→g (.int (lo+i)) (jD own ix σ) H fun σ4 H4=>σ4.drop own=ix.map (fun i=>(σ[i]?).getD none)∧te σ4 H4 R)
  (hd:∀ys H',Same H1 H'→H' acc=some (.lst ys)→ys.length=n→(∀i v,ys[i]?=some v→Pr i v)→Q (.ref acc) H') :
  JK (Itr lo n) own ix g Qh te σ H1 acc Q:=by
 refine⟨fun i m ys H=>m=n-i∧i≤n∧ys.length=i∧(∀j v,ys[j]?=some v→Pr j v)∧Same H1 H∧H acc=some (.lst ys),⟨n,by simp,Nat.zero_le _,rfl,fun j v h=>by simp at h,Same.new hn,upd_same⟩,?_⟩
 rintro i m ys H ⟨rfl,hi,hl,pr,sm,ha⟩
 refine⟨ha,?_⟩
 by_cases hlt:i<n
 ·refine .inr ⟨hlt,by omega,fun x H3 y=>?_⟩
  obtain⟨e,y⟩:=y
  subst e y
  refine step i _ _ hlt sm fun v H' s' pv=>⟨s' _ _ ha,n-(i+1),by omega,rfl,hlt,by rw [List.length_append,hl];rfl,fun j u hj=>?_,(sm.trans s').wr hn,upd_same⟩
  by_cases hji:j<ys.length
  ·rw [List.getElem?_append_left hji] at hj
   exact pr j u hj
  ·have hj2:=(List.getElem?_eq_some_iff.mp hj).1
   rw [List.length_append,List.length_singleton] at hj2
   have ej:j=i:=by omega
   subst ej
   rw [List.getElem?_append_right (by omega),hl,Nat.sub_self] at hj
   have:v=u:=by simpa using hj
   subst this
   exact pv
 ·have e:i=n:=by omega
  subst e
  exact .inl ⟨Nat.le_refl _,hd ys H sm ha hl pr⟩
theorem zbR {K:PySem.W.Frag}{a acc:Addr}{xs:List V}{own:Nat}{ix:List Nat}{g:TG}{te:TE}{σ:St}{H1:Hp}{Q:VK} (Pr:Nat→V→Hp→Prop) (zi5:∀i v H H',Same H H'→Pr i v H→Pr i v H') (hacc:∀i v H o,H acc=some o→∀o',Pr i v H→Pr i v (upd H acc o'))
  (hq:SqL K H1 a xs) (hn:H1 acc=none) (hz:xs.length≤sizeLine)
  (step:∀(i:Nat) (x:V) (H:Hp) (R:VK),xs[i]?=some x→Same H1 H→(∀v H',Same H H'→Pr i v H'→R v H')→g x (jD own ix σ) H fun σ4 H4=>σ4.drop own=ix.map (fun i=>(σ[i]?).getD none)∧te σ4 H4 R)
  (hd:∀ys H',Same H1 H'→H' acc=some (.lst ys)→ys.length=xs.length→(∀i v,ys[i]?=some v→Pr i v H')→Q (.ref acc) H') :
  JK (Itl K a) own ix g Qh te σ H1 acc Q:=by
 refine⟨fun i m ys H=>m=xs.length-i∧i≤xs.length∧ys.length=i∧(∀j v,ys[j]?=some v→Pr j v H)∧Same H1 H∧H acc=some (.lst ys),⟨xs.length,by simp,Nat.zero_le _,rfl,fun j v h=>by simp at h,Same.new hn,upd_same⟩,?_⟩
 rintro i m ys H ⟨rfl,hi,hl,pr,sm,ha⟩
 refine⟨ha,?_⟩
 have q:=sm.seq hq
 by_cases hlt:i<xs.length
 ·refine .inr ⟨⟨xs,xs[i],q,by simp [hlt]⟩,by omega,fun x H3 y=>?_⟩
  obtain⟨e,y⟩:=y
  subst e
  refine step i x _ _ (y xs q) sm fun v H' s' pv=>⟨s' _ _ ha,xs.length-(i+1),by omega,rfl,hlt,by rw [List.length_append,hl];rfl,fun j u hj=>?_,(sm.trans s').wr hn,upd_same⟩
  by_cases hji:j<ys.length
  ·rw [List.getElem?_append_left hji] at hj
   exact hacc j u H' _ (s' _ _ ha) _ (zi5 j u _ _ s' (pr j u hj))
  ·have hj2:=(List.getElem?_eq_some_iff.mp hj).1
   rw [List.length_append,List.length_singleton] at hj2
   have ej:j=i:=by omega
   subst ej
   rw [List.getElem?_append_right (by omega),hl,Nat.sub_self] at hj
   have:v=u:=by simpa using hj
   subst this
   exact hacc j v H' _ (s' _ _ ha) _ pv
 ·have e:i=xs.length:=by omega
  subst e
  exact .inl ⟨⟨xs,q,Nat.le_refl _⟩,hd ys H sm ha hl pr⟩
section
variable {X:Cx}
end
end L2
namespace L2
open PySem PySem.Spec PyProof.Rows PySem.W PySem.Calls
section
variable {prog:Program}{w:World}{A:Around}{E:Value→Shared→Prop}{s:Shared}{K:Frag}{x C:Addr}{ox:Obj}
structure yW (K:Frag) (C:Addr):Prop where
 ga:findIn K (.ref C) "__getattribute__"=some (some (.builtin "BaseException.__getattribute__"))
 hk:findIn K (.ref C) "__getattr__"=some none
 cl:findIn K (.ref C) "__class__"=some (some (.builtin "object.__class__"))
 gt:specialIn K (.builtin "object.__class__") "__get__"=some (some (.builtin "getset_descriptor.__get__"))
 tk:takesIn K (.builtin "object.__class__")=some true
 mo:mroIn K C (.type "object")=some true
 mb:mroIn K C (.type "BaseException")=some true
open PySem.Builtin PySem.Builtin.ObjectAttr in
theorem zbS {M : Model} {h : Heap} (X : K.In h) (L : yW K C) : Looks M h (find (.ref x) (.ref C) "__class__") (Found.bind (.builtin "getset_descriptor.__get__") (.builtin "object.__class__")) := by
  have L1 := looks_findIn (M := M) X L.cl
  have L2 : Looks M h (getOf (some (.builtin "object.__class__"))) (some (.builtin "getset_descriptor.__get__")) := looks_specialIn X L.gt
  have L3 := looks_takesIn (M := M) X L.tk
  exact L1.andThen (L2.andThen ((show Looks M h (dataDescriptor? (some (.builtin "object.__class__")) (some (.builtin "getset_descriptor.__get__"))) (some (.builtin "getset_descriptor.__get__", .builtin "object.__class__")) from L3.andThen .now).andThen (Looks.tag .now)))
theorem zdp {M:Model}{nameV:Value}{Q:Unit→Shared→Prop}{h:Heap}{g:Array GenState}{d:Drawn}{t:Nat}{os:OsState} (X:K.In h) (L:yW K C) (hx:h.get? x=some ox) (hc:ox.cls=.ref C) (hq:Q () ⟨h,g,d,t,os⟩) :
  wpAny M A (checkBuiltinCall "BaseException.__getattribute__" ⟨[.ref x,nameV],[]⟩) Q E ⟨h,g,d,t,os⟩:=by
 have hk:builtinKind "BaseException.__getattribute__"=some .slot:=by decide +kernel
 have hsplit:splitId "BaseException.__getattribute__"=some ("BaseException","__getattribute__"):=by decide +kernel
 have ha:=F.args_bexc_ga (.ref x) nameV
 have LT:Looks M h (typeOf (.ref x)) (.ref C):=hc ▸ (Looks.ld hx).andThen .now
 have LI:Looks M h (isInstance (.ref x) (.type "BaseException")) true:=LT.andThen (looks_mroIn X L.mb)
 simp only [checkBuiltinCall,hk,hsplit]
 refine wpAny_bind (LI.at ?_)
 repeat (first | assumption | wp_step)
open PySem.Builtin PySem.Builtin.ObjectAttr PySem.Builtin.Getset_descriptor in
theorem zbT {tp : Value} {R : Result → Shared → Prop} (X : K.In s.heap) (L : yW K C) (hx : s.heap.get? x = some ox) (hc : ox.cls = .ref C)
    (h : R (.ok (.ret (.ref C))) s) : codeAny (model prog w) A (.call (.builtin "getset_descriptor.__get__") ⟨[.builtin "object.__class__", .ref x, tp], []⟩) R s := by
  obtain ⟨hh, g, dr, t, os⟩ := s
  have L0 : Looks (model prog w) hh (typeOf (.ref x)) (.ref C) := hc ▸ (Looks.ld hx).andThen .now
  have L1 := looks_mroIn (M := model prog w) X L.mo
  refine codeAny_call_builtin KF.slot_gs.plain KF.entry_gs (KF.slot_gs.check _ _ _ _ _ _ _ _ KF.type_class (KF.args_gs _ _ _) ?_)
  unfold Builtin.«getset_descriptor.__get__» descrGet
  rw [dga_obj]
  refine wpAny_bind (wpAny_pure ?_)
  unfold descrGetter descrCheckInstance descrNameAndClass isInstance
  simp only [KF.owner_class]
  repeat lk
  refine ⟨Code.quiet_builtin _ (by decide +kernel), codeAny_builtin KF.entry_class ?_⟩
  unfold Builtin.«object.__class__» shownTypeOf
  repeat lk
  exact h
theorem zcU {Q:Option Value→Shared→Prop} (X:K.In s.heap) (L:yW K C) (hx:s.heap.get? x=some ox) (hc:ox.cls=.ref C) (h:Q (some (.ref C)) { s with toks:=s.toks+1 }):wpAny (model prog w) A (getAttr? (.ref x) "__class__") Q E s:=by
 obtain⟨hh,g,d,t,os⟩:=s
 have L0:Looks (model prog w) hh (typeOf (.ref x)) (.ref C):=hc ▸ (Looks.ld hx).andThen .now
 have L1:=looks_findIn (M:=model prog w) X L.ga
 have L2:=looks_findIn (M:=model prog w) X L.hk
 unfold getAttr? getAttrBy? getAttrBy
 refine wpAny_bind (wpAny_mkText (wpAny_bind (wpAny_attempt (wpAny_holding (wpAny_bind (L0.at (wpAny_bind (L1.at ?_))))))))
 show wpAny _ _ (getAttrByItsOwn _ _ _ _ _ _) _ _ _
 unfold getAttrByItsOwn hookBefore
 refine wpAny_bind ?_
 show wpAny _ _ (typeLookup (.ref C) "__getattr__") _ _ _
 refine L2.at ?_
 refine wpAny_bind (wpAny_attempt (wpAny_holding ?_))
 show wpAny _ _ (boundAndCalled (.builtin "BaseException.__getattribute__") (.ref x) (.str "__class__" t)) _ _ _
 unfold boundAndCalled
 refine wpAny_bind (wpAny_of_eq (F.excAttr_ValueError.ga.bind (.ref x)) ?_)
 show wpAny _ _ (call (.builtin "BaseException.__getattribute__") [.ref x,.str "__class__" t]) _ _ _
 refine wpAny_call (codeAny_call_builtin F.excAttr_ValueError.ga.plain F.entry_bexc_ga (zdp (t:=t+1) X L hx hc ?_))
 unfold Builtin.«object.__getattribute__»
 refine wpAny_bind (wpAny_of_eq (a:=(Value.ref x,[Value.str "__class__" t])) rfl ?_)
 refine wpAny_bind (wpAny_of_eq (a:=Str.ofString "__class__") rfl ?_)
 refine wpAny_bind (L0.at (wpAny_bind ((zbS X L).at ?_)))
 show wpAny _ _ (holding [.builtin "object.__class__"] (call (.builtin "getset_descriptor.__get__") [.builtin "object.__class__",.ref x,.ref C]) >>= ret) _ _ _
 refine wpAny_bind (wpAny_holding (wpAny_call (zbT (s:=⟨hh,g,d,t+1,os⟩) X L hx hc (wpAny_pure ?_))))
 exact handed_on rfl (wpAny_pure h)
end
section
variable {K:Frag}{x C:Addr}
theorem zdq (L:yW K C):KitX K (.ref x) (.ref C) (fun h=>∃o,h.get? x=some o∧o.cls=.ref C) where
 ty:=fun M h _ p=>by
  obtain⟨o,h1,h2⟩:=p
  exact h2 ▸ (Looks.ld h1).andThen .now
 it:=fun _ _ X _=>by
  obtain⟨cd,hcd,_⟩:=Option.bind_eq_some_iff.mp (show (clsIn K C).bind _=some true from L.mo)
  unfold clsIn at hcd
  split at hcd
  ·rename_i c' d' cd' sl' ho
   intro A' Q' E' s' k q
   unfold isType loadHead
   exact wpAny_bind (wpAny_loadPart (k _ _ (X _ _ ho)) (wpAny_pure q))
  ·cases hcd
 ne:=fun h tp dd its n sl X htp=>by
  obtain⟨cd,hcd,_⟩:=Option.bind_eq_some_iff.mp (show (clsIn K C).bind _=some true from L.mo)
  refine Bool.eq_false_iff.mpr fun q=>?_
  have e:C=tp:=Value.ref.inj (beq_iff_eq.mp q)
  subst e
  unfold clsIn at hcd
  split at hcd
  ·rename_i c' d' cd' sl' ho
   have z:=(X _ _ ho).symm.trans htp
   cases z
  ·cases hcd
 ca:=fun X p k=>by
  obtain⟨o,h1,h2⟩:=p
  exact zcU X L h1 h2 k
end
inductive XTy (K:PySem.W.Frag) (H:Hp):V→Value→Prop where
 | of {x:V}{t:Value} (h:TyOf K H x t):XTy K H x t
 | exc {a C:Addr} (L:yW K C) (h:H a=some (wN a (.ref C))):XTy K H (.ref a) (.ref C)
section
variable {X:Cx}
theorem jO:CallR X (.builtin "isinstance") (fun xs H Q=>∃(x c:V) (u t:Value) (b:Bool),xs=[x,c]∧(∀u',RelV c u'→u'=u)∧XTy X.K H x t∧kitOne X.K t u=some b∧Q (.bl b) H):=by
 intro pins s σ H xs us Q I r h
 obtain⟨x,c,u,t,b,rfl,hu,ty,e,q⟩:=h
 obtain⟨u1,u2,rfl,r1,r2⟩:=vals2 r
 have e2:=hu u2 r2
 subst e2
 cases ty with
 | of ty=>exact isinst_ok I r1 ty e fun tk=>⟨.bl b,H,I.tok tk,rfl,q⟩
 | @exc a C L hx=>
  cases (show u1=Value.ref a from r1)
  obtain⟨⟨o,ho,hc⟩,_,_⟩:=(show ObjOk X.prog X.w H s.heap a (wN a (.ref C)) from I.hok a _ hx)
  exact kia_one (zdq L) I.kIn ⟨o,ho,hc⟩ e (fun z=>nomatch z) fun tk=>⟨.bl b,H,I.tok tk,rfl,q⟩
end
noncomputable def XD (X:Cx) (G:St→Value→Hp→Prop):Prop:=∀(pins:List (Addr×Obj)) (σ:St) (H:Hp) (s:Shared) (e:Value) (s':Shared),Inv X pins σ H s→CXE X.prog X.w X.stack H s (fun C _ H'=>G σ C H') e s'→X.xe e s'
noncomputable def zkc (sp:Sp) (G:St→Value→Hp→Prop) (t:TA):TE:=fun σ H Q=>t σ H fun vs H1=>sp vs H1 Q fun C _ H'=>G σ C H'
section
variable {X:Cx}{k:Nat}{x:Str}{ps:List Str}{sp:Sp}{p pos:Pos}{e:Expr}{es:List Expr}{t:TA}{G:St→Value→Hp→Prop}
theorem jj (F:FnE X.prog X.w X.K X.mg X.base k x ps sp) (hr:Room k X.A) (hg:Gl X x) (hx:XD X G) (ha:PA X (e::es) t) (hdb:(x == ("__debug__":Str))=false:=by decide)
  (he:starEach (e::es) X.env=(false,eval e X.env)::starEach es X.env:=by rfl) (hpl:(backTo pos (starEach es X.env)).any (·.1)=false:=by rfl) :
  PE X (.Call (.Name x p) (e::es) [] pos) (zkc sp G t):=by
 obtain⟨f,fd,F,kp,b,m⟩:=F
 intro pins s σ H Q I h
 refine wpAny_Call_Name_kw (ld_glob I hg m ?_ hdb)
 refine PySem.W.callWith_K (h₀:=X.base) I.ok.mod.kin kp (thn (ha pos pins s σ H _ I h) fun us s1 ⟨vs,H1,I1,r,q⟩=>⟨I1.kIn,?_⟩) he hpl
 have hl:us.length=ps.length:=by rw [← r.length];exact F.len _ _ _ _ q
 have bb:=b s1 us I1.kIn (by rw [List.append_nil];exact hl)
 rw [List.append_nil] at bb
 refine wpAny_call (codeAny_mono (F.run X.A X.stack s1 H1 ⟨us,[]⟩ us vs Q _ hr I1.env0 bb r q) fun rr s' hq=>?_)
 cases rr with
 | error e=>exact hx pins σ H1 s1 e s' I1 hq
 | ok fl=>
  cases fl with
  | ret u=>exact I1.after hq
  | next=>exact False.elim hq
  | brk=>exact False.elim hq
  | cont=>exact False.elim hq
end
theorem qC {P:Program}{w:World}{K:PySem.W.Frag}{mg:Str→Option Value}{base:Heap}{N:List Str}{qual:Str}{scope:Scope}{f:Addr}{cdv:Value}{A:Around}{outer:List Env}{s:Shared}{H:Hp}{E:XK} :
  XD (cxOf (CXE P w) P w K mg base N qual scope f cdv A outer s H E) (fun _ C H'=>E C none H'):=
 fun _ _ _ _ _ _ I h=>zeq (x:=0) I h fun _ _ z=>z
abbrev Cx.pinned (X:Cx) (pn:List (Addr×Obj)):Cx:={ X with pn:=pn }
theorem Inv.intoPn {X:Cx}{pins:List (Addr×Obj)}{σ:St}{H:Hp}{s:Shared} (I:Inv X pins σ H s):Inv (X.pinned (X.pn++pins)) [] σ H s:=
 ⟨⟨I.ok.mod,I.ok.kind,I.ok.glob,I.ok.blt,I.ok.above,I.ok.inj,I.ok.has,I.ok.cab,I.ok.hd,I.ok.frames,I.ok.stk,I.ok.exf,I.ok.bs,I.ok.bsz,I.ok.noex,I.ok.exfs,I.ok.funs,I.ok.frf⟩,I.os,I.bare,I.base,I.loc,I.cell,I.free,I.freeC,fun p hp=>I.pin p (by rw [List.append_nil] at hp;exact hp),I.hok,I.len⟩
theorem Inv.outPn {X:Cx}{pins YK:List (Addr×Obj)}{σ:St}{H:Hp}{s:Shared} (I:Inv (X.pinned (X.pn++pins)) YK σ H s):Inv X pins σ H s:=
 ⟨⟨I.ok.mod,I.ok.kind,I.ok.glob,I.ok.blt,I.ok.above,I.ok.inj,I.ok.has,I.ok.cab,I.ok.hd,I.ok.frames,I.ok.stk,I.ok.exf,I.ok.bs,I.ok.bsz,I.ok.noex,I.ok.exfs,I.ok.funs,I.ok.frf⟩,I.os,I.bare,I.base,I.loc,I.cell,I.free,I.freeC,fun p hp=>I.pin p (List.mem_append_left _ hp),I.hok,I.len⟩
theorem V0 {M:Model}{A:Around}{E:Value→Shared→Prop}{h:Heap}{g:Array GenState}{d:Drawn}{t:Nat}{os:OsState}{x C CB:Addr}{ox:Obj}{bm bm2:List Value}{Q:Bool→Shared→Prop} (hC:za7 h C bm) (hB:za7 h CB bm2) (hx:h.get? x=some ox) (hxc:ox.cls=.ref C)
  (hm:(Value.ref C::bm).contains (.ref CB)=true) (hq:Q true ⟨h,g,d,t,os⟩):wpAny M A (excMatches (.ref x) (.ref CB)) Q E ⟨h,g,d,t,os⟩:=by
 obtain⟨N,nm,q,bs,hdct,sn,sub,ab,col,dd,k0,k1,k2,k3,k5,newId,hC,hb⟩:=hC
 obtain⟨N',nm',q',bs',hdct',sn',sub',ab',col',dd',k0',k1',k2',k3',k5',newId',hB,hb'⟩:=hB
 have hcB:(Value.ref CB::bm2).contains (.type "BaseException")=true:=by rw [List.contains_cons,hb',Bool.or_true]
 have f:=tc_notTuple
 unfold excMatches
 repeat (first | (with_reducible refine wpAny_loadPart_at hx ?_;rw [hxc]) | with_reducible refine wpAny_loadPart_at hB ?_ | (with_reducible refine wpAny_isSubtype_exc hB ?_;rw [hcB]) | (with_reducible refine wpAny_isSubtype_exc hC ?_;rw [hm]) | wp_step)
 exact hq
noncomputable def zi6 (K:PySem.W.Frag) (CB:Addr) (i:Nat) (tb:(St→Value→Hp→Prop)→TS) (t2:TS):TS:=fun D σ H=>tb (fun σ1 Cv H'=>∃(C:Addr) (bmB:List Value) (newId:String),Cv=.ref C∧PySem.W.excIn K C bmB newId=true∧bmB.contains (.type "BaseException")=true∧PySem.W.mroIn K C (.ref CB)=some true ∧
 ∀x,H' x=none→t2 { nx:=fun σ3 H3=>D.nx ((σ3.set i (some .non)).set i none) H3,rt:=fun _ _=>False } (σ1.set i (some (.ref x))) (upd H' x (wN x (.ref C)))) D σ H
theorem zct {X:Cx}{n xn:Str}{tb:(St→Value→Hp→Prop)→TS}{t2:TS}{CB:Addr}{i:Nat}{body:List Stmt}{b2:Stmt}{bs2:List Stmt}{np pos2 pos:Pos}{bmC:List Value}{idC:String}
  (hst:X.stack=X.env::X.outer) (hfr:X.env.frame=some X.env.locals) (hN:X.N.Nodup) (hi:X.N[i]?=some n) (hl:X.env.scope.names.lookup n=some .local) (hkl:X.env.kindOf n=some .local)
  (hgC:Gl X xn) (hmC:X.mg xn=some (.ref CB)) (hqB:PySem.W.excIn X.K CB bmC idC=true) (hbB:bmC.contains (.type "BaseException")=true)
  (hb:∀(pn:List (Addr×Obj)) (xe:Value→Shared→Prop) (G:St→Value→Hp→Prop),XD ((X.pinned pn).wish xe) G→PSs ((X.pinned pn).wish xe) body (tb G)) (hb2:∀x,PSs (X.inX x) (b2::bs2) t2)
  (hdC:(xn == ("__debug__":Str))=false:=by decide) :
  PS X.nox (.Try body [.ExceptHandler (some (.Name xn np)) (some n) (b2::bs2) pos2] [] [] pos) (zi6 X.K CB i tb t2):=by
 intro pins s σ H D I h
 have I0:Inv X pins σ H s:=I.unwish
 refine wpAny_Try_except (wpAny_mono (hb (X.pn++pins) (fun e s'=>∃(YK:List (Addr×Obj)) (σ1:St) (H1:Hp) (s1:Shared),Inv (X.pinned (X.pn++pins)) YK σ1 H1 s1∧CXE X.prog X.w X.stack H1 s1 (fun Cv _ H'=>∃(C:Addr) (bmB:List Value) (newId:String),Cv=.ref C∧PySem.W.excIn X.K C bmB newId=true∧bmB.contains (.type "BaseException")=true∧PySem.W.mroIn X.K C (.ref CB)=some true ∧
   ∀x,H' x=none→t2 { nx:=fun σ3 H3=>D.nx ((σ3.set i (some .non)).set i none) H3,rt:=fun _ _=>False } (σ1.set i (some (.ref x))) (upd H' x (wN x (.ref C)))) e s') _ (fun YK σ1 H1 s1 e s' I1 z=>⟨YK,σ1,H1,s1,I1.unwish,z⟩) [] s σ H D (I0.intoPn.wish _) h) (fun fl s1 x=>?_) fun e s' x=>?_)
 ·cases fl with
  | next=>
   obtain⟨σ',H',I',q⟩:=x
   exact wpAny_execs_nil ⟨σ',H',I'.unwish.outPn.wish _,q⟩
  | brk=>
   obtain⟨σ',H',I',q⟩:=x
   exact⟨σ',H',I'.unwish.outPn.wish _,q⟩
  | cont=>
   obtain⟨σ',H',I',q⟩:=x
   exact⟨σ',H',I'.unwish.outPn.wish _,q⟩
  | ret u=>
   obtain⟨v,σ',H',I',r,q⟩:=x
   exact⟨v,σ',H',I'.unwish.outPn.wish _,r,q⟩
 ·obtain⟨YK,σ1,H1,s1,I1',x,Cv,a0,H',B,rfl,os,bare,fl,st,xn',xh,C,bmB,newId,rfl,hq,hbase,hmro,q2⟩:=x
  have I1:Inv X pins σ1 H1 s1:=I1'.outPn
  have fl':Heap.FlyingW B (X.env::X.outer) x (.ref C) a0 s'.heap:=by rw [← hst];exact fl
  have hfs:X.A.frames=some (X.env::X.outer):=by rw [← hst];exact I.ok.frames
  refine wpAny_looks_onW hfs hfr fl' fun h₄ held up4=>wpAny_landsW held fun h₅ fl5 up5=>?_
  have u05:=up4.trans up5
  obtain⟨un5,ok5⟩:=st h₅ fl5.1 u05
  have I5:Inv X pins σ1 H' { s' with heap:=h₅ }:=I1.call' (ch:=[]) os un5 ok5 bare (fun b z=>absurd z (by simp))
  obtain⟨ob,hob,hobc⟩:=fl5.there
  obtain⟨bm,N',nm,qn,bs,hdct,sn,sub,ab,col,dd,k0,k1,k2,k3,k5,mN,hC,hNs,hni,TL,mro⟩:=zam I5.kIn hq
  obtain⟨bm',N'',nm',qn',bs',hdct',sn',sub',ab',col',dd',k0',k1',k2',k3',k5',mN',hB',hNs',hni',TL',mro'⟩:=zam I5.kIn hqB
  refine wpAny_handleBy_cons (codeAny_handlers_test (Calls.Name_function_global I.ok.kind hgC (Calls.loadGlobal_global (by rw [I.ok.glob];exact(I.ok.mod.glob.keeps fun b o e=>I5.bk b o e)) hmC ?_) hdC)) (by intro q;cases q)
  refine V0 ⟨N',nm,qn,bs,hdct,sn,sub,ab,col,dd,k0,k1,k2,k3,k5,newId,hC,TL.hasType hbase⟩ ⟨N'',nm',qn',bs',hdct',sn',sub',ab',col',dd',k0',k1',k2',k3',k5',_,hB',TL'.hasType hbB⟩ hob hobc (mro _ _ hmro) (codeAny_handlers_suite_as ?_)
  refine lands_againW fl5 fun h₇ fl7 up7=>?_
  obtain⟨un7,ok7⟩:=st h₇ fl7.1 (u05.trans up7)
  obtain⟨ob7,hob7,hc7⟩:=fl7.there
  have I7:Inv X.nox pins σ1 (upd H' x (wN x (.ref C))) { s' with heap:=h₇ }:=zbP (I1.wish _) os bare un7 ok7 xn' xh hob7 hc7
  refine store_ok I7 hN hi (.inl hl) (v:=.ref x) rfl (fun s8 I8=>?_) (.inr hl)
  refine wpAny_mono (hb2 x pins s8 _ _ _ (I8.unwish.inX x) (q2 x xh)) (fun fl9 s9 x9=>?_) fun _ _ z=>False.elim z
  have hh:X.nox.calm=true→X.nox.A.handled=none:=I.ok.hd
  cases fl9 with
  | next=>
   obtain⟨σ3,H3,I9,q9⟩:=x9
   have I9':Inv X.nox pins σ3 H3 s9:=(Inv.outX (X:=X) hh I9).wish _
   have hi3:i < σ3.length:=by rw [I9'.len];exact(List.getElem?_eq_some_iff.mp hi).1
   refine wpAny_bind (wpAny_bindName (store_ok I9' hN hi (.inl hl) (v:=.non) (u:=.none) rfl (fun s10 I10=>?_) (.inr hl)))
   unfold unbindBehindTheSuite
   exact wpAny_onRaise (zcT I10 hN hi hkl hl (List.getElem?_set_self hi3) fun s11 I11=>⟨_,_,I11,q9⟩)
  | ret u=>obtain⟨_,_,_,_,_,z⟩:=x9;exact False.elim z
  | brk=>obtain⟨_,_,_,z⟩:=x9;exact False.elim z
  | cont=>obtain⟨_,_,_,z⟩:=x9;exact False.elim z
end L2
namespace L2
open PySem PySem.Spec PyProof.Rows
end L2
namespace L2
open PySem PySem.Spec PyProof.Rows
end L2
namespace L2
open PySem PySem.Spec PyProof.Rows
end L2
namespace L2
open PySem PySem.Spec PyProof.Rows
section
variable {X:Cx}
variable {a b:Expr}{ta tb:TE}{pos:Pos}
variable {tA tB':TT}{rest:List Expr}
end
end L2
namespace L2
open PySem PySem.Spec PyProof.Rows
end L2
namespace L2
open PySem PySem.Spec PyProof.Rows
end L2
namespace L2
open PySem PySem.Spec PyProof.Rows
end L2
namespace L2
open PySem PySem.Spec PyProof.Rows
end L2
namespace L2
open PySem PySem.Spec PyProof.Rows
section
variable {X:Cx}{CX:CXT}{k:Nat}{f C:Addr}{fd:FuncData}{ps ks:List Str}{sp:Sp}{E:XK}{x m:Str}{p pos apos kpos:Pos}{e o:Expr}{es:List Expr}{kws:List Keyword}{te ta:TE}{t tk:TA}{nm:Option Str}
variable {g:List Value→List Value→List Value}{gV:List V→List V→List V}
end
end L2
namespace L2
open PySem PySem.Spec PyProof.Rows
end L2
namespace L2
open PySem PySem.Spec PyProof.Rows
section
variable {κ:Type} [DecidableEq κ]
noncomputable def valV (kvs:List (κ×V)) (k:κ):Option V:=(kvs.find? fun kv=>decide (kv.1=k)).map (·.2)
noncomputable def putK (kvs:List (κ×V)) (k:κ) (v:V):List (κ×V):=
 if (kvs.any fun kv=>decide (kv.1=k))=true then kvs.map (fun kv=>if kv.1=k then (kv.1,v) else kv) else kvs++[(k,v)]
noncomputable def dropK (kvs:List (κ×V)) (k:κ):List (κ×V):=kvs.filter fun kv=>decide (kv.1≠k)
theorem valV_pos {p:κ×V}{r:List (κ×V)}{k:κ} (e:p.1=k):valV (p::r) k=some p.2:=by simp [valV,List.find?_cons,e]
theorem valV_neg {p:κ×V}{r:List (κ×V)}{k:κ} (e:¬p.1=k):valV (p::r) k=valV r k:=by simp [valV,List.find?_cons,e]
theorem valV_any (k:κ):∀kvs:List (κ×V),(kvs.any fun kv=>decide (kv.1=k))=(valV kvs k).isSome
 | []=>rfl
 | p::r=>by
  rw [List.any_cons]
  by_cases e:p.1=k
  ·simp only [valV_pos e,decide_eq_true e,Bool.true_or,Option.isSome_some]
  ·rw [valV_neg e,decide_eq_false e,Bool.false_or];exact valV_any k r
theorem valV_map (k j:κ) (y:V):∀kvs:List (κ×V),valV (kvs.map fun kv=>if kv.1=k then (kv.1,y) else kv) j=(valV kvs j).map fun x=>if j=k then y else x
 | []=>rfl
 | p::r=>by
  have ih:=valV_map k j y r
  rw [List.map_cons]
  by_cases h:p.1=k
  ·rw [if_pos h]
   by_cases e:p.1=j
   ·rw [valV_pos (p:=(p.1,y)) e,valV_pos e,Option.map_some,if_pos (e.symm.trans h)]
   ·rw [valV_neg (p:=(p.1,y)) e,valV_neg e,ih]
  ·rw [if_neg h]
   by_cases e:p.1=j
   ·rw [valV_pos (p:=p) e,valV_pos e,Option.map_some,if_neg (fun z=>h (e.trans z))]
   ·rw [valV_neg (p:=p) e,valV_neg e,ih]
theorem valV_snoc (k j:κ) (y:V):∀kvs:List (κ×V),valV kvs k=none→valV (kvs++[(k,y)]) j=if j=k then some y else valV kvs j
 | [],_=>by
  by_cases e:k=j
  ·rw [if_pos e.symm];exact valV_pos (p:=(k,y)) e
  ·rw [if_neg (fun z=>e z.symm)];exact valV_neg (p:=(k,y)) e
 | p::r,hn=>by
  rw [List.cons_append]
  have hk:¬p.1=k:=fun z=>by rw [valV_pos z] at hn;cases hn
  rw [valV_neg hk] at hn
  have ih:=valV_snoc k j y r hn
  by_cases e:p.1=j
  ·rw [valV_pos e,valV_pos e,if_neg (fun z=>hk (e.trans z))]
  ·rw [valV_neg e,valV_neg e,ih]
theorem valV_put (kvs:List (κ×V)) (k j:κ) (y:V):valV (putK kvs k y) j=if j=k then some y else valV kvs j:=by
 unfold putK
 by_cases a:(kvs.any fun kv=>decide (kv.1=k))=true
 ·rw [if_pos a,valV_map]
  rw [valV_any] at a
  by_cases e:j=k
  ·obtain⟨x,hx⟩:=Option.isSome_iff_exists.mp a
   rw [if_pos e,e,hx,Option.map_some,if_pos rfl]
  ·rw [if_neg e]
   cases valV kvs j with
   | none=>rfl
   | some x=>rw [Option.map_some,if_neg e]
 ·rw [if_neg a]
  refine valV_snoc k j y kvs ?_
  rw [valV_any] at a
  cases q:valV kvs k with
  | none=>rfl
  | some x=>rw [q] at a;exact(a rfl).elim
theorem length_putK (kvs:List (κ×V)) (k:κ) (v:V):(putK kvs k v).length≤kvs.length+1:=by
 unfold putK
 split
 ·rw [List.length_map];omega
 ·rw [List.length_append,List.length_cons,List.length_nil];omega
theorem RelO.isSome_eq {o:Option V}{u:Option Value} (r:RelO o u):o.isSome=u.isSome:=by
 cases o with
 | none=>cases u with
  | none=>rfl
  | some _=>exact(show False from r).elim
 | some _=>cases u with
  | none=>exact(show False from r).elim
  | some _=>rfl
theorem RelO.getD {o:Option V}{u:Option Value}{d:V} {d':Value} (r:RelO o u) (rd:RelV d d'):RelV (o.getD d) (u.getD d'):=by
 cases o with
 | none=>cases u with
  | none=>exact rd
  | some _=>exact(show False from r).elim
 | some _=>cases u with
  | none=>exact(show False from r).elim
  | some _=>exact r
theorem KV.val {kvs:List (κ×V)}{vs:List (κ×Value)} (r:KV kvs vs) (k:κ):RelO (valV kvs k) (valueAt vs k):=by
 unfold KV at r
 induction r with
 | nil=>exact True.intro
 | @cons p q ps qs h t ih=>
  obtain⟨h1,h2⟩:=h
  by_cases e:p.1=k
  ·have e':q.1=k:=h1.symm.trans e
   have b:valueAt (q::qs) k=some q.2:=by simp [valueAt,List.find?_cons,e']
   rw [valV_pos e,b];exact h2
  ·have e':¬q.1=k:=fun z=>e (h1.trans z)
   have b:valueAt (q::qs) k=valueAt qs k:=by simp [valueAt,List.find?_cons,e']
   rw [valV_neg e,b];exact ih
theorem KV.any {kvs:List (κ×V)}{vs:List (κ×Value)} (r:KV kvs vs) (k:κ):(kvs.any fun kv=>decide (kv.1=k))=vs.any fun kv=>decide (kv.1=k):=by
 unfold KV at r
 induction r with
 | nil=>rfl
 | cons h t ih=>rw [List.any_cons,List.any_cons,ih,h.1]
theorem KV.repl {kvs:List (κ×V)}{vs:List (κ×Value)} (r:KV kvs vs) (k:κ){y:V}{u:Value} (ry:RelV y u) :
  KV (kvs.map fun kv=>if kv.1=k then (kv.1,y) else kv) (vs.map fun kv=>if kv.1=k then (kv.1,u) else kv):=by
 unfold KV at r ⊢
 induction r with
 | nil=>exact .nil
 | @cons p q ps qs h t ih=>
  rw [List.map_cons,List.map_cons]
  refine .cons ?_ ih
  obtain⟨h1,h2⟩:=h
  by_cases e:p.1=k
  ·rw [if_pos e,if_pos (h1.symm.trans e)];exact⟨h1,ry⟩
  ·rw [if_neg e,if_neg (fun z=>e (h1.trans z))];exact⟨h1,h2⟩
theorem KV.put {kvs:List (κ×V)}{vs:List (κ×Value)} (r:KV kvs vs) (k:κ){y:V}{u:Value} (ry:RelV y u):KV (putK kvs k y) (stored vs k u):=by
 unfold putK stored
 rw [r.any k]
 by_cases e:(vs.any fun kv=>decide (kv.1=k))=true
 ·rw [if_pos e,if_pos e];exact r.repl k ry
 ·rw [if_neg e,if_neg e];exact Paired.snoc r ⟨rfl,ry⟩
theorem KV.drop {kvs:List (κ×V)}{vs:List (κ×Value)} (r:KV kvs vs) (k:κ):KV (dropK kvs k) (without vs k):=by
 unfold KV at r ⊢
 unfold dropK without
 induction r with
 | nil=>exact .nil
 | @cons p q ps qs h t ih=>
  obtain⟨h1,h2⟩:=h
  rw [List.filter_cons,List.filter_cons]
  by_cases e:p.1=k
  ·have a:¬decide (p.1≠k)=true:=by simp [e]
   have b:¬decide (q.1≠k)=true:=by simp [h1.symm.trans e]
   rw [if_neg a,if_neg b];exact ih
  ·have e':¬q.1=k:=fun z=>e (h1.trans z)
   have a:decide (p.1≠k)=true:=by simp [e]
   have b:decide (q.1≠k)=true:=by simp [e']
   rw [if_pos a,if_pos b];exact .cons ⟨h1,h2⟩ ih
theorem KV.length {kvs:List (κ×V)}{vs:List (κ×Value)} (r:KV kvs vs):kvs.length=vs.length:=Paired.length r
end
theorem kV_is {P:Program}{w:World}{k:Key}{u:Value} (r:RelV (kV k) u):(mixKind P w).is k u=true:=by
 cases k with
 | inl i=>obtain⟨t,e⟩:=(show ∃t,u=Value.int i t from r);subst e;exact mixKind_int P w i t
 | inr x=>obtain⟨t,e⟩:=(show ∃t,u=Value.str x t from r);subst e;exact mixKind_str P w x t
theorem items_are {P:Program}{w:World}:∀{ks:List Key}{us:List Value},Vals (ks.map kV) us→ItemsAre (mixKind P w) ks us
 | [],_,r=>by rw [List.map_nil] at r;cases r;exact .nil
 | k::ks,_,r=>by
  rw [List.map_cons] at r
  cases r with
  | cons h t=>exact .cons (kV_is h) (items_are t)
abbrev KT (H:Hp):List (List Key×V)→List (List Key×Addr×Value)→Prop:=Paired fun p q=>p.1=q.1∧H q.2.1=some (.tup (p.1.map kV))∧RelV p.2 q.2.2
theorem KT.val {H:Hp}{kvs:List (List Key×V)}{xs:List (List Key×Addr×Value)} (r:KT H kvs xs) (k:List Key):RelO (valV kvs k) ((atKey xs k).map (·.2)):=by
 induction r with
 | nil=>exact True.intro
 | @cons p q ps qs h t ih=>
  obtain⟨h1,_,h2⟩:=h
  by_cases e:p.1=k
  ·have e':q.1=k:=h1.symm.trans e
   have b:atKey (q::qs) k=some q.2:=by simp [atKey,List.find?_cons,e']
   rw [valV_pos e,b];exact h2
  ·have e':¬q.1=k:=fun z=>e (h1.trans z)
   have b:atKey (q::qs) k=atKey qs k:=by simp [atKey,List.find?_cons,e']
   rw [valV_neg e,b];exact ih
theorem KT.repl {H:Hp}{kvs:List (List Key×V)}{xs:List (List Key×Addr×Value)} (r:KT H kvs xs) (k:List Key){y:V}{u:Value} (ry:RelV y u) :
  KT H (kvs.map fun kv=>if kv.1=k then (kv.1,y) else kv) (xs.map (putAt k u)):=by
 induction r with
 | nil=>exact .nil
 | @cons p q ps qs h t ih=>
  rw [List.map_cons,List.map_cons]
  refine .cons ?_ ih
  obtain⟨h1,h2,h3⟩:=h
  unfold putAt
  by_cases e:p.1=k
  ·rw [if_pos e,if_pos (h1.symm.trans e)];exact⟨h1,h2,ry⟩
  ·rw [if_neg e,if_neg (fun z=>e (h1.trans z))];exact⟨h1,h2,h3⟩
theorem KT.put {H:Hp}{kvs:List (List Key×V)}{xs:List (List Key×Addr×Value)} (r:KT H kvs xs) (k:List Key){b:Addr}{y:V}{u:Value} (hb:H b=some (.tup (k.map kV))) (ry:RelV y u) :
  KT H (putK kvs k y) (storedH xs k b u):=by
 have e:(kvs.any fun kv=>decide (kv.1=k))=(atKey xs k).isSome:=by
  rw [valV_any,(r.val k).isSome_eq,Option.isSome_map]
 unfold putK storedH
 rw [e]
 by_cases q:(atKey xs k).isSome=true
 ·rw [if_pos q,if_pos q];exact r.repl k ry
 ·rw [if_neg q,if_neg q];exact Paired.snoc r ⟨rfl,hb,ry⟩
theorem KT.keeps {H H':Hp}{kvs:List (List Key×V)}{xs:List (List Key×Addr×Value)} (r:KT H kvs xs) (ht:∀b ys,H b=some (.tup ys)→H' b=some (.tup ys)):KT H' kvs xs:=
 Paired.mapP r fun _ _ z=>⟨z.1,ht _ _ z.2.1,z.2.2⟩
section
variable {P:Program}{w:World}{H:Hp}{h:Heap}{a:Addr}
theorem rd_of {u:HO} (ok:HOk P w H h) (e:Rd H a u):ObjOk P w H h a u:=e.ok ok
theorem dk_rd {kvs:List (Key×V)} (ok:HOk P w H h) (e:Rd H a (.dK kvs)):kvs.length≤sizeLine∧(a == sysModules)=false∧∃vs,KV kvs vs∧h.DictOf (mixKind P w) a vs:=
 show ObjOk P w H h a (.dK kvs) from rd_of ok e
theorem dk_of {kvs:List (Key×V)} (ok:HOk P w H h) (e:H a=some (.dK kvs)):kvs.length≤sizeLine∧(a == sysModules)=false∧∃vs,KV kvs vs∧h.DictOf (mixKind P w) a vs:=dk_rd ok (.inl e)
theorem key_of {ks:List Key} (ok:HOk P w H h) (e:H a=some (.tup (ks.map kV))):(tupleKind (mixKind P w)).is h ks a:=by
 obtain⟨_,its,r,o,h1,h2,n,h3⟩:=(show ObjOk P w H h a (.tup (ks.map kV)) from ok a _ e)
 exact⟨o,its.toArray,n,h1,h2,h3,by simpa using items_are r⟩
theorem dt_rd {kvs:List (List Key×V)} (ok:HOk P w H h) (e:Rd H a (.dT kvs)):kvs.length≤sizeLine∧(a == sysModules)=false ∧
  ∃xs,KT H kvs xs∧h.DictOfH (tupleKind (mixKind P w)) a xs:=by
 obtain⟨z,y,xs,r,o,es,ep,h1,h2,h3,h4,h5⟩:=(show ObjOk P w H h a (.dT kvs) from rd_of ok e)
 refine⟨z,y,xs,r,o,es,ep,h1,h2,h3,h4,fun x hx=>?_,h5⟩
 have all:∀{l:List (List Key×V)}{m:List (List Key×Addr×Value)},KT H l m→∀x∈m,(tupleKind (mixKind P w)).is h x.1 x.2.1:=by
  intro l m q
  induction q with
  | nil=>intro x hx;exact nomatch hx
  | @cons p q ps qs hq t ih=>
   intro x hx
   rcases List.mem_cons.mp hx with e | hx
   ·subst e
    exact key_of ok (by rw [← hq.1];exact hq.2.1)
   ·exact ih x hx
 exact all r x hx
theorem dt_of {kvs:List (List Key×V)} (ok:HOk P w H h) (e:H a=some (.dT kvs)):kvs.length≤sizeLine∧(a == sysModules)=false ∧
  ∃xs,KT H kvs xs∧h.DictOfH (tupleKind (mixKind P w)) a xs:=dt_rd ok (.inl e)
end
noncomputable def DGet (H:Hp) (a:Addr) (y:V) (r:Option V):Prop:=
 (∃kvs k,Rd H a (.dK kvs)∧y=kV k∧r=valV kvs k)∨∃kvs k b,Rd H a (.dT kvs)∧y=.ref b∧H b=some (.tup (k.map kV))∧r=valV kvs k
noncomputable def DPut (H:Hp) (a:Addr) (y v:V) (H':Hp):Prop:=
 (∃kvs k,H a=some (.dK kvs)∧y=kV k∧kvs.length<sizeLine∧H'=upd H a (.dK (putK kvs k v))) ∨
 ∃kvs k b,H a=some (.dT kvs)∧y=.ref b∧H b=some (.tup (k.map kV))∧kvs.length<sizeLine∧H'=upd H a (.dT (putK kvs k v))
theorem DGet.k {H:Hp}{a:Addr}{kvs:List (Key×V)}{k:Key} (e:H a=some (.dK kvs)):DGet H a (kV k) (valV kvs k):=.inl ⟨kvs,k,.inl e,rfl,rfl⟩
theorem DGet.t {H:Hp}{a b:Addr}{kvs:List (List Key×V)}{k:List Key} (e:H a=some (.dT kvs)) (eb:H b=some (.tup (k.map kV))):DGet H a (.ref b) (valV kvs k):=.inr ⟨kvs,k,b,.inl e,rfl,eb,rfl⟩
theorem DPut.k {H:Hp}{a:Addr}{kvs:List (Key×V)}{k:Key}{v:V} (e:H a=some (.dK kvs)) (hl:kvs.length<sizeLine):DPut H a (kV k) v (upd H a (.dK (putK kvs k v))):=.inl ⟨kvs,k,e,rfl,hl,rfl⟩
theorem DPut.t {H:Hp}{a b:Addr}{kvs:List (List Key×V)}{k:List Key}{v:V} (e:H a=some (.dT kvs)) (eb:H b=some (.tup (k.map kV))) (hl:kvs.length<sizeLine) :
  DPut H a (.ref b) v (upd H a (.dT (putK kvs k v))):=.inr ⟨kvs,k,b,e,rfl,eb,hl,rfl⟩
section
variable {X:Cx}{pins:List (Addr×Obj)}{σ:St}{H:Hp}{s:Shared}{a:Addr}{y v:V}{u r:Value}{o:Option V}{A:Around}{E:Value→Shared→Prop}
theorem Inv.big (I:Inv X pins σ H s):sysModules<s.heap.objs.size:=by
 have h:mainGlobals<s.heap.objs.size:=(I.mod.glob.keeps I.bk).lt
 exact Nat.lt_trans (by decide) h
theorem d_getItem {Q:Value→Shared→Prop} (hu:A.units+1<cLine) (I:Inv X pins σ H s) (g:DGet H a y (some v)) (ry:RelV y u) (h:∀w' s',Inv X pins σ H s'→RelV v w'→Q w' s') :
  wpAny (model X.prog X.w) A (getItem (.ref a) u) Q E s:=by
 rcases g with ⟨kvs,k,e,ey,l⟩ | ⟨kvs,k,b,e,ey,eb,l⟩
 ·subst ey
  obtain⟨z,hd,vs,rel,dd⟩:=dk_rd I.hok e
  obtain⟨w',hw,rw'⟩:=RelO.some_of (v:=v) (o:=valueAt vs k) (by rw [l];exact rel.val k)
  exact wpAny_getItem_of (kV_is ry) dd.mapOf hw (h w' _ (I.tok _) rw')
 ·subst ey
  cases (show u=Value.ref b from ry)
  obtain⟨z,hd,xs,rel,dd⟩:=dt_rd I.hok e
  obtain⟨w',hw,rw'⟩:=RelO.some_of (v:=v) (o:=(atKey xs k).map (·.2)) (by rw [l];exact rel.val k)
  obtain⟨p,hp,hp2⟩:=Option.map_eq_some_iff.mp hw
  refine wpAny_getItem_heap (tupleKind_room_in1 hu) (key_of I.hok eb) dd hp ?_
  rw [hp2]
  exact h w' _ (I.tok _) rw'
theorem d_notIn {Q:Value→Shared→Prop} (hu:A.units+1<cLine) (I:Inv X pins σ H s) (g:DGet H a y o) (ry:RelV y u) (h:∀s',Inv X pins σ H s'→Q (.bool (!o.isSome)) s') :
  wpAny (model X.prog X.w) A (compareOp .NotIn u (.ref a)) Q E s:=by
 rcases g with ⟨kvs,k,e,ey,l⟩ | ⟨kvs,k,b,e,ey,eb,l⟩
 ·subst ey
  obtain⟨z,hd,vs,rel,dd⟩:=dk_rd I.hok e
  refine wpAny_notIn_of (kV_is ry) hd dd.mapOf ?_
  rw [← (rel.val k).isSome_eq,← l]
  exact h _ (I.tok _)
 ·subst ey
  cases (show u=Value.ref b from ry)
  obtain⟨z,hd,xs,rel,dd⟩:=dt_rd I.hok e
  refine wpAny_notIn_heap (tupleKind_room_in1 hu) (key_of I.hok eb) hd dd ?_
  have q:=(rel.val k).isSome_eq
  rw [Option.isSome_map] at q
  rw [← q,← l]
  exact h _ (I.tok _)
theorem d_write {h':Heap} {t':Nat}{ob:HO} (I:Inv X pins σ H s) (mu:Mut (H a)) (hs:Heap.SameBut a s.heap h') (he:∃q,h'.get? a=some q) (new:ObjOk X.prog X.w (upd H a ob) h' a ob) :
  Inv X pins σ (upd H a ob) { s with heap:=h',toks:=t' }:=
 I.write (x:=a) (e:=a) mu (.inl rfl) (fun b q hb z=>(hs.2 b hb).trans z) he new
theorem dk_new {P:Program}{w:World} {H':Hp} {h':Heap}{kvs:List (Key×V)}{vs:List (Key×Value)} (z:kvs.length≤sizeLine) (hd:(a == sysModules)=false) (rel:KV kvs vs) (dd:h'.DictOf (mixKind P w) a vs) :
  ObjOk P w H' h' a (.dK kvs):=⟨z,hd,vs,rel,dd⟩
theorem d_setItem {H':Hp}{Q:Unit→Shared→Prop} (hu:A.units+1<cLine) (I:Inv X pins σ H s) (g:DPut H a y v H') (ry:RelV y u) (rv:RelV v r) (h:∀s',Inv X pins σ H' s'→Q () s') :
  wpAny (model X.prog X.w) A (setItem (.ref a) u r) Q E s:=by
 rcases g with ⟨kvs,k,e,ey,l,eH⟩ | ⟨kvs,k,b,e,ey,eb,l,eH⟩
 ·subst ey eH
  obtain⟨z,hd,vs,rel,dd⟩:=dk_of I.hok e
  have hz:vs.length≤sizeLine:=by rw [← rel.length];exact z
  have hl:(putK kvs k v).length≤sizeLine:=by have:=length_putK kvs k v;omega
  refine wpAny_setItem_pairs (hsz:=hz) (kV_is ry) dd fun h' dd' hs=>h _ ?_
  have he:∃q,h'.get? a=some q:=let ⟨q,_,_,hq,_⟩:=dd';⟨q,hq⟩
  exact d_write I (by rw [e];exact True.intro) hs he (dk_new hl hd (rel.put k rv) dd')
 ·subst ey eH
  cases (show u=Value.ref b from ry)
  obtain⟨z,hd,xs,rel,dd⟩:=dt_of I.hok e
  have hz:xs.length≤sizeLine:=by rw [← Paired.length rel];exact z
  have hl:(putK kvs k v).length≤sizeLine:=by have:=length_putK kvs k v;omega
  refine wpAny_setItem_heap (hsz:=hz) (tupleKind_room_in1 hu) (key_of I.hok eb) dd fun h' dd' hs=>h _ ?_
  obtain⟨q,es,ep,hq,h2,h3,h4,_,h5⟩:=dd'
  refine d_write I (by rw [e];exact True.intro) hs ⟨q,hq⟩ ⟨hl,hd,_,(rel.put k eb rv).keeps fun c ys ec=>?_,q,es,ep,hq,h2,h3,h4,h5⟩
  rw [upd_ne (ne_of ec e (fun z=>nomatch z))]
  exact ec
end
section
variable {X:Cx}{pins:List (Addr×Obj)}{σ:St}{H:Hp}{s:Shared}{a:Addr}{kvs:List (Key×V)}{k:Key}{u:Value}{A:Around}{E:Value→Shared→Prop}
end
noncomputable def NoSl (i:Expr):Prop:=∀ov iv,subscripted i false ov iv=operate [ov,iv] (getItem ov iv)
theorem subD_of {prog:Program}{w:World}{A:Around}{E:Value→Shared→Prop}{s:Shared}{env:Env}{value slice:Expr}{pos:Pos}{T id:String}{Q:Value→Shared→Prop}
  (hl:typeLookup (.type T) "__getitem__"=pure (some (.builtin id))) (hs:NoSl slice)
  (h:wpAny (model prog w) A (eval value env) (fun o s₁=>wpAny (model prog w) A (eval slice env) (fun i s₂=>s₂.TypeIs o T∧wpAny (model prog w) A (getItem o i) Q E s₂) E s₁) E s) :
  wpAny (model prog w) A (eval (.Subscript value slice pos) env) Q E s:=by
 refine Subscript_ (wpAny_mono h (fun o s₁ h₁=>wpAny_mono h₁ (fun i s₂ h₂=>?_) fun _ _ x=>x) fun _ _ x=>x)
 obtain⟨hT,h₂⟩:=h₂
 unfold subscriptTail
 refine wpAny_bind ?_
 rw [getitemInPython_of_ne hT.not_modules]
 refine wpAny_bind (wpAny_specialOf hT hl ?_)
 have fin:wpAny (model prog w) A (subscripted slice false o i) (fun r s₃=>wpAny (model prog w) A (letTemporaryGo value o r >>= fun _=>pure r) Q E s₃) E s₂:=by
  rw [hs o i]
  exact wpAny_operating (wpAny_mono h₂ (fun r s₃ h₃=>wpAny_bind (wpAny_letTemporaryGo (wpAny_pure h₃))) fun _ _ x=>x)
 first
  | exact wpAny_pure (wpAny_bind fin)
  | exact wpAny_bind (wpAny_pure (wpAny_bind fin))
  | exact wpAny_bind fin
theorem dict_typeIs {X:Cx}{pins:List (Addr×Obj)}{σ:St}{H:Hp}{s:Shared}{a:Addr}{y:V}{o:Option V} (I:Inv X pins σ H s) (g:DGet H a y o):s.TypeIs (.ref a) "dict":=by
 rcases g with ⟨kvs,k,e,_,_⟩ | ⟨kvs,k,b,e,_,_,_⟩
 ·obtain⟨_,_,vs,_,dd⟩:=dk_rd I.hok e
  exact dd.typeIs
 ·obtain⟨_,_,xs,_,dd⟩:=dt_rd I.hok e
  exact dd.typeIs
noncomputable def tDGet (td ty:TE):TE:=fun σ H Q=>td σ H fun x H1=>ty σ H1 fun y H2=>∃a v,x=.ref a∧DGet H2 a y (some v)∧Q v H2
noncomputable def tDNotIn (ty td:TE):TE:=fun σ H Q=>ty σ H fun y H1=>td σ H1 fun x H2=>∃a o,x=.ref a∧DGet H2 a y o∧Q (.bl (!o.isSome)) H2
noncomputable def sDPut (td ty tv:TE):TS:=fun D σ H=>tv σ H fun v H1=>td σ H1 fun x H2=>ty σ H2 fun y H3=>∃a H4,x=.ref a∧DPut H3 a y v H4∧D.nx σ H4
section
variable {X:Cx}{o i e value:Expr} {pos pos' tpos:Pos}{td ty tv:TE}
theorem pe_dget (hu:X.A.units+1<cLine) (ho:PE X o td) (hi:PE X i ty) (hs:NoSl i):PE X (.Subscript o i pos) (tDGet td ty):=by
 intro pins s σ H Q I h
 refine subD_of PySem.F.slot_dict_getitem.lookup hs (thn (ho pins s σ H _ I h) fun u s1 ⟨x,H1,I1,rx,q1⟩=>thn (hi pins s1 σ H1 _ I1 q1) fun iv s2 ⟨y,H2,I2,ry,a,v,ex,g,q2⟩=>?_)
 subst ex
 obtain rfl:u=Value.ref a:=rx
 exact⟨dict_typeIs I2 g,d_getItem hu I2 g ry fun w' s3 I3 rw'=>⟨v,H2,I3,rw',q2⟩⟩
theorem pc_dnotin (hu:X.A.units+1<cLine) (hi:PE X i ty) (ho:PE X o td):PC X .NotIn i o (tDNotIn ty td):=by
 intro pins s σ H Q I h
 refine thn (hi pins s σ H _ I h) fun iv s1 ⟨y,H1,I1,ry,q1⟩=>thn (ho pins s1 σ H1 _ I1 q1) fun u s2 ⟨x,H2,I2,rx,a,ov,ex,g,q2⟩=>?_
 subst ex
 obtain rfl:u=Value.ref a:=rx
 exact d_notIn hu I2 g ry fun s3 I3=>⟨.bl (!ov.isSome),H2,I3,rfl,q2⟩
theorem ps_dput (hu:X.A.units+1<cLine) (ho:PE X o td) (hi:PE X i ty) (hv:PE X value tv) (hs:swapsWith value (some (.Subscript o i pos')) pos.line X.env=pure false) :
  PS X (.Assign [.Subscript o i pos'] value pos) (sDPut td ty tv):=by
 intro pins s σ H D I h
 refine wpAny_Assign_Subscript (thn (hv pins s σ H _ I h) fun r s1 ⟨v,H1,I1,rv,q1⟩=>thn (ho pins s1 σ H1 _ I1 q1) fun u s2 ⟨x,H2,I2,rx,q2⟩=>thn (hi pins s2 σ H2 _ I2 q2) fun iv s3 ⟨y,H3,I3,ry,a,H4,ex,g,q3⟩=>?_) hs
 subst ex
 obtain rfl:u=Value.ref a:=rx
 exact d_setItem hu I3 g ry rv fun s4 I4=>⟨σ,H4,I4,q3⟩
end
theorem dk_empty {P:Program}{w:World}{H:Hp} (h:Heap) (hb:sysModules<h.objs.size):ObjOk P w H (h.push { cls:=.type "dict",data:=.dict #[] }) h.objs.size (.dK []):=
 ⟨Nat.zero_le _,beq_eq_false_iff_ne.mpr (Ne.symm (Nat.ne_of_lt hb)),[],.nil,Heap.DictOf.new h⟩
noncomputable def tDNewK:TE:=fun _ H Q=>∀p,H p=none→Q (.ref p) (upd H p (.dK []))
section
variable {X:Cx}{pos:Pos}
theorem pe_dnewK:PE X (.Dict [] [] pos) tDNewK:=fun pins s σ H Q I h=>
 wpAny_Dict_empty ⟨.ref s.heap.objs.size,_,I.laid (a:=s.heap.objs.size) (o:=.dK []) (t':=s.toks) (fun _ _ q=>Heap.get?_push_of_some _ q) (Nat.le_refl _) (dk_empty s.heap I.big),rfl,h _ (I.hok.fresh (Nat.le_refl _))⟩
end
structure M1 (X:Cx) (o:Expr) (m:Str) (apos:Pos) (e:Expr) (cpos:Pos):Prop where
 base:attributeBase o m X.env (eval o X.env)=eval o X.env
 few:((backTo cpos (starEach [e] X.env)).all (fun x=>!x.1) && (backToKw cpos (keywordEach [] X.env)).all (fun x=>x.1.isSome)
  && decide (([e]:List Expr).length+([]:List Keyword).length+(if ([]:List Keyword).isEmpty then 0 else 1)<30))=true
 line:(apos.endLine == cpos.line)=true
 trees:backTo cpos (starEach [e] X.env)=[(false,eval e X.env)]
structure M2 (X:Cx) (o:Expr) (m:Str) (apos:Pos) (e f:Expr) (cpos:Pos):Prop where
 base:attributeBase o m X.env (eval o X.env)=eval o X.env
 few:((backTo cpos (starEach [e,f] X.env)).all (fun x=>!x.1) && (backToKw cpos (keywordEach [] X.env)).all (fun x=>x.1.isSome)
  && decide (([e,f]:List Expr).length+([]:List Keyword).length+(if ([]:List Keyword).isEmpty then 0 else 1)<30))=true
 line:(apos.endLine == cpos.line)=true
 trees:backTo cpos (starEach [e,f] X.env)=[(false,eval e X.env),(false,eval f X.env)]
section
variable {X:Cx}{pins:List (Addr×Obj)}{σ:St}{H:Hp}{s:Shared}{a:Addr}{y d:V}{u r:Value}{o:Option V}{A:Around}{E:Value→Shared→Prop}
end
section
variable {X:Cx}{o e f:Expr}{apos cpos:Pos}{td ty tx:TE}
end
section
variable {X:Cx}{pins:List (Addr×Obj)}{σ:St}{H:Hp}{s:Shared}{a:Addr}{kvs:List (Key×V)}{A:Around}{E:Value→Shared→Prop}
end
section
variable {X:Cx}{pins:List (Addr×Obj)}{σ:St}{H:Hp}{s:Shared}{a:Addr}{y:V}{u:Value}{A:Around}{E:Value→Shared→Prop}
end
end L2
namespace Att
open PySem PySem.W PySem.Calls PyProof.Rows
end Att
namespace L2
open PySem PySem.Spec PyProof.Rows
end L2
namespace L2
open PySem PySem.Spec PyProof.Rows
end L2
namespace L2
open PySem PySem.Spec PyProof.Rows
section
variable {X:Cx}
end
section
variable {κ:Type} [DecidableEq κ]
end
end L2
namespace L2
open PySem PySem.Spec PyProof.Rows
section
variable {X:Cx}
theorem zbU {ys:List Str}:∀{us:List Value},Vals (ys.map V.str) us→StrsAre us ys:=by
 induction ys with
 | nil=>intro us r;rw [List.map_nil] at r;cases r;exact .nil
 | cons n ns ih=>
  intro us r
  rw [List.map_cons] at r
  cases r with
  | cons r1 r2=>
   obtain⟨t,e⟩:=r1
   subst e
   exact .cons n t (ih r2)
noncomputable def rJoin (K:PySem.W.Frag):V→List V→Hp→VK→Prop:=fun x vs H Q=>∃a p ys,x=.str a∧vs=[.ref p]∧SqL K H p (ys.map V.str)∧(ys.map (·.length)).sum+ys.length*a.length≤16777216∧Q (.str (Txt.join a ys)) H
theorem Kd:MtR X "str.join" (rJoin X.K):=by
 intro pins s σ H x xs v us Q I rx rs h
 obtain⟨a,p,ys,rfl,rfl,hq,hz,q⟩:=h
 obtain⟨t,rfl⟩:=rx
 obtain⟨u,rfl,w1⟩:=vals1 rs
 cases w1
 obtain⟨its,r,pl,_⟩:=I.list hq
 exact PyProof.Rows.join_list pl.isList (by simpa using zbU r) hz fun t' k=>⟨.str (Txt.join a ys),H,I.tok _,⟨_,rfl⟩,q⟩
theorem zer:OpR X (binaryOp .Mult) (fun x y H Q=>∃a n,x=.str a∧y=.int n∧MulOk a n∧Q (.str (Txt.mul a n)) H):=by
 intro pins s σ H x y v u Q I rx ry h
 obtain⟨a,n,rfl,rfl,ok,q⟩:=h
 obtain⟨t,rfl⟩:=rx
 obtain⟨t',rfl⟩:=ry
 exact SB.mul ok fun _ _=>⟨.str (Txt.mul a n),H,I.tok _,⟨_,rfl⟩,q⟩
noncomputable def Its (x:Str):It:=⟨fun i _=>i<x.cps.size,fun i H v H'=>H'=H∧∃c,x.cps[i]?=some c∧v=.str ⟨#[c]⟩,fun i _=>x.cps.size≤i⟩
theorem YL {P:Program}{w:World}{K:PySem.W.Frag}{tg:Expr} (it:Addr) (x:Str) (t:Tok) (T:String) (hT:["enumerate","zip","dict_itemiterator","dict_reverseitemiterator","odict_iterator","itertools.zip_longest","itertools.pairwise"].contains T=false)
  (W:∀A:Around,A.handled=none→Walks P w A it [it] [it] x.cps.size (SignAt x) (fun i h=>h.IsStrIter it T x t i))
  (hself:∀(A:Around) (i:Nat) (s:Shared) (Q:Value→Shared→Prop) (E:Value→Shared→Prop),s.heap.IsStrIter it T x t i→Q (.ref it) s→wpAny (model P w) A (pyIter (.ref it)) Q E s) :
  Turn P w K tg (Its x) [it] it (fun i h=>i≤x.cps.size∧h.IsStrIter it T x t i) where
 mem:=by simp
 obj:=fun i h st b hb=>by
  have e:b=it:=by simpa using hb
  subst e
  obtain⟨_,o,e,c,d⟩:=st
  exact⟨o,e,fun v z=>by rw [d] at z;cases z⟩
 keep:=fun i h h' st k=>by
  obtain⟨hi,o,e,c,d⟩:=st
  exact⟨hi,o,k it (by simp) o e,c,d⟩
 item:=by
  intro X hP hw hK hc i pins s σ H E I hf st hg
  subst hP hw hK
  obtain⟨f0,f1,f2,f3,f4,f5⟩:=hf it (by simp)
  refine(W X.A (I.ok.hd hc)).item i s _ _ hg st.2 fun v h' tk hv st' kk=>?_
  obtain⟨c,u,hcc,rfl⟩:=hv
  have I1:Inv X pins σ H { s with heap:=h',toks:=tk }:=I.turned (fun b o hb e=>kk b o (by simpa using hb) e) f0 f1 f3 f4 f5
  obtain⟨o,e,cc,d⟩:=id st'
  exact⟨_,rfl,go_of (s:={ s with heap:=h',toks:=tk }) e cc d hT ⟨.str ⟨#[c]⟩,H,I1,⟨u,rfl⟩,⟨rfl,c,hcc,rfl⟩,⟨hg,st'⟩,fun b hb=>(hf b hb).1⟩⟩
 done:=by
  intro X hP hw hK hc i pins s σ H E I hf st hg
  subst hP hw hK
  obtain⟨f0,f1,f2,f3,f4,f5⟩:=hf it (by simp)
  have e:i=x.cps.size:=Nat.le_antisymm st.1 hg
  subst e
  exact(W X.A (I.ok.hd hc)).done s _ _ st.2 fun h' tk kk=>⟨rfl,I.turned (t':=tk) (fun b o hb e=>kk b o (by simpa using hb) e) f0 f1 f3 f4 f5⟩
 self:=fun A i s Q E st h=>hself A i s Q E st.2 h
noncomputable def zi7 (tl:TE):TI:=fun σ H R=>tl σ H fun x H1=>∃a,x=.str a∧R (Its a) H1
theorem zes {tg l:Expr}{tl:TE} (hl:PE X l tl):PI X tg l (zi7 tl):=by
 intro pins s σ H R I h
 refine thn (hl pins s σ H _ I h) fun v s1 ⟨x,H1,I1,r1,q1⟩=>?_
 obtain⟨a,rfl,q⟩:=q1
 obtain⟨t,rfl⟩:=r1
 have fp:∀b∈[s1.heap.objs.size],FpOk X pins H1 b:=fun b hb=>by
  have e:b=s1.heap.objs.size:=by simpa using hb
  subst e
  exact I1.fpOk (Nat.le_refl _) (I1.hok.fresh (Nat.le_refl _))
 cases ha:a.cps.all (·<128)
 ·exact wpAny_pyIter_wide ha ⟨s1.heap.objs.size,[s1.heap.objs.size],_,_,H1,rfl,I1.kept (t':=s1.toks) fun b o e=>Heap.get?_push_of_some _ e,
   YL _ a t "str_iterator" (by decide) (fun A hA=>Walks.strWide hA _ a t) (fun A i s Q E st h=>wpAny_pyIter_striter_wide st h),⟨Nat.zero_le _,_,Heap.get?_push_size _ rfl,rfl,rfl⟩,fp,q⟩
 ·exact wpAny_pyIter_ascii ha ⟨s1.heap.objs.size,[s1.heap.objs.size],_,_,H1,rfl,I1.kept (t':=s1.toks) fun b o e=>Heap.get?_push_of_some _ e,
   YL _ a t "str_ascii_iterator" (by decide) (fun A hA=>Walks.strAscii hA _ a t) (fun A i s Q E st h=>wpAny_pyIter_striter_ascii st h),⟨Nat.zero_le _,_,Heap.get?_push_size _ rfl,rfl,rfl⟩,fp,q⟩
theorem part_of {v:Value}{o:Option Int} (p:IsPart v o):∃q:Option (Int×Tok),v=partValue q∧q.map (·.1)=o:=by
 cases p with
 | none=>exact⟨none,rfl,rfl⟩
 | int i t=>exact⟨some (i,t),rfl,rfl⟩
theorem zdr:SlR X (fun x lo hi H Q=>∃a,x=.str a∧a.length≤sizeLine∧Q (.str (Txt.slice a lo hi)) H):=by
 intro pins s σ H x v vl vu lo hi sl Q I rx hs pl pu h
 obtain⟨a,rfl,hz,q⟩:=h
 obtain⟨t,rfl⟩:=rx
 obtain⟨l,rfl,rfl⟩:=part_of pl
 obtain⟨u,rfl,rfl⟩:=part_of pu
 refine⟨"str",_,PyProof.Rows.slot_str_getitem.lookup,typeIs_str s a t,?_⟩
 exact wpAny_getItem_str_slice (l:=l) (u:=u) (st:=none) hs rfl (post_val_or_str ⟨Nat.le_trans (Txt.slice_le a _ _) hz,fun t' k=>⟨.str (Txt.slice a (l.map (·.1)) (u.map (·.1))),H,I.tok _,⟨_,rfl⟩,q⟩⟩)
end
end L2
namespace L2
open PySem PySem.Spec PyProof.Rows PySem.SeqAt
noncomputable def dV:V→PyData
 | .bl b=>.bool b
 | .int i=>.int i
 | .str x=>.str x
 | _=>.none
noncomputable def okF:V→Bool
 | .non=>true
 | .bl _=>true
 | .int _=>true
 | .str x=>PyData.canLay0 (.str x)
 | _=>false
theorem zbV {h:Heap}{v:V}{u:Value} (r:RelV v u) (ok:okF v=true):Reads h u (dV v) []:=by
 cases v with
 | non=>cases r;exact .none
 | bl b=>cases r;exact .bool b
 | int i=>obtain⟨t,rfl⟩:=r;exact .int i t
 | str x=>obtain⟨t,rfl⟩:=r;exact .str x t
 | _=>cases ok
theorem Jt {h:Heap}:∀{xs:List V}{us:List Value},Vals xs us→(∀v∈xs,okF v=true)→ReadsAll h us (xs.map dV) []
 | _,_,.nil,_=>.nil
 | _,_,.cons r1 r2,ok=>.cons (zbV r1 (ok _ (List.mem_cons_self ..))) (Jt r2 fun v hv=>ok v (List.mem_cons_of_mem _ hv))
theorem VJ:∀{xs:List V},(∀v∈xs,okF v=true)→PyData.canLayAll0 (xs.map dV)=true
 | [],_=>by simp [PyData.canLayAll0]
 | v::xs,ok=>by
  have h1:PyData.canLay0 (dV v)=true:=by
   have:=ok v (List.mem_cons_self ..)
   cases v <;> first | rfl | exact this | (simp [dV,PyData.canLay0];done) | cases this
  simp [PyData.canLayAll0,h1,VJ fun v hv=>ok v (List.mem_cons_of_mem _ hv)]
theorem Ku:∀xs:List V,PyData.depthAll (xs.map dV)≤1
 | []=>by simp [PyData.depthAll]
 | v::xs=>by
  have:=Ku xs
  have h1:PyData.depth (dV v)≤1:=by cases v <;> simp [dV,PyData.depth]
  simp only [List.map_cons,PyData.depthAll]
  omega
section
variable {X:Cx}
end
end L2
namespace L2
open PySem PySem.Spec PyProof.Rows
end L2
namespace L2
open PySem PySem.Spec PyProof.Rows
structure Js (K:PySem.W.Frag) (x qual:Str) (st:Stmt) (f:Addr) (fd:FuncData):Prop where
 ex:∃(oc:Value) (od:Option Addr) (dV kV doc pm:Value) (an:Option Addr) (cdv ct:Value) (osl:Array (Option Value)),fd=PySem.W.fnOf x qual (defArgs st) (defBody st) (defScope st) dV kV doc pm an cdv ct∧K.lookup f=some ⟨oc,od,.func fd,osl⟩∧PySem.W.codeIn K cdv qual=true
section
variable {P:Program}{w:World}{K:PySem.W.Frag}{mg:Str→Option Value}{base:Heap}
theorem Js.ok {x qual:Str}{st:Stmt}{f:Addr}{fd:FuncData}{N ps:List Str}{k:Nat}{sp:Sp} (F:Js K x qual st f fd) (S:FnScope N ps (defScope st)) (len:∀vs H Q E,sp vs H Q E→vs.length=ps.length)
  (hbody:∀(cdv:Value) (A:Around) (outer:List Env) (s:Shared) (H:Hp) (vs:List V) (Q:VK) (E:XK),Room k (A.deeper (envOfC qual (defScope st) s.heap.objs.size f cdv))→sp vs H Q E →
   ∃t,PSs (cxOf CX0 P w K mg base N qual (defScope st) f cdv A outer s H E).nox (defBody st) t∧t { nx:=fun _ H'=>Q .non H',rt:=Q } (start N vs) H):FnOk P w K mg base CX0 (k+1) f fd ps sp:=by
 obtain⟨oc,od,dV,kV,doc,pm,an,cdv,ct,osl,rfl,lk,hcd⟩:=F.ex
 refine fn_of lk hcd S len fun A outer s H vs Q E hr hsp=>?_
 obtain⟨t,h,q⟩:=hbody cdv A outer s H vs Q E hr hsp
 exact⟨t,fun pins s1 σ H1 D I h1=>wpAny_mono (h pins s1 σ H1 D (I.wish _) h1) (fun fl s2 x=>by
  cases fl with
  | next=>obtain⟨σ',H',I',q⟩:=x;exact⟨σ',H',I'.unwish,q⟩
  | brk=>obtain⟨σ',H',I',q⟩:=x;exact⟨σ',H',I'.unwish,q⟩
  | cont=>obtain⟨σ',H',I',q⟩:=x;exact⟨σ',H',I'.unwish,q⟩
  | ret u=>obtain⟨v,σ',H',I',r,q⟩:=x;exact⟨v,σ',H',I'.unwish,r,q⟩) fun _ _ z=>z.elim,q⟩
theorem Js.okE {x qual:Str}{st:Stmt}{f:Addr}{fd:FuncData}{N ps:List Str}{k:Nat}{sp:Sp} (F:Js K x qual st f fd) (S:FnScope N ps (defScope st)) (len:∀vs H Q E,sp vs H Q E→vs.length=ps.length)
  (hbody:∀(cdv:Value) (A:Around) (outer:List Env) (s:Shared) (H:Hp) (vs:List V) (Q:VK) (E:XK),Room k (A.deeper (envOfC qual (defScope st) s.heap.objs.size f cdv))→sp vs H Q E →
   ∃t,PSs (cxOf (CXE P w) P w K mg base N qual (defScope st) f cdv A outer s H E) (defBody st) t∧t { nx:=fun _ H'=>Q .non H',rt:=Q } (start N vs) H):FnOk P w K mg base (CXE P w) (k+1) f fd ps sp:=by
 obtain⟨oc,od,dV,kV,doc,pm,an,cdv,ct,osl,rfl,lk,hcd⟩:=F.ex
 exact fn_of lk hcd S len fun A outer s H vs Q E hr hsp=>hbody cdv A outer s H vs Q E hr hsp
theorem Js.binds {x qual:Str}{st:Stmt}{f:Addr}{fd:FuncData}{ps:List Str} (F:Js K x qual st f fd)
  (h:∀(dV kV doc pm:Value) (an:Option Addr) (cdv ct:Value) (us:List Value),us.length=ps.length→bindArgs (PySem.W.fnOf x qual (defArgs st) (defBody st) (defScope st) dV kV doc pm an cdv ct) ⟨us,[]⟩=pure (ps.zip us)):Binds K fd ps []:=by
 obtain⟨oc,od,dV,kV,doc,pm,an,cdv,ct,osl,rfl,lk,hcd⟩:=F.ex
 exact .all (h dV kV doc pm an cdv ct)
theorem ZC {x qual:Str}{st:Stmt}{f:Addr}{oc:Value}{od an:Option Addr}{osl:Array (Option Value)}{dV kV doc pm cdv ct:Value} (l:K.lookup f=some ⟨oc,od,.func (PySem.W.fnOf x qual (defArgs st) (defBody st) (defScope st) dV kV doc pm an cdv ct),osl⟩)
  (c:PySem.W.codeIn K cdv qual=true):Js K x qual st f (PySem.W.fnOf x qual (defArgs st) (defBody st) (defScope st) dV kV doc pm an cdv ct):=⟨⟨oc,od,dV,kV,doc,pm,an,cdv,ct,osl,rfl,l,c⟩⟩
end
noncomputable def za8 (K:PySem.W.Frag) (x qual:Str) (st:Stmt) (ps:List Str) (f:Addr):Prop:=∃fd,Js K x qual st f fd∧Binds K fd ps []
noncomputable def MtX (CX:CXT) (P:Program) (w:World) (K:PySem.W.Frag) (mg:Str→Option Value) (base:Heap) (k:Nat) (C:Addr) (m:Str) (ps:List Str) (sp:Sp):Prop:=
 ∃f fd,FnOk P w K mg base CX k f fd ps sp∧Cls K C∧Meth K C m f∧Binds K fd ps []
abbrev Mt (P:Program) (w:World) (K:PySem.W.Frag) (mg:Str→Option Value) (base:Heap) (k:Nat) (C:Addr) (m:Str) (ps:List Str) (sp:Sp):Prop:=MtX CX0 P w K mg base k C m ps sp
abbrev MtE (P:Program) (w:World) (K:PySem.W.Frag) (mg:Str→Option Value) (base:Heap) (k:Nat) (C:Addr) (m:Str) (ps:List Str) (sp:Sp):Prop:=MtX (CXE P w) P w K mg base k C m ps sp
noncomputable def MkX (CX:CXT) (P:Program) (w:World) (K:PySem.W.Frag) (mg:Str→Option Value) (base:Heap) (k:Nat) (C:Addr) (ps:List Str) (sp:Sp):Prop:=
 ∃f fd,FnOk P w K mg base CX k f fd ps sp∧Mk K C f∧Binds K fd ps []
noncomputable def zkd (C:Addr) (m:Str) (sp:Sp) (G:St→Value→Hp→Prop) (ta:TE) (t:TA):TE:=fun σ H Q=>ta σ H fun x H1=>∃a dx fs,x=.ref a∧H1 a=some (.ins C dx fs)∧fs.lookup m=none∧t σ H1 fun vs H2=>sp (x::vs) H2 Q fun C _ H'=>G σ C H'
noncomputable def tMk (C:Addr) (sp:Sp) (t:TA):TE:=fun σ H Q=>t σ H fun vs H1=>∀x dx,H1 x=none→H1 dx=none→dx≠x→sp (.ref x::vs) (upd (upd H1 dx (.own x)) x (.ins C dx [])) (fun v H2=>v=.non∧Q (.ref x) H2) E0
section
variable {X:Cx}{CX:CXT}{k:Nat}{C:Addr}{x m:Str}{ps:List Str}{sp:Sp}{p pos apos:Pos}{e o:Expr}{es:List Expr}{ta:TE}{t:TA}{G:St→Value→Hp→Prop}
theorem zfi {f a:Addr}{fd:FuncData}{pins:List (Addr×Obj)}{σ:St}{H:Hp}{s:Shared}{Q:VK}{E:XK}{us:List Value}{vs:List V} (F:FnOk X.prog X.w X.K X.mg X.base CX k f fd ps sp) (hr:Room k X.A) (b:Binds X.K fd ps [])
  (hx:∀e s',CX X.stack H s E e s'→X.xe e s') (I:Inv X pins σ H s) (r:Vals vs us) (h:sp (.ref a::vs) H Q E):wpAny (model X.prog X.w) X.A (call (.ref f) (.ref a::us)) (EP X pins σ Q) X.xe s:=by
 have r2:Vals (V.ref a::vs) (Value.ref a::us):=.cons rfl r
 have hl:(Value.ref a::us).length=ps.length:=by rw [← r2.length];exact F.len _ _ _ _ h
 have bb:=b s (.ref a::us) I.kIn (by rw [List.append_nil];exact hl)
 rw [List.append_nil] at bb
 refine wpAny_call (codeAny_mono (F.run X.A X.stack s H ⟨.ref a::us,[]⟩ (.ref a::us) (.ref a::vs) Q E hr I.env0 bb r2 h) fun rr s' hq=>?_)
 cases rr with
 | error e=>exact hx e s' hq
 | ok fl=>
  cases fl with
  | ret u=>exact I.after hq
  | next=>exact False.elim hq
  | brk=>exact False.elim hq
  | cont=>exact False.elim hq
theorem QT {pl:Sem Bool} (he:PE X o ta) (F:MtE X.prog X.w X.K X.mg X.base k C m ps sp) (hr:Room k X.A) (hx:XD X G) (ha:PA X (e::es) t)
  (hst:starEach (e::es) X.env=(false,eval e X.env)::starEach es X.env:=by rfl) (hpl:(backTo pos (starEach es X.env)).any (·.1)=false:=by rfl)
  (ht:eval (.Call (.Attribute o m apos) (e::es) [] pos) X.env=(do
   let ov ← eval o X.env
   standAt apos.atName
   let (f,first) ← holding [ov] (getMethod ov m pl)
   callWith pos f first (backTo pos (starEach (e::es) X.env)) (backToKw pos (keywordEach [] X.env))):=by rfl) :
  PE X (.Call (.Attribute o m apos) (e::es) [] pos) (zkd C m sp G ta t):=by
 obtain⟨f,fd,F,c,hm,b⟩:=F
 intro pins s σ H Q I h
 refine PySem.W.methodCall_KW (pl:=pl) (thn (he pins s σ H _ I h) fun u s1 ⟨x,H1,I1,rx,a,dx,fs,ex,ea,l,q⟩=>?_) ht
 subst ex
 obtain rfl:u=Value.ref a:=rx
 refine getmeth_ok I1 ea c hm l ?_
 refine PySem.W.callWith_K (first:=[.ref a]) (h₀:=X.base) I.ok.mod.kin hm.kp (thn (ha pos pins s1 σ H1 _ I1 q) fun us s2 ⟨vs,H2,I2,r,q2⟩=>⟨I2.kIn,?_⟩) hst hpl
 exact zfi F hr b (fun e s' z=>hx pins σ H2 s2 e s' I2 z) I2 r q2
theorem zds {f:Addr}{fd:FuncData}{pins:List (Addr×Obj)}{σ:St}{H:Hp}{s:Shared}{Q:VK}{E:XK}{us:List Value}{vs:List V} (M:Mk X.K C f) (F:FnOk X.prog X.w X.K X.mg X.base CX k f fd ps sp) (hr:Room (k+1) X.A) (hb:Binds X.K fd ps [])
  (hx:∀(H:Hp) (s:Shared) (e:Value) (s':Shared),Inv X pins σ H s→CX X.stack H s E e s'→X.xe e s') (I:Inv X pins σ H s) (r:Vals vs us)
  (h:∀x dx,H x=none→H dx=none→dx≠x→sp (.ref x::vs) (upd (upd H dx (.own x)) x (.ins C dx [])) (fun v H2=>v=.non∧Q (.ref x) H2) E) :
  wpAny (model X.prog X.w) X.A (call (.ref C) us) (EP X pins σ Q) X.xe s:=by
 have hq:=h (s.heap.objs.size+1) s.heap.objs.size (I.hok.fresh (Nat.le_succ _)) (I.hok.fresh (Nat.le_refl _)) (Nat.ne_of_lt (Nat.lt_succ_self _))
 have I2:=Inv.made (C:=C) I
 have r2:Vals (V.ref (s.heap.objs.size+1)::vs) (Value.ref (s.heap.objs.size+1)::us):=.cons rfl r
 have hl:(Value.ref (s.heap.objs.size+1)::us).length=ps.length:=by rw [← r2.length];exact F.len _ _ _ _ hq
 have bb:=hb _ (Value.ref (s.heap.objs.size+1)::us) I2.kIn (by rw [List.append_nil];exact hl)
 rw [List.append_nil] at bb
 refine wpAny_call (make_map (f:=f) I.kIn M.makes M.init (beq_iff_eq.mp M.fn) (codeAny_mono (F.run _ X.stack _ _ ⟨Value.ref (s.heap.objs.size+1)::us,[]⟩ (Value.ref (s.heap.objs.size+1)::us) _ _ E (hr.make C us [])
  (I2.env0.make C us []) bb r2 hq) fun r s' hq'=>?_))
 cases r with
 | error e=>exact hx _ _ e s' I2 hq'
 | ok fl=>
  cases fl with
  | ret u=>
   obtain⟨v,H',I3,rv,ev,q3⟩:=I2.after hq'
   subst ev
   exact⟨rv,⟨V.ref (s.heap.objs.size+1),H',I3,rfl,q3⟩⟩
  | next=>exact False.elim hq'
  | brk=>exact False.elim hq'
  | cont=>exact False.elim hq'
theorem zi8 (F:MkX CX0 X.prog X.w X.K X.mg X.base k C ps sp) (hr:Room (k+1) X.A) (hg:Gl X x) (hm:X.mg x=some (.ref C)) (ha:PA X (e::es) t) (hdb:(x == ("__debug__":Str))=false:=by decide)
  (he:starEach (e::es) X.env=(false,eval e X.env)::starEach es X.env:=by rfl) (hpl:(backTo pos (starEach es X.env)).any (·.1)=false:=by rfl):PE X (.Call (.Name x p) (e::es) [] pos) (tMk C sp t):=by
 obtain⟨f,fd,F,M,b⟩:=F
 intro pins s σ H Q I h
 refine wpAny_Call_Name_kw (ld_glob I hg hm ?_ hdb)
 refine PySem.W.callWith_K (h₀:=X.base) I.ok.mod.kin M.kp (thn (ha pos pins s σ H _ I h) fun us s1 ⟨vs,H1,I1,r,q⟩=>⟨I1.kIn,?_⟩) he hpl
 exact zds M F hr b (fun _ _ _ _ _ z=>z.elim) I1 r q
end
theorem MkX.plain {P:Program}{w:World}{K:PySem.W.Frag}{mg:Str→Option Value}{base:Heap}{k:Nat}{C:Addr}{ps:List Str}{sp:Sp} (F:MkX (CXE P w) P w K mg base k C ps sp):MkX CX0 P w K mg base k C ps (fun vs H Q _=>sp vs H Q E0):=by
 obtain⟨f,fd,F,r⟩:=F
 refine⟨f,fd,⟨fun vs H Q _ h=>F.len vs H Q E0 h,fun A outer s H args us vs Q E hr e0 hb rv h=>codeAny_mono (F.run A outer s H args us vs Q E0 hr e0 hb rv h) fun rr s' q=>?_⟩,r⟩
 cases rr with
 | ok fl=>cases fl <;> exact q
 | error e=>
  obtain⟨_,_,_,_,_,_,_,_,_,_,_,_,z⟩:=q
  exact False.elim z
end L2
namespace L2
open PySem PySem.Spec PyProof.Rows PySem.SeqAt
section
variable {X:Cx}{pins:List (Addr×Obj)}{σ:St}{H:Hp}{s:Shared}
end
section
variable {X:Cx}
end
theorem zcV {K:PySem.W.Frag}{a acc:Addr}{xs:List V}{own:Nat}{ix:List Nat}{g:TG}{te:TE}{σ:St}{H1:Hp}{Q:VK} (f:Nat→V) (hq:H1 a=some (.tup xs)) (hn:H1 acc=none) (hz:xs.length≤sizeLine)
  (step:∀i x H (R:VK),xs[i]?=some x→Same H1 H→R (f i) H→g x (jD own ix σ) H fun σ4 H4=>σ4.drop own=ix.map (fun i=>(σ[i]?).getD none)∧te σ4 H4 R)
  (hd:Q (.ref acc) (upd H1 acc (.lst ((List.range xs.length).map f)))) :
  JK (Itt K a) own ix g Qh te σ H1 acc Q:=by
 refine⟨fun i m ys H=>m=xs.length-i∧i≤xs.length∧ys=(List.range i).map f∧H=upd H1 acc (.lst ys),⟨xs.length,by simp,Nat.zero_le _,rfl,rfl⟩,?_⟩
 rintro i m ys H ⟨rfl,hi,rfl,rfl⟩
 have q:SqT K (upd H1 acc (.lst ((List.range i).map f))) a xs:=SqT.of ((Same.new hn) _ _ hq)
 refine⟨upd_same,?_⟩
 by_cases hlt:i<xs.length
 ·refine .inr ⟨⟨xs,xs[i],q,by simp [hlt]⟩,by rw [List.length_map,List.length_range];omega,fun x H3 y=>?_⟩
  obtain⟨e,y⟩:=y
  subst e
  exact step i x _ _ (y xs q) (Same.new hn) ⟨upd_same,xs.length-(i+1),by omega,rfl,hlt,by rw [List.range_succ,List.map_append];rfl,by rw [upd_upd]⟩
 ·have e:i=xs.length:=by omega
  subst e
  exact .inl ⟨⟨xs,q,Nat.le_refl _⟩,hd⟩
end L2
namespace L2
open PySem PySem.Spec PyProof.Rows
open PySem.W (hideAll of_hideAll hideAll_get)
section
variable {M:Model}{A:Around}{E:Value→Shared→Prop}{s:Shared}{env:Env}
noncomputable def zcu (M:Model) (A:Around) (E:Value→Shared→Prop) (use:Option (Value→Sem Unit)) (Q:Value→Shared→Prop) (acc:Value) (cenv:Env) (r:Result) (s':Shared):Prop:=
 match r with
 | .error x=>∃m,s'.heap.Ns cenv.locals m∧∀h' m',h'.Ns cenv.locals m'→Heap.SameBut cenv.locals s'.heap h'→wpAny M A (PySem.passOn "comprehension.variables-let-go" x cenv:Sem Value) (fun _ _=>False) E { s' with heap:=h' }
 | .ok f=>compPost M A E use Q acc cenv.locals (.ok f) s'
theorem zcW {e:Expr}{scope:Scope}{pos:Pos}{newAcc first:Sem Value}{g:Comprehension}{gs:List Comprehension}{cl:List (Str×Addr)}{use:Option (Value→Sem Unit)}{Q:Value→Shared→Prop}
  (hcl:clausesOf e=g::gs) (hs:∀x,foldedSetIterable g.iter env x=pure x) (hclos:closureFor scope env=pure cl) (hkind:scope.kind=.function) (hnames:∀y∈scope.names,y.2=.local→scope.names.lookup y.1=some .local)
  (h:wpAny M A first (fun x s1=>wpAny M A (pyIter x) (fun it s2=>wpAny M A newAcc (fun acc s3=>wpAny M A (newFunctionEnv scope env.globals cl [] env.qual none .none (some env)) (fun cenv s4=>
   codeAny M A (.compStart e 0 it acc { cenv with scope:=relabel scope env }) (zcu M A E use Q acc { cenv with scope:=relabel scope env }) s4) E s3) E s2) E s1) E s) :
  wpAny M A (comprehension e scope env pos newAcc false first use) Q E s:=by
 unfold comprehension
 rw [hclos,hcl]
 refine wpAny_bind (wpAny_mono h (fun x s1 h1=>?_) fun _ _ z=>z)
 refine wpAny_bind (wpAny_standAt (wpAny_bind (wpAny_of_eq (hs x) (wpAny_bind (wpAny_holding ?_)))))
 refine wpAny_mono h1 (fun it s2 h2=>wpAny_standIf ?_) fun _ _ z=>z
 refine wpAny_bind (wpAny_mono h2 (fun acc s3 h3=>wpAny_bind (wpAny_pure (wpAny_bind ?_))) fun _ _ z=>z)
 refine wpAny_mono h3 (fun cenv s4 h4=>?_) fun _ _ z=>z
 dsimp only
 have hv:∀l:List (Str×NameKind),(∀y∈l,y∈scope.names)→∀y∈l,y.2=.local→Env.kindOf { cenv with scope:=relabel scope env } y.1=some .local:=fun l hl y hy hk=>lookup_relabel_local (hnames y (hl y hy) hk)
 have mem:∀(p:Str×NameKind→Bool) (y:Str×NameKind),y∈(scope.names.filter p).reverse→y∈scope.names:=fun p y hy=>(List.mem_filter.mp (List.mem_reverse.mp hy)).1
 have zke:∀(p:Str×NameKind→Bool) (y:Str×NameKind),y∈(scope.names.filter p).reverse.drop 1++(scope.names.filter p).reverse.take 1→y∈scope.names:=fun p y hy=>
  (List.mem_append.mp hy).elim (fun z=>mem p y (List.mem_of_mem_drop z)) fun z=>mem p y (List.mem_of_mem_take z)
 refine wpAny_holding (wpAny_bind (wpAny_attempt (wpAny_holding (wpAny_run (codeAny_mono h4 fun r s' hr=>?_)))))
 cases r with
 | ok f=>
  cases use with
  | none=>
   obtain⟨m,hn,hq⟩:=(show ∃m,s'.heap.Ns cenv.locals m∧∀h',Heap.SameBut cenv.locals s'.heap h'→Q acc { s' with heap:=h' } from hr)
   refine wpAny_bind (wpAny_holding (wpAny_comp_letGo (cenv:={ cenv with scope:=relabel scope env }) hkind _ s' m ?_ hn fun h' m' _ hs'=>wpAny_pure (hq h' hs')))
   exact hv _ (mem _)
  | some u=>
   have hr:wpAny M A (u acc) (fun _ s''=>∃m,s''.heap.Ns cenv.locals m∧∀h',Heap.SameBut cenv.locals s''.heap h'→Q .none { s'' with heap:=h' }) E s':=hr
   refine wpAny_bind (wpAny_rule (wpAny_bind (wpAny_holding (wpAny_mono hr (fun _ s'' ⟨m,hn,hq⟩=>?_) fun _ _ z=>z))))
   refine wpAny_bind (wpAny_comp_letGo (cenv:={ cenv with scope:=relabel scope env }) hkind _ s'' m ?_ hn fun h' m' _ hs'=>wpAny_pure (hq h' hs'))
   exact hv _ (zke _)
 | error x=>
  obtain⟨m,hn,hq⟩:=hr
  refine wpAny_bind (wpAny_holding (wpAny_comp_letGo (cenv:={ cenv with scope:=relabel scope env }) hkind _ s' m ?_ hn fun h' m' hn' hs'=>wpAny_mono (hq h' m' hn' hs') (fun _ _ z=>z.elim) fun _ _ z=>z))
  exact hv _ (mem _)
theorem Wq {base:Heap}{l:List Env}{e L:Addr}{cls a0 fl:Value}{Q:Unit→Shared→Prop} (kb:base.StaysIn s.heap) (ne:base.get? e=none) (ff:s.heap.FunFrames base l) (tr:s.heap.TracedAtW base e cls a0 fl)
  (h:∀h',Heap.HeldW base l e cls a0 L h'→s.heap.UpToSlots h'→Q () { s with heap:=h' }):wpAny M A (setFlight (.ref e) (some L)) Q E s:=by
 obtain⟨oe,vs,T,oT,ts,he,hc,hd,h1,nT,Te,hT,dT,h3⟩:=tr
 have z3:3<ts.size:=(Array.getElem?_eq_some_iff.mp h3).1
 have sb:=Heap.SameBut.update s.heap T (Obj.mapFields (·.setIfInBounds 3 ((some L).elim Value.none fun f=>rawInt f)))
 have up:∀b o,s.heap.get? b=some o→(∀us,o.data≠.fields us)→(s.heap.update T (Obj.mapFields (·.setIfInBounds 3 ((some L).elim Value.none fun f=>rawInt f)))).get? b=some o:=fun b o q nf=>
  (sb.2 b fun z=>by subst z;rw [hT] at q;cases q;exact nf ts dT).trans q
 unfold setFlight
 refine wpAny_bind (wpAny_field he hd h1 ?_)
 rw [if_pos (by simp)]
 refine wpAny_setField hT dT z3 (h _ ⟨fun b o q=>(sb.2 b fun z=>by subst z;rw [nT] at q;cases q).trans (kb b o q),ne,ff.of_keeps fun b o q nf=>⟨o,up b o q nf,rfl⟩,?_⟩ fun b o q nf=>⟨o.slots,up b o q nf⟩)
 exact⟨oe,vs,T,_,_,(sb.2 e (Ne.symm Te)).trans he,hc,hd,h1,nT,Te,Heap.get?_update_self _ hT (Obj.isFreed_of_fields (Obj.data_mapFields dT _)),Obj.data_mapFields dT _,by simp [z3]⟩
end
theorem Ju {h h' B:Heap}{C:Addr} (k:∀b o,b≠C→h.get? b=some o→h'.get? b=some o):∀{l:List Env},C ∉ frs l→h.FunFrames B l→h'.FunFrames (hideAll B [C]) l
 | [],_,_=>trivial
 | env::r,hc,⟨hk,⟨L,o,hf,hn,ho,hd⟩,hr⟩=>by
  have hm:frs (env::r)=L::frs r:=by unfold frs;rw [List.filterMap_cons,hf]
  rw [hm] at hc
  refine⟨hk,⟨L,o,hf,?_,k L o (fun z=>hc (by rw [z];exact List.mem_cons_self)) ho,hd⟩,Ju k (fun z=>hc (List.mem_cons_of_mem _ z)) hr⟩
  cases q:(hideAll B [C]).get? L with
  | none=>rfl
  | some u=>
   have:=of_hideAll _ q
   rw [hn] at this
   cases this
section
variable {P:Program}{w:World}{K:PySem.W.Frag}{mg:Str→Option Value}{base:Heap}{N:List Str}{qual:Str}{scope:Scope}{f:Addr}{cdv:Value}{A:Around}{outer:List Env}{s s2:Shared}{H H1:Hp}{E:XK}{pins:List (Addr×Obj)}{σ:St}
theorem zet {fp:List Addr}{x:Addr} {s':Shared}{C a0:Value} {H':Hp}{B:Heap} (I:Inv (cxOf (CXE P w) P w K mg base N qual scope f cdv A outer s H E) pins σ H1 s2) (hfp:∀b∈fp,s.heap.objs.size≤b) (os:s'.os=s2.os) (bare:AllBare s'.gens)
  (hh:Heap.HeldW B (envOfC qual scope s.heap.objs.size f cdv::outer) x C a0 s.heap.objs.size s'.heap)
  (st:∀h3,B.StaysIn h3→s'.heap.UpToSlots h3→Un (frs (envOfC qual scope s.heap.objs.size f cdv::outer)) fp H1 H' s2.heap h3∧HOk P w H' h3) (xn:s.heap.get? x=none) (xh:H' x=none) (h:E C none H') :
  (cxOf (CXE P w) P w K mg base N qual scope f cdv A outer s H E).xe (.ref x) s':=by
 show wpAny (model P w) (A.deeper (envOfC qual scope s.heap.objs.size f cdv)) (leaving (envOfC qual scope s.heap.objs.size f cdv) (.ref x)) (fun _ s''=>CXE P w outer H s E (.ref x) s'') (fun e' s''=>CXE P w outer H s E e' s'') s'
 unfold leaving
 refine wpAny_bind (wpAny_noteFrame_againW rfl hh.2.2.2 (wpAny_landsW hh fun h'' fl up=>?_))
 obtain⟨f1,f2,⟨_,_,f3⟩,f4⟩:=fl
 have U:=I.base
 have nfp:∀b o,s.heap.get? b=some o→b ∉ fp:=fun b o e z=>absurd (Nat.lt_of_lt_of_le (Heap.lt_size e) (hfp b z)) (Nat.lt_irrefl _)
 refine⟨x,C,a0,H',B,rfl,os.trans I.os,bare,⟨f1,f2,f3,f4⟩,fun h3 st3 up3=>?_,xn,xh,h⟩
 ·obtain⟨u,ok⟩:=st h3 st3 (up.trans up3)
  refine⟨⟨fun b o e n hb hx=>u.keep b o (U.keep b o e n hb hx) (U.free b o e n hx) (ze1 e hb) (nfp b o e),fun b o e n hb hx=>?_,fun b o e n hx=>?_,fun b o e hx=>?_,fun b xs e=>u.tups b xs (U.tups b xs e),fun b o v e=>u.frzs b o v (U.frzs b o v e),fun b ps e=>?_⟩,ok⟩
  ·obtain⟨sl,q1⟩:=U.slot b o e n hb hx
   have hb':b∈frs (envOfC qual scope s.heap.objs.size f cdv::outer):=by
    unfold frs;rw [List.filterMap_cons];exact List.mem_cons_of_mem _ hb
   obtain⟨sl2,q2⟩:=u.slot b _ q1 (U.free b o e n hx) hb' (nfp b o e)
   exact⟨sl2,q2⟩
  ·obtain⟨o2,q2⟩:=U.there b o e hx
   exact u.free b o2 q2 (U.free b o e n hx) (nfp b o e)
  ·obtain⟨o2,q2⟩:=U.there b o e hx
   exact u.there b o2 q2 (nfp b o e)
  ·obtain⟨m1,q1⟩:=U.tbls b ps e
   obtain⟨m2,q2⟩:=u.tbls b _ q1
   exact⟨m1++m2,by rw [q2,Array.append_assoc]⟩
end
noncomputable def zan (X:Cx) (C:Addr) (fp:List Addr) (sF:Shared) (HF:Hp) (G:Value→Hp→Prop):Value→Shared→Prop:=fun e s'=>∃(s1:Shared) (H1:Hp) (m:Str→Option Value),s1.os=sF.os∧Un (frs X.stack) fp HF H1 sF.heap s1.heap∧s1.heap.Ns C m∧H1 C=none ∧
 CXE X.prog X.w X.stack H1 s1 (fun Cv _ H'=>G Cv H') e s'
abbrev jB (X:Cx) (pins:List (Addr×Obj)) (N:List Str) (scope:Scope) (C:Addr) (sF:Shared) (HF:Hp) (fp:List Addr) (G:Value→Hp→Prop):Cx:=(jg X pins N scope C sF HF fp).wish (zan X C fp sF HF G)
theorem zeu {X:Cx}{pins:List (Addr×Obj)}{N:List Str}{scope:Scope}{C:Addr}{sF:Shared}{HF:Hp}{fp:List Addr}{G:Value→Hp→Prop}:XD (jB X pins N scope C sF HF fp G) (fun _ Cv H'=>G Cv H'):=fun pl σ H s e s' I h=>by
 obtain⟨m,hn,_⟩:=I.loc
 exact⟨s,H,m,I.os,I.base,hn,I.free,h⟩
section
variable {prog:Program}{w:World}{A:Around}
theorem Wr {elt target iter:Expr}{ifs:List Expr}{scope:Scope}{pos:Pos}{it acc:Value}{env:Env}{s:Shared}{R:Result→Shared→Prop}{EE:Value→Shared→Prop} (hE:∀x s',EE x s'→notedBy (model prog w) A env (fun e s''=>R (.error e) s'') x s') (I:Nat→Shared→Prop)
  (turn:∀n s,I n s→wpAny (model prog w) A (pyNext it) (fun r s1=>match r with
   | none=>R (.ok .next) s1
   | some v=>wpAny (model prog w) A (letOwnedTupleGo target it v) (fun _ s1'=>wpAny (model prog w) A (assign target env v) (fun _ s2=>
     wpAny (model prog w) A (forIn ifs true fun c r=>if r=true then do let ok ← isTrue c env (eval c env);pure (ForInStep.yield ok) else pure (ForInStep.yield r)) (fun ok s3=>
      if ok=true then wpAny (model prog w) A (eval elt env) (fun x s4=>wpAny (model prog w) A (call (.builtin "list.append") [acc,x]) (fun _ s5=>∃m,m<n∧I m s5) EE s4) EE s3
      else ∃m,m<n∧I m s3) EE s2) EE s1') EE s1) EE s)
  (n:Nat) (h:I n s):codeAny (model prog w) A (.compLoop (.ListComp elt [⟨target,iter,ifs,0⟩] scope pos) 0 it acc env) R s:=by
 refine codeAny_loop rfl I (fun n s hI=>?_) n h
 show wpAny _ A ((compTurn (.ListComp elt [⟨target,iter,ifs,0⟩] scope pos) 0 it acc env).onRaise (fun x=>do noteFrame x env;theTreesLotGoes x)) _ _ s
 refine wpAny_noted ?_
 rw [compTurn_list]
 refine wpAny_bind (wpAny_standAt (wpAny_bind (wpAny_mono (turn n s hI) (fun r s1 h1=>?_) hE)))
 cases r with
 | none=>exact wpAny_pure h1
 | some v=>
  refine wpAny_bind (wpAny_mono h1 (fun _ s1' h1'=>?_) hE)
  refine wpAny_bind (wpAny_mono h1' (fun _ s2 h2=>wpAny_bind (wpAny_mono h2 (fun ok s3 h3=>?_) hE)) hE)
  cases ok with
  | false=>exact wpAny_pure ⟨rfl,h3⟩
  | true=>exact wpAny_bind (wpAny_bind (wpAny_mono h3 (fun x s4 h4=>wpAny_bind (wpAny_mono h4 (fun _ s5 h5=>wpAny_pure (wpAny_pure ⟨rfl,h5⟩)) hE)) hE))
end
section
variable {X:Cx}{pins:List (Addr×Obj)}{σ:St}
theorem za9 {tg iter elt:Expr}{ifs:List Expr}{scope:Scope}{own fr:List Str}{ix:List Nat}{g:TG}{tt:TT}{te:TE}{pos:Pos}{Q:VK}{sF:Shared}{HF:Hp}{C acc it:Addr}{h₁:Heap}{fp:List Addr}{tn:Nat→Heap→Prop}{J:It}{W:Nat→Nat→List V→Hp→Prop}{m:Str→Option Value}{m0:Nat}{RR:Result→Shared→Prop}{G:Value→Hp→Prop}
  (hc:X.calm=true) (B:Ka X scope own fr ix)
  (hg:∀pins C sF HF fp,PG (jB X pins (own++fr) scope C sF HF fp G) tg g) (ht:∀pins C sF HF fp,PTs (jB X pins (own++fr) scope C sF HF fp G) ifs tt) (he:∀pins C sF HF fp,PE (jB X pins (own++fr) scope C sF HF fp G) elt te)
  (I3:Inv X pins σ HF sF) (T:Turn X.prog X.w X.K tg J fp it tn) (st3:tn 0 sF.heap) (f3:∀b∈fp,FpOk X pins HF b) (f3':∀b∈fp,∃o,sF.heap.get? b=some o) (hC:sF.heap.objs.size=C) (old:∀b o,sF.heap.get? b=some o→h₁.get? b=some o) (hns₁:h₁.Ns C m)
  (w0:W 0 m0 [] HF) (turn:∀i m ys H2,W i m ys H2→H2 acc=some (.lst ys)∧((J.stop i H2∧Q (.ref acc) H2)∨(J.go i H2∧ys.length<sizeLine∧∀x H3,J.yld i H2 x H3→g x (jD own.length ix σ) H3 fun σ4 H4=>σ4.drop own.length=ix.map (fun i=>(σ[i]?).getD none)∧tt σ4 H4 fun ok H5=>
   if ok=true then te σ4 H5 fun y H6=>H6 acc=some (.lst ys)∧∃m',m'<m∧W (i+1) m' (ys++[y]) (upd H6 acc (.lst (ys++[y])))
   else ∃m',m'<m∧W (i+1) m' ys H5)))
  (hE:∀x s',zan X C fp sF HF G x s'→notedBy (model X.prog X.w) X.A (compEnvC scope (vA X.env scope.names []) C X.env) (fun e s''=>RR (.error e) s'') x s')
  (fin:∀s6 H5,Inv (jg X pins (own++fr) scope C sF HF fp) [] (jD own.length ix σ) H5 s6→Q (.ref acc) H5→RR (.ok .next) s6) :
  codeAny (model X.prog X.w) X.A (.compStart (.ListComp elt [⟨tg,iter,ifs,0⟩] scope pos) 0 (.ref it) (.ref acc) (compEnvC scope (vA X.env scope.names []) C X.env)) RR
   { sF with heap:=h₁,toks:=sF.toks+([]:List (Str×Value)).length }:=by
 have J0:Inv (jB X pins (own++fr) scope C sF HF fp G) [] (jD own.length ix σ) HF { sF with heap:=h₁,toks:=sF.toks+([]:List (Str×Value)).length }:=(VG I3 B hC.symm f3 f3' old hns₁).wish _
 have st4:tn 0 h₁:=T.keep _ _ _ st3 fun b _ o e=>old b o e
 have fY:∀{pl:List (Addr×Obj)} {H':Hp},(∀b∈fp,H' b=none)→(∀p∈pl,p.1 ∉ fp)→∀b∈fp,FpOk (jB X pins (own++fr) scope C sF HF fp G) pl H' b:=fun {pl H'} hn hp b hb=>by
  refine⟨hn b hb,(J0.ok.exf b hb).1,J0.ok.exfs b hb,.inl hb,(J0.ok.exf b hb).2,fun p hpm=>?_⟩
  rcases List.mem_append.mp hpm with z | z
  ·exact(f3 b hb).2.2.2.2.2 p z
  ·exact fun e=>hp p z (by rw [e];exact hb)
 have weak:∀{pl:List (Addr×Obj)}{σ4:St}{H4:Hp}{s4:Shared},Inv (jB X pins (own++fr) scope C sF HF fp G) pl σ4 H4 s4→σ4.drop own.length=ix.map (fun i=>(σ[i]?).getD none)→Inv (jB X pins (own++fr) scope C sF HF fp G) pl (jD own.length ix σ) H4 s4:=fun {pl σ4 H4 s4} J e=>by
  refine J.weak ?_ fun i v hv=>?_
  ·have:=J.len
   have:=J0.len
   omega
  ·have hv':(List.replicate own.length none++ix.map fun i=>(σ[i]?).getD none)[i]?=some (some v):=hv
   by_cases hi:i<own.length
   ·rw [List.getElem?_append_left (by rw [List.length_replicate];exact hi),List.getElem?_replicate,if_pos hi] at hv'
    cases hv'
   ·rw [List.getElem?_append_right (by rw [List.length_replicate];omega),List.length_replicate,← e,List.getElem?_drop] at hv'
    rw [show own.length+(i-own.length)=i by omega] at hv'
    exact hv'
 have loop:∀s4:Shared,s4={ sF with heap:=h₁,toks:=sF.toks+([]:List (Str×Value)).length } →
   codeAny (model X.prog X.w) X.A (.compLoop (.ListComp elt [⟨tg,iter,ifs,0⟩] scope pos) 0 (.ref it) (.ref acc) (compEnvC scope (vA X.env scope.names []) C X.env)) RR s4:=by
  rintro s4 rfl
  refine Wr hE (fun n s'=>∃i ys H',Inv (jB X pins (own++fr) scope C sF HF fp G) [] (jD own.length ix σ) H' s'∧tn i s'.heap∧(∀b∈fp,H' b=none)∧W i n ys H') ?_ m0 ⟨0,[],HF,J0,st4,fun b hb=>(f3 b hb).1,w0⟩
  rintro n s5 ⟨i,ys,H5,J5,st5,fr5,w5⟩
  obtain⟨ha,hturn⟩:=turn i n ys H5 w5
  rcases hturn with ⟨stop,qn⟩ | ⟨go,hsz,step⟩
  ·refine thn (T.done (jB X pins (own++fr) scope C sF HF fp G) rfl rfl rfl hc i [] s5 _ H5 _ J5 (fY fr5 (fun _ z=>by cases z)) st5 stop) fun r s6 ⟨hr,J6⟩=>?_
   subst hr
   exact fin s6 H5 J6.unwish qn
  ·refine thn (T.item (jB X pins (own++fr) scope C sF HF fp G) rfl rfl rfl hc i [] s5 _ H5 _ J5 (fY fr5 (fun _ z=>by cases z)) st5 go) fun r s6 ⟨u,hr,h6⟩=>?_
   subst hr
   refine thn h6 fun _ s7 ⟨x,H7,J7,r7,y7,st7,fr7⟩=>?_
   have J7':=J7.pinned (fY fr7 (fun _ z=>by cases z)) (T.obj _ _ st7)
   refine thn (hg pins C sF HF fp _ s7 _ H7 x u _ J7' r7 (step x H7 y7)) fun _ s8 ⟨σ8,H8,J8,k8,q8⟩=>?_
   have back:∀{s9:Shared}{H9:Hp},Inv (jB X pins (own++fr) scope C sF HF fp G) ([]++pinsAt fp s7.heap) σ8 H9 s9→Inv (jB X pins (own++fr) scope C sF HF fp G) [] (jD own.length ix σ) H9 s9∧tn (i+1) s9.heap∧∀b∈fp,H9 b=none:=fun {s9 H9} J9=>by
    refine⟨weak J9.unpinned k8,T.keep _ _ _ st7 fun b hb o e=>(J9.pin (b,o) (List.mem_append_right _ (List.mem_append_right _ (mem_pinsAt hb e)))).1,fun b hb=>?_⟩
    obtain⟨o,e,d⟩:=T.obj _ _ st7 b hb
    exact(J9.pin (b,o) (List.mem_append_right _ (List.mem_append_right _ (mem_pinsAt hb e)))).2.1
   refine thn (ht pins C sF HF fp _ s8 σ8 H8 _ J8 q8) fun ok s9 ⟨H9,J9,q9⟩=>?_
   cases ok with
   | false=>
    obtain⟨m',hm,w9⟩:=q9
    obtain⟨b1,b2,b3⟩:=back J9
    exact⟨m',hm,i+1,ys,H9,b1,b2,b3,w9⟩
   | true=>
    refine thn (he pins C sF HF fp _ s9 σ8 H9 _ J9 q9) fun v s10 ⟨y,H10,J10,r10,a10,m',hm,w10⟩=>?_
    refine thn (mt_append (X:=jB X pins (own++fr) scope C sF HF fp G) _ s10 σ8 H10 (.ref acc) [y] (.ref acc) [v] (fun _ H'=>H'=upd H10 acc (.lst (ys++[y]))) J10 rfl (.cons r10 .nil) ⟨acc,ys,y,rfl,rfl,a10,hsz,rfl⟩) fun _ s11 ⟨_,H11,J11,_,e11⟩=>?_
    subst e11
    obtain⟨b1,b2,b3⟩:=back J11
    exact⟨m',hm,i+1,ys++[y],_,b1,b2,b3,w10⟩
 exact codeAny_compStart_list (loop _ rfl) (T.self _ 0 _ _ _ st4 (loop _ rfl))
end
section
variable {P:Program}{w:World}{K:PySem.W.Frag}{mg:Str→Option Value}{base:Heap}{N:List Str}{qual:Str}{scope:Scope}{f:Addr}{cdv:Value}{A:Around}{outer:List Env}{s0:Shared}{H0:Hp}{E:XK}{pins:List (Addr×Obj)}{σ:St}
theorem zao {sF:Shared}{HF:Hp}{C:Addr}{fp:List Addr}{bs:Scope}{cl:List (Str×Addr)}{use:Option (Value→Sem Unit)}{Q:Value→Shared→Prop}{acc e:Value} {s':Shared} (I3:Inv (cxOf (CXE P w) P w K mg base N qual scope f cdv A outer s0 H0 E) pins σ HF sF) (hC:sF.heap.objs.size=C) (hfp:∀b∈fp,s0.heap.objs.size≤b)
  (hx:zan (cxOf (CXE P w) P w K mg base N qual scope f cdv A outer s0 H0 E) C fp sF HF (fun Cv H'=>E Cv none H') e s') :
  notedBy (model P w) (A.deeper (envOfC qual scope s0.heap.objs.size f cdv)) (compEnvC bs cl C (envOfC qual scope s0.heap.objs.size f cdv)) (fun e s''=>zcu (model P w) (A.deeper (envOfC qual scope s0.heap.objs.size f cdv)) (cxOf (CXE P w) P w K mg base N qual scope f cdv A outer s0 H0 E).xe use Q acc (compEnvC bs cl C (envOfC qual scope s0.heap.objs.size f cdv)) (.error e) s'') e s':=by
 obtain⟨s1,H1,m,os1,U2,⟨oC,es,ep,hoC,dC,rest⟩,hCn,x,Cv,a0,H',B,rfl,os',bare,fl,st,xn,xh,q⟩:=hx
 show wpAny (model P w) _ (noteFrame (.ref x) (envOfC qual scope s0.heap.objs.size f cdv)) _ _ s'
 refine wpAny_looks_onW (L:=s0.heap.objs.size) I3.ok.frames rfl fl fun h2 hh up=>?_
 have Cnf:C ∉ frs (envOfC qual scope s0.heap.objs.size f cdv::outer):=fun z=>by
  obtain⟨_,o,ho,_⟩:=(show sF.heap.FunFrames base (envOfC qual scope s0.heap.objs.size f cdv::outer) from I3.stack).mem z
  exact absurd (Heap.lt_size ho) (by rw [hC];exact Nat.lt_irrefl _)
 have h2C:h2.get? C=some oC:=(st h2 hh.1 up).1.keep C oC hoC hCn Cnf (by simp)
 refine⟨m,⟨oC,es,ep,h2C,dC,rest⟩,fun h' m' hn' sb=>?_⟩
 have hn':h'.Ns C m':=hn'
 have sb:Heap.SameBut C h2 h':=sb
 have sb':∀b o,b≠C→h2.get? b=some o→h'.get? b=some o:=fun b o hb z=>(sb.2 b hb).trans z
 obtain⟨k1,k2,k3,oe,vs,T,oT,ts,he,hcl,hd,h1,nT,Te,hT,dT,h3⟩:=hh
 have xC:x≠C:=fun z=>by rw [z,hoC] at xn;cases xn
 have TC:T≠C:=fun z=>by rw [z,h2C] at hT;cases hT;rw [dC] at dT;cases dT
 have none':∀b,B.get? b=none→(hideAll B [C]).get? b=none:=fun b hb=>by
  cases z:(hideAll B [C]).get? b with
  | none=>rfl
  | some u=>have:=of_hideAll _ z;rw [hb] at this;cases this
 have BC:(hideAll B [C]).get? C=none:=PySem.W.hideAll_none [C] List.mem_cons_self
 have K1:(hideAll B [C]).StaysIn h':=fun b o z=>sb' b o (fun y=>by rw [y,BC] at z;cases z) (k1 b o (of_hideAll _ z))
 have he':=sb' x oe xC he
 show wpAny (model P w) _ (PySem.passOn "comprehension.variables-let-go" (.ref x) (envOfC qual scope s0.heap.objs.size f cdv):Sem Value) _ _ _
 unfold PySem.passOn
 refine wpAny_bind (wpAny_field he' hd h1 ?_)
 rw [if_neg (by simp)]
 have fin:wpAny (model P w) (A.deeper (envOfC qual scope s0.heap.objs.size f cdv)) (setFlight (.ref x) (some s0.heap.objs.size)) (fun _ s4=>(cxOf (CXE P w) P w K mg base N qual scope f cdv A outer s0 H0 E).xe (.ref x) s4) (cxOf (CXE P w) P w K mg base N qual scope f cdv A outer s0 H0 E).xe { s' with heap:=h' }:=by
  refine Wq (s:={ s' with heap:=h' }) K1 (none' x k2) (Ju sb' Cnf k3) ⟨oe,vs,T,oT,ts,he',hcl,hd,h1,none' T nT,Te,sb' T oT TC hT,dT,h3⟩ fun h5 hh5 up5=>?_
  refine zet (s':={ s' with heap:=h5 }) (fp:=fp) (H':=H') (C:=Cv) I3 hfp (os'.trans os1) bare hh5 (fun h6 st6 up6=>?_) ?_ xh q
  ·obtain⟨oC',_,_,hoC',dC',_⟩:=hn'
   obtain⟨sl,h6C⟩:=(up5.trans up6) C oC' hoC' (fun us z=>by rw [dC'] at z;cases z)
   have nf:oC.isFreed=false:=(Heap.get?_some_iff.mp h2C).2
   have r1:(h6.update C fun _=>oC).get? C=some oC:=Heap.get?_update_self (fun _=>oC) h6C nf
   have r2:∀b,b≠C→(h6.update C fun _=>oC).get? b=h6.get? b:=fun b hb=>Heap.get?_update_other _ _ (Ne.symm hb)
   obtain⟨u3,ok3⟩:=st (h6.update C fun _=>oC) (fun b o z=>by
    by_cases hb:b=C
    ·subst hb
     have:=k1 _ _ z
     rw [h2C] at this
     cases this
     exact r1
    ·exact(r2 b hb).trans (st6 b o (hideAll_get _ z (by simpa using hb)))) (fun b o z nfd=>by
    obtain⟨sl2,z2⟩:=up b o z nfd
    by_cases hb:b=C
    ·subst hb
     rw [h2C] at z2
     cases z2
     exact⟨_,r1⟩
    ·obtain⟨sl3,z3⟩:=(up5.trans up6) b _ (sb' b _ hb z2) nfd
     exact⟨sl3,(r2 b hb).trans z3⟩)
   have hC':H' C=none:=u3.free C oC hoC hCn (by simp)
   have U:Un (frs (envOfC qual scope s0.heap.objs.size f cdv::outer)) fp HF H' sF.heap (h6.update C fun _=>oC):=Un.trans U2 (Un.mono u3 (fun _ z=>z) (fun _ z=>nomatch z))
   have tr:∀b o v,sF.heap.get? b=some o→(h6.update C fun _=>oC).get? b=some v→h6.get? b=some v:=fun b o v z y=>(r2 b (by rw [← hC];exact Nat.ne_of_lt (Heap.lt_size z))).symm.trans y
   refine⟨⟨fun b o z n hb hx=>tr b o _ z (U.keep b o z n hb hx),fun b o z n hb hx=>?_,U.free,fun b o z hx=>?_,U.tups,U.frzs,U.tbls⟩,fun b u z=>?_⟩
   ·obtain⟨sl4,y⟩:=U.slot b o z n hb hx
    exact⟨sl4,tr b o _ z y⟩
   ·obtain⟨o4,y⟩:=U.there b o z hx
    exact⟨o4,tr b o _ z y⟩
   ·have nit:∀c v,H' c=some v→c≠C:=fun c v y zz=>by rw [zz,hC'] at y;cases y
    refine(ok3 b u z).stay (fun c v hc y=>(r2 c ?_).symm.trans y) (fun _ y=>y) fun _ _ y=>y
    rcases hc with y | y
    ·rw [y];exact nit b u z
    ·exact nit c _ y
  ·cases z:s0.heap.get? x with
   | none=>rfl
   | some o=>
    obtain⟨o1,z1⟩:=I3.base.there x o z (by show x ∉ ([]:List Addr);simp)
    obtain⟨o2,z2⟩:=U2.there x o1 z1 fun y=>absurd (Nat.lt_of_lt_of_le (Heap.lt_size z) (hfp x y)) (Nat.lt_irrefl _)
    rw [xn] at z2;cases z2
 first
  | exact wpAny_bind (wpAny_pure (wpAny_bind (wpAny_mono fin (fun _ _ z=>wpAny_throw z) fun _ _ z=>z)))
  | exact wpAny_bind (wpAny_mono fin (fun _ _ z=>wpAny_throw z) fun _ _ z=>z)
theorem zdt {tg iter elt:Expr}{ifs:List Expr}{bsc:Scope}{own fr:List Str}{ix:List Nat}{wi:TI}{g:TG}{tt:TT}{te:TE}{pos spos py:Pos}{k:Nat}{y:Str} (hN:N.Nodup) (hk:N[k]?=some y) (hy:(envOfC qual scope s0.heap.objs.size f cdv).scope.names.lookup y=some .local) (BB:Ko (cxOf (CXE P w) P w K mg base N qual scope f cdv A outer s0 H0 E) bsc own fr ix) (hi:PI (cxOf (CXE P w) P w K mg base N qual scope f cdv A outer s0 H0 E) tg iter wi)
  (hg:∀pins C sF HF fp,PG (jB (cxOf (CXE P w) P w K mg base N qual scope f cdv A outer s0 H0 E) pins (own++fr) bsc C sF HF fp (fun Cv H'=>E Cv none H')) tg g) (ht:∀pins C sF HF fp,PTs (jB (cxOf (CXE P w) P w K mg base N qual scope f cdv A outer s0 H0 E) pins (own++fr) bsc C sF HF fp (fun Cv H'=>E Cv none H')) ifs tt)
  (he:∀pins C sF HF fp,PE (jB (cxOf (CXE P w) P w K mg base N qual scope f cdv A outer s0 H0 E) pins (own++fr) bsc C sF HF fp (fun Cv H'=>E Cv none H')) elt te)
  (hsw:swapsWith (.ListComp elt [⟨tg,iter,ifs,0⟩] bsc pos) (some (.Name y py)) spos.line (cxOf (CXE P w) P w K mg base N qual scope f cdv A outer s0 H0 E).env=pure true:=by rfl)
  (hs:∀x,foldedSetIterable iter (envOfC qual scope s0.heap.objs.size f cdv) x=pure x:=by intro _;rfl):PS (cxOf (CXE P w) P w K mg base N qual scope f cdv A outer s0 H0 E) (.Assign [.Name y py] (.ListComp elt [⟨tg,iter,ifs,0⟩] bsc pos) spos) (tAsg (zdj wi own.length ix g tt te) (gName k)):=by
 intro pins s σ H D I h
 have B:=BB.ok I.ok
 rw [exec_Assign_Name_used _ _ _ _ hsw]
 refine wpAny_bind (wpAny_standAt (wpAny_bind ?_))
 show wpAny _ (cxOf (CXE P w) P w K mg base N qual scope f cdv A outer s0 H0 E).A (do let _ ← comprehension (.ListComp elt [⟨tg,iter,ifs,0⟩] bsc pos) bsc (cxOf (CXE P w) P w K mg base N qual scope f cdv A outer s0 H0 E).env _ (newList []) false (eval iter (cxOf (CXE P w) P w K mg base N qual scope f cdv A outer s0 H0 E).env) (some (assign (.Name y py) (cxOf (CXE P w) P w K mg base N qual scope f cdv A outer s0 H0 E).env))) _ _ s
 refine wpAny_bind (wpAny_mono (zcW (use:=some (assign (.Name y py) (cxOf (CXE P w) P w K mg base N qual scope f cdv A outer s0 H0 E).env)) (Q:=fun _ s'=>SP (cxOf (CXE P w) P w K mg base N qual scope f cdv A outer s0 H0 E) pins D .next s') rfl hs (JH B.free) B.kind B.names
  (thn (hi pins s σ H _ I h) fun xv s1 h1=>thn h1 fun itv s2 h2=>?_)) (fun _ s' hq=>wpAny_pure (wpAny_pure hq)) fun _ _ e=>e)
 obtain⟨it,fp,tn,J,H2,rfl,I2,T,st2,f2,R⟩:=h2
 refine wpAny_newObj_type (wpAny_newFunctionEnv B.nocell (by intro y hy;simp at hy) (fun h₁ hns₁ hsb₁=>?_) B.kind)
 dsimp only at hns₁ hsb₁
 have I3:=I2.lnew (t':=s2.toks) (its:=[]) (ys:=[]) .nil (Nat.zero_le _)
 obtain⟨W,⟨m0,w0⟩,turn⟩:=R _ I2.fresh
 have fF:∀b∈fp,∃o,s2.heap.get? b=some o:=fun b hb=>let ⟨o,e,_⟩:=T.obj _ _ st2 b hb;⟨o,e⟩
 have zcQ:∀b∈fp,b≠s2.heap.objs.size:=fun b hb=>let ⟨o,e⟩:=fF b hb;Nat.ne_of_lt (Heap.lt_size e)
 have push:∀b o,s2.heap.get? b=some o→(s2.heap.push { cls:=.type "list",data:=.seq ([]:List Value).toArray }).get? b=some o:=fun b o e=>Heap.get?_push_of_some _ e
 have f3:∀b∈fp,FpOk (cxOf (CXE P w) P w K mg base N qual scope f cdv A outer s0 H0 E) pins (upd H2 s2.heap.objs.size (.lst [])) b:=fun b hb=>⟨by rw [upd_ne (zcQ b hb)];exact(f2 b hb).1,(f2 b hb).2⟩
 refine za9 (Q:=fun x H1=>gName k x σ H1 D.nx) (G:=fun Cv H'=>E Cv none H') rfl B hg ht he I3 T (T.keep _ _ _ st2 fun b _ o e=>push b o e) f3 (fun b hb=>let ⟨o,e⟩:=fF b hb;⟨o,push b o e⟩) rfl
  (fun b o e=>hsb₁.extBut b o (Nat.ne_of_lt (Heap.lt_size e)) (Heap.get?_push_of_some _ e)) hns₁ w0 turn (fun x s' hx=>zao I3 rfl (fun b hb=>?_) hx) fun s6 H5 J6 qn=>?_
 ·exact(f2 b hb).2.2.2.1.elim (fun z=>absurd (show b∈([]:List Addr) from z) (by simp)) fun z=>z
 have I6:Inv (cxOf (CXE P w) P w K mg base N qual scope f cdv A outer s0 H0 E) pins σ H5 { s6 with heap:=s6.heap }:=Vb I3 f3 rfl J6 (Heap.SameBut.refl ..)
 have I6:Inv (cxOf (CXE P w) P w K mg base N qual scope f cdv A outer s0 H0 E) pins σ H5 s6:=I6
 obtain⟨m6,⟨o6,es6,ep6,ho6,rest6⟩,_⟩:=id J6.loc
 have sz:∀b o,(s2.heap.push { cls:=.type "list",data:=.seq ([]:List Value).toArray }).get? b=some o→b≠(s2.heap.push { cls:=.type "list",data:=.seq ([]:List Value).toArray }).objs.size:=fun b o e=>Nat.ne_of_lt (Heap.lt_size e)
 have hge:(cxOf (CXE P w) P w K mg base N qual scope f cdv A outer s0 H0 E).s₀.heap.objs.size≤(s2.heap.push { cls:=.type "list",data:=.seq ([]:List Value).toArray }).objs.size:=I3.sz
 have hloc:(s2.heap.push { cls:=.type "list",data:=.seq ([]:List Value).toArray }).objs.size≠(cxOf (CXE P w) P w K mg base N qual scope f cdv A outer s0 H0 E).env.locals:=fun z=>by
  have:=I3.lt
  rw [← z] at this
  exact Nat.lt_irrefl _ this
 have hfs:(s2.heap.push { cls:=.type "list",data:=.seq ([]:List Value).toArray }).objs.size ∉ (cxOf (CXE P w) P w K mg base N qual scope f cdv A outer s0 H0 E).fs:=I3.nofs (Nat.le_refl _)
 have hcell:∀x c,(cxOf (CXE P w) P w K mg base N qual scope f cdv A outer s0 H0 E).env.cells.lookup x=some c→c≠(s2.heap.push { cls:=.type "list",data:=.seq ([]:List Value).toArray }).objs.size:=fun x c e=>by
  obtain⟨v,ob,hob,_⟩:=I3.cell x c e
  exact sz _ _ hob
 have hpin:∀p∈(cxOf (CXE P w) P w K mg base N qual scope f cdv A outer s0 H0 E).pn++pins,p.1≠(s2.heap.push { cls:=.type "list",data:=.seq ([]:List Value).toArray }).objs.size:=fun p hp=>sz _ _ (I3.pin p hp).1
 have I7:Inv (cxOf (CXE P w) P w K mg base N qual scope f cdv A outer s0 H0 E) (pins++[((s2.heap.push { cls:=.type "list",data:=.seq ([]:List Value).toArray }).objs.size,o6)]) σ H5 s6:=I6.pins_of fun p hp=>by
  rcases List.mem_append.mp hp with z | z
  ·exact I6.pin p (List.mem_append_right _ z)
  ·rw [List.mem_singleton.mp z]
   refine⟨ho6,J6.free,hloc,hfs,fun v z=>?_⟩
   rw [rest6.1] at z
   cases z
 refine wpAny_assign_Name (store_ok (v:=.ref s2.heap.objs.size) I7 hN hk (.inl hy) rfl (fun s8 I8=>?_) (.inr hy))
 have h8:=(I8.pin ((s2.heap.push { cls:=.type "list",data:=.seq ([]:List Value).toArray }).objs.size,o6) (List.mem_append_right _ (List.mem_append_right _ (List.mem_singleton.mpr rfl)))).1
 refine⟨m6,⟨o6,es6,ep6,h8,rest6⟩,fun h' hs'=>⟨_,H5,(I8.unpinned).turned (t':=s8.toks) (fun b o hb e=>hs'.extBut b o hb e) J6.free hloc (.inr hge) hcell hpin,qn⟩⟩
end
end L2
namespace L2
open PySem PySem.NumText
abbrev cpl (x:Str):List Nat:=x.cps.toList
theorem XF {x y:Str} (h:cpl x=cpl y):x=y:=Str.ext' (Array.toList_inj.mp h)
theorem jz (x:Str):(cpl x).length=x.length:=Array.length_toList
theorem xY (x y:Str):cpl (x++y)=cpl x++cpl y:=by simp only [cpl,Str.cps_append,Array.toList_append]
noncomputable def yV (c:Nat):List (List Nat)→List Nat
 | []=>[]
 | [x]=>x
 | x::y::r=>x++c::yV c (y::r)
theorem QV (c:Nat):∀ws:List Str,cpl (Str.join ⟨#[c]⟩ ws)=yV c (ws.map cpl)
 | []=>rfl
 | [x]=>rfl
 | x::y::r=>by
  show cpl (x++⟨#[c]⟩++Str.join ⟨#[c]⟩ (y::r))=cpl x++c::yV c (cpl y::r.map cpl)
  rw [xY,xY,QV c (y::r),List.append_assoc]
  rfl
theorem zdu {c:Nat}:∀{x y A B:List Nat},c ∉ x→c ∉ y→x++c::A=y++c::B→x=y∧A=B
 | [],[],_,_,_,_,h=>⟨rfl,(List.cons.inj h).2⟩
 | [],b::y,_,_,_,hy,h=>absurd (show c∈b::y by rw [(List.cons.inj h).1];exact List.mem_cons_self ..) hy
 | a::x,[],_,_,hx,_,h=>absurd (show c∈a::x by rw [← (List.cons.inj h).1];exact List.mem_cons_self ..) hx
 | a::x,b::y,A,B,hx,hy,h=>by
  obtain⟨h1,h2⟩:=List.cons.inj h
  obtain⟨e1,e2⟩:=zdu (fun z=>hx (List.mem_cons_of_mem _ z)) (fun z=>hy (List.mem_cons_of_mem _ z)) h2
  exact⟨by rw [h1,e1],e2⟩
theorem YM {c:Nat}:∀{xs ys:List (List Nat)},xs≠[]→ys≠[]→(∀x∈xs,c ∉ x)→(∀y∈ys,c ∉ y)→yV c xs=yV c ys→xs=ys
 | [],_,h,_,_,_,_=>absurd rfl h
 | _,[],_,h,_,_,_=>absurd rfl h
 | [x],[y],_,_,_,_,h=>by rw [show x=y from h]
 | [x],y::y2::r,_,_,hx,_,h=>by
  have h:x=y++c::yV c (y2::r):=h
  exact absurd (by rw [h];exact List.mem_append_right _ (List.mem_cons_self ..)) (hx x (List.mem_cons_self ..))
 | x::x2::r,[y],_,_,_,hy,h=>by
  have h:x++c::yV c (x2::r)=y:=h
  exact absurd (by rw [← h];exact List.mem_append_right _ (List.mem_cons_self ..)) (hy y (List.mem_cons_self ..))
 | x::x2::r,y::y2::s,_,_,hx,hy,h=>by
  have h:x++c::yV c (x2::r)=y++c::yV c (y2::s):=h
  obtain⟨e1,e2⟩:=zdu (hx x (List.mem_cons_self ..)) (hy y (List.mem_cons_self ..)) h
  have:=YM (by simp) (by simp) (fun z hz=>hx z (List.mem_cons_of_mem _ hz)) (fun z hz=>hy z (List.mem_cons_of_mem _ hz)) e2
  rw [e1,this]
theorem Kv:∀{a b:List Str},a.map cpl=b.map cpl→a=b
 | [],[],_=>rfl
 | [],_::_,h=>by simp at h
 | _::_,[],h=>by simp at h
 | x::a,y::b,h=>by
  obtain⟨h1,h2⟩:=List.cons.inj h
  rw [XF h1,Kv h2]
theorem zdv (x y:Str):Txt.split x y≠[]:=by
 unfold Txt.split
 split
 ·simp
 ·split
  ·simp
  ·rw [StrLaws.partsBetween_eq]
   obtain⟨p,r,e⟩:=StrLaws.partsFrom_ne x y.length 0 (Builtin.Str.occurrences x y 0 x.length (x.length+1))
   rw [e]
   simp
abbrev sp:Str:=" "
theorem ze2:sp=⟨#[32]⟩:=by decide +kernel
theorem Ke (y:Str) (ws:List Str):Txt.join y ws=Str.join y ws:=by
 unfold Txt.join
 rw [StrLaws.glued_eq_join]
noncomputable def QQ (x:Str):Prop:=32 ∉ cpl x
theorem zbW {ws:List Str} (hn:ws≠[]) (hw:∀w∈ws,QQ w):Txt.split (Txt.join sp ws) sp=ws:=by
 have h1:=StrLaws.join_split (Txt.join sp ws) sp
 rw [Ke,ze2] at h1
 rw [Ke,ze2]
 have h2:=congrArg cpl h1
 rw [QV,QV] at h2
 refine Kv (YM (c:=32) ?_ ?_ ?_ ?_ h2)
 ·intro z
  exact zdv _ _ (List.map_eq_nil_iff.mp z)
 ·intro z
  exact hn (List.map_eq_nil_iff.mp z)
 ·intro x hx
  obtain⟨p,hp,rfl⟩:=List.mem_map.mp hx
  exact StrLaws.split_free _ 32 p hp
 ·intro x hx
  obtain⟨p,hp,rfl⟩:=List.mem_map.mp hx
  exact hw p hp
structure Num (most:Nat) (x:Str):Prop where
 ne:1≤x.length
 le:x.length≤most
 dig:AllDigits (cpl x)
 led:(cpl x)[0]?=some 48→cpl x=[48]
noncomputable def jh (x:Str):Int:=((digitsVal (cpl x):Nat):Int)
theorem Kf (x:Str):0≤jh x:=Int.natCast_nonneg _
theorem Num.ne' {most:Nat}{x:Str} (h:Num most x):cpl x≠[]:=fun z=>by
 have:=h.ne
 rw [← jz,z] at this
 exact absurd this (by decide)
theorem zap:∀(cs:List Nat),AllDigits cs→digitsVal cs<10 ^ cs.length:=by
 intro cs
 have key:∀(cs:List Nat) (a:Nat),AllDigits cs→cs.foldl (fun acc c=>acc*10+(c-48)) a<(a+1)*10 ^ cs.length:=by
  intro cs
  induction cs with
  | nil=>intro a _;simp
  | cons c r ih=>
   intro a h
   have hc:=h.head
   have:=ih (a*10+(c-48)) h.tail
   rw [List.foldl_cons,List.length_cons,Nat.pow_succ]
   refine Nat.lt_of_lt_of_le this ?_
   rw [Nat.mul_comm (10 ^ r.length) 10,← Nat.mul_assoc]
   exact Nat.mul_le_mul_right _ (by omega)
 intro h
 have:=key cs 0 h
 simpa [digitsVal] using this
theorem zaq {most:Nat}{x:Str} (h:Num most x):jh x<10 ^ most:=by
 have h1:=zap _ h.dig
 have h2:10 ^ (cpl x).length≤10 ^ most:=Nat.pow_le_pow_right (by decide) (by rw [jz];exact h.le)
 unfold jh
 have:digitsVal (cpl x)<10 ^ most:=by omega
 exact_mod_cast this
noncomputable def txt (n:Int):Str:=Str.ofString (toString n)
theorem zfj (s:String):cpl (Str.ofString s)=s.toList.map Char.toNat:=by
 exact PyProof.Rows.signs_ofString s
theorem Jl (m:Nat):cpl (txt ((m:Nat):Int))=(Nat.toDigits 10 m).map Char.toNat:=by
 unfold txt
 rw [zfj]
 show (Nat.repr m).toList.map Char.toNat=_
 rw [Nat.toList_repr]
theorem Ws (a b:List Nat):digitsVal (a++b)=b.foldl (fun acc c=>acc*10+(c-48)) (digitsVal a):=by
 unfold digitsVal
 rw [List.foldl_append]
theorem Z8:∀d:Nat,d<10→(Nat.digitChar d).toNat=48+d:=by decide
theorem zbX {m:Nat}:∀ch∈Nat.toDigits 10 m,48≤ch.toNat∧ch.toNat≤57:=by
 induction m using Nat.strongRecOn with
 | _ m ih=>
  intro ch hch
  by_cases h:m<10
  ·rw [Nat.toDigits_of_lt_base h] at hch
   rw [List.mem_singleton.mp hch,Z8 m h]
   omega
  ·have hm:m % 10<10:=Nat.mod_lt m (by decide)
   have t:Nat.toDigits 10 (m / 10)++Nat.toDigits 10 (m % 10)=Nat.toDigits 10 (10*(m / 10)+m % 10):=Nat.toDigits_append_toDigits (by decide) (by omega) hm
   rw [Nat.div_add_mod] at t
   rw [← t] at hch
   rcases List.mem_append.mp hch with z | z
   ·exact ih (m / 10) (by omega) ch z
   ·rw [Nat.toDigits_of_lt_base hm] at z
    rw [List.mem_singleton.mp z,Z8 _ hm]
    omega
theorem zar (m:Nat):AllDigits (cpl (txt ((m:Nat):Int))):=by
 intro c hc
 rw [Jl] at hc
 obtain⟨ch,hch,e⟩:=List.mem_map.mp hc
 rw [← e]
 exact zbX ch hch
theorem zew (m:Nat):digitsVal (cpl (txt ((m:Nat):Int)))=m:=by
 rw [Jl]
 induction m using Nat.strongRecOn with
 | _ m ih=>
  by_cases h:m<10
  ·rw [Nat.toDigits_of_lt_base h]
   show 0*10+((Nat.digitChar m).toNat-48)=m
   rw [Z8 m h]
   omega
  ·have hm:m % 10<10:=Nat.mod_lt m (by decide)
   have t:Nat.toDigits 10 (m / 10)++Nat.toDigits 10 (m % 10)=Nat.toDigits 10 (10*(m / 10)+m % 10):=Nat.toDigits_append_toDigits (by decide) (by omega) hm
   rw [Nat.div_add_mod] at t
   rw [← t,List.map_append,Nat.toDigits_of_lt_base hm,Ws,ih (m / 10) (by omega)]
   show m / 10*10+((Nat.digitChar (m % 10)).toNat-48)=m
   rw [Z8 _ hm]
   omega
theorem zdw (m:Nat):1≤(cpl (txt ((m:Nat):Int))).length:=by
 cases h:cpl (txt ((m:Nat):Int)) with
 | nil=>
  rw [Jl] at h
  have:=List.map_eq_nil_iff.mp h
  exact absurd this (Nat.toDigits_ne_nil)
 | cons a r=>exact Nat.succ_le_succ (Nat.zero_le _)
theorem zex (m:Nat) (h:(cpl (txt ((m:Nat):Int)))[0]?=some 48):m=0:=by
 rw [Jl] at h
 induction m using Nat.strongRecOn with
 | _ m ih=>
  by_cases hm10:m<10
  ·rw [Nat.toDigits_of_lt_base hm10] at h
   have:(Nat.digitChar m).toNat=48:=by simpa using h
   rw [Z8 m hm10] at this
   omega
  ·have hm:m % 10<10:=Nat.mod_lt m (by decide)
   have t:Nat.toDigits 10 (m / 10)++Nat.toDigits 10 (m % 10)=Nat.toDigits 10 (10*(m / 10)+m % 10):=Nat.toDigits_append_toDigits (by decide) (by omega) hm
   rw [Nat.div_add_mod] at t
   rw [← t,List.map_append,List.getElem?_append_left (by rw [← Jl];exact zdw _)] at h
   have:=ih (m / 10) (by omega) h
   omega
theorem zey {m k:Nat} (hk:1≤k) (h:m<10 ^ k):(cpl (txt ((m:Nat):Int))).length≤k:=by
 rw [Jl,List.length_map]
 induction k generalizing m with
 | zero=>exact absurd hk (by decide)
 | succ k ih=>
  by_cases hm10:m<10
  ·rw [Nat.toDigits_of_lt_base hm10]
   exact Nat.succ_le_succ (Nat.zero_le _)
  ·have hm:m % 10<10:=Nat.mod_lt m (by decide)
   have t:Nat.toDigits 10 (m / 10)++Nat.toDigits 10 (m % 10)=Nat.toDigits 10 (10*(m / 10)+m % 10):=Nat.toDigits_append_toDigits (by decide) (by omega) hm
   rw [Nat.div_add_mod] at t
   rw [← t,List.length_append,Nat.toDigits_of_lt_base hm,List.length_singleton]
   have h2:m / 10<10 ^ k:=Nat.div_lt_of_lt_mul (by rw [Nat.pow_succ,Nat.mul_comm] at h;exact h)
   have k1:1≤k:=by
    cases k with
    | zero=>simp at h2;omega
    | succ k=>omega
   have:=ih k1 h2
   omega
theorem ZD {n:Int}{k:Nat} (hk:1≤k) (h0:0≤n) (h1:n<10 ^ k):Num k (txt n):=by
 obtain⟨m,rfl⟩:=Int.eq_ofNat_of_zero_le h0
 have hm:m<10 ^ k:=by exact_mod_cast h1
 refine⟨by rw [← jz];exact zdw m,by rw [← jz];exact zey hk hm,zar m,fun z=>?_⟩
 have:=zex m z
 subst this
 rfl
theorem QW {n:Int} (h0:0≤n):jh (txt n)=n:=by
 obtain⟨m,rfl⟩:=Int.eq_ofNat_of_zero_le h0
 unfold jh
 rw [zew]
theorem zdx {x:Str} (h:AllDigits (cpl x)):QQ x:=fun z=>by
 have:=h 32 z
 omega
theorem zdy {n:Int} (h0:0≤n):QQ (txt n):=by
 obtain⟨m,rfl⟩:=Int.eq_ofNat_of_zero_le h0
 exact zdx (zar m)
theorem num_reads {most:Nat}{x:Str} (h:Num most x) (hm:most≤4300):PySem.intText? x=some (jh x):=intText_digits h.dig h.ne' (Nat.le_trans h.le hm)
end L2
namespace L2
open PySem PySem.Spec PyProof.Rows
theorem Vd:∀(ws:List Str) (k:Nat),Vals (ws.map V.str) (strsFrom k ws)
 | [],_=>.nil
 | x::r,k=>.cons ⟨k,rfl⟩ (Vd r (k+1))
section
variable {X:Cx}
noncomputable def zfk:V→List V→Hp→VK→Prop:=fun x vs H Q=>∃a b,x=.str a∧vs=[.str b]∧(b.length == 0)=false∧a.length+2≤sizeLine∧∀l,H l=none→Q (.ref l) (upd H l (.lst ((Txt.split a b).map V.str)))
theorem zdz:MtR X "str.split" zfk:=by
 intro pins s σ H v vs u us Q I rx rs h
 obtain⟨x,y,rfl,rfl,hy,hz,q⟩:=h
 obtain⟨t,rfl⟩:=rx
 obtain⟨u1,rfl,w1⟩:=vals1 rs
 obtain⟨t',rfl⟩:=w1
 have hn:(Builtin.Str.partsBetween x (Builtin.Str.occurrences x y 0 x.length (x.length+1)) y.length).length≤sizeLine:=by
  have e1:=StrLaws.occ_length_le x y 0 x.length (x.length+1)
  rw [length_partsBetween]
  omega
 have q:=q _ I.fresh
 cases h1:(decide (x.length<y.length) || decide (Builtin.Str.strKind x<Builtin.Str.strKind y)) with
 | false=>
  cases hf:(Builtin.Str.occurrences x y 0 x.length (x.length+1)).isEmpty with
  | false=>
   have e:Txt.split x y=Builtin.Str.partsBetween x (Builtin.Str.occurrences x y 0 x.length (x.length+1)) y.length:=by
    unfold Txt.split
    rw [h1,hf]
    rfl
   rw [e] at q
   exact call_meets PySem.F.slot_str_split (typeIs_str _ _ _) PySem.F.entry_str_split (PySem.F.args_str_split_2 _ _) (meets_str_split_sep x y t t' h1 hy hf (by omega) hn) ⟨.ref _,_,I.lnew (Vd _ _) (by rw [List.length_map];exact hn),rfl,q⟩
  | true=>
   have e:Txt.split x y=[x]:=by
    unfold Txt.split
    rw [h1,hf]
    rfl
   rw [e] at q
   exact call_meets PySem.F.slot_str_split (typeIs_str _ _ _) PySem.F.entry_str_split (PySem.F.args_str_split_2 _ _) (meets_str_split_not_found x y t t' h1 hy hf) ⟨.ref _,_,I.lnew (its:=[.str x t]) (ys:=[V.str x]) (t':=s.toks) (.cons ⟨t,rfl⟩ .nil) (by show 1≤sizeLine;decide),rfl,q⟩
 | true=>
  have e:Txt.split x y=[x]:=by
   unfold Txt.split
   rw [h1]
   rfl
  rw [e] at q
  exact call_meets PySem.F.slot_str_split (typeIs_str _ _ _) PySem.F.entry_str_split (PySem.F.args_str_split_2 _ _) (meets_str_split_cannot_occur x y t t' h1) ⟨.ref _,_,I.lnew (its:=[.str x t]) (ys:=[V.str x]) (t':=s.toks) (.cons ⟨t,rfl⟩ .nil) (by show 1≤sizeLine;decide),rfl,q⟩
noncomputable def zcX:V→List V→Hp→VK→Prop:=fun x vs H Q=>∃a b k,x=.str a∧vs=[.str b,.int k]∧(decide (k < -(2 ^ 63:Int)) || decide (k ≥ 2 ^ 63))=false∧(b.length == 0)=false∧a.length+2≤sizeLine∧(Txt.splitMax a b k).length≤sizeLine∧∀l,H l=none→Q (.ref l) (upd H l (.lst ((Txt.splitMax a b k).map V.str)))
theorem zba:MtR X "str.split" zcX:=by
 intro pins s σ H v vs u us Q I rx rs h
 obtain⟨x,y,k,rfl,rfl,hk,hy,hz,hn,q⟩:=h
 obtain⟨t,rfl⟩:=rx
 obtain⟨u1,u2,rfl,w1,w2⟩:=vals2 rs
 obtain⟨t',rfl⟩:=w1
 obtain⟨t2,rfl⟩:=w2
 have q:=q _ I.fresh
 cases h1:(decide (x.length<y.length) || decide (Builtin.Str.strKind x<Builtin.Str.strKind y)) with
 | false=>
  cases hf:(Builtin.Str.occurrences x y 0 x.length (limitOf x k)).isEmpty with
  | false=>
   have e:Txt.splitMax x y k=Builtin.Str.partsBetween x (Builtin.Str.occurrences x y 0 x.length (limitOf x k)) y.length:=by
    unfold Txt.splitMax
    rw [h1,hf]
    rfl
   rw [e] at q hn
   exact call_meets PySem.F.slot_str_split (typeIs_str _ _ _) PySem.F.entry_str_split (PySem.F.args_str_split_3 _ _ _) (meets_str_split_sep_max x y k t t' t2 hk h1 hy hf (by omega) hn) ⟨.ref _,_,I.lnew (Vd _ _) (by rw [List.length_map];exact hn),rfl,q⟩
  | true=>
   have e:Txt.splitMax x y k=[x]:=by
    unfold Txt.splitMax
    rw [h1,hf]
    rfl
   rw [e] at q
   exact call_meets PySem.F.slot_str_split (typeIs_str _ _ _) PySem.F.entry_str_split (PySem.F.args_str_split_3 _ _ _) (meets_str_split_max_not_found x y k t t' t2 hk h1 hy hf) ⟨.ref _,_,I.lnew (its:=[.str x t]) (ys:=[V.str x]) (t':=s.toks) (.cons ⟨t,rfl⟩ .nil) (by show 1≤sizeLine;decide),rfl,q⟩
 | true=>
  have e:Txt.splitMax x y k=[x]:=by
   unfold Txt.splitMax
   rw [h1]
   rfl
  rw [e] at q
  exact call_meets PySem.F.slot_str_split (typeIs_str _ _ _) PySem.F.entry_str_split (PySem.F.args_str_split_3 _ _ _) (meets_str_split_max_cannot_occur x y k t t' t2 hk h1) ⟨.ref _,_,I.lnew (its:=[.str x t]) (ys:=[V.str x]) (t':=s.toks) (.cons ⟨t,rfl⟩ .nil) (by show 1≤sizeLine;decide),rfl,q⟩
theorem zdA {k:Nat}{C:Addr}{x:Str}{ps:List Str}{sp:Sp}{p pos:Pos} (F:MkX CX0 X.prog X.w X.K X.mg X.base k C ps sp) (hr:Room (k+1) X.A) (hg:Gl X x) (hm:X.mg x=some (.ref C)) (hdb:(x == ("__debug__":Str))=false:=by decide) :
  PE X (.Call (.Name x p) [] [] pos) (tMk C sp tNil):=by
 obtain⟨f,fd,F,M,b⟩:=F
 intro pins s σ H Q I h
 refine wpAny_Call_Name_kw (ld_glob I hg hm ?_ hdb)
 exact PySem.W.callWith_K0 I.kIn M.kp (zds (us:=[]) (vs:=[]) M F hr b (fun _ _ _ _ _ z=>z.elim) I .nil h)
noncomputable def tPs:List TE→Str→TE
 | [],acc=>fun _ H Q=>acc.length≤sizeLine∧Q (.str acc) H
 | t::ts,acc=>fun σ H Q=>t σ H fun x H1=>∃y,x=.str y∧(acc++y).length≤sizeLine∧tPs ts (acc++y) σ H1 Q
inductive PJs (X:Cx):List Expr→List TE→Prop where
 | nil:PJs X [] []
 | cons {e:Expr}{t:TE}{es:List Expr}{ts:List TE} (h:PE X e t) (r:PJs X es ts):PJs X (e::es) (t::ts)
theorem zdB:∀{es:List Expr}{ts:List TE},PJs X es ts→∀(acc:Str) (pins:List (Addr×Obj)) (s:Shared) (σ:St) (H:Hp) (Q:VK),Inv X pins σ H s→tPs ts acc σ H Q →
  wpAny (model X.prog X.w) X.A (joinParts acc (evalEach es X.env)) (EP X pins σ Q) X.xe s
 | _,_,.nil,acc,pins,s,σ,H,Q,I,h=>joinParts_nil ⟨.str acc,H,I.tok _,⟨_,rfl⟩,h.2⟩ h.1
 | _,_,.cons h r,acc,pins,s,σ,H,Q,I,hw=>by
  refine joinParts_cons (thn (h pins s σ H _ I hw) fun v s1 ⟨x,H1,I1,r1,q1⟩=>?_)
  obtain⟨y,rfl,hz,q⟩:=q1
  obtain⟨t',rfl⟩:=r1
  exact⟨hz,zdB r (acc++y) pins s1 σ H1 Q I1 q⟩
theorem zi9 {e1 e2:Expr}{es:List Expr}{ts:List TE}{pos:Pos} (h:PJs X (e1::e2::es) ts):PE X (.JoinedStr (e1::e2::es) pos) (tPs ts Str.empty):=
 fun pins s σ H Q I hw=>JoinedStr_many (zdB h Str.empty pins s σ H Q I hw)
end
end L2
namespace L2
open PySem PySem.Spec PyProof.Rows PySem.Calls PySem.NumText
noncomputable def NoDig (K:PySem.W.Frag):Prop:=∀h:Heap,K.In h→h.NoDigits
theorem nodig_of {K:PySem.W.Frag}{oc:Value}{od:Option Addr}{es:Array DictEntry}{ep:Nat}{sl:Array (Option Value)} (l:K.lookup cStatics=some ⟨oc,od,.dict es ep,sl⟩) (e:(es.all fun e=>match e.key with | .str _ _=>true | _=>false)=true)
  (n:PySem.W.nsIn K cStatics "sys.int_max_str_digits"=some none):NoDig K:=by
 intro h X
 have ho:=X _ _ l
 refine⟨fun name=>nsFind es name,⟨_,es,ep,ho,rfl,fun en hen=>?_,fun _=>rfl⟩,?_⟩
 ·have:=Array.all_eq_true_iff_forall_mem.mp e en hen
  cases hk:en.key with
  | str a b=>exact⟨a,b,rfl⟩
  | _=>rw [hk] at this;cases this
 ·unfold PySem.W.nsIn at n
  rw [l] at n
  dsimp only at n
  split at n
  ·cases n
  ·rename_i he
   show nsFind es _=none
   unfold nsFind findBy
   rw [← Array.find?_toList,he]
   rfl
section
variable {prog:Program}{w:World}{A:Around}{E:Value→Shared→Prop}{s:Shared}{a:Int}{t:Tok}
theorem zdC {Q:Value→Shared→Prop} (hn:s.heap.NoDigits) (hl:a.natAbs<10 ^ 4300) (h1:Q (.str (toString a) s.toks) { s with toks:=s.toks+1 }) :
  wpAny (model prog w) A (call (.builtin "int.__repr__") [.int a t]) Q E s:=by
 refine wpAny_call_entry F.slot_int_repr (typeIs_int s a t) F.entry_int_repr ?_ (F.args_int_repr_1 _)
 unfold Builtin.«int.__repr__»
 show wpAny _ _ (do let r ← Builtin.overDigitLimit? a;_) _ _ s
 refine wpAny_bind (overDigitLimit_any hn (fun hlt=>?_) (fun hge=>absurd hl (Nat.not_lt.mpr hge)))
 exact wpAny_bind (wpAny_mkStr (wpAny_pure ⟨_,rfl,h1⟩) (int_text_fits10 hlt))
theorem zcY {Q:Value→Shared→Prop} (hn:s.heap.NoDigits) (hl:a.natAbs<10 ^ 4300) (h1:Q (.str (toString a) s.toks) { s with toks:=s.toks+1 }) :
  wpAny (model prog w) A (Builtin.Str.strOf (.int a t)) Q E s:=by
 unfold Builtin.Str.strOf
 rw [show Builtin.Str.isExactStr (.int a t)=false from rfl]
 try (have hv:[Value.int a t].any Value.onHeap=false:=rfl;simp only [cRoomFor,hv,Bool.false_eq_true,if_false,pure_bind])
 refine wpAny_bind (m:=callSpecial? (.int a t) (Str.ofString "__str__")) (wpAny_callSpecial?_slot (name:=Str.ofString "__str__") (typeIs_int s a t) F.slot_int_str ?_)
 refine wpAny_call_entry F.slot_int_str (typeIs_int s a t) entry_object_str ?_ (args_object_str _)
 unfold Builtin.«object.__str__»
 refine wpAny_bind (m:=slotArgs "__str__" 0 _) (wpAny_pure ?_)
 try (have hv:[Value.int a t].any Value.onHeap=false:=rfl;simp only [cRoomFor,hv,Bool.false_eq_true,if_false,pure_bind])
 refine wpAny_bind (m:=callSpecialIfBound? (.int a t) (Str.ofString "__repr__")) (wpAny_callSpecialIfBound?_slot (name:=Str.ofString "__repr__") (typeIs_int s a t) F.slot_int_repr
  (zdC hn hl ?_))
 exact wpAny_pure ⟨_,rfl,wpAny_pure h1⟩
theorem zez {Q:Value→Shared→Prop} (hn:s.heap.NoDigits) (hl:a.natAbs<10 ^ 4300) (h1:Q (.str (toString a) s.toks) { s with toks:=s.toks+1 }) :
  wpAny (model prog w) A (call (.type "str") [.int a t]) Q E s:=
 callType_new F.called_str (by decide) (F.typeCall_str_1 _) (F.newCall_str_1 _) (fun obj=>F.args_object_init_2 obj _) F.entry_str_new
  (meets_str_new (S:=fun A R s=>s.heap.NoDigits∧R (.ok (.ret (.str (toString a) s.toks))) { s with toks:=s.toks+1 })
   fun _ _ _ _ _ hq=>zcY hq.1 hl hq.2)
  ⟨hn,typeIs_str _ _ _,h1⟩
theorem zcZ {Q:Value→Shared→Prop} (hn:s.heap.NoDigits) (hl:a.natAbs<10 ^ 4300) (h1:Q (.str (toString a) (s.toks+1)) { s with toks:=s.toks+1+1 }) :
  wpAny (model prog w) A (formatField (.int a t) Str.empty) Q E s:=by
 show wpAny _ _ (holding [.int a t] (pyFormat (.int a t) Str.empty)) Q E s
 refine wpAny_holding ?_
 unfold pyFormat
 refine wpAny_bind (wpAny_mkStr ?_ (by decide))
 refine wpAny_bind (m:=callSpecial? (.int a t) (Str.ofString "__format__") [.str Str.empty s.toks]) (wpAny_callSpecial?_slot (name:=Str.ofString "__format__") (typeIs_int _ a t) slot_int_format ?_)
 refine wpAny_call (codeAny_call_builtin slot_int_format.plain entry_int_format (slot_int_format.check _ _ _ _ _ _ _ _ (typeIs_int _ a t) (args_int_format _ _) ?_))
 show wpAny _ _ (do let _kind ← typeNameOf (.str Str.empty s.toks);(do rule "int.format.empty";again (.builtin "int.__repr__" ⟨[.int a t],[]⟩))) _ _ _
 refine wpAny_bind (wpAny_typeNameOf (T:="str") (typeIs_str _ _ _) (by decide) fun _=>wpAny_bind (wpAny_rule (wpAny_pure ⟨plainId_quiet plain_int_repr _,?_⟩)))
 refine codeAny_builtin entry_int_repr ?_
 rw [Around.under_plainId plain_int_repr _]
 unfold Builtin.«int.__repr__»
 show wpAny _ _ (do let r ← Builtin.overDigitLimit? a;_) _ _ _
 refine wpAny_bind (overDigitLimit_any hn (fun hlt=>?_) (fun hge=>absurd hl (Nat.not_lt.mpr hge)))
 refine wpAny_bind (wpAny_mkStr (wpAny_pure ?_) (int_text_fits10 hlt))
 show wpAny _ _ (do if ← isInstance (.str (toString a) (s.toks+1)) (.type "str") then return (.str (toString a) (s.toks+1)) else _) Q E _
 exact wpAny_bind (wpAny_isInstance (typeIs_str _ _ _) isSubtype_str_str (wpAny_pure h1))
end
theorem zdD {M:Model}{A:Around}{E:Value→Shared→Prop}{s:Shared}{Q:Value→Shared→Prop}{v:Value}{text:List Nat}{n:Int} (hn:s.heap.NoDigits)
  (hs:¬(text.takeWhile (· != 0)).length≤640) (hr:(int_private% "readNumeral") 4300 10 (text.takeWhile (· != 0))=(int_private% "Numeral.value") n)
  (ha:((text.takeWhile (· != 0)).length == text.length)=true) (h:Q (.int n s.toks) { s with toks:=s.toks+1 }) :
  wpAny M A ((int_private% "intFromText") v text 10) Q E s:=by
 obtain⟨mc,hns,hnone⟩:=hn
 obtain⟨hp,g,d,tk,os⟩:=s
 have hlim:∀{Q:Nat→Shared→Prop},Q 4300 ⟨hp,g,d,tk,os⟩→wpAny M A Builtin.intMaxStrDigits Q E ⟨hp,g,d,tk,os⟩:=fun hq=>by
  unfold Builtin.intMaxStrDigits
  refine wpAny_bind (wpAny_nsGet hns ?_)
  rw [hnone]
  exact wpAny_pure hq
 repeat (any_goals (first
  | assumption
  | (with_reducible refine wpAny_ite_false (decide_eq_false hs) ?_)
  | (with_reducible refine wpAny_ite_true (decide_eq_true ha) ?_)
  | (with_reducible refine hlim ?_)
  | wp_step))
 all_goals (try rw [hr])
 all_goals (try dsimp only)
 repeat (any_goals (first
  | assumption
  | (with_reducible refine wpAny_ite_true (decide_eq_true ha) ?_)
  | wp_step))
set_option maxHeartbeats 4000000 in
theorem zbb {x : PySem.Str} {u : Tok} {n : Int} (hz : x.length ≤ sizeLine) (hn : PySem.intText? x = some n) : Meets (Builtin.«int.__new__» ⟨[.type "int", .str x u], []⟩) (fun A R s => s.heap.NoDigits ∧ (Made.int n).post (fun v s' => R (.ok (.ret v)) s') s) := by
  by_cases hl : (numSeenOf x).length ≤ 640
  · have hr : (int_private% "readNumeral") 0 10 (numSeenOf x) = (int_private% "Numeral.value") n ∧ ((numSeenOf x).length == (numTextOf x).length) = true := by
      rcases read0 x hl with ⟨m, h1, h2, h3⟩ | ⟨h1, _⟩
      · rw [hn] at h1
        injection h1 with h1
        subst h1
        exact ⟨h3, h2⟩
      · rw [hn] at h1
        cases h1
    refine .of_wp fun prog w A R s h => ?_
    obtain ⟨nd, h⟩ := h
    obtain ⟨hp, g, d, tk, os⟩ := s
    have f1 := F.conv_sub_int
    have f2 := F.madeHere_int
    have f3 := PySem.W.KIN.str_int
    have f4 := PySem.W.KIN.str_idx
    have f5 := PySem.W.KIN.str_trunc
    have f6 : typeOf (.str x u) = pure (.type "str") := rfl
    have hk := PySem.W.KIN.Hid.mk (And.intro hl hr)
    clear hl hr hn
    repeat (any_goals (first
      | assumption
      | ((with_reducible show wpAny _ _ ((int_private% "intFromText") _ _ _) _ _ _); refine PySem.W.KIN.wp_text hk.out.1 hk.out.2.1 hk.out.2.2 ?_)
      | wp_step))
    all_goals first | exact ⟨_, rfl, h⟩ | skip
  · have hr : (int_private% "readNumeral") 4300 10 (numSeenOf x) = (int_private% "Numeral.value") n ∧ ((numSeenOf x).length == (numTextOf x).length) = true := by
      rcases read4300 x hz with ⟨m, h1, h2, h3⟩ | ⟨h1, _⟩
      · rw [hn] at h1
        injection h1 with h1
        subst h1
        exact ⟨h3, h2⟩
      · rw [hn] at h1
        cases h1
    refine .of_wp fun prog w A R s h => ?_
    obtain ⟨nd, h⟩ := h
    obtain ⟨hp, g, d, tk, os⟩ := s
    have f1 := F.conv_sub_int
    have f2 := F.madeHere_int
    have f3 := PySem.W.KIN.str_int
    have f4 := PySem.W.KIN.str_idx
    have f5 := PySem.W.KIN.str_trunc
    have f6 : typeOf (.str x u) = pure (.type "str") := rfl
    have hk := PySem.W.KIN.Hid.mk (And.intro hl hr)
    have hnd := PySem.W.KIN.Hid.mk nd
    clear hl hr hn nd
    repeat (any_goals (first
      | assumption
      | ((with_reducible show wpAny _ _ ((int_private% "intFromText") _ _ _) _ _ _); refine zdD hnd.out hk.out.1 hk.out.2.1 hk.out.2.2 ?_)
      | wp_step))
    all_goals first | exact ⟨_, rfl, h⟩ | skip
section
variable {X:Cx}
theorem wQ (hD:NoDig X.K):CallR X (.type "str") (fun xs H Q=>∃i,xs=[.int i]∧i.natAbs<10 ^ 4300∧Q (.str (toString i)) H):=by
 intro pins s σ H xs us Q I r h
 obtain⟨i,rfl,hl,q⟩:=h
 obtain⟨u,rfl,t,rfl⟩:=vals1 r
 exact zez (hD _ I.kIn) hl ⟨.str _,H,I.tok _,⟨_,rfl⟩,q⟩
theorem Kw (hD:NoDig X.K):CallR X (.type "int") (fun xs H Q=>∃x n,xs=[.str x]∧PySem.intText? x=some n∧x.length≤sizeLine∧Q (.int n) H):=by
 intro pins s σ H xs us Q I r h
 obtain⟨x,n,rfl,hn,hl,q⟩:=h
 obtain⟨u,rfl,t,rfl⟩:=vals1 r
 exact call_int_1 (zbb hl hn) ⟨hD _ I.kIn,show (Made.int n).post _ s from ⟨rfl,.int n,H,I.tok _,⟨_,rfl⟩,q⟩⟩
noncomputable def zja (t:TE):TE:=fun σ H Q=>t σ H fun x H1=>∃i,x=.int i∧i.natAbs<10 ^ 4300∧Q (.str (toString i)) H1
theorem zeA {e:Expr}{t:TE}{pos:Pos} (hD:NoDig X.K) (h:PE X e t):PE X (.FormattedValue e (-1) none pos) (zja t):=by
 intro pins s σ H Q I hw
 refine FormattedValue_plain (thn (h pins s σ H _ I hw) fun v s1 ⟨x,H1,I1,r1,q1⟩=>?_)
 obtain⟨i,rfl,hi,q⟩:=q1
 obtain⟨t',rfl⟩:=r1
 exact zcZ (hD _ I1.kIn) hi ⟨.str _,H1,I1.tok _,⟨_,rfl⟩,q⟩
end
end L2
namespace Bw
open PySem L2
open Builtin.Int (intBits)
def top (i:Nat):Stmt:=PySem.Challenge.pw_bellwrite_k94_rows_at_the_desk.main.body.getD i (.Pass ⟨0,0,0,0⟩)
abbrev Z9:Stmt:=top 1
abbrev Ve:Stmt:=top 2
abbrev yE:Stmt:=top 3
abbrev wg:Stmt:=top 4
abbrev vB:Stmt:=top 5
abbrev Qa:Stmt:=top 16
abbrev yF:Stmt:=top 17
abbrev wj:Stmt:=top 18
abbrev wk:Stmt:=top 19
abbrev jW:Stmt:=top 20
abbrev wu:Stmt:=top 22
abbrev ZK:Stmt:=top 23
abbrev QX:Stmt:=top 25
abbrev vC:Stmt:=top 27
abbrev jP:Stmt:=top 28
abbrev Zd:Stmt:=top 29
abbrev XH:Stmt:=top 30
abbrev xP:Stmt:=top 32
abbrev QZ:Stmt:=top 33
abbrev Ze:Stmt:=top 34
abbrev wU:Stmt:=top 36
abbrev zas:Stmt:=top 37
abbrev Zf:Stmt:=top 38
abbrev Zg:Stmt:=top 43
abbrev JQ:Stmt:=top 44
abbrev Ky:Stmt:=top 45
abbrev vZ:Stmt:=top 46
abbrev zat:Stmt:=top 47
abbrev Q0:Stmt:=top 48
abbrev jR:Stmt:=top 49
abbrev vD:Stmt:=top 57
abbrev Zh:Stmt:=top 58
abbrev vG:Stmt:=top 59
abbrev ww:Stmt:=top 60
abbrev vH:Stmt:=top 61
abbrev yG:Stmt:=top 62
abbrev yH:Stmt:=top 63
abbrev xQ:Stmt:=top 64
abbrev vI:Stmt:=top 65
abbrev yI:Stmt:=top 69
abbrev ZL:Stmt:=top 70
abbrev Zi:Stmt:=top 71
abbrev wV:Stmt:=top 72
abbrev xF:Stmt:=top 74
abbrev vJ:Stmt:=top 75
abbrev vK:Stmt:=top 76
abbrev vL:Stmt:=top 77
abbrev wy:Stmt:=top 78
abbrev wz:Stmt:=top 79
abbrev vM:Stmt:=top 80
abbrev vN:Stmt:=top 81
abbrev yJ:Stmt:=top 82
abbrev vO:Stmt:=top 83
abbrev xG:Stmt:=top 84
abbrev xH:Stmt:=top 85
abbrev vP:Stmt:=top 86
abbrev Vf:Stmt:=top 87
abbrev jT:Stmt:=inClass (top 67) 0
abbrev j5:Stmt:=inClass (top 68) 0
abbrev j6:Stmt:=inClass (top 68) 1
abbrev j7:Stmt:=inClass (top 68) 2
abbrev j8:Stmt:=inClass (top 68) 3
abbrev jL:Stmt:=inClass (top 68) 4
abbrev jk:Stmt:=inClass (top 68) 5
abbrev j9:Stmt:=inClass (top 68) 6
structure Own (K:PySem.W.Frag) (zy zu:Addr):Prop where
 c_Frame:Cls K zy
 n_Frame_turns:NoAttr K zy "turns"
 n_Frame_bells:NoAttr K zy "bells"
 n_Frame_late:NoAttr K zy "late"
 n_Frame_frames:NoAttr K zy "frames"
 c_Desk:Cls K zu
 n_Desk_turns:NoAttr K zu "turns"
 n_Desk_bells:NoAttr K zu "bells"
 n_Desk_late:NoAttr K zu "late"
 n_Desk_frames:NoAttr K zu "frames"
 d_Frame_init:∃f,za8 K "__init__" "Frame.__init__" jT ["self","turns","bells","late"] f∧Mk K zy f
 d_Desk_init:∃f,za8 K "__init__" "Desk.__init__" j5 ["self"] f∧Mk K zu f
 d_Desk_told:∃f,za8 K "told" "Desk.told" j6 ["self","order"] f∧Meth K zu "told" f
 d_Desk_keep:∃f,za8 K "keep" "Desk.keep" j7 ["self","words"] f∧Meth K zu "keep" f
 d_Desk_ring:∃f,za8 K "ring" "Desk.ring" j8 ["self","words"] f∧Meth K zu "ring" f
 d_Desk_listen:∃f,za8 K "listen" "Desk.listen" jL ["self","words"] f∧Meth K zu "listen" f
 d_Desk_send_note:∃f,za8 K "send_note" "Desk.send_note" jk ["self","words"] f∧Meth K zu "send_note" f
 d_Desk_kept:∃f,za8 K "kept" "Desk.kept" j9 ["self","name"] f∧Meth K zu "kept" f
structure Txt (K:PySem.W.Frag) (mg:Str→Option Value):Prop where
 z_range:mg "range"=none
 z_isinstance:mg "isinstance"=none
 z_int:mg "int"=none
 zau:mg "bool"=none
 z_len:mg "len"=none
 zav:mg "list"=none
 z_max:mg "max"=none
 z_min:mg "min"=none
 z_enumerate:mg "enumerate"=none
 z_sorted:mg "sorted"=none
 z_sum:mg "sum"=none
 z_all:mg "all"=none
 z_str:mg "str"=none
 zcv:mg "zip"=none
 z_ValueError:mg "ValueError"=none
noncomputable def cellOf (ns:List Int) (k:Int):Int:=ns.getD k.toNat 0
noncomputable def zdE (K:PySem.W.Frag):Sp:=fun vs H Q _=>∃(a:Addr) (ns:List Int) (k:Int),vs=[.ref a,.int k]∧SqL K H a (ns.map V.int)∧0≤k∧Q (.int (cellOf ns k)) H
structure zjb (row:List Int):Prop where
 inc:row.Pairwise (· < ·)
 nn:∀x∈row,0≤x
 sz:∀x∈row,x<2 ^ 200
theorem zaw {ns:List Int}{k:Nat}{x:Int} (h:ns[k]?=some x):atI (ns.map V.int) (k:Int)=some (V.int x):=atI_nat (by rw [List.getElem?_map,h];rfl)
noncomputable def zc0 (ns:List Int) (lo hi:Option Int):List Int:=(ns.drop (HT.sIx ns.length 0 lo)).take (HT.sIx ns.length ns.length hi-HT.sIx ns.length 0 lo)
theorem zax (ns:List Int) (lo hi:Option Int):cutV (ns.map V.int) lo hi=(zc0 ns lo hi).map V.int:=by
 unfold cutV zc0
 rw [List.length_map,List.map_take,List.map_drop]
theorem zdF (ns:List Int) (lo hi:Option Int):(zc0 ns lo hi).length≤ns.length:=by
 have:=cutV_length (ns.map V.int) lo hi
 rwa [zax,List.length_map,List.length_map] at this
abbrev bmV:List Value:=[.type "ValueError",.type "Exception",.type "BaseException",.type "object"]
theorem zfl {P:Program}{w:World}{K:PySem.W.Frag}{mg:Str→Option Value}{base:Heap}{k:Nat}{x:Str}{ps:List Str}{sp:Sp} (F:FnE P w K mg base k x ps sp):Fn P w K mg base k x ps (fun vs H Q _=>sp vs H Q E0):=by
 obtain⟨f,fd,F,kp,b,m⟩:=F
 refine⟨f,fd,⟨fun vs H Q _ h=>F.len vs H Q E0 h,fun A outer s H args us vs Q E hr e0 hb r h=>codeAny_mono (F.run A outer s H args us vs Q E0 hr e0 hb r h) fun rr s' q=>?_⟩,kp,b,m⟩
 cases rr with
 | ok fl=>cases fl <;> exact q
 | error e=>
  obtain⟨_,_,_,_,_,_,_,_,_,_,_,_,z⟩:=q
  exact False.elim z
section
variable {P:Program}{w:World}{K:PySem.W.Frag}{mg:Str→Option Value}{base:Heap}
theorem V1:FnScope ["script","k"] ["script","k"] (defScope xF):=⟨rfl,rfl,rfl,by decide +kernel,rfl,by decide +kernel,by decide +kernel⟩
theorem zbY (D:Def K mg "_law_cell_at" xF ["script","k"]) (T:Txt K mg):Fn P w K mg base 1 "_law_cell_at" ["script","k"] (zdE K):=by
 refine D.fn V1 (fun vs H Q E h=>?_) (fun f cdv A outer s H vs Q E hr h=>?_)
 ·obtain⟨n,k,c,rfl,_⟩:=h
  rfl
 ·obtain⟨a,ns,k,rfl,hS,k0,q⟩:=h
  refine⟨_,(pss_cons (ps_if (pt_cmpR X7 (pv 1) (pe_callB call_len_seq (by rfl) T.z_len QR (pa_cons (pv 0) pa_nil)) (nomark _))
    (pss_one (ps_ret (pe_ix ix_list (pv 0) (pv 1) (fun _ _=>rfl))))
    pss_nil)
   (pss_one (ps_ret pe_int))),?_⟩
  refine⟨_,rfl,_,rfl,_,_,rfl,.inl hS,_,_,rfl,rfl,_,rfl,?_⟩
  rw [List.length_map]
  refine ifD (fun h=>?_) (fun h=>?_)
  ·have hk:k.toNat<ns.length:=by omega
   have e:atI (ns.map V.int) k=some (V.int (cellOf ns k)):=by
    have:=zaw (ns:=ns) (k:=k.toNat) (x:=cellOf ns k) (by unfold cellOf;rw [List.getD_eq_getElem?_getD,List.getElem?_eq_getElem hk];rfl)
    rwa [show ((k.toNat:Nat):Int)=k by omega] at this
   exact⟨_,rfl,_,rfl,_,_,_,_,rfl,rfl,hS,e,q⟩
  ·have e:cellOf ns k=0:=by
    unfold cellOf
    rw [List.getD_eq_getElem?_getD,List.getElem?_eq_none (by omega)]
    rfl
   rw [e] at q
   exact q
end
section
variable {P:Program}{w:World}{K:PySem.W.Frag}{mg:Str→Option Value}{base:Heap}
noncomputable def zbZ:Sp:=fun vs H Q _=>∃c k:Int,vs=[.int c,.int k]∧intBits k≤100∧∀d:Int,0≤d→d<2 ^ 61→Q (.int d) H
theorem ZM:FnScope ["cell","k","number"] ["cell","k"] (defScope vJ):=⟨rfl,rfl,rfl,by decide +kernel,rfl,by decide +kernel,by decide +kernel⟩
theorem zjc (D:Def K mg "_law_drawn" vJ ["cell","k"]):Fn P w K mg base 1 "_law_drawn" ["cell","k"] zbZ:=by
 refine D.fn ZM (fun vs H Q E h=>?_) (fun f cdv A outer s H vs Q E hr h=>?_)
 ·obtain⟨c,k,rfl,_⟩:=h
  rfl
 ·obtain⟨c,k,rfl,kb,q⟩:=h
  refine⟨_,(pss_cons (ps_set (i:=2) ZM.nd rfl (Or.inl rfl) (pe_op ql (pe_op jc (pe_op qz (pe_op qz (pe_op ql (pv 0) (pe_op vU pe_int pe_int)) (pe_op jc pe_int (pv 1))) pe_int) pe_int) pe_int))
   (pss_cons (ps_set (i:=2) ZM.nd rfl (Or.inl rfl) (pe_op ql (pe_op jc (pv 2) (pv 2)) pe_int))
   (pss_one (ps_ret (pe_op Xu (pe_op ql (pe_op qz (pe_op jc (pv 2) pe_int) (pe_op jc (pv 1) (pv 1))) pe_int) pe_int))))),?_⟩
  have p40:(0:Int)<10 ^ (40:Int).toNat:=by decide
  have l40:(10:Int) ^ (40:Int).toNat<2 ^ 140:=by decide
  have c0:=Int.emod_nonneg c (show (10:Int) ^ (40:Int).toNat≠0 by decide)
  have c1:=Int.emod_lt_of_pos c p40
  have cb:intBits (c % 10 ^ (40:Int).toNat)≤140:=zJ c0 (Int.lt_trans c1 l40)
  have kb7:intBits (7*k)≤103:=intBits_mul_le (m:=3) (n:=100) (by decide) kb
  have b1:intBits (c % 10 ^ (40:Int).toNat+7*k+1)≤142:=zm (intBits_add_le (m:=141) (n:=1) (zm (intBits_add_le cb kb7) (by decide)) (by decide)) (by decide)
  refine⟨_,rfl,_,_,rfl,rfl,⟨by decide,by decide,by decide⟩,_,_,rfl,rfl,p40,_,rfl,_,_,rfl,rfl,⟨3,100,by decide,kb,by decide⟩,_,_,rfl,rfl,_,_,rfl,rfl,_,_,rfl,rfl,⟨142,40,b1,by decide,by decide⟩,_,_,rfl,rfl,(by decide),?_⟩
  have n0:=Int.emod_nonneg ((c % 10 ^ (40:Int).toNat+7*k+1)*2654435769) (show (2305843009213693951:Int)≠0 by decide)
  have n1:=Int.emod_lt_of_pos ((c % 10 ^ (40:Int).toNat+7*k+1)*2654435769) (show (0:Int)<2305843009213693951 by decide)
  generalize (c % 10 ^ (40:Int).toNat+7*k+1)*2654435769 % 2305843009213693951=number at n0 n1 ⊢
  have nb:intBits number≤62:=zJ n0 (by omega)
  refine⟨_,rfl,_,rfl,_,_,rfl,rfl,⟨62,62,nb,nb,by decide⟩,_,_,rfl,rfl,(by decide),?_⟩
  have m0:=Int.emod_nonneg (number*number) (show (2305843009213693951:Int)≠0 by decide)
  have m1:=Int.emod_lt_of_pos (number*number) (show (0:Int)<2305843009213693951 by decide)
  generalize number*number % 2305843009213693951=num at m0 m1 ⊢
  have mb:intBits num≤62:=zJ m0 (by omega)
  have r0:=Int.emod_nonneg (num*40503+k*k) (show (2305843009213693951:Int)≠0 by decide)
  have r1:=Int.emod_lt_of_pos (num*40503+k*k) (show (0:Int)<2305843009213693951 by decide)
  refine⟨_,rfl,_,_,rfl,rfl,⟨62,20,mb,by decide,by decide⟩,_,rfl,_,rfl,_,_,rfl,rfl,⟨100,100,kb,kb,by decide⟩,_,_,rfl,rfl,_,_,rfl,rfl,(by decide),_,_,rfl,rfl,⟨by decide,by decide⟩,q _ ?_ ?_⟩
  ·omega
  ·omega
end
section
noncomputable def spLaw (K:PySem.W.Frag):Sp:=fun vs H Q _=>∃(a:Addr) (ns:List Int),vs=[.ref a]∧SqL K H a (ns.map V.int)∧ns.length≤63∧∀H',Q (.bl true) H'
end
theorem zbc {a b:Int}{m:Nat} (h:intBits a≤m) (hb:0<b):intBits (a / b)≤m:=by
 refine intBits_le_of_natAbs (y:=a) ?_ h
 rcases (by omega:0≤a∨a<0) with z | z
 ·have h1:=Int.ediv_nonneg z (by omega:0≤b)
  have h2:=Int.ediv_le_self b z
  omega
 ·have h1:=Int.ediv_neg_of_neg_of_pos z hb
  have h2:a≤a / b:=by
   refine(Int.le_ediv_iff_mul_le hb).mpr ?_
   have:=Int.mul_le_mul_of_nonpos_left (a:=a) (b:=b) (c:=1) (by omega) (by omega)
   omega
  omega
section
variable {P:Program}{w:World}{K:PySem.W.Frag}{mg:Str→Option Value}{base:Heap}
theorem Jm:FnScope ["n","k","ways","taken"] ["n","k"] (defScope Z9):=⟨rfl,rfl,rfl,by decide +kernel,rfl,by decide +kernel,by decide +kernel⟩
theorem zc1 (D:Def K mg "choose" Z9 ["n","k"]) (T:Txt K mg):Fn P w K mg base 1 "choose" ["n","k"] Z7:=by
 refine D.fn Jm (fun vs H Q E h=>?_) (fun f cdv A outer s H vs Q E hr h=>?_)
 ·obtain⟨n,k,rfl,_⟩:=h
  rfl
 ·obtain⟨n,k,rfl,hn,hk,hk2,hb,q⟩:=h
  refine⟨_,(pss_cons (ps_if (pt_cmpR X8 (pv 1) (pv 0) (nomark _))
    (pss_one (ps_ret pe_int))
    pss_nil)
   (pss_cons (ps_set (i:=2) Jm.nd rfl (Or.inl rfl) pe_int)
   (pss_cons (ps_for PassesOwn.never rfl (pi_range1 (by rfl) T.z_range (pa_cons (pv 1) pa_nil)) (pg_name (i:=3) Jm.nd rfl (Or.inl rfl))
    (pss_one (ps_set (i:=2) Jm.nd rfl (Or.inl rfl) (pe_op Xu (pe_op jc (pv 2) (pe_op ji (pv 0) (pv 3))) (pe_op qz (pv 3) pe_int)))))
   (pss_one (ps_ret (pv 2)))))),?_⟩
  refine⟨_,rfl,_,rfl,_,_,rfl,rfl,_,rfl,?_⟩
  refine ite2 (fun h=>?_) (fun h=>?_)
  ·have h':n<k:=of_decide_eq_true h
   have e:=Xz hn h'
   rw [e] at q
   exact q
  ·have h':¬n<k:=fun z=>h (decide_eq_true z)
   refine⟨_,rfl,k,rfl,by omega,by omega,for_range (n:=k.toNat) (fun i σ H'=>∃v,σ=[some (.int n),some (.int k),some (.int (ch n i)),v]∧H'=H) ⟨none,?_,rfl⟩ ?_ ?_⟩
   ·have e:=XC n
    show _=[some (V.int n),some (V.int k),some (V.int (ch n 0)),none]
    rw [e]
    rfl
   ·rintro i σ H' hi ⟨v,rfl,rfl⟩
    have hi':(i:Int)<k:=by omega
    refine⟨_,rfl,_,rfl,_,rfl,_,_,rfl,rfl,_,_,rfl,rfl,?_,_,rfl,_,_,rfl,rfl,_,_,rfl,rfl,?_,?_⟩
    ·refine⟨100000*i+1,100000,zal hb hn,?_,by omega⟩
     exact intBits_le_of_natAbs (by omega) hb
    ·exact⟨by omega,zJ (by omega) (by omega)⟩
    ·have e:=zen (n:=n) (i:=i) (by omega)
     have e0:(0:Int)+(i:Int)=(i:Int):=by omega
     refine⟨some (.int (0+(i:Int))),?_,rfl⟩
     rw [e0,e]
     rfl
   ·rintro σ H' ⟨v,rfl,rfl⟩
    refine⟨_,rfl,?_⟩
    have e:((k.toNat:Nat):Int)=k:=by omega
    rw [e]
    exact q
end
section
variable {P:Program}{w:World}{K:PySem.W.Frag}{mg:Str→Option Value}{base:Heap}
theorem Jv:FnScope ["number","divisor"] ["number","divisor"] (defScope vB):=⟨rfl,rfl,rfl,by decide +kernel,rfl,by decide +kernel,by decide +kernel⟩
theorem Wt (D:Def K mg "rounded_up" vB ["number","divisor"]) (hP:P.given.tree=none):Fn P w K mg base 36 "rounded_up" ["number","divisor"] zak:=by
 refine D.fn Jv (fun vs H Q E h=>?_) (fun f cdv A outer s H vs Q E hr h=>?_)
 ·obtain⟨n,k,rfl,_⟩:=h
  rfl
 ·obtain⟨a,b,rfl,hb,q⟩:=h
  refine⟨_,(pss_one (ps_ret (pe_op (zaV (zdh hP Jv hr)) (pe_op ji (pe_op qz (pv 0) (pv 1)) pe_int) (pv 1)))),?_⟩
  exact⟨_,rfl,_,rfl,_,_,rfl,rfl,_,_,rfl,rfl,_,rfl,_,_,rfl,rfl,hb,q⟩
theorem wA:FnScope ["k","number","product","factor","figures"] ["k","number"] (defScope wg):=⟨rfl,rfl,rfl,by decide +kernel,rfl,by decide +kernel,by decide +kernel⟩
theorem zay (D:Def K mg "above_top" wg ["k","number"]) (T:Txt K mg) (Qi:Fn P w K mg base 36 "rounded_up" ["number","divisor"] zak):Fn P w K mg base 37 "above_top" ["k","number"] zcs:=by
 refine D.fn wA (fun vs H Q E h=>?_) (fun f cdv A outer s H vs Q E hr h=>?_)
 ·obtain⟨n,k,rfl,_⟩:=h
  rfl
 ·obtain⟨k,number,rfl,k1,k60,n0,nb,q⟩:=h
  refine⟨_,(pss_cons (ps_set (i:=2) wA.nd rfl (Or.inl rfl) (pv 1))
   (pss_cons (ps_for PassesOwn.never rfl (pi_range2 (by rfl) T.z_range (pa_cons pe_int (pa_cons (pe_op qz (pv 0) pe_int) pa_nil))) (pg_name (i:=3) wA.nd rfl (Or.inl rfl))
    (pss_one (ps_set (i:=2) wA.nd rfl (Or.inl rfl) (pe_op jc (pv 2) (pv 3)))))
   (pss_cons (ps_set (i:=4) wA.nd rfl (Or.inl rfl) (zA Qi (hr.mono (by decide)) (by rfl) (pa_cons (pe_bm0 PySem.F.plainAttrs_int PySem.F.slot_int_bit_length PySem.F.type_int_bit_length Wn (pv 2)) (pa_cons (pv 0) pa_nil))))
   (pss_one (ps_ret (pe_op ji (pe_op qz (pe_op zek pe_int (pv 4)) (pv 0)) pe_int)))))),?_⟩
  have ek:((k.toNat:Nat):Int)=k:=by omega
  have pb:∀i:Nat,(i:Int)≤60→intBits (number*fac i)≤50000+(7*i+1):=fun i hi=>intBits_mul_le nb (za6 i (by omega))
  refine⟨_,rfl,_,rfl,_,_,rfl,rfl,1,k+1,rfl,⟨by omega,by omega,by omega,by omega⟩,for_range (lo:=1) (n:=(k+1-1).toNat) (fun i σ H2=>∃v,σ=[some (.int k),some (.int number),some (.int (number*fac i)),v,none]∧H2=H) ⟨none,?_,rfl⟩ ?_ ?_⟩
  ·show _=[some (V.int k),some (V.int number),some (V.int (number*1)),none,none]
   rw [Int.mul_one]
   rfl
  ·rintro i σ H2 hi ⟨v,rfl,rfl⟩
   have hi':(i:Int)<k:=by omega
   refine⟨_,rfl,_,rfl,_,_,rfl,rfl,⟨_,64,pb i (by omega),zJ (by omega) (by omega),by omega⟩,some (.int (1+(i:Int))),?_,rfl⟩
   rw [Kq,← Int.mul_assoc,Int.add_comm (i:Int) 1]
   rfl
  ·rintro σ H2 ⟨v,rfl,rfl⟩
   have en:(k+1-1).toNat=k.toNat:=by omega
   rw [en]
   have pk:=pb k.toNat (by omega)
   have hsz:=intBits_le_iff.mp (Nat.le_refl (intBits (number*fac k.toNat)))
   refine⟨_,rfl,rfl,_,rfl,rfl,_,rfl,_,_,rfl,by omega,?_⟩
   generalize hbn:intBits (number*fac k.toNat)=b at pk hsz ⊢
   have d1:=Int.mul_ediv_add_emod ((b:Int)+k-1) k
   have d2:=Int.emod_nonneg ((b:Int)+k-1) (show k≠0 by omega)
   have d3:=Int.emod_lt_of_pos ((b:Int)+k-1) (show 0<k by omega)
   have f0:0≤((b:Int)+k-1) / k:=Int.ediv_nonneg (by omega) (by omega)
   have f1:((b:Int)+k-1) / k≤(b:Int)+k-1:=Int.ediv_le_self _ (by omega)
   generalize ((b:Int)+k-1) / k=fg at d1 f0 f1 ⊢
   generalize ((b:Int)+k-1) % k=r at d1 d2 d3
   refine⟨_,rfl,_,_,rfl,rfl,⟨f0,by omega,by decide⟩,_,rfl,_,_,rfl,rfl,_,_,rfl,rfl,?_⟩
   have ef:((fg.toNat:Nat):Int)=fg:=by omega
   have hp:(0:Int)<2 ^ fg.toNat:=Int.pow_pos (by decide)
   have ab:=zff (F:=fg.toNat) (b:=b) k1 n0 hsz (by rw [ef,Int.mul_comm];omega)
   have e1:(1:Int)*2 ^ fg.toNat=2 ^ fg.toNat:=Int.one_mul _
   rw [e1]
   refine q _ (by omega) ab ?_
   have hb2:intBits ((2:Int) ^ fg.toNat)≤fg.toNat+1:=by
    refine intBits_le_iff.mpr ?_
    rw [Int.natAbs_pow]
    exact Nat.pow_lt_pow_right (by decide) (by omega)
   refine zm (intBits_sub_le (m:=50600) (n:=64) (zm (intBits_add_le (m:=50599) (n:=64) (zm hb2 (by omega)) (zJ (by omega) (by omega))) (by decide)) (by decide)) (by decide)
theorem zdG (n k:Nat):(k+1)*C (n+1) (k+1)=(n+1)*C n k:=by
 have h:=zai n k
 rw [ZJ,Nat.mul_add,Nat.add_mul,Nat.add_mul,Nat.one_mul,Nat.one_mul,Nat.add_mul n 1,Nat.one_mul]
 rw [Nat.add_mul] at h
 omega
theorem zc2 {t k:Int} (hk:1≤k) (ht:1≤t):ch t k*k / t=ch (t-1) (k-1):=by
 obtain⟨j,hj⟩:∃j:Nat,k=(j:Int)+1:=⟨(k-1).toNat,by omega⟩
 obtain⟨m,hm⟩:∃m:Nat,t=(m:Int)+1:=⟨(t-1).toNat,by omega⟩
 subst hj hm
 have e1:ch ((m:Int)+1) ((j:Int)+1)=(C (m+1) (j+1):Nat):=by
  rw [show ((m:Int)+1)=((m+1:Nat):Int) by omega,show ((j:Int)+1)=((j+1:Nat):Int) by omega,JM]
 have e2:ch ((m:Int)+1-1) ((j:Int)+1-1)=(C m j:Nat):=by
  rw [show ((m:Int)+1-1)=((m:Nat):Int) by omega,show ((j:Int)+1-1)=((j:Nat):Int) by omega,JM]
 rw [e1,e2]
 have a:=zdG m j
 have a':((C (m+1) (j+1):Nat):Int)*((j:Int)+1)=((m:Int)+1)*((C m j:Nat):Int):=by
  rw [Int.mul_comm]
  exact_mod_cast a
 rw [a']
 exact Int.mul_ediv_cancel_left _ (by omega)
noncomputable def YQ:Sp:=fun vs H Q _=>∃start k number:Int,vs=[.int start,.int k,.int number]∧1≤k∧k≤60∧0≤number∧k-1≤start∧number<ch (start+1) k∧intBits start≤60000∧∀t:Int,za5 k number t→intBits t≤60000→Q (.int t) H
theorem j4:FnScope ["start","k","number","top","ways","most_off","step"] ["start","k","number"] (defScope yE):=⟨rfl,rfl,rfl,by decide +kernel,rfl,by decide +kernel,by decide +kernel⟩
theorem zbd (D:Def K mg "top_from" yE ["start","k","number"]) (jX:Fn P w K mg base 1 "choose" ["n","k"] Z7) (Qi:Fn P w K mg base 36 "rounded_up" ["number","divisor"] zak) (hP:P.given.tree=none) :
  Fn P w K mg base 37 "top_from" ["start","k","number"] YQ:=by
 refine D.fn j4 (fun vs H Q E h=>?_) (fun f cdv A outer s H vs Q E hr h=>?_)
 ·obtain⟨a,n,k,rfl,_⟩:=h
  rfl
 ·obtain⟨t0,k,number,rfl,k1,k60,n0,t1,t2,t3,q⟩:=h
  refine⟨_,(pss_cons (ps_set (i:=3) j4.nd rfl (Or.inl rfl) (pv 0))
   (pss_cons (ps_set (i:=4) j4.nd rfl (Or.inl rfl) (zA jX (hr.mono (by decide)) (by rfl) (pa_cons (pv 3) (pa_cons (pv 1) pa_nil))))
   (pss_cons (ps_while PassesOwn.never (pt_cmpR X8 (pv 4) (pv 2) (nomark _))
    (pss_cons (ps_set (i:=5) j4.nd rfl (Or.inl rfl) (pe_op (zaV (zdh hP j4 (hr.mono (by decide)))) (pe_op jc (pv 4) (pv 1)) (pv 3)))
    (pss_cons (ps_set (i:=6) j4.nd rfl (Or.inl rfl) (zA Qi (hr.mono (by decide)) (by rfl) (pa_cons (pe_op ji (pv 4) (pv 2)) (pa_cons (pv 5) pa_nil))))
    (pss_cons (ps_set (i:=3) j4.nd rfl (Or.inl rfl) (pe_op ji (pv 3) (pv 6)))
    (pss_one (ps_set (i:=4) j4.nd rfl (Or.inl rfl) (pe_ifExp (pt_cmpR vq (pv 6) pe_int (nomark _)) (pe_op ji (pv 4) (pv 5)) (zA jX (hr.mono (by decide)) (by rfl) (pa_cons (pv 3) (pa_cons (pv 1) pa_nil))))))))))
   (pss_one (ps_ret (pv 3)))))),?_⟩
  refine⟨_,rfl,_,rfl,_,rfl,t0,k,rfl,by omega,by omega,by omega,zm t3 (by decide),?_⟩
  refine while_by (fun σ H2=>∃t v v',σ=[some (.int t0),some (.int k),some (.int number),some (.int t),some (.int (ch t k)),v,v']∧H2=H∧k-1≤t∧number<ch (t+1) k∧intBits t≤60000)
   (fun σ _=>match σ with | [_,_,_,some (.int t),_,_,_]=>t.toNat | _=>0) ⟨t0,none,none,rfl,rfl,t1,t2,t3⟩ ?_ ?_
  ·rintro σ H2 ⟨t,v,v',rfl,rfl,u1,u2,u3⟩
   refine⟨_,rfl,_,rfl,_,_,rfl,rfl,_,rfl,ifD (fun h=>?_) (fun h=>?_)⟩
   ·obtain⟨a1,a2,a3,a4,a5⟩:=zbO k1 n0 (by omega) h _ rfl
    have wb:intBits (ch t k)≤60000*60+1:=by
     have:=zal (k:=k.toNat) u3 (by omega)
     rw [show ((k.toNat:Nat):Int)=k by omega] at this
     exact zm this (Nat.add_le_add_right (Nat.mul_le_mul_left _ (by omega)) _)
    refine⟨_,rfl,_,rfl,_,_,rfl,rfl,⟨_,64,wb,zJ (by omega) (by omega),by decide⟩,_,rfl,_,_,rfl,rfl,by omega,?_⟩
    rw [zc2 k1 (by omega)]
    have sb:ch (t-1) k=ch t k-ch (t-1) (k-1):=by
     have:=zaj (n:=t-1) (k:=k-1) (by omega) (by omega)
     rw [show t-1+1=t by omega,show k-1+1=k by omega] at this
     omega
    refine⟨_,rfl,_,rfl,_,_,rfl,rfl,_,rfl,ch t k-number,ch (t-1) (k-1),rfl,a2,?_⟩
    generalize (ch t k-number+ch (t-1) (k-1)-1) / ch (t-1) (k-1)=d at a3 a4 a5 ⊢
    have tb:intBits (t-d)≤60000:=intBits_le_of_natAbs (y:=t) (by omega) u3
    refine⟨_,rfl,_,rfl,_,_,rfl,rfl,_,rfl,_,_,rfl,rfl,_,rfl,ifD (fun e=>?_) (fun e=>?_)⟩
    ·subst e
     refine⟨_,rfl,_,rfl,_,_,rfl,rfl,⟨t-1,_,_,by rw [sb];rfl,rfl,a4,a5,tb⟩,?_⟩
     show (t-1).toNat<t.toNat
     omega
    ·refine⟨_,rfl,_,rfl,t-d,k,rfl,by omega,by omega,by omega,zm tb (by decide),?_⟩
     refine⟨⟨t-d,_,_,rfl,rfl,a4,a5,tb⟩,?_⟩
     show (t-d).toNat<t.toNat
     omega
   ·refine⟨_,rfl,q t ⟨u1,by omega,u2⟩ u3⟩
  ·intro σ H2 R R' m h
   obtain⟨v,e1,u,e2,i,j,e3,e4,b,e5,z⟩:=h
   exact⟨v,e1,u,e2,i,j,e3,e4,b,e5,m _ _ z⟩
end
noncomputable def Fits (ns ms:List Int) (late:Int):Prop:=ns.length=ms.length∧∀(i:Nat) (x y:Int),ns[i]?=some x→ms[i]?=some y→x≤y∧y≤x+late
noncomputable def Al (l:Int):List Int→List Int→Prop
 | [],[]=>True
 | n::ns,z::zs=>n≤z∧z≤n+l∧Al l ns zs
 | _,_=>False
theorem zb0 (l:Int):∀ns zs,Al l ns zs↔Fits ns zs l
 | [],[]=>⟨fun _=>⟨rfl,fun i x y h=>by simp at h⟩,fun _=>trivial⟩
 | [],_::_=>⟨fun h=>h.elim,fun h=>by have:=h.1;simp at this⟩
 | _::_,[]=>⟨fun h=>h.elim,fun h=>by have:=h.1;simp at this⟩
 | n::ns,z::zs=>by
  have ih:=zb0 l ns zs
  constructor
  ·rintro⟨h1,h2,h3⟩
   obtain⟨e,f⟩:=ih.mp h3
   refine⟨by simp [e],fun i x y hx hy=>?_⟩
   cases i with
   | zero=>
    simp only [List.getElem?_cons_zero,Option.some.injEq] at hx hy
    subst hx hy
    exact⟨h1,h2⟩
   | succ i=>
    rw [List.getElem?_cons_succ] at hx hy
    exact f i x y hx hy
  ·rintro⟨e,f⟩
   have h0:=f 0 n z rfl rfl
   exact⟨h0.1,h0.2,ih.mpr ⟨by simpa using e,fun i x y hx hy=>f (i+1) x y (by simpa using hx) (by simpa using hy)⟩⟩
theorem ints_of {Pd:Int→Prop}:∀{ys:List V},(∀(i:Nat) (v:V),ys[i]?=some v→∃d:Int,v=.int d∧Pd d)→∃ds:List Int,ys=ds.map V.int∧∀d∈ds,Pd d
 | [],_=>⟨[],rfl,fun _ z=>nomatch z⟩
 | y::ys,h=>by
  obtain⟨d,rfl,pd⟩:=h 0 y rfl
  obtain⟨ds,rfl,hd⟩:=ints_of (ys:=ys) fun i v hv=>h (i+1) v hv
  refine⟨d::ds,rfl,fun x hx=>?_⟩
  rcases List.mem_cons.mp hx with e | e
  ·rw [e];exact pd
  ·exact hd x e
theorem zdH {l:Int}{ns ms:List Int} (h:Al l ns ms):ms.length=ns.length:=((zb0 _ _ _).mp h).1.symm
noncomputable def kZ (late:Int) (ns:List Int):List Int:=(List.range ns.length).map fun i=>(ns.getD i 0-(i:Int)) / (late+1)
noncomputable def jY (late:Int) (bs:List Int):List Int:=(List.range bs.length).map fun i=>bs.getD i 0*(late+1)+(i:Int)
theorem Q3 (late:Int) (ns:List Int):(kZ late ns).length=ns.length:=by unfold kZ;simp
theorem xf (late:Int) (ns:List Int):(jY late ns).length=ns.length:=by unfold jY;simp
theorem zbe {late:Int}{ns:List Int}{i:Nat}{x:Int} (h:ns[i]?=some x):(kZ late ns)[i]?=some ((x-(i:Int)) / (late+1)):=by
 have hi:=(List.getElem?_eq_some_iff.mp h).1
 unfold kZ
 rw [List.getElem?_map,List.getElem?_range hi]
 simp [List.getD_eq_getElem?_getD,h]
theorem YS {late:Int}{ns:List Int}{i:Nat}{x:Int} (h:ns[i]?=some x):(jY late ns)[i]?=some (x*(late+1)+(i:Int)):=by
 have hi:=(List.getElem?_eq_some_iff.mp h).1
 unfold jY
 rw [List.getElem?_map,List.getElem?_range hi]
 simp [List.getD_eq_getElem?_getD,h]
theorem YT {late:Int}{ns:List Int}{i:Nat}{y:Int} (h:(kZ late ns)[i]?=some y):∃x,ns[i]?=some x∧y=(x-(i:Int)) / (late+1):=by
 have hi:=(List.getElem?_eq_some_iff.mp h).1
 rw [Q3] at hi
 have g:=zbe (late:=late) (List.getElem?_eq_getElem hi)
 rw [g] at h
 exact⟨_,List.getElem?_eq_getElem hi,(Option.some.inj h).symm⟩
theorem v7 {late:Int}{ns:List Int}{i:Nat}{y:Int} (h:(jY late ns)[i]?=some y):∃x,ns[i]?=some x∧y=x*(late+1)+(i:Int):=by
 have hi:=(List.getElem?_eq_some_iff.mp h).1
 rw [xf] at hi
 have g:=YS (late:=late) (List.getElem?_eq_getElem hi)
 rw [g] at h
 exact⟨_,List.getElem?_eq_getElem hi,(Option.some.inj h).symm⟩
structure zeB (bs:List Int):Prop where
 inc:bs.Pairwise (·≤·)
 nn:∀x∈bs,0≤x
 sz:∀x∈bs,x<2 ^ 200
noncomputable def Szs (m:Nat) (ns:List Int):Prop:=∀x∈ns,intBits x≤m
theorem zeB.szs {bs:List Int} (h:zeB bs):Szs 200 bs:=fun x hx=>zJ (h.nn x hx) (h.sz x hx)
theorem zjb.szs {bs:List Int} (h:zjb bs):Szs 200 bs:=fun x hx=>zJ (h.nn x hx) (h.sz x hx)
section
variable {P:Program}{w:World}{K:PySem.W.Frag}{mg:Str→Option Value}{base:Heap}
noncomputable def zcw (K:PySem.W.Frag):Sp:=fun vs H Q _=>∃(a:Addr) (ns:List Int) (late:Int),vs=[.ref a,.int late]∧SqL K H a (ns.map V.int)∧ns.length≤1000∧0≤late∧intBits late≤8000 ∧
 ∀(p:Addr) (H':Hp),Same H H'→H p=none→H' p=some (.lst ((kZ late ns).map V.int))→Q (.ref p) H'
end
section
variable {P:Program}{w:World}{K:PySem.W.Frag}{mg:Str→Option Value}{base:Heap}
theorem zc3:FnScope ["row","late"] ["row","late"] (defScope Qa):=⟨rfl,rfl,rfl,by decide +kernel,rfl,by decide +kernel,by decide +kernel⟩
theorem zc4 (D:Def K mg "box_of" Qa ["row","late"]) (T:Txt K mg):Fn P w K mg base 1 "box_of" ["row","late"] (zcw K):=by
 refine D.fn zc3 (fun vs H Q E h=>?_) (fun f cdv A outer s H vs Q E hr h=>?_)
 ·obtain⟨a,ns,late,rfl,_⟩:=h
  rfl
 ·obtain⟨a,ns,late,rfl,hA,hl,l0,lb,q⟩:=h
  refine⟨_,(pss_one (ps_ret (yc (own:=["place","turn"]) (fr:=["late"]) (ix:=[1]) rfl ⟨rfl,rfl,rfl,rfl,rfl,rfl⟩ (Ks (by rfl) T.z_enumerate (pa_cons (pv 0) pa_nil)) (fun _ _ _ _ _=>(zah K (n:=2) rfl (pgs_cons (pg_name (i:=0) (show (["place","turn","late"]:List Str).Nodup by decide +kernel) rfl (Or.inl rfl)) (pgs_cons (pg_name (i:=1) (show (["place","turn","late"]:List Str).Nodup by decide +kernel) rfl (Or.inl rfl)) pgs_nil)))) (fun _ _ _ _ _=>xX) (fun _ _ _ _ _=>(pe_op Xu (pe_op ji (pv 1) (pv 0)) (pe_op qz (pv 2) pe_int)))))),?_⟩
  have lb1:intBits (late+1)≤9000:=zm (intBits_add_le (m:=8000) (n:=1) lb (by decide)) (by decide)
  refine⟨_,rfl,a,_,rfl,hA,fun acc hacc=>JP (K:=K) (a:=a) (xs:=ns.map V.int) (fun i=>V.int ((ns.getD i 0-(i:Int)) / (late+1))) hA hacc ?_ ?_ ?_⟩
  ·rw [List.length_map];exact Nat.le_of_lt (small1000 hl)
  ·intro i x t H2 R hx sm ht hR
   rw [List.getElem?_map] at hx
   obtain⟨x',hx',rfl⟩:=Option.map_eq_some_iff.mp hx
   simp only [List.getD_eq_getElem?_getD,hx',Option.getD_some] at hR
   exact⟨t,_,rfl,SqT.of ht,rfl,_,_,rfl,_,_,rfl,rfl,rfl,_,rfl,_,rfl,_,_,rfl,rfl,_,rfl,_,_,rfl,rfl,_,_,rfl,rfl,⟨by omega,lb1⟩,hR⟩
  ·intro H2 sm ha
   rw [List.length_map] at ha
   refine q acc H2 sm hacc ?_
   rw [ha]
   unfold kZ
   rw [List.map_map]
   rfl
end
section
variable {P:Program}{w:World}{K:PySem.W.Frag}{mg:Str→Option Value}{base:Heap}
noncomputable def YW (K:PySem.W.Frag):Sp:=fun vs H Q _=>∃(a:Addr) (ns:List Int) (late:Int),vs=[.ref a,.int late]∧SqL K H a (ns.map V.int)∧ns.length≤1000∧intBits late≤8000∧Szs 70000 ns ∧
 ∀(p:Addr) (H':Hp),Same H H'→H p=none→H' p=some (.lst ((jY late ns).map V.int))→Q (.ref p) H'
theorem zbf:FnScope ["box","late"] ["box","late"] (defScope yF):=⟨rfl,rfl,rfl,by decide +kernel,rfl,by decide +kernel,by decide +kernel⟩
theorem zbg (D:Def K mg "bell_row" yF ["box","late"]) (T:Txt K mg):Fn P w K mg base 1 "bell_row" ["box","late"] (YW K):=by
 refine D.fn zbf (fun vs H Q E h=>?_) (fun f cdv A outer s H vs Q E hr h=>?_)
 ·obtain⟨a,ns,late,rfl,_⟩:=h
  rfl
 ·obtain⟨a,ns,late,rfl,hA,hl,lb,hz,q⟩:=h
  refine⟨_,(pss_one (ps_ret (yc (own:=["place","part"]) (fr:=["late"]) (ix:=[1]) rfl ⟨rfl,rfl,rfl,rfl,rfl,rfl⟩ (Ks (by rfl) T.z_enumerate (pa_cons (pv 0) pa_nil)) (fun _ _ _ _ _=>(zah K (n:=2) rfl (pgs_cons (pg_name (i:=0) (show (["place","part","late"]:List Str).Nodup by decide +kernel) rfl (Or.inl rfl)) (pgs_cons (pg_name (i:=1) (show (["place","part","late"]:List Str).Nodup by decide +kernel) rfl (Or.inl rfl)) pgs_nil)))) (fun _ _ _ _ _=>xX) (fun _ _ _ _ _=>(pe_op qz (pe_op jc (pv 1) (pe_op qz (pv 2) pe_int)) (pv 0)))))),?_⟩
  have lb1:intBits (late+1)≤9000:=zm (intBits_add_le (m:=8000) (n:=1) lb (by decide)) (by decide)
  refine⟨_,rfl,a,_,rfl,hA,fun acc hacc=>JP (K:=K) (a:=a) (xs:=ns.map V.int) (fun i=>V.int (ns.getD i 0*(late+1)+(i:Int))) hA hacc ?_ ?_ ?_⟩
  ·rw [List.length_map];exact Nat.le_of_lt (small1000 hl)
  ·intro i x t H2 R hx sm ht hR
   rw [List.getElem?_map] at hx
   obtain⟨x',hx',rfl⟩:=Option.map_eq_some_iff.mp hx
   simp only [List.getD_eq_getElem?_getD,hx',Option.getD_some] at hR
   exact⟨t,_,rfl,SqT.of ht,rfl,_,_,rfl,_,_,rfl,rfl,rfl,_,rfl,_,rfl,_,_,rfl,rfl,_,_,rfl,rfl,⟨70000,9000,hz x' (List.mem_of_getElem? hx'),lb1,by decide⟩,_,rfl,_,_,rfl,rfl,hR⟩
  ·intro H2 sm ha
   rw [List.length_map] at ha
   refine q acc H2 sm hacc ?_
   rw [ha]
   unfold jY
   rw [List.map_map]
   rfl
end
noncomputable def vp (bs:List Int):Nat→Int
 | 0=>0
 | i+1=>vp bs i+ch (bs.getD i 0+(i:Int)) ((i:Int)+1)
noncomputable def xZ (bs:List Int):Int:=vp bs bs.length
structure jn (bs:List Int):Prop where
 inc:bs.Pairwise (·≤·)
 nn:∀x∈bs,0≤x
theorem zeB.is {bs:List Int} (h:zeB bs):jn bs:=⟨h.inc,h.nn⟩
theorem Wu (f:Nat→Int) (n:Nat):((List.range (n+1)).map f).sum=((List.range n).map f).sum+f n:=by
 rw [List.range_succ,List.map_append,List.sum_append]
 simp
theorem YX (bs:List Int):∀n:Nat,vp bs n=((List.range n).map fun i=>ch (bs.getD i 0+(i:Int)) ((i:Int)+1)).sum
 | 0=>rfl
 | n+1=>by
  rw [Wu,← YX bs n]
  rfl
theorem jn.get {bs:List Int} (B:jn bs){i j:Nat}{x y:Int} (h:i≤j) (hx:bs[i]?=some x) (hy:bs[j]?=some y):x≤y:=by
 obtain⟨h1,e1⟩:=List.getElem?_eq_some_iff.mp hx
 obtain⟨h2,e2⟩:=List.getElem?_eq_some_iff.mp hy
 rcases Nat.lt_or_eq_of_le h with z | z
 ·have:=List.pairwise_iff_getElem.mp B.inc i j h1 h2 z
  omega
 ·subst z;omega
theorem jn.nn' {bs:List Int} (B:jn bs){i:Nat}:0≤bs.getD i 0:=by
 rw [List.getD_eq_getElem?_getD]
 cases h:bs[i]? with
 | none=>exact Int.le_refl _
 | some x=>exact B.nn x (List.mem_of_getElem? h)
theorem jn.le' {bs:List Int} (B:jn bs){i j:Nat} (h:i≤j) (hj:j<bs.length):bs.getD i 0≤bs.getD j 0:=by
 have hi:i<bs.length:=by omega
 rw [List.getD_eq_getElem?_getD,List.getD_eq_getElem?_getD,List.getElem?_eq_getElem hi,List.getElem?_eq_getElem hj]
 exact B.get h (List.getElem?_eq_getElem hi) (List.getElem?_eq_getElem hj)
theorem vd (bs:List Int):∀n,0≤vp bs n
 | 0=>Int.le_refl _
 | n+1=>by
  have:=vd bs n
  have:=Vc (bs.getD n 0+(n:Int)) ((n:Int)+1)
  show 0≤vp bs n+_
  omega
theorem zbh {bs:List Int} (B:jn bs):∀(i:Nat) (c:Int),i≤bs.length→0≤c→(∀j,j<i→bs.getD j 0≤c)→vp bs i<ch (c+(i:Int)) (i:Int)
 | 0,c,_,_,_=>by
  show (0:Int)<ch (c+((0:Nat):Int)) 0
  rw [XC];decide
 | i+1,c,hi,hc,hb=>by
  have b0:=B.nn' (i:=i)
  have ih:=zbh B i (bs.getD i 0) (by omega) b0 (fun j hj=>B.le' (by omega) (by omega))
  have p:=zaj (n:=bs.getD i 0+(i:Int)) (k:=(i:Int)) (by omega) (by omega)
  have m:=Kc (m:=bs.getD i 0+(i:Int)+1) (n:=c+((i+1:Nat):Int)) (k:=((i+1:Nat):Int)) (by have:=hb i (by omega);omega)
  rw [show ((i+1:Nat):Int)=(i:Int)+1 by omega] at m ⊢
  show vp bs i+ch (bs.getD i 0+(i:Int)) ((i:Int)+1) < _
  omega
theorem Vg {bs:List Int} (B:jn bs){i:Nat} (hi:i<bs.length):za5 ((i:Int)+1) (vp bs (i+1)) (bs.getD i 0+(i:Int)):=by
 have b0:=B.nn' (i:=i)
 have a:=zbh B (i+1) (bs.getD i 0) hi b0 (fun j hj=>B.le' (by omega) hi)
 have n0:=vd bs i
 refine⟨by omega,?_,?_⟩
 ·show _≤vp bs i+_
  omega
 ·rw [show ((i+1:Nat):Int)=(i:Int)+1 by omega] at a
  rw [show bs.getD i 0+(i:Int)+1=bs.getD i 0+((i:Int)+1) by omega]
  exact a
theorem YZ {as bs:List Int} (A:jn as) (B:jn bs):∀i:Nat,i≤as.length→i≤bs.length→vp as i=vp bs i→∀j,j<i→as.getD j 0=bs.getD j 0
 | 0,_,_,_,j,hj=>absurd hj (Nat.not_lt_zero _)
 | i+1,ha,hb,e,j,hj=>by
  have ta:=Vg A (i:=i) ha
  have tb:=Vg B (i:=i) hb
  rw [e] at ta
  have u:=ta.unique tb
  have u':as.getD i 0=bs.getD i 0:=by omega
  by_cases hji:j=i
  ·rw [hji];exact u'
  ·have e':vp as i+ch (as.getD i 0+(i:Int)) ((i:Int)+1)=vp bs i+ch (bs.getD i 0+(i:Int)) ((i:Int)+1):=e
   rw [u'] at e'
   exact YZ A B i (by omega) (by omega) (by omega) j (by omega)
theorem zdI {as bs:List Int} (A:jn as) (B:jn bs) (hl:as.length=bs.length) (e:xZ as=xZ bs):as=bs:=by
 refine List.ext_getElem? fun i=>?_
 unfold xZ at e
 rw [hl] at e
 by_cases hi:i<as.length
 ·have:=YZ A B bs.length (by omega) (Nat.le_refl _) e i (by omega)
  rw [List.getD_eq_getElem?_getD,List.getD_eq_getElem?_getD,List.getElem?_eq_getElem hi,List.getElem?_eq_getElem (by omega:i<bs.length)] at this
  rw [List.getElem?_eq_getElem hi,List.getElem?_eq_getElem (by omega:i<bs.length)]
  congr 1
 ·rw [List.getElem?_eq_none (by omega),List.getElem?_eq_none (by omega)]
section
variable {P:Program}{w:World}{K:PySem.W.Frag}{mg:Str→Option Value}{base:Heap}
noncomputable def ze3 (K:PySem.W.Frag):Sp:=fun vs H Q _=>∃(a:Addr) (bs:List Int),vs=[.ref a]∧SqL K H a (bs.map V.int)∧bs.length≤900∧(∀x∈bs,0≤x)∧Szs 70000 bs ∧
 ∀H',Same H H'→Q (.int (xZ bs)) H'
theorem Wv:FnScope ["box"] ["box"] (defScope vC):=⟨rfl,rfl,rfl,by decide +kernel,rfl,by decide +kernel,by decide +kernel⟩
theorem Ww (D:Def K mg "box_number" vC ["box"]) (T:Txt K mg) (jX:Fn P w K mg base 1 "choose" ["n","k"] Z7):Fn P w K mg base 2 "box_number" ["box"] (ze3 K):=by
 refine D.fn Wv (fun vs H Q E h=>?_) (fun f cdv A outer s H vs Q E hr h=>?_)
 ·obtain⟨a,bs,rfl,_⟩:=h
  rfl
 ·obtain⟨a,bs,rfl,hA,hl,nn,sz,q⟩:=h
  refine⟨_,(pss_one (ps_ret (pe_callB (zdo rfl) (by rfl) T.z_sum zi4 (pa_cons (yc (own:=["place","part"]) (fr:=[]) (ix:=[]) rfl ⟨rfl,rfl,rfl,rfl,rfl,rfl⟩ (Ks (by rfl) T.z_enumerate (pa_cons (pv 0) pa_nil)) (fun _ _ _ _ _=>(zah K (n:=2) rfl (pgs_cons (pg_name (i:=0) (show (["place","part"]:List Str).Nodup by decide +kernel) rfl (Or.inl rfl)) (pgs_cons (pg_name (i:=1) (show (["place","part"]:List Str).Nodup by decide +kernel) rfl (Or.inl rfl)) pgs_nil)))) (fun _ _ _ _ _=>xX) (fun _ _ _ _ _=>(zA jX (hr.mono (by decide)) (by rfl) (pa_cons (pe_op qz (pv 1) (pv 0)) (pa_cons (pe_op qz (pv 0) pe_int) pa_nil))))) pa_nil)))),?_⟩
  refine⟨_,rfl,a,_,rfl,hA,fun acc hacc=>JP (K:=K) (a:=a) (xs:=bs.map V.int) (fun i=>V.int (ch (bs.getD i 0+(i:Int)) ((i:Int)+1))) hA hacc ?_ ?_ ?_⟩
  ·rw [List.length_map];exact Nat.le_of_lt (small1000 (by omega))
  ·intro i x t H2 R hx sm ht hR
   rw [List.getElem?_map] at hx
   obtain⟨x',hx',rfl⟩:=Option.map_eq_some_iff.mp hx
   simp only [List.getD_eq_getElem?_getD,hx',Option.getD_some] at hR
   have hi:=(List.getElem?_eq_some_iff.mp hx').1
   have x0:=nn x' (List.mem_of_getElem? hx')
   have xb:=sz x' (List.mem_of_getElem? hx')
   exact⟨t,_,rfl,SqT.of ht,rfl,_,_,rfl,_,_,rfl,rfl,rfl,_,rfl,_,rfl,_,_,rfl,rfl,_,rfl,_,_,rfl,rfl,_,_,rfl,by omega,by omega,by omega,zm (intBits_add_le (m:=70000) (n:=64) xb (zJ (by omega) (by omega))) (by decide),hR⟩
  ·intro H2 sm ha
   rw [List.length_map] at ha
   refine⟨acc,(List.range bs.length).map fun i=>ch (bs.getD i 0+(i:Int)) ((i:Int)+1),rfl,SqL.of ?_,?_⟩
   ·rw [ha,List.map_map];rfl
   ·rw [← YX]
    exact q H2 sm
end
noncomputable def Wx:Int→List Int→Prop
 | _,[]=>True
 | b,x::r=>b≤x∧Wx x r
theorem Kz:∀{b:Int}{xs:List Int},Wx b xs→∀x∈xs,b≤x
 | _,[],_,_,z=>nomatch z
 | b,y::r,h,x,hx=>by
  rcases List.mem_cons.mp hx with e | e
  ·rw [e];exact h.1
  ·have:=Kz h.2 x e
   have:=h.1
   omega
theorem zaz:∀{b:Int}{xs:List Int},Wx b xs→xs.Pairwise (·≤·)
 | _,[],_=>List.Pairwise.nil
 | _,_::_,h=>List.pairwise_cons.mpr ⟨Kz h.2,zaz h.2⟩
theorem zaA:∀{b:Int}{xs:List Int},xs.Pairwise (·≤·)→(∀x∈xs,b≤x)→Wx b xs
 | _,[],_,_=>trivial
 | _,x::r,hp,h=>by
  obtain⟨p1,p2⟩:=List.pairwise_cons.mp hp
  exact⟨h x (by simp),zaA p2 p1⟩
theorem zc5 {bs:List Int}:jn bs↔Wx 0 bs:=⟨fun h=>zaA h.inc h.nn,fun h=>⟨zaz h,Kz h⟩⟩
theorem Y0 {bs:List Int}{i:Nat}{x b:Int} (h:bs[i]?=some x):Wx b (bs.drop i)↔b≤x∧Wx x (bs.drop (i+1)):=by
 obtain⟨hi,e⟩:=List.getElem?_eq_some_iff.mp h
 rw [List.drop_eq_getElem_cons hi,e]
 exact Iff.rfl
section
variable {P:Program}{w:World}{K:PySem.W.Frag}{mg:Str→Option Value}{base:Heap}
noncomputable def zcx (K:PySem.W.Frag) (C:Addr):Sp:=fun vs H Q E=>∃(a:Addr) (ns:List Int) (late:Int),vs=[.ref a,.int late]∧SqL K H a (ns.map V.int)∧ns.length≤1000∧0≤late∧intBits late≤8000 ∧
 (jn (kZ late ns)→∀(p:Addr) (H':Hp),Same H H'→H p=none→H' p=some (.lst ((kZ late ns).map V.int))→Q (.ref p) H') ∧
 (¬jn (kZ late ns)→∀H',Same H H'→E (.ref C) none H')
theorem wB:FnScope ["reading","late","box","before","part"] ["reading","late"] (defScope wj):=⟨rfl,rfl,rfl,by decide +kernel,rfl,by decide +kernel,by decide +kernel⟩
theorem Wy {za:Addr} (D:Def K mg "heard_box" wj ["reading","late"]) (T:Txt K mg) (zT:mg "NoReading"=some (.ref za)) (zK:PySem.W.excIn K za bmV "ValueError.__new__"=true) (zdJ:Fn P w K mg base 1 "box_of" ["row","late"] (zcw K)):FnE P w K mg base 2 "heard_box" ["reading","late"] (zcx K za):=by
 refine D.fnE wB (fun vs H Q E h=>?_) (fun f cdv A outer s H vs Q E hr h=>?_)
 ·obtain⟨a,ns,late,rfl,_⟩:=h
  rfl
 ·obtain⟨a,ns,late,rfl,hA,hl,l0,lb,q,q2⟩:=h
  refine⟨_,(pss_cons (ps_set (i:=2) wB.nd rfl (Or.inl rfl) (zA zdJ (hr.mono (by decide)) (by rfl) (pa_cons (pv 0) (pa_cons (pv 1) pa_nil))))
   (pss_cons (ps_set (i:=3) wB.nd rfl (Or.inl rfl) pe_int)
   (pss_cons (ps_for PassesOwn.leaving rfl (pi_list (pv 2)) (pg_name (i:=4) wB.nd rfl (Or.inl rfl))
    (pss_cons (ps_if (pt_cmpR X7 (pv 4) (pv 3) (nomark _))
     (pss_one (jV PySem.F.excBase_ValueError zK (by rfl) zT (pa_cons pe_str pa_nil)))
     pss_nil)
    (pss_one (ps_set (i:=3) wB.nd rfl (Or.inl rfl) (pv 4)))))
   (pss_one (ps_ret (pv 2)))))),?_⟩
  refine⟨_,rfl,_,rfl,a,ns,late,rfl,hA,hl,l0,lb,fun p H1 s1 hp h1=>?_⟩
  generalize hbs:kZ late ns=bs at h1 q q2
  refine⟨_,rfl,p,rfl,⟨_,SqL.of h1⟩,for_list (K:=K) (a:=p) (xs:=bs.map V.int) (fun i σ H2=>∃(before:Int) (v4:Option V),σ=[some (.ref a),some (.int late),some (.ref p),some (.int before),v4]∧H2=H1∧(jn bs↔Wx before (bs.drop i)))
   ⟨0,none,rfl,rfl,by rw [List.drop_zero];exact zc5⟩ (fun i σ H2 _ ⟨_,_,_,e,_⟩=>e ▸ SqL.of h1) ?_ ?_⟩
  ·rintro i y σ H2 hi ⟨before,v4,rfl,rfl,hb⟩
   rw [List.getElem?_map] at hi
   obtain⟨x,hx,rfl⟩:=Option.map_eq_some_iff.mp hi
   rw [Y0 hx] at hb
   refine⟨_,rfl,_,rfl,_,_,rfl,rfl,_,rfl,ifD (fun h=>?_) (fun h=>⟨_,rfl,x,_,rfl,rfl,hb.trans ⟨fun z=>z.2,fun z=>⟨by omega,z⟩⟩⟩)⟩
   exact⟨(by decide),q2 (fun B=>by have:=(hb.mp B).1;omega) _ s1⟩
  ·rintro σ H2 ⟨before,v4,rfl,rfl,hb⟩
   rw [List.length_map,List.drop_length] at hb
   exact⟨_,rfl,q (hb.mpr trivial) p _ s1 hp h1⟩
end
theorem zbi {late:Int}{bs ms:List Int} (l0:0≤late) (h:Al late (jY late bs) ms):kZ late ms=bs:=by
 obtain⟨hl,hf⟩:=(zb0 _ _ _).mp h
 rw [xf] at hl
 refine List.ext_getElem? fun i=>?_
 by_cases hi:i<bs.length
 ·have hm:i<ms.length:=by omega
  have gb:=YS (late:=late) (List.getElem?_eq_getElem hi)
  have gm:=List.getElem?_eq_getElem hm
  obtain⟨f1,f2⟩:=hf i _ _ gb gm
  rw [zbe gm,List.getElem?_eq_getElem hi]
  congr 1
  generalize bs[i]=b at gb f1 f2
  generalize ms[i]=m at gm f1 f2
  have e:m-(i:Int)=(m-(i:Int)-b*(late+1))+b*(late+1):=by omega
  rw [e,Int.add_mul_ediv_right _ _ (by omega),Int.ediv_eq_zero_of_lt (by omega) (by omega)]
  omega
 ·rw [List.getElem?_eq_none (by rw [Q3];omega),List.getElem?_eq_none (by omega)]
theorem VL {late:Int}{bs:List Int} (l0:0≤late) (B:jn bs):(jY late bs).Pairwise (·≤·):=by
 refine List.pairwise_iff_getElem.mpr fun i j hi hj hij=>?_
 obtain⟨x,hx,ex⟩:=v7 (List.getElem?_eq_getElem hi)
 obtain⟨y,hy,ey⟩:=v7 (List.getElem?_eq_getElem hj)
 rw [ex,ey]
 have:=Int.mul_le_mul_of_nonneg_right (B.get (by omega) hx hy) (show 0≤late+1 by omega)
 omega
theorem Qc {bs:List Int}{i j:Nat}{v:Int} (hi:i<bs.length):(bs.set i v).getD j 0=if j=i then v else bs.getD j 0:=by
 rw [List.getD_eq_getElem?_getD,List.getD_eq_getElem?_getD,List.getElem?_set]
 by_cases h:i=j
 ·subst h;simp [hi]
 ·rw [if_neg h,if_neg (fun z=>h z.symm)]
theorem Y4 {bs:List Int}{i:Nat}{v:Int} (hi:i<bs.length):∀n:Nat,vp (bs.set i v) n=vp bs n+if i<n then ch (v+(i:Int)) ((i:Int)+1)-ch (bs.getD i 0+(i:Int)) ((i:Int)+1) else 0
 | 0=>by rw [if_neg (Nat.not_lt_zero _)];rfl
 | n+1=>by
  show vp (bs.set i v) n+ch ((bs.set i v).getD n 0+(n:Int)) ((n:Int)+1)=vp bs n+ch (bs.getD n 0+(n:Int)) ((n:Int)+1)+_
  rw [Y4 hi n,Qc hi]
  by_cases h1:n=i
  ·subst h1
   rw [if_pos rfl,if_neg (Nat.lt_irrefl _),if_pos (Nat.lt_succ_self _)]
   omega
  ·rw [if_neg h1]
   by_cases h2:i<n
   ·rw [if_pos h2,if_pos (by omega)];omega
   ·rw [if_neg h2,if_neg (by omega)];omega
theorem VM (m:Nat):∀n:Nat,vp (List.replicate m 0) n=0
 | 0=>rfl
 | n+1=>by
  have e:(List.replicate m (0:Int)).getD n 0=0:=by
   rw [List.getD_eq_getElem?_getD,List.getElem?_replicate]
   split <;> rfl
  show vp (List.replicate m 0) n+ch ((List.replicate m (0:Int)).getD n 0+(n:Int)) ((n:Int)+1)=0
  rw [VM m n,e,Xz (by omega) (by omega)]
  rfl
theorem KC:∀n:Nat,(List.replicate n [V.int 0]).flatten=(List.replicate n (0:Int)).map V.int
 | 0=>rfl
 | n+1=>by
  rw [List.replicate_succ,List.flatten_cons,KC n,List.replicate_succ,List.map_cons]
  rfl
theorem zdK {n:Nat} (h:n≤1000):(-1:Int)≠0∧(-1:Int).natAbs<1073741824∧Builtin.Range.small ((n:Int)-1) (-1) (-1)=true∧Builtin.Range.rangeSize ((n:Int)-1) (-1) (-1)=(n:Int):=by
 have hs:Builtin.Range.rangeSize ((n:Int)-1) (-1) (-1)=(n:Int):=by
  unfold Builtin.Range.rangeSize
  rw [if_neg (by decide)]
  by_cases z:n=0
  ·subst z;rfl
  ·rw [if_pos (by omega)]
   show ((n:Int)-1 - -1-1) / (- -1)+1=n
   rw [show (- -1:Int)=1 by decide,Int.ediv_one]
   omega
 refine⟨by decide,by decide,?_,hs⟩
 unfold Builtin.Range.small
 rw [hs]
 simp only [Builtin.Range.rangeFitsLong]
 simp
 omega
theorem zdL {bs:List Int} (h0:∀j,j<bs.length→0≤bs.getD j 0) (hm:∀j k,j≤k→k<bs.length→bs.getD j 0≤bs.getD k 0):jn bs:=by
 have eg:∀(j:Nat) (h:j<bs.length),bs.getD j 0=bs[j]:=fun j h=>by rw [List.getD_eq_getElem?_getD,List.getElem?_eq_getElem h];rfl
 refine⟨List.pairwise_iff_getElem.mpr fun i j hi hj hij=>?_,fun x hx=>?_⟩
 ·have:=hm i j (by omega) hj
  rw [eg i hi,eg j hj] at this
  exact this
 ·obtain⟨j,hj,rfl⟩:=List.getElem_of_mem hx
  rw [← eg j hj]
  exact h0 j hj
theorem zdM (m:Nat):∀n:Nat,m<C (m+(n+1)) (n+1)
 | 0=>by rw [zdn];omega
 | n+1=>by
  have:=zdM m n
  rw [show m+(n+1+1)=(m+(n+1))+1 by omega,ZJ]
  omega
theorem zeC {m:Int}{n:Nat} (h0:0≤m) (hz:(n:Int)=0→m=0):m<ch (m+(n:Int)) (n:Int):=by
 cases n with
 | zero=>
  have:=hz rfl
  subst this
  rw [show ((0:Nat):Int)=0 from rfl,XC]
  decide
 | succ n=>
  obtain⟨r,rfl⟩:∃r:Nat,m=(r:Int):=⟨m.toNat,by omega⟩
  rw [← Int.natCast_add,JM]
  have:=zdM r n
  omega
theorem top_lt {k a b c:Int} (h1:ch a k≤c) (h2:c<ch b k):a<b:=by
 rcases (by omega:a<b∨b≤a) with z | z
 ·exact z
 ·have:=Kc (k:=k) z
  omega
section
variable {P:Program}{w:World}{K:PySem.W.Frag}{mg:Str→Option Value}{base:Heap}
noncomputable def zdN (message bells:Int):Prop:=0≤message∧(bells=0→message=0)
noncomputable def Y5 (K:PySem.W.Frag) (C:Addr):Sp:=fun vs H Q E=>∃message bells:Int,vs=[.int message,.int bells]∧0≤bells∧bells≤60∧intBits message≤50000 ∧
 (zdN message bells→∀(p:Addr) (bs:List Int) (H':Hp),Same H H'→H p=none→H' p=some (.lst (bs.map V.int))→jn bs→bs.length=bells.toNat→xZ bs=message→Szs 60010 bs→Q (.ref p) H') ∧
 (¬zdN message bells→E (.ref C) none H)
theorem jm:FnScope ["message","bells","box","left","top","place"] ["message","bells"] (defScope jP):=⟨rfl,rfl,rfl,by decide +kernel,rfl,by decide +kernel,by decide +kernel⟩
theorem JR {zb:Addr} (D:Def K mg "box_of_message" jP ["message","bells"]) (T:Txt K mg) (qp:mg "TooGreat"=some (.ref zb)) (qg:PySem.W.excIn K zb bmV "ValueError.__new__"=true) (Q4:Fn P w K mg base 37 "above_top" ["k","number"] zcs) (JS:Fn P w K mg base 37 "top_from" ["start","k","number"] YQ) (jX:Fn P w K mg base 1 "choose" ["n","k"] Z7) :
  FnE P w K mg base 39 "box_of_message" ["message","bells"] (Y5 K zb):=by
 refine D.fnE jm (fun vs H Q E h=>?_) (fun f cdv A outer s H vs Q E hr h=>?_)
 ·obtain⟨a,bs,rfl,_⟩:=h
  rfl
 ·obtain⟨message,bells,rfl,b0,b60,mb,q1,q2⟩:=h
  refine⟨_,(pss_cons (ps_if (pw_or (pt_cmpR X7 (pv 0) pe_int (nomark _)) (pw_or1 (pw_and (pt_cmpR vq (pv 1) pe_int (nomark _)) (pw_and1 (pt_cmpR zbI (pv 0) pe_int (nomark _)))).pt)).pt
    (pss_one (jV PySem.F.excBase_ValueError qg (by rfl) qp (pa_cons pe_str pa_nil)))
    pss_nil)
   (pss_cons (ps_set (i:=2) jm.nd rfl (Or.inl rfl) (pe_op op_rep (pe_lst (pa_cons pe_int pa_nil)) (pv 1)))
   (pss_cons (ps_set (i:=3) jm.nd rfl (Or.inl rfl) (pv 0))
   (pss_cons (ps_set (i:=4) jm.nd rfl (Or.inl rfl) (pe_op qz (pv 0) (pv 1)))
   (pss_cons (ps_for PassesOwn.leaving rfl (zcP (by rfl) T.z_range (pa_cons (pe_op ji (pv 1) pe_int) (pa_cons (pe_un un_neg pe_int) (pa_cons (pe_un un_neg pe_int) pa_nil)))) (pg_name (i:=5) jm.nd rfl (Or.inl rfl))
    (pss_cons (ps_set (i:=4) jm.nd rfl (Or.inl rfl) (zA JS (hr.mono (by decide)) (by rfl) (pa_cons (pe_callB (call_min2 rfl) (by rfl) T.z_min zi0 (pa_cons (pe_op ji (pv 4) pe_int) (pa_cons (zA Q4 (hr.mono (by decide)) (by rfl) (pa_cons (pe_op qz (pv 5) pe_int) (pa_cons (pv 3) pa_nil))) pa_nil))) (pa_cons (pe_op qz (pv 5) pe_int) (pa_cons (pv 3) pa_nil)))))
    (pss_cons (ps_asg (pe_op ji (pv 4) (pv 5)) (pg_sub (pv 2) (pv 5) set_list))
    (pss_one (ps_set (i:=3) jm.nd rfl (Or.inl rfl) (pe_op ji (pv 3) (zA jX (hr.mono (by decide)) (by rfl) (pa_cons (pv 4) (pa_cons (pe_op qz (pv 5) pe_int) pa_nil)))))))))
   (pss_one (ps_ret (pv 2)))))))),?_⟩
  obtain⟨n,rfl⟩:∃n:Nat,bells=(n:Int):=⟨bells.toNat,by omega⟩
  refine⟨_,rfl,_,_,rfl,rfl,_,rfl,ifD (fun h=>⟨(by decide),q2 (fun g=>by have:=g.1;omega)⟩) (fun h=>⟨_,rfl,_,_,rfl,rfl,_,rfl,?_⟩)⟩
  refine(fun(G:0≤message→((n:Int)=0→message=0)→_)=>ifD (fun z=>⟨_,rfl,_,_,rfl,rfl,_,rfl,zbJ (fun e=>⟨(by decide),q2 (fun g=>e (g.2 z))⟩) (fun e=>G (by omega) (fun _=>by omega))⟩) (fun z=>G (by omega) (fun z'=>absurd z' z))) (fun m0 mz=>?_)
  have q:=q1 ⟨m0,mz⟩
  refine⟨(by decide),fun l hl=>⟨_,rfl,l,(n:Int),_,rfl,rfl,upd_same,by omega,by omega,?_,fun p hp=>?_⟩⟩
  ·show 1*((n:Int)).toNat≤sizeLine
   exact Nat.le_of_lt (small1000 (by omega))
  rw [show ((n:Int)).toNat=n by omega,KC]
  have hp0:H p=none:=(Same.new hl).free hp
  have s1:Same H (upd (upd H l (.lst [V.int 0])) p (.lst ((List.replicate n (0:Int)).map V.int))):=(Same.new hl).put hp
  have h1:(upd (upd H l (.lst [V.int 0])) p (.lst ((List.replicate n (0:Int)).map V.int))) p=some (.lst ((List.replicate n (0:Int)).map V.int)):=upd_same
  generalize upd (upd H l (.lst [V.int 0])) p (.lst ((List.replicate n (0:Int)).map V.int))=H1 at s1 h1 ⊢
  have mb2:intBits (message+(n:Int))≤60000:=zm (intBits_add_le (m:=50000) (n:=64) mb (zJ (by omega) (by omega))) (by decide)
  refine⟨_,rfl,_,rfl,_,rfl,_,_,rfl,rfl,_,rfl,_,_,rfl,rfl,1,rfl,1,rfl,(n:Int)-1,-1,-1,n,rfl,zdK (by omega),zbK (lo:=(n:Int)-1) (c:=-1) (n:=n) (fun i σ H2=>∃(bs:List Int) (left top:Int) (v5:Option V),σ=[some (.int message),some (.int (n:Int)),some (.ref p),some (.int left),some (.int top),v5]∧Same H H2∧H2 p=some (.lst (bs.map V.int))∧bs.length=n∧0≤left∧left≤message∧left+vp bs n=message∧(∀j,j<n-i→bs.getD j 0=0)∧(∀j,j<n→0≤bs.getD j 0)∧(∀j k,n-i≤j→j≤k→k<n→bs.getD j 0≤bs.getD k 0)∧left<ch top ((n-i:Nat):Int)∧((n-i:Nat):Int)≤top∧intBits top≤60000∧(0<i→top=bs.getD (n-i) 0+((n-i:Nat):Int))∧Szs 60010 bs)
   ⟨List.replicate n 0,message,message+(n:Int),none,rfl,s1,h1,by rw [List.length_replicate],m0,Int.le_refl _,by rw [VM];omega,fun j _=>?_,fun j _=>?_,fun j k h1 h2 h3=>by omega,by rw [Nat.sub_zero];exact zeC m0 mz,by omega,mb2,fun z=>absurd z (by omega),fun x hx=>?_⟩ ?_ ?_⟩
  ·rw [List.getD_eq_getElem?_getD,List.getElem?_replicate]
   split <;> rfl
  ·rw [List.getD_eq_getElem?_getD,List.getElem?_replicate]
   split <;> decide
  ·rw [(List.mem_replicate.mp hx).2];decide
  ·rintro i σ H2 hi ⟨bs,left,top,v5,rfl,sm,hB,hl2,l0,l1,sum,z0,nn,mono,lt,tge,tbb,teq,sz⟩
   obtain⟨pl,hpl⟩:∃pl:Nat,pl=n-1-i:=⟨_,rfl⟩
   have ep:(n:Int)-1+(i:Int)*-1=(pl:Int):=by omega
   rw [ep]
   have hpb:pl<bs.length:=by omega
   have hni:n-i=pl+1:=by omega
   rw [hni] at lt tge teq
   refine⟨_,rfl,_,_,rfl,rfl,_,rfl,_,_,rfl,rfl,_,rfl,(pl:Int)+1,left,rfl,by omega,by omega,l0,intBits_le_of_natAbs (y:=message) (by omega) mb,fun a a1 a2 a3=>⟨_,_,rfl,_,rfl,_,_,rfl,rfl,_,rfl,_,(pl:Int)+1,left,rfl,by omega,by omega,l0,?_,?_,?_,fun t tp tb=>?_⟩⟩
   ·split <;> omega
   ·split
    ·exact a2
    ·rw [show top-1+1=top by omega,show ((pl:Int)+1)=((pl+1:Nat):Int) by omega]
     exact lt
   ·split
    ·exact a3
    ·exact intBits_le_of_natAbs (y:=top) (by omega) tbb
   have t0:=tp.lo
   have t1:=tp.le
   have t2:=tp.lt
   refine⟨_,rfl,_,rfl,_,_,rfl,rfl,_,rfl,_,rfl,p,_,_,pl,rfl,rfl,hB,?_,?_⟩
   ·unfold ixN
    rw [List.length_map,if_pos (by omega),if_pos (by omega),Int.toNat_natCast]
   have pas:=zaj (n:=t) (k:=(pl:Int)) (by omega) (by omega)
   refine⟨_,rfl,_,rfl,_,rfl,_,_,rfl,rfl,t,(pl:Int)+1,rfl,by omega,by omega,by omega,zm tb (by decide),_,_,rfl,rfl,?_⟩
   have ge:=Vc t ((pl:Int)+1)
   refine⟨bs.set pl (t-(pl:Int)),left-ch t ((pl:Int)+1),t,_,rfl,sm.wr hp0,by rw [upd_same,List.map_set],by rw [List.length_set];exact hl2,by omega,by omega,?_,fun j hj=>?_,fun j hj=>?_,fun j k h1 h2 h3=>?_,?_,by omega,tb,fun _=>?_,fun x hx=>?_⟩
   ·rw [Y4 hpb,if_pos (by omega),z0 pl (by omega),Xz (n:=0+(pl:Int)) (by omega) (by omega),show t-(pl:Int)+(pl:Int)=t by omega]
    omega
   ·rw [Qc hpb,if_neg (by omega)]
    exact z0 j (by omega)
   ·rw [Qc hpb]
    split
    ·omega
    ·exact nn j hj
   ·rw [Qc hpb,Qc hpb]
    by_cases e1:j=pl
    ·rw [if_pos e1]
     by_cases e2:k=pl
     ·rw [if_pos e2];exact Int.le_refl _
     ·rw [if_neg e2]
      have:=top_lt t1 (by rw [show ((pl:Int)+1)=((pl+1:Nat):Int) by omega];exact lt)
      have:=teq (by omega)
      have:=mono (pl+1) k (by omega) (by omega) h3
      omega
    ·rw [if_neg e1,if_neg (by omega)]
     exact mono j k (by omega) h2 h3
   ·rw [show n-(i+1)=pl by omega]
    omega
   ·rw [show n-(i+1)=pl by omega,Qc hpb,if_pos rfl,show t-(pl:Int)+(pl:Int)=t by omega]
   ·rcases List.mem_or_eq_of_mem_set hx with z | z
    ·exact sz x z
    ·rw [z]
     exact zm (intBits_sub_le (m:=60000) (n:=64) tb (zJ (by omega) (by omega))) (by decide)
  ·rintro σ H2 ⟨bs,left,top,v5,rfl,sm,hB,hl2,l0,l1,sum,z0,nn,mono,lt,tge,tbb,teq,sz⟩
   rw [Nat.sub_self] at z0 mono lt
   have e0:left=0:=by
    by_cases hn:n=0
    ·subst hn
     have:message=0:=mz rfl
     omega
    ·rw [show ((0:Nat):Int)=0 from rfl,XC] at lt
     omega
   refine⟨_,rfl,q p bs H2 sm hp0 hB (zdL (fun j hj=>nn j (by omega)) (fun j k h1 h2=>mono j k (Nat.zero_le _) h1 (by omega))) (by omega) ?_ sz⟩
   unfold xZ
   rw [hl2]
   omega
end
noncomputable def cnt (turns bells late:Int):Int:=if turns<bells then 0 else ch ((turns-bells) / (late+1)+bells) bells
noncomputable def Qj:Sp:=fun vs H Q _=>∃turns bells late:Int,vs=[.int turns,.int bells,.int late]∧0≤bells∧bells≤1000∧0≤late∧intBits late≤8000∧intBits turns≤70000∧Q (.int (cnt turns bells late)) H
section
variable {P:Program}{w:World}{K:PySem.W.Frag}{mg:Str→Option Value}{base:Heap}
noncomputable def zaB:Sp:=fun vs H Q _=>∃turns bells late:Int,vs=[.int turns,.int bells,.int late]∧0≤late∧intBits late≤8000∧Q (.int ((turns-bells) / (late+1))) H
theorem Vh:FnScope ["turns","bells","late"] ["turns","bells","late"] (defScope jW):=⟨rfl,rfl,rfl,by decide +kernel,rfl,by decide +kernel,by decide +kernel⟩
theorem Vi (D:Def K mg "greatest_part" jW ["turns","bells","late"]):Fn P w K mg base 1 "greatest_part" ["turns","bells","late"] zaB:=by
 refine D.fn Vh (fun vs H Q E h=>?_) (fun f cdv A outer s H vs Q E hr h=>?_)
 ·obtain⟨a,b,c,rfl,_⟩:=h
  rfl
 ·obtain⟨turns,bells,late,rfl,l0,lb,q⟩:=h
  refine⟨_,(pss_one (ps_ret (pe_op Xu (pe_op ji (pv 0) (pv 1)) (pe_op qz (pv 2) pe_int)))),?_⟩
  have lb1:intBits (late+1)≤9000:=zm (intBits_add_le (m:=8000) (n:=1) lb (by decide)) (by decide)
  exact⟨_,rfl,_,rfl,_,_,rfl,rfl,_,rfl,_,_,rfl,rfl,_,_,rfl,rfl,⟨by omega,lb1⟩,q⟩
theorem zaC:FnScope ["turns","bells","late"] ["turns","bells","late"] (defScope wk):=⟨rfl,rfl,rfl,by decide +kernel,rfl,by decide +kernel,by decide +kernel⟩
theorem zaD (D:Def K mg "box_count" wk ["turns","bells","late"]) (T:Txt K mg) (yN:Fn P w K mg base 1 "greatest_part" ["turns","bells","late"] zaB) (jX:Fn P w K mg base 1 "choose" ["n","k"] Z7):Fn P w K mg base 2 "box_count" ["turns","bells","late"] Qj:=by
 refine D.fn zaC (fun vs H Q E h=>?_) (fun f cdv A outer s H vs Q E hr h=>?_)
 ·obtain⟨a,b,c,rfl,_⟩:=h
  rfl
 ·obtain⟨turns,bells,late,rfl,b0,b1,l0,lb,tb,q⟩:=h
  refine⟨_,(pss_cons (ps_if (pt_cmpR X8 (pv 1) (pv 0) (nomark _))
    (pss_one (ps_ret pe_int))
    pss_nil)
   (pss_one (ps_ret (zA jX (hr.mono (by decide)) (by rfl) (pa_cons (pe_op qz (zA yN (hr.mono (by decide)) (by rfl) (pa_cons (pv 0) (pa_cons (pv 1) (pa_cons (pv 2) pa_nil)))) (pv 1)) (pa_cons (pv 1) pa_nil)))))),?_⟩
  unfold cnt at q
  refine⟨_,rfl,_,rfl,_,_,rfl,rfl,_,rfl,ifD (fun h=>?_) (fun h=>?_)⟩
  ·rw [if_pos h] at q
   exact q
  ·rw [if_neg h] at q
   have d0:0≤(turns-bells) / (late+1):=Int.ediv_nonneg (by omega) (by omega)
   have db:intBits ((turns-bells) / (late+1))≤70000:=by
    have h2:=Int.ediv_le_self (late+1) (show 0≤turns-bells by omega)
    exact intBits_le_of_natAbs (y:=turns) (by omega) tb
   refine⟨_,rfl,_,rfl,_,rfl,turns,bells,late,rfl,l0,lb,_,rfl,_,_,rfl,rfl,_,rfl,_,bells,rfl,by omega,b0,b1,?_,q⟩
   exact zm (intBits_add_le (m:=70000) (n:=64) db (zJ b0 (by omega))) (by decide)
end
theorem Qk (turns bells late:Int):0≤cnt turns bells late:=by
 unfold cnt
 split
 ·exact Int.le_refl _
 ·exact Vc _ _
section
variable {P:Program}{w:World}{K:PySem.W.Frag}{mg:Str→Option Value}{base:Heap}
noncomputable def Zj (K:PySem.W.Frag) (C:Addr):Sp:=fun vs H Q E=>∃message turns bells late:Int,vs=[.int message,.int turns,.int bells,.int late]∧0≤bells∧bells≤60∧0≤late∧intBits late≤8000∧intBits turns≤70000∧intBits message≤50000 ∧
 ((0≤message∧message<cnt turns bells late)→∀(p:Addr) (bs:List Int) (H':Hp),Same H H'→H p=none→H' p=some (.lst ((jY late bs).map V.int))→jn bs→bs.length=bells.toNat→xZ bs=message→Szs 60010 bs→Q (.ref p) H') ∧
 (¬(0≤message∧message<cnt turns bells late)→E (.ref C) none H)
theorem zaE {message turns late:Int} (h0:0≤message) (h:message<cnt turns 0 late):message=0:=by
 unfold cnt at h
 split at h
 ·omega
 ·rw [XC] at h;omega
theorem zb1:FnScope ["message","turns","bells","late"] ["message","turns","bells","late"] (defScope Zd):=⟨rfl,rfl,rfl,by decide +kernel,rfl,by decide +kernel,by decide +kernel⟩
theorem zbj {zb:Addr} (D:Def K mg "written" Zd ["message","turns","bells","late"]) (T:Txt K mg) (qp:mg "TooGreat"=some (.ref zb)) (qg:PySem.W.excIn K zb bmV "ValueError.__new__"=true) (qT:Fn P w K mg base 2 "box_count" ["turns","bells","late"] Qj) (wC:FnE P w K mg base 39 "box_of_message" ["message","bells"] (Y5 K zb)) (zb2:Fn P w K mg base 1 "bell_row" ["box","late"] (YW K)) :
  FnE P w K mg base 40 "written" ["message","turns","bells","late"] (Zj K zb):=by
 refine D.fnE zb1 (fun vs H Q E h=>?_) (fun f cdv A outer s H vs Q E hr h=>?_)
 ·obtain⟨a,b,c,d,rfl,_⟩:=h
  rfl
 ·obtain⟨message,turns,bells,late,rfl,b0,b60,l0,lb,tb,mb,q1,q2⟩:=h
  refine⟨_,(pss_cons (ps_if (pw_or (pt_cmpR X7 (pv 0) pe_int (nomark _)) (pw_or1 (pt_cmpR Km (pv 0) (zA qT (hr.mono (by decide)) (by rfl) (pa_cons (pv 1) (pa_cons (pv 2) (pa_cons (pv 3) pa_nil)))) (nomark _)))).pt
    (pss_one (jV PySem.F.excBase_ValueError qg (by rfl) qp (pa_cons pe_str pa_nil)))
    pss_nil)
   (pss_one (ps_ret (zA zb2 (hr.mono (by decide)) (by rfl) (pa_cons (jj wC (hr.mono (by decide)) (by rfl) qC (pa_cons (pv 0) (pa_cons (pv 2) pa_nil))) (pa_cons (pv 3) pa_nil)))))),?_⟩
  refine⟨_,rfl,_,_,rfl,rfl,_,rfl,ifD (fun h=>⟨(by decide),q2 (fun g=>by omega)⟩) (fun h=>⟨_,rfl,_,rfl,_,rfl,_,rfl,turns,bells,late,rfl,b0,by omega,l0,lb,tb,_,_,rfl,rfl,_,rfl,ifD (fun h2=>⟨(by decide),q2 (fun g=>by omega)⟩) (fun h2=>?_)⟩)⟩
  have m0:0≤message:=by omega
  have m1:message<cnt turns bells late:=by omega
  have q:=q1 ⟨m0,m1⟩
  have gm:zdN message bells:=⟨m0,fun z=>zaE m0 (z ▸ m1)⟩
  refine⟨_,rfl,_,rfl,message,bells,rfl,b0,b60,mb,fun _ p bs H1 s1 hp h1 B hl hnum sz=>?_,fun nb=>absurd gm nb⟩
  refine⟨_,rfl,p,bs,late,rfl,SqL.of h1,by omega,lb,fun x hx=>zm (sz x hx) (by decide),fun p2 H2 s2 hp2 h2=>?_⟩
  exact q p2 bs H2 (s1.trans s2) (s1.free hp2) h2 B hl hnum sz
end
theorem zdO {bs:List Int} (B:jn bs){turns late:Int}{i:Nat} (l0:0≤late) (h:xZ bs<cnt turns (bs.length:Int) late) (hi:i<bs.length):(bs.length:Int)≤turns∧bs.getD i 0*(late+1)≤turns-(bs.length:Int):=by
 unfold cnt at h
 have n0:=vd bs bs.length
 split at h
 ·have:xZ bs=vp bs bs.length:=rfl
  omega
 ·rename_i hle
  refine⟨by omega,?_⟩
  have tp:=Vg B (i:=bs.length-1) (by omega)
  have t1:=tp.le
  have e1:bs.length-1+1=bs.length:=by omega
  have e2:((bs.length-1:Nat):Int)+1=(bs.length:Int):=by omega
  rw [e1,e2] at t1
  have lt:=top_lt t1 (show vp bs bs.length < _ from h)
  have m:=B.le' (i:=i) (j:=bs.length-1) (by omega) (by omega)
  have d1:bs.getD i 0≤(turns-(bs.length:Int)) / (late+1):=by omega
  exact(Int.le_ediv_iff_mul_le (by omega)).mp d1
noncomputable def GoodR (turns bells late:Int) (ns:List Int):Prop:=(ns.length:Int)=bells∧jn (kZ late ns)∧xZ (kZ late ns)<cnt turns bells late
section
variable {P:Program}{w:World}{K:PySem.W.Frag}{mg:Str→Option Value}{base:Heap}
noncomputable def XJ (K:PySem.W.Frag) (C:Addr):Sp:=fun vs H Q E=>∃(a:Addr) (ns:List Int) (turns bells late:Int),vs=[.ref a,.int turns,.int bells,.int late]∧SqL K H a (ns.map V.int)∧ns.length≤60∧0≤bells∧bells≤60∧0≤late∧intBits late≤8000∧intBits turns≤70000∧Szs 70000 (kZ late ns) ∧
 (GoodR turns bells late ns→∀H',Same H H'→Q (.int (xZ (kZ late ns))) H')∧(¬GoodR turns bells late ns→∀H',Same H H'→E (.ref C) none H')
theorem zcy:FnScope ["reading","turns","bells","late","message"] ["reading","turns","bells","late"] (defScope XH):=⟨rfl,rfl,rfl,by decide +kernel,rfl,by decide +kernel,by decide +kernel⟩
theorem zdP {za:Addr} (D:Def K mg "read" XH ["reading","turns","bells","late"]) (T:Txt K mg) (zT:mg "NoReading"=some (.ref za)) (zK:PySem.W.excIn K za bmV "ValueError.__new__"=true) (qT:Fn P w K mg base 2 "box_count" ["turns","bells","late"] Qj) (Ql:FnE P w K mg base 2 "heard_box" ["reading","late"] (zcx K za)) (zaF:Fn P w K mg base 2 "box_number" ["box"] (ze3 K)) :
  FnE P w K mg base 3 "read" ["reading","turns","bells","late"] (XJ K za):=by
 refine D.fnE zcy (fun vs H Q E h=>?_) (fun f cdv A outer s H vs Q E hr h=>?_)
 ·obtain⟨a,b,c,d,e,rfl,_⟩:=h
  rfl
 ·obtain⟨a,ns,turns,bells,late,rfl,hA,hl,b0,b60,l0,lb,tb,sz,q1,q2⟩:=h
  refine⟨_,(pss_cons (ps_if (pt_cmpR zbI (pe_callB call_len_seq (by rfl) T.z_len QR (pa_cons (pv 0) pa_nil)) (pv 2) (nomark _))
    (pss_one (jV PySem.F.excBase_ValueError zK (by rfl) zT (pa_cons pe_str pa_nil)))
    pss_nil)
   (pss_cons (ps_set (i:=4) zcy.nd rfl (Or.inl rfl) (zA zaF (hr.mono (by decide)) (by rfl) (pa_cons (jj Ql (hr.mono (by decide)) (by rfl) qC (pa_cons (pv 0) (pa_cons (pv 3) pa_nil))) pa_nil)))
   (pss_cons (ps_if (pt_cmpR Km (pv 4) (zA qT (hr.mono (by decide)) (by rfl) (pa_cons (pv 1) (pa_cons (pv 2) (pa_cons (pv 3) pa_nil)))) (nomark _))
    (pss_one (jV PySem.F.excBase_ValueError zK (by rfl) zT (pa_cons pe_str pa_nil)))
    pss_nil)
   (pss_one (ps_ret (pv 4)))))),?_⟩
  refine⟨_,rfl,_,_,rfl,.inl hA,_,rfl,_,_,rfl,rfl,_,rfl,?_⟩
  rw [List.length_map]
  refine zbJ (fun e=>⟨(by decide),q2 (fun g=>e g.1) _ (Same.refl _)⟩) (fun e=>?_)
  refine⟨_,rfl,_,rfl,a,ns,late,rfl,hA,by omega,l0,lb,fun B p H1 s1 hp h1=>?_,fun nB H1 s1=>q2 (fun g=>nB g.2.1) _ s1⟩
  refine⟨p,kZ late ns,rfl,SqL.of h1,by rw [Q3];omega,B.nn,sz,fun H2 s2=>?_⟩
  refine⟨_,rfl,_,rfl,_,rfl,_,rfl,turns,bells,late,rfl,by omega,by omega,l0,lb,tb,_,_,rfl,rfl,_,rfl,ifD (fun h=>?_) (fun h=>?_)⟩
  ·exact⟨(by decide),q2 (fun g=>by have:=g.2.2;omega) _ (s1.trans s2)⟩
  ·exact⟨_,rfl,q1 ⟨e,B,by omega⟩ _ (s1.trans s2)⟩
end
noncomputable def yX (turns bells late:Int):Int:=if bells=0 then 0 else if turns=0 then 0 else cnt (turns-1) (bells-1) (2*late)
noncomputable def XM:Sp:=fun vs H Q _=>∃turns bells late:Int,vs=[.int turns,.int bells,.int late]∧0≤bells∧bells≤1000∧0≤late∧intBits late≤7000∧0≤turns∧intBits turns≤60000∧Q (.int (yX turns bells late)) H
section
variable {P:Program}{w:World}{K:PySem.W.Frag}{mg:Str→Option Value}{base:Heap}
theorem KD:FnScope ["turns","bells","late"] ["turns","bells","late"] (defScope xP):=⟨rfl,rfl,rfl,by decide +kernel,rfl,by decide +kernel,by decide +kernel⟩
theorem KH (D:Def K mg "keyed_count" xP ["turns","bells","late"]) (T:Txt K mg) (qT:Fn P w K mg base 2 "box_count" ["turns","bells","late"] Qj):Fn P w K mg base 3 "keyed_count" ["turns","bells","late"] XM:=by
 refine D.fn KD (fun vs H Q E h=>?_) (fun f cdv A outer s H vs Q E hr h=>?_)
 ·obtain⟨a,b,c,rfl,_⟩:=h
  rfl
 ·obtain⟨turns,bells,late,rfl,b0,b1,l0,lb,t0,tb,q⟩:=h
  refine⟨_,(pss_cons (ps_if (pw_or (pt_cmpR vq (pv 1) pe_int (nomark _)) (pw_or1 (pt_cmpR vq (pv 0) pe_int (nomark _)))).pt
    (pss_one (ps_ret pe_int))
    pss_nil)
   (pss_one (ps_ret (zA qT (hr.mono (by decide)) (by rfl) (pa_cons (pe_op ji (pv 0) pe_int) (pa_cons (pe_op ji (pv 1) pe_int) (pa_cons (pe_op jc pe_int (pv 2)) pa_nil))))))),?_⟩
  unfold yX at q
  refine⟨_,rfl,_,_,rfl,rfl,_,rfl,ifD (fun z=>?_) (fun z=>⟨_,rfl,_,_,rfl,rfl,_,rfl,ifD (fun z2=>?_) (fun z2=>?_)⟩)⟩
  ·rw [if_pos z] at q
   exact q
  ·rw [if_neg z,if_pos z2] at q
   exact q
  ·rw [if_neg z,if_neg z2] at q
   refine⟨_,rfl,_,_,rfl,rfl,_,rfl,_,_,rfl,rfl,_,rfl,_,_,rfl,rfl,⟨2,7000,by decide,lb,by decide⟩,turns-1,bells-1,2*late,rfl,by omega,by omega,by omega,?_,?_,q⟩
   ·exact zm (intBits_mul_le (m:=2) (n:=7000) (by decide) lb) (by decide)
   ·exact intBits_le_of_natAbs (y:=turns) (by omega) (zm tb (by decide))
end
noncomputable def ZP (late:Int) (bs:List Int):List Int:=0::(jY (2*late) bs).map (·+1)
theorem Q5 (late:Int) (bs:List Int):(ZP late bs).length=bs.length+1:=by
 unfold ZP
 rw [List.length_cons,List.length_map,xf]
theorem zaG {m turns bells late:Int} (h0:0≤m) (h:m<yX turns bells late):bells≠0∧turns≠0∧m<cnt (turns-1) (bells-1) (2*late):=by
 unfold yX at h
 split at h
 ·omega
 ·split at h
  ·omega
  ·exact⟨by assumption,by assumption,h⟩
noncomputable def unL (late:Int) (ns:List Int):List Int:=ns.tail.map (fun t=>t-(ns.headD 0-late+1))
theorem JT (late:Int) (ns:List Int):(unL late ns).length=ns.length-1:=by
 unfold unL
 rw [List.length_map,List.length_tail]
theorem zdQ (ns:List Int):zc0 ns (some 1) none=ns.tail:=by
 unfold zc0
 have e:HT.sIx ns.length 0 (some 1)=min 1 ns.length:=HT.sIx_nat ..
 rw [e]
 cases ns with
 | nil=>rfl
 | cons x r=>
  show ((x::r).drop (min 1 (r.length+1))).take ((r.length+1)-min 1 (r.length+1))=r
  rw [show min 1 (r.length+1)=1 by omega]
  simp
theorem zb3 {late:Int}{bs:List Int} (l0:0≤late) (B:jn bs) (lag:Int):((ZP late bs).map (·+lag)).Pairwise (·≤·):=by
 have h:(ZP late bs).Pairwise (·≤·):=by
  unfold ZP
  refine List.pairwise_cons.mpr ⟨fun x hx=>?_,?_⟩
  ·obtain⟨y,hy,rfl⟩:=List.mem_map.mp hx
   obtain⟨i,hi,e⟩:=List.getElem_of_mem hy
   obtain⟨z,hz,ez⟩:=v7 (List.getElem?_eq_getElem hi)
   have z0:=B.nn z (List.mem_of_getElem? hz)
   have:=Int.mul_nonneg z0 (show 0≤2*late+1 by omega)
   rw [e] at ez
   show 0≤y+1
   omega
  ·exact List.Pairwise.map _ (fun a b h=>by omega) (VL (late:=2*late) (by omega) B)
 exact List.Pairwise.map _ (fun a b h=>by omega) h
theorem zc6 {late lag:Int}{bs ms:List Int} (l0:0≤late) (h:Al late ((ZP late bs).map (·+lag)) ms):kZ (2*late) (unL late ms)=bs:=by
 refine zbi (by omega) ?_
 cases ms with
 | nil=>exact absurd h (by unfold ZP;rw [List.map_cons];exact id)
 | cons m ms=>
  unfold ZP at h
  rw [List.map_cons] at h
  obtain⟨h1,h2,h3⟩:=h
  have c1:0+lag≤m:=h1
  have c2:m≤0+lag+late:=h2
  unfold unL
  show Al (2*late) (jY (2*late) bs) (ms.map fun t=>t-(m-late+1))
  generalize jY (2*late) bs=xs at h3
  have key:∀(xs ms:List Int),Al late ((xs.map (·+1)).map (·+lag)) ms→Al (2*late) xs (ms.map fun t=>t-(m-late+1)):=by
   intro xs
   induction xs with
   | nil=>
    intro ms h
    cases ms with
    | nil=>trivial
    | cons _ _=>exact h.elim
   | cons x xs ih=>
    intro ms h
    cases ms with
    | nil=>exact h.elim
    | cons y ms=>
     obtain⟨a1,a2,a3⟩:=h
     have b1:x+1+lag≤y:=a1
     have b2:y≤x+1+lag+late:=a2
     exact⟨show x≤y-(m-late+1) by omega,show y-(m-late+1)≤x+2*late by omega,ih ms a3⟩
  exact key xs ms h3
section
variable {P:Program}{w:World}{K:PySem.W.Frag}{mg:Str→Option Value}{base:Heap}
noncomputable def XN (K:PySem.W.Frag) (C:Addr):Sp:=fun vs H Q E=>∃message turns bells late:Int,vs=[.int message,.int turns,.int bells,.int late]∧0≤bells∧bells≤60∧0≤late∧intBits late≤7000∧0≤turns∧intBits turns≤60000∧intBits message≤50000 ∧
 ((0≤message∧message<yX turns bells late)→∀(p:Addr) (bs:List Int) (H':Hp),Same H H'→H p=none→H' p=some (.lst ((ZP late bs).map V.int))→jn bs→bs.length=(bells-1).toNat→xZ bs=message→Szs 60010 bs→Q (.ref p) H') ∧
 (¬(0≤message∧message<yX turns bells late)→E (.ref C) none H)
theorem zbk:FnScope ["message","turns","bells","late","behind_key"] ["message","turns","bells","late"] (defScope QZ):=⟨rfl,rfl,rfl,by decide +kernel,rfl,by decide +kernel,by decide +kernel⟩
theorem zc7 {zb:Addr} (D:Def K mg "keyed" QZ ["message","turns","bells","late"]) (T:Txt K mg) (qp:mg "TooGreat"=some (.ref zb)) (qg:PySem.W.excIn K zb bmV "ValueError.__new__"=true) (xK:Fn P w K mg base 3 "keyed_count" ["turns","bells","late"] XM) (xg:FnE P w K mg base 40 "written" ["message","turns","bells","late"] (Zj K zb)) :
  FnE P w K mg base 41 "keyed" ["message","turns","bells","late"] (XN K zb):=by
 refine D.fnE zbk (fun vs H Q E h=>?_) (fun f cdv A outer s H vs Q E hr h=>?_)
 ·obtain⟨a,b,c,d,rfl,_⟩:=h
  rfl
 ·obtain⟨message,turns,bells,late,rfl,b0,b60,l0,lb,t0,tb,mb,q1,q2⟩:=h
  refine⟨_,(pss_cons (ps_if (pw_or (pt_cmpR X7 (pv 0) pe_int (nomark _)) (pw_or1 (pt_cmpR Km (pv 0) (zA xK (hr.mono (by decide)) (by rfl) (pa_cons (pv 1) (pa_cons (pv 2) (pa_cons (pv 3) pa_nil)))) (nomark _)))).pt
    (pss_one (jV PySem.F.excBase_ValueError qg (by rfl) qp (pa_cons pe_str pa_nil)))
    pss_nil)
   (pss_cons (ps_set (i:=4) zbk.nd rfl (Or.inl rfl) (jj xg (hr.mono (by decide)) (by rfl) qC (pa_cons (pv 0) (pa_cons (pe_op ji (pv 1) pe_int) (pa_cons (pe_op ji (pv 2) pe_int) (pa_cons (pe_op jc pe_int (pv 3)) pa_nil))))))
   (pss_one (ps_ret (pe_op op_cat (pe_lst (pa_cons pe_int pa_nil)) (yc (own:=["turn"]) (fr:=[]) (ix:=[]) rfl ⟨rfl,rfl,rfl,rfl,rfl,rfl⟩ (pi_list (pv 4)) (fun _ _ _ _ _=>(pg_name (i:=0) (show (["turn"]:List Str).Nodup by decide +kernel) rfl (Or.inl rfl))) (fun _ _ _ _ _=>xX) (fun _ _ _ _ _=>(pe_op qz (pv 0) pe_int)))))))),?_⟩
  refine⟨_,rfl,_,_,rfl,rfl,_,rfl,ifD (fun h=>⟨(by decide),q2 (fun g=>by omega)⟩) (fun h=>⟨_,rfl,_,rfl,_,rfl,_,rfl,turns,bells,late,rfl,b0,by omega,l0,lb,t0,tb,_,_,rfl,rfl,_,rfl,ifD (fun h2=>⟨(by decide),q2 (fun g=>by omega)⟩) (fun h2=>?_)⟩)⟩
  have m0:0≤message:=by omega
  have m1:message<yX turns bells late:=by omega
  have q:=q1 ⟨m0,m1⟩
  obtain⟨bz,tz,mlt⟩:=zaG m0 m1
  refine⟨_,rfl,_,rfl,_,_,rfl,rfl,_,rfl,_,_,rfl,rfl,_,rfl,_,_,rfl,rfl,⟨2,7000,by decide,lb,by decide⟩,message,turns-1,bells-1,2*late,rfl,by omega,by omega,by omega,zm (intBits_mul_le (m:=2) (n:=7000) (by decide) lb) (by decide),intBits_le_of_natAbs (y:=turns) (by omega) (zm tb (by decide)),mb,fun _ p bs H1 s1 hp h1 B hl hnum sz=>?_,fun nb=>absurd ⟨m0,mlt⟩ nb⟩
  have bl:(jY (2*late) bs).length=bs.length:=xf _ _
  refine⟨(by decide),fun p0 hp0=>?_⟩
  have s2:Same H1 (upd H1 p0 (.lst [V.int 0])):=Same.new hp0
  have h2:(upd H1 p0 (.lst [V.int 0])) p0=some (.lst [V.int 0]):=upd_same
  generalize upd H1 p0 (.lst [V.int 0])=H2 at s2 h2 ⊢
  have h12:=s2 _ _ h1
  refine⟨_,rfl,p,rfl,⟨_,SqL.of h12⟩,fun acc hacc=>wO (K:=K) (a:=p) (xs:=(jY (2*late) bs).map V.int) (fun j=>V.int ((jY (2*late) bs).getD j 0+1)) (SqL.of h12) hacc (by rw [List.length_map];exact Nat.le_of_lt (small1000 (by omega))) (fun j v H6 R' hx s6 hR=>?_) ?_⟩
  ·rw [List.getElem?_map] at hx
   obtain⟨z,hz',rfl⟩:=Option.map_eq_some_iff.mp hx
   simp only [List.getD_eq_getElem?_getD,hz',Option.getD_some] at hR
   exact⟨rfl,_,rfl,_,_,rfl,rfl,hR⟩
  have eL:(List.range ((jY (2*late) bs).map V.int).length).map (fun j=>V.int ((jY (2*late) bs).getD j 0+1))=((jY (2*late) bs).map (·+1)).map V.int:=by
   apply List.ext_getElem
   ·simp
   ·intro j h1 h2
    simp at h1 h2
    simp [List.getD_eq_getElem?_getD,h2]
  rw [eL]
  refine⟨p0,acc,_,_,rfl,rfl,(Same.new hacc) _ _ h2,upd_same,?_,fun pr hpr=>?_⟩
  ·rw [List.length_map,List.length_map]
   exact Nat.le_of_lt (small1000 (by show 1+_≤1000;omega))
  ·exact q pr bs _ (((s1.trans s2).put hacc).put hpr) (((s1.trans s2).put hacc).free hpr) upd_same B hl hnum sz
end
theorem zb4 {c:TT}{tA tB R:TS}{D:Ends}{σ:St}{H:Hp} (Pre:St→Hp→Prop) (tail:∀σ H,Pre σ H→R D σ H) (h:∀N:St→Hp→Prop,(∀σ H,Pre σ H→N σ H)→tIfS c tA tB { D with nx:=N } σ H):tSeq (tIfS c tA tB) R D σ H:=h (fun σ H=>R D σ H) tail
noncomputable def XQ (turns bells late:Int) (ns:List Int):Prop:=bells≠0∧turns≠0∧(ns.length:Int)=bells∧GoodR (turns-1) (bells-1) (2*late) (unL late ns)
section
variable {P:Program}{w:World}{K:PySem.W.Frag}{mg:Str→Option Value}{base:Heap}
noncomputable def Qm (K:PySem.W.Frag) (C:Addr):Sp:=fun vs H Q E=>∃(a:Addr) (ns:List Int) (turns bells late:Int),vs=[.ref a,.int turns,.int bells,.int late]∧SqL K H a (ns.map V.int)∧ns.length≤60∧0≤bells∧bells≤60∧0≤late∧intBits late≤7000∧0≤turns∧intBits turns≤60000∧Szs 70000 (kZ (2*late) (unL late ns)) ∧
 (XQ turns bells late ns→∀H',Same H H'→Q (.int (xZ (kZ (2*late) (unL late ns)))) H')∧(¬XQ turns bells late ns→∀H',Same H H'→E (.ref C) none H')
theorem JV:FnScope ["reading","turns","bells","late","start","behind_key"] ["reading","turns","bells","late"] (defScope Ze):=⟨rfl,rfl,rfl,by decide +kernel,rfl,by decide +kernel,by decide +kernel⟩
theorem zbl {za:Addr} (D:Def K mg "unkeyed" Ze ["reading","turns","bells","late"]) (T:Txt K mg) (zT:mg "NoReading"=some (.ref za)) (zK:PySem.W.excIn K za bmV "ValueError.__new__"=true) (yZ:FnE P w K mg base 3 "read" ["reading","turns","bells","late"] (XJ K za)) :
  FnE P w K mg base 4 "unkeyed" ["reading","turns","bells","late"] (Qm K za):=by
 refine D.fnE JV (fun vs H Q E h=>?_) (fun f cdv A outer s H vs Q E hr h=>?_)
 ·obtain⟨a,b,c,d,e,rfl,_⟩:=h
  rfl
 ·obtain⟨a,ns,turns,bells,late,rfl,hA,hl,b0,b60,l0,lb,t0,tb,sz,q1,q2⟩:=h
  refine⟨_,(pss_cons (ps_if (pw_or (pt_cmpR vq (pv 2) pe_int (nomark _)) (pw_or (pt_cmpR vq (pv 1) pe_int (nomark _)) (pw_or1 (pt_cmpR zbI (pe_callB call_len_seq (by rfl) T.z_len QR (pa_cons (pv 0) pa_nil)) (pv 2) (nomark _))))).pt
    (pss_one (jV PySem.F.excBase_ValueError zK (by rfl) zT (pa_cons pe_str pa_nil)))
    pss_nil)
   (pss_cons (ps_set (i:=4) JV.nd rfl (Or.inr rfl) (pe_op qz (pe_op ji (pe_ix ix_list (pv 0) pe_int (fun _ _=>rfl)) (pv 3)) pe_int))
   (pss_cons (zco (k:=5) (own:=["turn"]) (fr:=["start"]) (ix:=[4]) rfl JV.nd rfl rfl ⟨rfl,rfl,rfl,rfl,rfl,rfl⟩ (pi_list (pe_slice sl_list (pv 0) (po_some pe_int) po_none)) (fun _ _ _ _ _=>(pg_name (i:=0) (show (["turn","start"]:List Str).Nodup by decide +kernel) rfl (Or.inl rfl))) (fun _ _ _ _ _=>xX) (fun _ _ _ _ _=>(pe_op ji (pv 0) (pv 1))))
   (pss_one (ps_ret (jj yZ (hr.mono (by decide)) (by rfl) qC (pa_cons (pv 5) (pa_cons (pe_op ji (pv 1) pe_int) (pa_cons (pe_op ji (pv 2) pe_int) (pa_cons (pe_op jc pe_int (pv 3)) pa_nil)))))))))),?_⟩
  refine⟨_,rfl,_,_,rfl,rfl,_,rfl,ifD (fun z=>⟨(by decide),q2 (fun g=>g.1 z) _ (Same.refl _)⟩) (fun z=>⟨_,rfl,_,_,rfl,rfl,_,rfl,ifD (fun z2=>⟨(by decide),q2 (fun g=>g.2.1 z2) _ (Same.refl _)⟩) (fun z2=>⟨_,rfl,_,_,rfl,.inl hA,_,rfl,_,_,rfl,rfl,_,rfl,?_⟩)⟩)⟩
  rw [List.length_map]
  refine zbJ (fun e=>⟨(by decide),q2 (fun g=>e g.2.2.1) _ (Same.refl _)⟩) (fun e=>?_)
  have g0:atI (ns.map V.int) 0=some (V.int (ns.headD 0)):=by
   cases ns with
   | nil=>exact absurd e (by simp;omega)
   | cons x r=>exact zaw (ns:=x::r) (k:=0) rfl
  refine⟨_,rfl,_,_,_,_,rfl,rfl,hA,g0,_,rfl,_,_,rfl,rfl,_,_,rfl,rfl,?_⟩
  refine⟨_,rfl,_,rfl,_,_,rfl,hA,fun pc hpc=>?_⟩
  rw [zax,zdQ]
  have s2:Same H (upd H pc (.lst (ns.tail.map V.int))):=Same.new hpc
  have h2:(upd H pc (.lst (ns.tail.map V.int))) pc=some (.lst (ns.tail.map V.int)):=upd_same
  generalize upd H pc (.lst (ns.tail.map V.int))=H2 at s2 h2 ⊢
  refine⟨pc,rfl,⟨_,SqL.of h2⟩,fun acc hacc=>wO (K:=K) (a:=pc) (xs:=ns.tail.map V.int) (fun j=>V.int (ns.tail.getD j 0-(ns.headD 0-late+1))) (SqL.of h2) hacc (by rw [List.length_map,List.length_tail];exact Nat.le_of_lt (small1000 (by omega))) (fun j v H6 R' hx s6 hR=>?_) ?_⟩
  ·rw [List.getElem?_map] at hx
   obtain⟨z,hz',rfl⟩:=Option.map_eq_some_iff.mp hx
   simp only [List.getD_eq_getElem?_getD,hz',Option.getD_some] at hR
   exact⟨rfl,_,rfl,_,rfl,_,_,rfl,rfl,hR⟩
  have eL:(List.range (ns.tail.map V.int).length).map (fun j=>V.int (ns.tail.getD j 0-(ns.headD 0-late+1)))=(unL late ns).map V.int:=by
   unfold unL
   apply List.ext_getElem
   ·simp
   ·intro j h1 h2
    simp at h1 h2
    simp [List.getD_eq_getElem?_getD,h2]
    rw [List.getElem?_eq_getElem (by omega)]
    rfl
  rw [eL]
  refine⟨_,rfl,_,rfl,_,_,rfl,rfl,_,rfl,_,_,rfl,rfl,_,rfl,_,_,rfl,rfl,⟨2,7000,by decide,lb,by decide⟩,acc,unL late ns,turns-1,bells-1,2*late,rfl,SqL.of upd_same,by rw [JT];omega,by omega,by omega,by omega,zm (intBits_mul_le (m:=2) (n:=7000) (by decide) lb) (by decide),intBits_le_of_natAbs (y:=turns) (by omega) (zm tb (by decide)),sz,fun G H' s'=>q1 ⟨z,z2,e,G⟩ _ ((s2.put hacc).trans s'),fun nG H' s'=>q2 (fun g=>nG g.2.2.2) _ ((s2.put hacc).trans s')⟩
end
theorem zcz {bs:List Int}{turns late:Int} (B:jn bs) (l0:0≤late) (h:xZ bs<cnt turns (bs.length:Int) late):∀x∈jY late bs,0≤x∧x<turns:=fun x hx=>by
 obtain⟨i,hi⟩:=List.getElem?_of_mem hx
 obtain⟨c,hc,rfl⟩:=v7 hi
 have il:=(List.getElem?_eq_some_iff.mp hc).1
 have:=zdO B l0 h il
 rw [List.getD_eq_getElem?_getD,hc,Option.getD_some] at this
 have:=Int.mul_nonneg (B.2 c (List.mem_of_getElem? hc)) (show 0≤late+1 by omega)
 omega
theorem zbm {late turns:Int}{bs:List Int} (l0:0≤late) (B:jn bs) (h:xZ bs<cnt (turns-1) (bs.length:Int) (2*late)) (t0:0<turns){i:Nat}{x:Int} (hx:(ZP late bs)[i]?=some x):x<turns∧-1<x∧∀y,(ZP late bs)[i+1]?=some y→x<y:=by
 have low:∀(j:Nat) (z:Int),(ZP late bs)[j+1]?=some z→∃b,bs[j]?=some b∧z=b*(2*late+1)+(j:Int)+1:=by
  intro j z hz
  unfold ZP at hz
  rw [List.getElem?_cons_succ,List.getElem?_map] at hz
  obtain⟨u,hu,rfl⟩:=Option.map_eq_some_iff.mp hz
  obtain⟨b,hb,e⟩:=v7 hu
  exact⟨b,hb,by rw [e]⟩
 have nnb:∀(j:Nat) (b:Int),bs[j]?=some b→0≤b*(2*late+1):=fun j b hb=>Int.mul_nonneg (B.nn b (List.mem_of_getElem? hb)) (by omega)
 cases i with
 | zero=>
  have e:x=0:=by
   unfold ZP at hx
   rw [List.getElem?_cons_zero] at hx
   exact(Option.some.inj hx).symm
  subst e
  refine⟨t0,by decide,fun y hy=>?_⟩
  obtain⟨b,hb,e⟩:=low 0 y hy
  have:=nnb 0 b hb
  omega
 | succ j=>
  obtain⟨b,hb,e⟩:=low j x hx
  have hj:=(List.getElem?_eq_some_iff.mp hb).1
  have eg:bs.getD j 0=b:=by rw [List.getD_eq_getElem?_getD,hb];rfl
  obtain⟨g1,g2⟩:=zdO B (i:=j) (show 0≤2*late by omega) h hj
  rw [eg] at g2
  have:=nnb j b hb
  refine⟨by omega,by omega,fun y hy=>?_⟩
  obtain⟨c,hc,e2⟩:=low (j+1) y hy
  have:=Int.mul_le_mul_of_nonneg_right (B.get (by omega) hb hc) (show 0≤2*late+1 by omega)
  omega
noncomputable def Bd (m:Nat) (ns:List Int):Prop:=∀x∈ns,0≤x∧x<2 ^ m
theorem zcA {ns:List Int}{late:Int} (h:Bd 200 ns) (hl:ns.length≤100) (l0:0≤late):Szs 70000 (kZ late ns):=fun y hy=>by
 obtain⟨i,hi⟩:=List.getElem?_of_mem hy
 obtain⟨x,hx,rfl⟩:=YT hi
 have hb:=h x (List.mem_of_getElem? hx)
 have hi':=(List.getElem?_eq_some_iff.mp hx).1
 refine zm (zbc (m:=300) ?_ (by omega)) (by decide)
 refine intBits_le_of_natAbs (y:=2 ^ 200) ?_ (by decide)
 have e1:((2:Int) ^ 200).natAbs=2 ^ 200:=by decide
 rw [e1]
 have h1:=hb.1
 have h2:=hb.2
 omega
theorem zdR {ns:List Int}{late:Int} (h:Bd 200 ns) (hl:ns.length≤100) (l0:0≤late) (l1:late<2 ^ 200):Szs 70000 (kZ (2*late) (unL late ns)):=fun y hy=>by
 obtain⟨i,hi⟩:=List.getElem?_of_mem hy
 obtain⟨x,hx,rfl⟩:=YT hi
 have hi':=(List.getElem?_eq_some_iff.mp hx).1
 rw [JT] at hi'
 unfold unL at hx
 rw [List.getElem?_map] at hx
 obtain⟨z,hz,rfl⟩:=Option.map_eq_some_iff.mp hx
 have hz0:=h z (List.mem_of_mem_tail (List.mem_of_getElem? hz))
 have hd:0≤ns.headD 0∧ns.headD 0<2 ^ 200:=by
  cases ns with
  | nil=>exact⟨by decide,by decide⟩
  | cons a r=>exact h a (List.mem_cons_self ..)
 refine zm (zbc (m:=300) ?_ (by omega)) (by decide)
 refine intBits_le_of_natAbs (y:=2 ^ 210) ?_ (by decide)
 have e1:((2:Int) ^ 210).natAbs=2 ^ 210:=by decide
 rw [e1]
 obtain⟨h1,h2⟩:=hz0
 obtain⟨h3,h4⟩:=hd
 omega
theorem zb5 {x:Str}{acc:Addr}{own:Nat}{ix:List Nat}{g:TG}{te:TE}{σ:St}{H1:Hp}{Q:VK} (f:Nat→V) (hn:H1 acc=none) (hz:x.length≤sizeLine)
  (step:∀(i c:Nat) (H:Hp) (R:VK),x.cps[i]?=some c→Same H1 H→R (f c) H→g (.str ⟨#[c]⟩) (jD own ix σ) H fun σ4 H4=>σ4.drop own=ix.map (fun i=>(σ[i]?).getD none)∧te σ4 H4 R)
  (hd:Q (.ref acc) (upd H1 acc (.lst ((cpl x).map f)))):JK (Its x) own ix g Qh te σ H1 acc Q:=by
 have sz:x.cps.size=(cpl x).length:=by simp [cpl]
 refine⟨fun i m ys H=>m=x.cps.size-i∧i≤x.cps.size∧ys=((cpl x).take i).map f∧H=upd H1 acc (.lst ys),⟨x.cps.size,by simp,Nat.zero_le _,rfl,rfl⟩,?_⟩
 rintro i m ys H ⟨rfl,hi,rfl,rfl⟩
 refine⟨upd_same,?_⟩
 by_cases hlt:i<x.cps.size
 ·refine .inr ⟨hlt,?_,fun v H3 y=>?_⟩
  ·rw [List.length_map,List.length_take]
   have:x.length=x.cps.size:=rfl
   omega
  obtain⟨e,c,hc,e2⟩:=y
  subst e e2
  refine step i c _ _ hc (Same.new hn) ⟨upd_same,x.cps.size-(i+1),by omega,rfl,hlt,?_,by rw [upd_upd]⟩
  have hc':(cpl x)[i]?=some c:=by rw [← hc];simp [cpl]
  rw [List.take_add_one,hc',List.map_append]
  rfl
 ·have e:i=x.cps.size:=by omega
  subst e
  rw [sz,List.take_length]
  exact .inl ⟨Nat.le_refl _,hd⟩
noncomputable def zb6 (x s:Str) (most:Int):Prop:=1≤x.length∧(x.length:Int)≤most∧∀c∈cpl x,c∈cpl s
structure qD (x:Str):Prop where
 ne:1≤x.length
 le:x.length≤8
 let_:∀c∈cpl x,97≤c∧c≤122
theorem zcB:∀c:Nat,c∈cpl "abcdefghijklmnopqrstuvwxyz"↔97≤c∧c≤122:=fun c=>by
 have e:cpl "abcdefghijklmnopqrstuvwxyz"=(List.range 26).map (·+97):=by decide +kernel
 rw [e,List.mem_map]
 constructor
 ·rintro⟨i,hi,rfl⟩
  have:=List.mem_range.mp hi
  omega
 ·intro h
  exact⟨c-97,List.mem_range.mpr (by omega),by omega⟩
theorem zcC:∀c:Nat,c∈cpl "0123456789"↔48≤c∧c≤57:=fun c=>by
 have e:cpl "0123456789"=(List.range 10).map (·+48):=by decide +kernel
 rw [e,List.mem_map]
 constructor
 ·rintro⟨i,hi,rfl⟩
  have:=List.mem_range.mp hi
  omega
 ·intro h
  exact⟨c-48,List.mem_range.mpr (by omega),by omega⟩
theorem zc8 {x:Str}:zb6 x "abcdefghijklmnopqrstuvwxyz" 8↔qD x:=by
 constructor
 ·rintro⟨h1,h2,h3⟩
  exact⟨h1,by omega,fun c hc=>(zcB c).mp (h3 c hc)⟩
 ·rintro⟨h1,h2,h3⟩
  exact⟨h1,by omega,fun c hc=>(zcB c).mpr (h3 c hc)⟩
theorem Vj {x:Str} (h:qD x):QQ x:=fun z=>by
 have:=h.let_ 32 z
 omega
theorem zdS:cpl "0"=[48]:=by decide +kernel
theorem XR {x:Str}{most:Nat}:Num most x↔zb6 x "0123456789" (most:Int)∧¬((cpl x)[0]?=some 48∧x≠"0"):=by
 constructor
 ·intro h
  refine⟨⟨h.ne,by have:=h.le;omega,fun c hc=>(zcC c).mpr (h.dig c hc)⟩,fun z=>z.2 (XF ?_)⟩
  rw [h.led z.1,zdS]
 ·rintro⟨⟨h1,h2,h3⟩,h4⟩
  refine⟨h1,by omega,fun c hc=>(zcC c).mp (h3 c hc),fun z=>?_⟩
  have:x="0":=Classical.byContradiction fun n=>h4 ⟨z,n⟩
  rw [this,zdS]
section
variable {P:Program}{w:World}{K:PySem.W.Frag}{mg:Str→Option Value}{base:Heap}
noncomputable def zaH:Sp:=fun vs H Q _=>∃(x s:Str) (most:Int),vs=[.str x,.str s,.int most]∧x.length≤1000000∧∀(b:Bool) (H':Hp),Same H H'→(b=true↔zb6 x s most)→Q (.bl b) H'
theorem Wz:FnScope ["word","signs","most"] ["word","signs","most"] (defScope vD):=⟨rfl,rfl,rfl,by decide +kernel,rfl,by decide +kernel,by decide +kernel⟩
theorem zeD (D:Def K mg "is_made_of" vD ["word","signs","most"]) (T:Txt K mg):Fn P w K mg base 1 "is_made_of" ["word","signs","most"] zaH:=by
 refine D.fn Wz (fun vs H Q E h=>?_) (fun f cdv A outer s H vs Q E hr h=>?_)
 ·obtain⟨x,sg,most,rfl,_⟩:=h
  rfl
 ·obtain⟨x,sg,most,rfl,xl,q⟩:=h
  have xs:x.length≤sizeLine:=by rw [sizeLine_eq];omega
  refine⟨_,(pss_one (ps_ret (pe_and (pe_chain zdg zdg pe_int (pe_callB call_len_str (by rfl) T.z_len QR (pa_cons (pv 0) pa_nil)) (pv 2)) (pe_one (pe_callB (zdk rfl) (by rfl) T.z_all zi1 (pa_cons (yc (own:=["sign"]) (fr:=["signs"]) (ix:=[1]) rfl ⟨rfl,rfl,rfl,rfl,rfl,rfl⟩ (zes (pv 0)) (fun _ _ _ _ _=>(pg_name (i:=0) (show (["sign","signs"]:List Str).Nodup by decide +kernel) rfl (Or.inl rfl))) (fun _ _ _ _ _=>xX) (fun _ _ _ _ _=>(pe_cmpR op_in_str (pv 0) (pv 1) (by with_unfolding_all rfl)))) pa_nil)))))),?_⟩
  refine⟨_,rfl,x,rfl,xs,_,_,rfl,rfl,_,rfl,ifD (fun h1=>⟨_,rfl,_,_,rfl,rfl,_,rfl,ifD (fun h2=>?_) (fun h2=>q false H (Same.refl _) ⟨(fun z=>nomatch z),fun z=>absurd z.2.1 h2⟩)⟩) (fun h1=>⟨_,rfl,iteF (q false H (Same.refl _) ⟨(fun z=>nomatch z),fun z=>absurd (show (1:Int)≤(x.length:Int) by have:=z.1;omega) h1⟩)⟩)⟩
  refine⟨_,rfl,x,rfl,fun acc hacc=>zb5 (fun c=>V.bl (decide (c∈cpl sg))) hacc xs (fun i c H6 R hc s6 hR=>?_) ?_⟩
  ·refine⟨rfl,_,rfl,_,rfl,_,_,rfl,rfl,?_⟩
   rw [StrLaws.found_one]
   exact hR
  ·refine⟨acc,(cpl x).map (fun c=>decide (c∈cpl sg)),rfl,SqL.of (by rw [upd_same,List.map_map];rfl),q _ _ (Same.new hacc) ?_⟩
   rw [List.all_eq_true]
   constructor
   ·intro z
    exact⟨by omega,h2,fun c hc=>of_decide_eq_true (z _ (List.mem_map.mpr ⟨c,hc,rfl⟩))⟩
   ·rintro⟨_,_,z⟩ b hb
    obtain⟨c,hc,rfl⟩:=List.mem_map.mp hb
    exact decide_eq_true (z c hc)
noncomputable def XS (C:Addr):Sp:=fun vs H Q E=>∃x:Str,vs=[.str x]∧x.length≤1000000∧(qD x→∀H',Same H H'→Q (.str x) H')∧(¬qD x→∀H',Same H H'→E (.ref C) none H')
theorem zb7:FnScope ["word"] ["word"] (defScope Zh):=⟨rfl,rfl,rfl,by decide +kernel,rfl,by decide +kernel,by decide +kernel⟩
theorem zb8 (D:Def K mg "name_in" Zh ["word"]) (T:Txt K mg){zg:Addr} (zZ:mg "NoOrder"=some (.ref zg)) (z7:PySem.W.excIn K zg bmV "ValueError.__new__"=true){jH qF:Tok} (jo:mg "LETTERS"=some (.str "abcdefghijklmnopqrstuvwxyz" jH)) (qi:mg "MOST_LETTERS"=some (.int 8 qF)) (vf:Fn P w K mg base 1 "is_made_of" ["word","signs","most"] zaH):FnE P w K mg base 2 "name_in" ["word"] (XS zg):=by
 refine D.fnE zb7 (fun vs H Q E h=>?_) (fun f cdv A outer s H vs Q E hr h=>?_)
 ·obtain⟨x,rfl,_⟩:=h
  rfl
 ·obtain⟨x,rfl,xl,q1,q2⟩:=h
  refine⟨_,(pss_cons (ps_if (pt_not (pt_val (zA vf (hr.mono (by decide)) (by rfl) (pa_cons (pv 0) (pa_cons (pe_glob (v:=.str "abcdefghijklmnopqrstuvwxyz") (by rfl) jo ⟨_,rfl⟩) (pa_cons (pe_glob (v:=.int 8) (by rfl) qi ⟨_,rfl⟩) pa_nil))))))
    (pss_one (jV PySem.F.excBase_ValueError z7 (by rfl) zZ (pa_cons pe_str pa_nil)))
    pss_nil)
   (pss_one (ps_ret (pv 0)))),?_⟩
  refine⟨_,rfl,x,_,8,rfl,xl,fun b H1 s1 hb=>?_⟩
  rw [zc8] at hb
  cases b
  ·exact⟨_,rfl,iteT ⟨(by decide),q2 (fun z=>by cases hb.mpr z) H1 s1⟩⟩
  ·exact⟨_,rfl,iteF ⟨_,rfl,q1 (hb.mp rfl) H1 s1⟩⟩
noncomputable def zb9 (C:Addr):Sp:=fun vs H Q E=>∃(x:Str) (most:Nat),vs=[.str x,.int (most:Int)]∧x.length≤1000000∧most≤4300∧(Num most x→∀H',Same H H'→Q (.int (jh x)) H')∧(¬Num most x→∀H',Same H H'→E (.ref C) none H')
theorem WD:FnScope ["word","most"] ["word","most"] (defScope vG):=⟨rfl,rfl,rfl,by decide +kernel,rfl,by decide +kernel,by decide +kernel⟩
theorem WF (ND:NoDig K) (D:Def K mg "figures_in" vG ["word","most"]) (T:Txt K mg){zg:Addr} (zZ:mg "NoOrder"=some (.ref zg)) (z7:PySem.W.excIn K zg bmV "ValueError.__new__"=true){jJ:Tok} (jq:mg "FIGURES"=some (.str "0123456789" jJ)) (vf:Fn P w K mg base 1 "is_made_of" ["word","signs","most"] zaH):FnE P w K mg base 2 "figures_in" ["word","most"] (zb9 zg):=by
 refine D.fnE WD (fun vs H Q E h=>?_) (fun f cdv A outer s H vs Q E hr h=>?_)
 ·obtain⟨x,most,rfl,_⟩:=h
  rfl
 ·obtain⟨x,most,rfl,xl,ml,q1,q2⟩:=h
  have xs:x.length≤sizeLine:=by rw [sizeLine_eq];omega
  refine⟨_,(pss_cons (ps_if (pw_or (pt_not (pt_val (zA vf (hr.mono (by decide)) (by rfl) (pa_cons (pv 0) (pa_cons (pe_glob (v:=.str "0123456789") (by rfl) jq ⟨_,rfl⟩) (pa_cons (pv 1) pa_nil)))))) (pw_or1 (pw_and (pt_cmpR op_eq (pe_ix ix_str (pv 0) pe_int (fun _ _=>rfl)) pe_str (nomark _)) (pw_and1 (pt_cmpR op_ne (pv 0) pe_str (nomark _)))).pt)).pt
    (pss_one (jV PySem.F.excBase_ValueError z7 (by rfl) zZ (pa_cons pe_str pa_nil)))
    pss_nil)
   (pss_one (ps_ret (pe_callTy (Kw ND) (by rfl) T.z_int zaW (pa_cons (pv 0) pa_nil))))),?_⟩
  refine⟨_,rfl,_,rfl,x,_,_,rfl,xl,fun b H1 s1 hb=>?_⟩
  cases b
  ·exact⟨_,rfl,iteT (iteT ⟨(by decide),q2 (fun z=>by cases hb.mpr (XR.mp z).1) H1 s1⟩)⟩
  ·have hm:=hb.mp rfl
   refine⟨_,rfl,iteF ?_⟩
   obtain⟨c,r,hx⟩:∃c r,cpl x=c::r:=by
    cases e:cpl x with
    | nil=>
     have:=hm.1
     rw [← jz,e] at this
     exact absurd this (by decide)
    | cons c r=>exact⟨c,r,rfl⟩
   have e0:(cpl x)[0]?=some c:=by rw [hx];rfl
   have ha:atI x.cps.toList 0=some c:=by
    show atI (cpl x) 0=some c
    rw [hx]
    exact(show atI (c::r) ((0:Nat):Int)=some c from atI_nat rfl)
   refine⟨_,rfl,x,0,c,rfl,rfl,xs,ha,rfl,_,rfl,ifD (fun z=>?_) (fun z=>?_)⟩
   ·have z:(⟨#[c]⟩:Str)="0":=V.str.inj z
    have ec:c=48:=by
     have:=congrArg cpl z
     rw [zdS] at this
     simpa [cpl] using this
    subst ec
    refine⟨_,rfl,rfl,_,rfl,zbJ (fun n=>⟨(by decide),q2 (fun y=>(XR.mp y).2 ⟨e0,fun k=>n (by rw [k])⟩) H1 s1⟩) (fun n=>?_)⟩
    have n:x="0":=V.str.inj n
    have y:Num most x:=XR.mpr ⟨hm,fun k=>k.2 n⟩
    exact⟨_,rfl,x,jh x,rfl,num_reads y ml,xs,q1 y H1 s1⟩
   ·have y:Num most x:=XR.mpr ⟨hm,fun k=>z (by rw [e0] at k;cases k.1;rfl)⟩
    exact iteF ⟨_,rfl,x,jh x,rfl,num_reads y ml,xs,q1 y H1 s1⟩
noncomputable def Vk (C:Addr) (most:Nat):Sp:=fun vs H Q E=>∃x:Str,vs=[.str x]∧x.length≤1000000∧(Num most x→∀H',Same H H'→Q (.int (jh x)) H')∧(¬Num most x→∀H',Same H H'→E (.ref C) none H')
theorem zaI:FnScope ["word"] ["word"] (defScope ww):=⟨rfl,rfl,rfl,by decide +kernel,rfl,by decide +kernel,by decide +kernel⟩
theorem zaJ (D:Def K mg "number_in" ww ["word"]) (T:Txt K mg){zg:Addr}{qG:Tok} (qj:mg "MOST_FIGURES"=some (.int 60 qG)) (xM:FnE P w K mg base 2 "figures_in" ["word","most"] (zb9 zg)):FnE P w K mg base 3 "number_in" ["word"] (Vk zg 60):=by
 refine D.fnE zaI (fun vs H Q E h=>?_) (fun f cdv A outer s H vs Q E hr h=>?_)
 ·obtain⟨x,rfl,_⟩:=h
  rfl
 ·obtain⟨x,rfl,xl,q1,q2⟩:=h
  exact⟨_,(pss_one (ps_ret (jj xM (hr.mono (by decide)) (by rfl) qC (pa_cons (pv 0) (pa_cons (pe_glob (v:=.int 60) (by rfl) qj ⟨_,rfl⟩) pa_nil))))),_,rfl,x,60,rfl,xl,by decide,q1,q2⟩
theorem WK:FnScope ["word"] ["word"] (defScope vH):=⟨rfl,rfl,rfl,by decide +kernel,rfl,by decide +kernel,by decide +kernel⟩
theorem WL (D:Def K mg "message_in" vH ["word"]) (T:Txt K mg){zg:Addr}{zr:Tok} (zp:mg "MOST_FIGURES_OF_MESSAGE"=some (.int 3000 zr)) (xM:FnE P w K mg base 2 "figures_in" ["word","most"] (zb9 zg)):FnE P w K mg base 3 "message_in" ["word"] (Vk zg 3000):=by
 refine D.fnE WK (fun vs H Q E h=>?_) (fun f cdv A outer s H vs Q E hr h=>?_)
 ·obtain⟨x,rfl,_⟩:=h
  rfl
 ·obtain⟨x,rfl,xl,q1,q2⟩:=h
  exact⟨_,(pss_one (ps_ret (jj xM (hr.mono (by decide)) (by rfl) qC (pa_cons (pv 0) (pa_cons (pe_glob (v:=.int 3000) (by rfl) zp ⟨_,rfl⟩) pa_nil))))),_,rfl,x,3000,rfl,xl,by decide,q1,q2⟩
noncomputable def Vl (x:Str):Prop:=Num 60 x∧jh x≤60
noncomputable def zbn (C:Addr):Sp:=fun vs H Q E=>∃x:Str,vs=[.str x]∧x.length≤1000000∧(Vl x→∀H',Same H H'→Q (.int (jh x)) H')∧(¬Vl x→∀H',Same H H'→E (.ref C) none H')
theorem VN:FnScope ["word","bells"] ["word"] (defScope yG):=⟨rfl,rfl,rfl,by decide +kernel,rfl,by decide +kernel,by decide +kernel⟩
theorem zbo (D:Def K mg "bells_in" yG ["word"]) (T:Txt K mg){zg:Addr} (zZ:mg "NoOrder"=some (.ref zg)) (z7:PySem.W.excIn K zg bmV "ValueError.__new__"=true){qU:Tok} (qK:mg "MOST_BELLS"=some (.int 60 qU)) (jA:FnE P w K mg base 3 "number_in" ["word"] (Vk zg 60)):FnE P w K mg base 4 "bells_in" ["word"] (zbn zg):=by
 refine D.fnE VN (fun vs H Q E h=>?_) (fun f cdv A outer s H vs Q E hr h=>?_)
 ·obtain⟨x,rfl,_⟩:=h
  rfl
 ·obtain⟨x,rfl,xl,q1,q2⟩:=h
  refine⟨_,(pss_cons (ps_set (i:=1) VN.nd rfl (Or.inl rfl) (jj jA (hr.mono (by decide)) (by rfl) qC (pa_cons (pv 0) pa_nil)))
   (pss_cons (ps_if (pt_cmpR X8 (pv 1) (pe_glob (v:=.int 60) (by rfl) qK ⟨_,rfl⟩) (nomark _))
    (pss_one (jV PySem.F.excBase_ValueError z7 (by rfl) zZ (pa_cons pe_str pa_nil)))
    pss_nil)
   (pss_one (ps_ret (pv 1))))),?_⟩
  refine⟨_,rfl,x,rfl,xl,fun n H1 s1=>?_,fun n H1 s1=>q2 (fun z=>n z.1) H1 s1⟩
  exact⟨_,rfl,_,_,rfl,rfl,_,rfl,ifD (fun z=>⟨(by decide),q2 (fun y=>by have:=y.2;omega) H1 s1⟩) (fun z=>⟨_,rfl,q1 ⟨n,by omega⟩ H1 s1⟩)⟩
structure wX (ws:List Str):Prop where
 num:∀x∈ws,Num 60 x
 inc:(ws.map jh).Pairwise (·≤·)
noncomputable def zbp (K:PySem.W.Frag) (C:Addr):Sp:=fun vs H Q E=>∃(a:Addr) (ws:List Str),vs=[.ref a]∧SqL K H a (ws.map V.str)∧ws.length≤1000000∧(∀x∈ws,x.length≤1000000)∧(wX ws→∀(p:Addr) (H':Hp),Same H H'→H p=none→H' p=some (.lst ((ws.map jh).map V.int))→Q (.ref p) H')∧(¬wX ws→∀H',Same H H'→E (.ref C) none H')
theorem yK:FnScope ["words","turns","before","turn"] ["words"] (defScope yH):=⟨rfl,rfl,rfl,by decide +kernel,rfl,by decide +kernel,by decide +kernel⟩
theorem zbq (D:Def K mg "turns_in" yH ["words"]) (T:Txt K mg){zg:Addr} (zZ:mg "NoOrder"=some (.ref zg)) (z7:PySem.W.excIn K zg bmV "ValueError.__new__"=true) (jA:FnE P w K mg base 3 "number_in" ["word"] (Vk zg 60)):FnE P w K mg base 4 "turns_in" ["words"] (zbp K zg):=by
 refine D.fnE yK (fun vs H Q E h=>?_) (fun f cdv A outer s H vs Q E hr h=>?_)
 ·obtain⟨a,ws,rfl,_⟩:=h
  rfl
 ·obtain⟨a,ws,rfl,hS,wl,wb,q1,q2⟩:=h
  refine⟨_,(pss_cons (zdt (k:=1) (own:=["word"]) (fr:=[]) (ix:=[]) yK.nd rfl rfl ⟨rfl,rfl,rfl,rfl,rfl,rfl⟩ (pi_list (pv 0)) (fun _ _ _ _ _=>(pg_name (i:=0) (show (["word"]:List Str).Nodup by decide +kernel) rfl (Or.inl rfl))) (fun _ _ _ _ _=>xX) (fun _ _ _ _ _=>(jj jA (hr.mono (by decide)) (by rfl) zeu (pa_cons (pv 0) pa_nil))))
   (pss_cons (ps_set (i:=2) yK.nd rfl (Or.inl rfl) pe_int)
   (pss_cons (ps_for PassesOwn.leaving rfl (pi_list (pv 1)) (pg_name (i:=3) yK.nd rfl (Or.inl rfl))
    (pss_cons (ps_if (pt_cmpR X7 (pv 3) (pv 2) (nomark _))
     (pss_one (jV PySem.F.excBase_ValueError z7 (by rfl) zZ (pa_cons pe_str pa_nil)))
     pss_nil)
    (pss_one (ps_set (i:=2) yK.nd rfl (Or.inl rfl) (pv 3)))))
   (pss_one (ps_ret (pv 1)))))),?_⟩
  refine⟨_,rfl,a,rfl,⟨_,hS⟩,fun acc hacc=>zbR (K:=K) (a:=a) (xs:=ws.map V.str) (fun i v _=>∃x,ws[i]?=some x∧Num 60 x∧v=V.int (jh x)) (fun _ _ _ _ _ h=>h) (fun _ _ _ _ _ _ h=>h) hS hacc (by rw [List.length_map,sizeLine_eq];omega) (fun i x H6 R hx s6 hR=>?_) ?_⟩
  ·rw [List.getElem?_map] at hx
   obtain⟨y,hy,rfl⟩:=Option.map_eq_some_iff.mp hx
   have ym:=List.mem_of_getElem? hy
   exact⟨rfl,_,rfl,y,rfl,wb y ym,fun n H7 s7=>hR _ _ s7 ⟨y,hy,n,rfl⟩,fun n H7 s7=>q2 (fun z=>n (z.num y ym)) H7 (s6.trans s7)⟩
  intro ys H2 s2 hY yl yp
  rw [List.length_map] at yl
  have zkf:∀x∈ws,Num 60 x:=fun x hx=>by
   obtain⟨i,hi⟩:=List.getElem?_of_mem hx
   have il:=(List.getElem?_eq_some_iff.mp hi).1
   obtain⟨y,h1,h2,_⟩:=yp i _ (List.getElem?_eq_getElem (by omega))
   rw [hi] at h1
   cases h1
   exact h2
  have ey:ys=(ws.map jh).map V.int:=by
   apply List.ext_getElem?
   intro i
   rw [List.map_map,List.getElem?_map]
   by_cases hi:i<ys.length
   ·obtain⟨y,h1,_,h3⟩:=yp i _ (List.getElem?_eq_getElem hi)
    rw [List.getElem?_eq_getElem hi,h3,h1]
    rfl
   ·rw [List.getElem?_eq_none (by omega),List.getElem?_eq_none (by omega)]
    rfl
  rw [ey] at hY
  clear ey yp yl
  generalize hns:ws.map jh=ns at hY q1
  have nl:ns.length=ws.length:=by rw [← hns,List.length_map]
  have n0:∀x∈ns,0≤x:=fun x hx=>by
   rw [← hns] at hx
   obtain⟨y,_,rfl⟩:=List.mem_map.mp hx
   exact Kf y
  have zkg:ns.Pairwise (·≤·)↔Wx 0 ns:=⟨fun h=>zaA h n0,zaz⟩
  refine⟨_,rfl,acc,rfl,⟨_,SqL.of hY⟩,for_list (K:=K) (a:=acc) (xs:=ns.map V.int) (fun i σ H3=>∃(before:Int) (v3:Option V),σ=[some (.ref a),some (.ref acc),some (.int before),v3]∧H3=H2∧(ns.Pairwise (·≤·)↔Wx before (ns.drop i)))
   ⟨0,none,rfl,rfl,by rw [List.drop_zero];exact zkg⟩ (fun i σ H3 _ ⟨_,_,_,e,_⟩=>e ▸ SqL.of hY) ?_ ?_⟩
  ·rintro i y σ H3 hi ⟨before,v3,rfl,rfl,hb⟩
   rw [List.getElem?_map] at hi
   obtain⟨x,hx,rfl⟩:=Option.map_eq_some_iff.mp hi
   rw [Y0 hx] at hb
   refine⟨_,rfl,_,rfl,_,_,rfl,rfl,_,rfl,ifD (fun h=>⟨(by decide),q2 (fun G=>?_) _ s2⟩) (fun h=>⟨_,rfl,x,_,rfl,rfl,hb.trans ⟨fun z=>z.2,fun z=>⟨by omega,z⟩⟩⟩)⟩
   have gi:=G.inc
   rw [hns] at gi
   have:=(hb.mp gi).1
   omega
  ·rintro σ H3 ⟨before,v3,rfl,rfl,hb⟩
   rw [List.length_map,List.drop_length] at hb
   exact⟨_,rfl,q1 ⟨zkf,by rw [hns];exact hb.mpr trivial⟩ acc _ s2 hacc hY⟩
theorem zjd:(10:Int) ^ 4000≤10 ^ 4300:=by decide +kernel
theorem lgB {n:Int} (h0:0≤n) (h1:n<10 ^ 4000):n.natAbs<10 ^ 4300:=by
 have h2:=Int.lt_of_lt_of_le h1 zjd
 have e:((10 ^ 4300:Nat):Int)=(10:Int) ^ 4300:=by rw [Int.natCast_pow];rfl
 rw [← e] at h2
 generalize (10 ^ 4300:Nat)=M at h2 ⊢
 omega
noncomputable def Vm:Sp:=fun vs H Q _=>∃v:V,vs=[v]∧((v=.non∧Q (.str "none") H)∨∃n:Int,v=.int n∧0≤n∧n<10 ^ 4000∧Q (.str (txt n)) H)
theorem KJ:FnScope ["number"] ["number"] (defScope xQ):=⟨rfl,rfl,rfl,by decide +kernel,rfl,by decide +kernel,by decide +kernel⟩
theorem KN (ND:NoDig K) (D:Def K mg "number_told" xQ ["number"]) (T:Txt K mg):Fn P w K mg base 1 "number_told" ["number"] Vm:=by
 refine D.fn KJ (fun vs H Q E h=>?_) (fun f cdv A outer s H vs Q E hr h=>?_)
 ·obtain⟨v,rfl,_⟩:=h
  rfl
 ·obtain⟨v,rfl,h⟩:=h
  refine⟨_,(pss_one (ps_ret (pe_ifExp (pt_cmpR op_isN (pv 0) pe_non (nomark _)) pe_str (pe_callTy (wQ ND) (by rfl) T.z_str Xv (pa_cons (pv 0) pa_nil))))),?_⟩
  rcases h with ⟨rfl,q⟩ | ⟨n,rfl,h0,h1,q⟩
  ·exact⟨_,rfl,rfl,_,rfl,iteT q⟩
  ·exact⟨_,rfl,rfl,_,rfl,iteF ⟨_,rfl,n,rfl,lgB h0 h1,q⟩⟩
theorem p54:(10:Int) ^ 500≤10 ^ 4000:=by decide +kernel
noncomputable def xR (ns:List Int):Str:=if ns=[] then "none" else Txt.join " " (ns.map txt)
theorem Kg {ns:List Int} (h:∀n∈ns,0≤n∧n<10 ^ 500):((ns.map txt).map (·.length)).sum≤ns.length*500:=by
 induction ns with
 | nil=>exact Nat.le_refl _
 | cons n r ih=>
  have h1:=h n (List.mem_cons_self ..)
  have h2:=(ZD (k:=500) (by decide) h1.1 h1.2).le
  have h3:=ih fun m hm=>h m (List.mem_cons_of_mem _ hm)
  simp only [List.map_cons,List.sum_cons,List.length_cons]
  omega
theorem Jo (ns:List Int):(List.range (ns.map V.int).length).map (fun i=>V.str (txt (ns.getD i 0)))=(ns.map txt).map V.str:=by
 apply List.ext_getElem
 ·simp
 ·intro i h1 h2
  simp at h1 h2
  simp [List.getD_eq_getElem?_getD,h2]
noncomputable def yL (K:PySem.W.Frag):Sp:=fun vs H Q _=>∃(a:Addr) (ns:List Int),vs=[.ref a]∧SqL K H a (ns.map V.int)∧ns.length≤30000∧(∀n∈ns,0≤n∧n<10 ^ 500)∧∀H',Same H H'→Q (.str (xR ns)) H'
theorem WM:FnScope ["turns"] ["turns"] (defScope vI):=⟨rfl,rfl,rfl,by decide +kernel,rfl,by decide +kernel,by decide +kernel⟩
theorem WN (ND:NoDig K) (D:Def K mg "turns_told" vI ["turns"]) (T:Txt K mg):Fn P w K mg base 1 "turns_told" ["turns"] (yL K):=by
 refine D.fn WM (fun vs H Q E h=>?_) (fun f cdv A outer s H vs Q E hr h=>?_)
 ·obtain⟨a,ns,rfl,_⟩:=h
  rfl
 ·obtain⟨a,ns,rfl,hS,nl,nb,q⟩:=h
  refine⟨_,(pss_one (ps_ret (pe_ifExp (pt_truth (pv 0) (fun _=>rfl)) (pe_bm PySem.F.plainAttrs_str PySem.F.slot_str_join PySem.F.type_str_join Kd pe_str (pa_cons (yc (own:=["turn"]) (fr:=[]) (ix:=[]) rfl ⟨rfl,rfl,rfl,rfl,rfl,rfl⟩ (pi_list (pv 0)) (fun _ _ _ _ _=>(pg_name (i:=0) (show (["turn"]:List Str).Nodup by decide +kernel) rfl (Or.inl rfl))) (fun _ _ _ _ _=>xX) (fun _ _ _ _ _=>(pe_callTy (wQ ND) (by rfl) T.z_str Xv (pa_cons (pv 0) pa_nil)))) pa_nil)) pe_str))),?_⟩
  refine⟨_,rfl,_,.inl ⟨_,hS,rfl⟩,?_⟩
  cases ns with
  | nil=>exact iteF (by have:=q H (Same.refl _);exact this)
  | cons n0 r=>
   refine iteT ⟨rfl,_,rfl,a,rfl,⟨_,hS⟩,fun acc hacc=>wO (K:=K) (a:=a) (xs:=(n0::r).map V.int) (fun i=>V.str (txt ((n0::r).getD i 0))) hS hacc (by rw [List.length_map,sizeLine_eq];omega) (fun i x H6 R hx s6 hR=>?_) ?_⟩
   ·rw [List.getElem?_map] at hx
    obtain⟨n,hn,rfl⟩:=Option.map_eq_some_iff.mp hx
    have b:=nb n (List.mem_of_getElem? hn)
    simp only [List.getD_eq_getElem?_getD,hn,Option.getD_some] at hR
    exact⟨rfl,_,rfl,n,rfl,lgB b.1 (Int.lt_of_lt_of_le b.2 p54),hR⟩
   ·have e:=Jo (n0::r)
    rw [e]
    refine⟨" ",acc,(n0::r).map txt,rfl,rfl,SqL.of upd_same,?_,?_⟩
    ·have h1:=Kg nb
     have h2:(" ":Str).length=1:=by decide +kernel
     rw [h2,List.length_map]
     omega
    ·have:=q _ (Same.new (o:=.lst (((n0::r).map txt).map V.str)) hacc)
     unfold xR at this
     rw [if_neg (by simp)] at this
     exact this
end
noncomputable def fl3 (t b l:Int):List (Str×V):=[("turns",.int t),("bells",.int b),("late",.int l)]
theorem zdT:¬(("turns":Str)="bells"):=by decide +kernel
theorem zfm:¬(("turns":Str)="late"):=by decide +kernel
theorem zfn:¬(("bells":Str)="turns"):=by decide +kernel
theorem zfo:¬(("bells":Str)="late"):=by decide +kernel
theorem zfp:¬(("late":Str)="turns"):=by decide +kernel
theorem zfq:¬(("late":Str)="bells"):=by decide +kernel
theorem Qd (t b l:Int):(fl3 t b l).lookup ("turns":Str)=some (V.int t):=by
 unfold fl3
 simp only [List.lookup_cons,beq_self_eq_true]
theorem Qe (t b l:Int):(fl3 t b l).lookup ("bells":Str)=some (V.int b):=by
 unfold fl3
 simp only [List.lookup_cons,show (("bells":Str) == "turns")=false from beq_eq_false_iff_ne.mpr zfn,beq_self_eq_true]
theorem Jp (t b l:Int):(fl3 t b l).lookup ("late":Str)=some (V.int l):=by
 unfold fl3
 simp only [List.lookup_cons,show (("late":Str) == "turns")=false from beq_eq_false_iff_ne.mpr zfp,show (("late":Str) == "bells")=false from beq_eq_false_iff_ne.mpr zfq,beq_self_eq_true]
theorem put3 (t b l:Int):putF "late" (V.int l) (putF "bells" (V.int b) (putF "turns" (V.int t) []))=fl3 t b l:=by
 unfold fl3
 simp only [putF,if_neg zdT,if_neg zfm,if_neg zfo]
noncomputable def fr1 (d:Addr):List (Str×V):=[("frames",.ref d)]
theorem JW (d:Addr):(fr1 d).lookup ("frames":Str)=some (V.ref d):=by
 unfold fr1
 simp only [List.lookup_cons,beq_self_eq_true]
theorem Zk {d:Addr}{m:Str} (h:¬m="frames"):(fr1 d).lookup m=none:=by
 unfold fr1
 simp only [List.lookup_cons,List.lookup_nil,beq_eq_false_iff_ne.mpr h]
noncomputable def xO (x:Addr) (H H':Hp):Prop:=∀a o,H a=some o→a≠x→H' a=some o
theorem xO.of {x:Addr} {H H':Hp} (s:Same H H'):xO x H H':=fun a o h _=>s a o h
theorem xO.trans {x:Addr} {H H' H2:Hp} (s:xO x H H') (s2:xO x H' H2):xO x H H2:=fun a o h n=>s2 a o (s a o h n) n
theorem xO.put {x:Addr} {H H':Hp}{o:HO} (s:xO x H H'):xO x H (upd H' x o):=fun a v h n=>by rw [upd_ne n];exact s a v h n
theorem xO.new {x p:Addr} {H H':Hp}{o:HO} (s:xO x H H') (hp:H' p=none):xO x H (upd H' p o):=fun a v h n=>(Same.new hp) a v (s a v h n)
structure DkT (K:PySem.W.Frag) (CD CF:Addr):Prop where
 cd:Cls K CD
 cf:Cls K CF
 n1:NoAttr K CF "turns"
 n2:NoAttr K CF "bells"
 n3:NoAttr K CF "late"
 n4:NoAttr K CD "frames"
structure Vn (t b l:Int):Prop where
 t0:0≤t
 t1:t<10 ^ 60
 b0:0≤b
 b1:b≤60
 l0:0≤l
 l1:l<10 ^ 60
 c1:cnt t b l<10 ^ 500
 k1:yX t b l<10 ^ 500
theorem p60:(10:Int) ^ 60≤2 ^ 200:=by decide +kernel
theorem vz {x:Int} (h0:0≤x) (h1:x<10 ^ 60):intBits x≤200:=zJ h0 (Int.lt_of_lt_of_le h1 p60)
noncomputable def zeE (CF:Addr) (H:Hp) (p:Addr) (t b l:Int):Prop:=∃dx,H p=some (.ins CF dx (fl3 t b l))
structure jM (CD CF x d:Addr) (n:Nat) (fr:Str→Option (Int×Int×Int)) (H:Hp):Prop where
 self:∃dx,H x=some (.ins CD dx (fr1 d))
 dict:∃kvs,H d=some (.dK kvs)∧kvs.length≤n∧(∀nm,fr nm=none→valV kvs (Sum.inr nm)=none)∧∀nm t b l,fr nm=some (t,b,l)→∃p,valV kvs (Sum.inr nm)=some (.ref p)∧zeE CF H p t b l
 ok:∀nm t b l,fr nm=some (t,b,l)→Vn t b l
theorem jM.mono {CD CF x d:Addr}{n:Nat}{fr:Str→Option (Int×Int×Int)} {H H':Hp} (s:Same H H') (h:jM CD CF x d n fr H):jM CD CF x d n fr H':=by
 obtain⟨⟨dx,h1⟩,⟨kvs,h2,h3,h4,h5⟩,h6⟩:=h
 exact⟨⟨dx,s _ _ h1⟩,⟨kvs,s _ _ h2,h3,h4,fun nm t b l e=>(h5 nm t b l e).imp fun p hp=>⟨hp.1,hp.2.imp fun dx h=>s _ _ h⟩⟩,h6⟩
theorem zbr {κ:Type} [DecidableEq κ] (kvs:List (κ×V)) (k:κ) (v:V):(putK kvs k v).length≤kvs.length+1:=by
 unfold putK
 split <;> simp
section
variable {P:Program}{w:World}{K:PySem.W.Frag}{mg:Str→Option Value}{base:Heap}{CD CF:Addr}
noncomputable def KQ (CF:Addr):Sp:=fun vs H Q _=>∃(x dx:Addr) (t b l:Int),vs=[.ref x,.int t,.int b,.int l]∧H x=some (.ins CF dx [])∧∀H',xO x H H'→H' x=some (.ins CF dx (fl3 t b l))→Q .non H'
theorem WP:FnScope ["self","turns","bells","late"] ["self","turns","bells","late"] (defScope jT):=⟨rfl,rfl,rfl,by decide +kernel,rfl,by decide +kernel,by decide +kernel⟩
theorem zc9 {f:Addr}{fd:FuncData} (F:Js K "__init__" "Frame.__init__" jT f fd) (hT:DkT K CD CF):FnOk P w K mg base CX0 1 f fd ["self","turns","bells","late"] (KQ CF):=by
 refine F.ok WP (fun vs H Q E h=>?_) (fun cdv A outer s H vs Q E hr h=>?_)
 ·obtain⟨x,dx,t,b,l,rfl,_⟩:=h
  rfl
 ·obtain⟨x,dx,t,b,l,rfl,hx,q⟩:=h
  refine⟨_,(pss_cons (ps_fld (pv 0) (pv 1) rfl)
   (pss_cons (ps_fld (pv 0) (pv 2) rfl)
   (pss_one (ps_fld (pv 0) (pv 3) rfl)))),?_⟩
  refine⟨_,rfl,_,rfl,x,CF,dx,_,rfl,hx,hT.cf,hT.n1,(by show 0<1000;decide),?_⟩
  refine⟨_,rfl,_,rfl,x,CF,dx,_,rfl,upd_same,hT.cf,hT.n2,(by show 1<1000;decide),?_⟩
  refine⟨_,rfl,_,rfl,x,CF,dx,_,rfl,upd_same,hT.cf,hT.n3,(by simp only [putF,if_neg zdT];show 2<1000;decide),?_⟩
  rw [put3]
  exact q _ ((xO.of (Same.refl _)).put.put.put) upd_same
noncomputable def zbs (CD CF:Addr):Sp:=fun vs H Q _=>∃(x dx:Addr),vs=[.ref x]∧H x=some (.ins CD dx [])∧∀d H',xO x H H'→H d=none→jM CD CF x d 0 (fun _=>none) H'→Q .non H'
theorem zaK:FnScope ["self"] ["self"] (defScope j5):=⟨rfl,rfl,rfl,by decide +kernel,rfl,by decide +kernel,by decide +kernel⟩
theorem zda {f:Addr}{fd:FuncData} (F:Js K "__init__" "Desk.__init__" j5 f fd) (hT:DkT K CD CF):FnOk P w K mg base CX0 1 f fd ["self"] (zbs CD CF):=by
 refine F.ok zaK (fun vs H Q E h=>?_) (fun cdv A outer s H vs Q E hr h=>?_)
 ·obtain⟨x,dx,rfl,_⟩:=h
  rfl
 ·obtain⟨x,dx,rfl,hx,q⟩:=h
  refine⟨_,(pss_one (ps_fld (pv 0) pe_dnewK rfl)),?_⟩
  refine fun d hd=>⟨_,rfl,x,CD,dx,_,rfl,(Same.new hd) _ _ hx,hT.cd,hT.n4,(by show 0<1000;decide),?_⟩
  have nd:d≠x:=fun e=>by rw [e,hx] at hd;cases hd
  refine q d _ ((xO.of (Same.new hd)).put) hd ⟨⟨dx,upd_same⟩,⟨[],by rw [upd_ne nd,upd_same],Nat.le_refl _,fun _ _=>rfl,fun _ _ _ _ e=>nomatch e⟩,fun _ _ _ _ e=>nomatch e⟩
noncomputable def Y6 (CF:Addr):Sp:=fun vs H Q _=>∃(p:Addr) (t b l:Int),vs=[.ref p]∧zeE CF H p t b l∧Vn t b l∧Q (.int (cnt t b l)) H
theorem zbt:FnScope ["frame"] ["frame"] (defScope yI):=⟨rfl,rfl,rfl,by decide +kernel,rfl,by decide +kernel,by decide +kernel⟩
theorem zbu (D:Def K mg "count_of" yI ["frame"]) (hT:DkT K CD CF) (qT:Fn P w K mg base 2 "box_count" ["turns","bells","late"] Qj):Fn P w K mg base 3 "count_of" ["frame"] (Y6 CF):=by
 refine D.fn zbt (fun vs H Q E h=>?_) (fun f cdv A outer s H vs Q E hr h=>?_)
 ·obtain⟨p,t,b,l,rfl,_⟩:=h
  rfl
 ·obtain⟨p,t,b,l,rfl,⟨dx,hx⟩,ok,q⟩:=h
  refine⟨_,(pss_one (ps_ret (zA qT (hr.mono (by decide)) (by rfl) (pa_cons (pe_fld (pv 0) rfl) (pa_cons (pe_fld (pv 0) rfl) (pa_cons (pe_fld (pv 0) rfl) pa_nil)))))),?_⟩
  exact⟨_,rfl,p,CF,dx,_,_,rfl,hx,hT.cf,hT.n1,Qd ..,_,rfl,p,CF,dx,_,_,rfl,hx,hT.cf,hT.n2,Qe ..,_,rfl,p,CF,dx,_,_,rfl,hx,hT.cf,hT.n3,Jp ..,t,b,l,rfl,ok.b0,Int.le_trans ok.b1 (by decide),ok.l0,zm (vz ok.l0 ok.l1) (by decide),zm (vz ok.t0 ok.t1) (by decide),q⟩
noncomputable def KR (CD CF CN:Addr):Sp:=fun vs H Q E=>∃(x d:Addr) (n:Nat) (fr:Str→Option (Int×Int×Int)) (nm:Str),vs=[.ref x,.str nm]∧jM CD CF x d n fr H∧(fr nm=none→E (.ref CN) none H)∧∀t b l,fr nm=some (t,b,l)→∀p,zeE CF H p t b l→Q (.ref p) H
theorem zaL:FnScope ["self","name"] ["self","name"] (defScope j9):=⟨rfl,rfl,rfl,by decide +kernel,rfl,by decide +kernel,by decide +kernel⟩
theorem zeF {f:Addr}{fd:FuncData} (F:Js K "kept" "Desk.kept" j9 f fd) (hT:DkT K CD CF){zf:Addr} (jF:mg "NoName"=some (.ref zf)) (jC:PySem.W.excIn K zf bmV "ValueError.__new__"=true):FnOk P w K mg base (CXE P w) 1 f fd ["self","name"] (KR CD CF zf):=by
 refine F.okE zaL (fun vs H Q E h=>?_) (fun cdv A outer s H vs Q E hr h=>?_)
 ·obtain⟨x,d,n,fr,nm,rfl,_⟩:=h
  rfl
 ·obtain⟨x,d,n,fr,nm,rfl,⟨⟨dx,hx⟩,⟨kvs,hd,_,k1,k2⟩,_⟩,q1,q2⟩:=h
  refine⟨_,(pss_cons (ps_if (pt_cmp (pc_dnotin (hu_of hr) (pv 1) (pe_fld (pv 0) rfl)))
    (pss_one (jV PySem.F.excBase_ValueError jC (by rfl) jF (pa_cons pe_str pa_nil)))
    pss_nil)
   (pss_one (ps_ret (pe_dget (hu_of hr) (pe_fld (pv 0) rfl) (pv 1) (fun _ _=>rfl))))),?_⟩
  refine⟨_,rfl,_,rfl,x,CD,dx,_,_,rfl,hx,hT.cd,hT.n4,JW d,d,_,rfl,DGet.k (k:=Sum.inr nm) hd,?_⟩
  cases e:fr nm with
  | none=>
   rw [k1 nm e]
   exact⟨_,rfl,iteT ⟨(by decide),q1 e⟩⟩
  | some z=>
   obtain⟨t,b,l⟩:=z
   obtain⟨p,hp,ip⟩:=k2 nm t b l e
   rw [hp]
   refine⟨_,rfl,iteF ⟨_,rfl,x,CD,dx,_,_,rfl,hx,hT.cd,hT.n4,JW d,_,rfl,d,V.ref p,rfl,?_,q2 t b l e p ip⟩⟩
   have:=DGet.k (k:=Sum.inr nm) hd
   rw [hp] at this
   exact this
end
noncomputable def Jw (fr:Str→Option (Int×Int×Int)) (nm:Str) (z:Int×Int×Int):Str→Option (Int×Int×Int):=fun m=>if m=nm then some z else fr m
section
variable {P:Program}{w:World}{K:PySem.W.Frag}{mg:Str→Option Value}{base:Heap}{CD CF:Addr}
structure zbv (w1 w2 w3 w4:Str):Prop where
 a:qD w1
 b:Num 60 w2
 c:Vl w3
 d:Num 60 w4
noncomputable def zca (CD CF CO:Addr):Sp:=fun vs H Q E=>∃(x a d:Addr) (n:Nat) (fr:Str→Option (Int×Int×Int)) (w0 w1 w2 w3 w4:Str),vs=[.ref x,.ref a]∧jM CD CF x d n fr H∧n<1000∧H a=some (.lst ([w0,w1,w2,w3,w4].map V.str))∧w1.length≤1000000∧w2.length≤1000000∧w3.length≤1000000∧w4.length≤1000000 ∧
 (¬zbv w1 w2 w3 w4→∀H',Same H H'→E (.ref CO) none H')∧(zbv w1 w2 w3 w4→Vn (jh w2) (jh w3) (jh w4)∧∀H',xO d H H'→jM CD CF x d (n+1) (Jw fr w1 (jh w2,jh w3,jh w4)) H'→Q (.str ("messages "++txt (cnt (jh w2) (jh w3) (jh w4)))) H')
theorem Za:FnScope ["self","words","name","frame","count"] ["self","words"] (defScope j7):=⟨rfl,rfl,rfl,by decide +kernel,rfl,by decide +kernel,by decide +kernel⟩
theorem zeG {f:Addr}{fd:FuncData} (ND:NoDig K) (F:Js K "keep" "Desk.keep" j7 f fd) (hT:DkT K CD CF){zg:Addr} (xj:mg "Frame"=some (.ref CF)) (jE:FnE P w K mg base 2 "name_in" ["word"] (XS zg)) (jA:FnE P w K mg base 3 "number_in" ["word"] (Vk zg 60)) (Q6:FnE P w K mg base 4 "bells_in" ["word"] (zbn zg)) (KY:MkX CX0 P w K mg base 1 CF ["self","turns","bells","late"] (KQ CF)) (JX:Fn P w K mg base 3 "count_of" ["frame"] (Y6 CF)):FnOk P w K mg base (CXE P w) 5 f fd ["self","words"] (zca CD CF zg):=by
 refine F.okE Za (fun vs H Q E h=>?_) (fun cdv A outer s H vs Q E hr h=>?_)
 ·obtain⟨x,a,d,n,fr,w0,w1,w2,w3,w4,rfl,_⟩:=h
  rfl
 ·obtain⟨x,a,d,n,fr,w0,w1,w2,w3,w4,rfl,hD,hn,hA,l1,l2,l3,l4,q2,q1⟩:=h
  refine⟨_,(pss_cons (ps_set (i:=2) Za.nd rfl (Or.inl rfl) (jj jE (hr.mono (by decide)) (by rfl) qC (pa_cons (pe_ix ix_list (pv 1) pe_int (fun _ _=>rfl)) pa_nil)))
   (pss_cons (ps_set (i:=3) Za.nd rfl (Or.inl rfl) (zi8 KY (hr.mono (by decide)) (by rfl) xj (pa_cons (jj jA (hr.mono (by decide)) (by rfl) qC (pa_cons (pe_ix ix_list (pv 1) pe_int (fun _ _=>rfl)) pa_nil)) (pa_cons (jj Q6 (hr.mono (by decide)) (by rfl) qC (pa_cons (pe_ix ix_list (pv 1) pe_int (fun _ _=>rfl)) pa_nil)) (pa_cons (jj jA (hr.mono (by decide)) (by rfl) qC (pa_cons (pe_ix ix_list (pv 1) pe_int (fun _ _=>rfl)) pa_nil)) pa_nil)))))
   (pss_cons (ps_dput (hu_of hr) (pe_fld (pv 0) rfl) (pv 2) (pv 3) rfl)
   (pss_cons (ps_set (i:=4) Za.nd rfl (Or.inl rfl) (zA JX (hr.mono (by decide)) (by rfl) (pa_cons (pv 3) pa_nil)))
   (pss_one (ps_ret (zi9 (.cons pe_str (.cons (zeA ND (pv 4)) .nil))))))))),?_⟩
  refine⟨_,rfl,a,_,1,_,rfl,rfl,SqL.of hA,rfl,w1,rfl,l1,fun g1 H1 s1=>?_,fun g1 H1 s1=>q2 (fun z=>g1 z.a) H1 s1⟩
  have hA1:=s1 _ _ hA
  refine⟨_,rfl,a,_,2,_,rfl,rfl,SqL.of hA1,rfl,w2,rfl,l2,fun g2 H2 s2=>?_,fun g2 H2 s2=>q2 (fun z=>g2 z.b) H2 (s1.trans s2)⟩
  have hA2:=s2 _ _ hA1
  refine⟨_,rfl,a,_,3,_,rfl,rfl,SqL.of hA2,rfl,w3,rfl,l3,fun g3 H3 s3=>?_,fun g3 H3 s3=>q2 (fun z=>g3 z.c) H3 ((s1.trans s2).trans s3)⟩
  have hA3:=s3 _ _ hA2
  refine⟨_,rfl,a,_,4,_,rfl,rfl,SqL.of hA3,rfl,w4,rfl,l4,fun g4 H4 s4=>?_,fun g4 H4 s4=>q2 (fun z=>g4 z.d) H4 (((s1.trans s2).trans s3).trans s4)⟩
  have s04:=((s1.trans s2).trans s3).trans s4
  obtain⟨ok,q1⟩:=q1 ⟨g1,g2,g3,g4⟩
  refine fun p dx hp hdx ne=>⟨p,dx,_,_,_,rfl,upd_same,fun H5 s5 h5=>⟨rfl,?_⟩⟩
  have s45:Same H4 H5:=fun c o hc=>by
   have n1:c≠p:=fun e=>by rw [e,hp] at hc;cases hc
   have n2:c≠dx:=fun e=>by rw [e,hdx] at hc;cases hc
   exact s5 c o (by rw [upd_ne n1,upd_ne n2];exact hc) n1
  have s05:=s04.trans s45
  obtain⟨⟨dd,hx⟩,⟨kvs,hd,kl,k1,k2⟩,fo⟩:=hD.mono s05
  have np:p≠d:=fun e=>by
   obtain⟨kv0,hd0,_⟩:=hD.dict
   have:=s04 _ _ hd0
   rw [← e,hp] at this
   cases this
  refine⟨_,rfl,_,rfl,x,CD,dd,_,_,rfl,hx,hT.cd,hT.n4,JW d,_,rfl,d,_,rfl,DPut.k (k:=Sum.inr w1) hd (by rw [sizeLine_eq];omega),?_⟩
  have nx:x≠d:=fun e=>by rw [e,hd] at hx;cases hx
  have hp6:(upd H5 d (.dK (putK kvs (Sum.inr w1) (V.ref p)))) p=some (.ins CF dx (fl3 (jh w2) (jh w3) (jh w4))):=by rw [upd_ne np];exact h5
  refine⟨_,rfl,p,_,_,_,rfl,⟨dx,hp6⟩,ok,?_⟩
  have c0:=Qk (jh w2) (jh w3) (jh w4)
  have em:Str.empty++("messages ":Str)="messages ":=by decide +kernel
  have lm:("messages ":Str).length=9:=by decide +kernel
  have lc:("messages "++txt (cnt (jh w2) (jh w3) (jh w4))).length≤sizeLine:=by
   have h2:=(ZD (k:=500) (by decide) c0 ok.c1).le
   rw [← jz,xY,List.length_append,jz,jz,lm,sizeLine_eq]
   omega
  refine⟨"messages ",rfl,by rw [em,lm,sizeLine_eq];decide,_,rfl,_,rfl,lgB c0 (Int.lt_of_lt_of_le ok.c1 p54),txt (cnt (jh w2) (jh w3) (jh w4)),rfl,by rw [em];exact lc,by rw [em];exact lc,?_⟩
  rw [em]
  refine q1 _ ((xO.of s05).put) ⟨⟨dd,by rw [upd_ne nx];exact hx⟩,⟨_,upd_same,?_,fun nm e=>?_,fun nm t b l e=>?_⟩,fun nm t b l e=>?_⟩
  ·have:=zbr kvs (Sum.inr w1) (V.ref p)
   omega
  ·unfold Jw at e
   split at e
   ·cases e
   ·rename_i h
    rw [valV_put,if_neg (fun z=>h (Sum.inr.inj z))]
    exact k1 nm e
  ·unfold Jw at e
   rw [valV_put]
   split at e
   ·rename_i h
    cases e
    rw [if_pos (by rw [h])]
    exact⟨p,rfl,dx,hp6⟩
   ·rename_i h
    rw [if_neg (fun z=>h (Sum.inr.inj z))]
    obtain⟨r,hr1,dr,hr2⟩:=k2 nm t b l e
    have nr:r≠d:=fun z=>by rw [z,hd] at hr2;cases hr2
    exact⟨r,hr1,dr,by rw [upd_ne nr];exact hr2⟩
  ·unfold Jw at e
   split at e
   ·cases e
    exact ok
   ·exact fo nm t b l e
end
theorem zeH (x y:V) (r:List V):cutV (x::y::r) (some 2) none=r:=by
 unfold cutV
 have e:HT.sIx (x::y::r).length 0 (some 2)=min 2 (x::y::r).length:=HT.sIx_nat ..
 rw [e]
 show ((x::y::r).drop (min 2 (r.length+2))).take ((r.length+2)-min 2 (r.length+2))=r
 rw [show min 2 (r.length+2)=2 by omega]
 exact List.take_of_length_le (Nat.le_refl _)
theorem zje:(10:Int) ^ 3000≤2 ^ 10000:=by decide +kernel
theorem zdb:(10:Int) ^ 60≤10 ^ 500:=by decide +kernel
section
variable {P:Program}{w:World}{K:PySem.W.Frag}{mg:Str→Option Value}{base:Heap}{CD CF:Addr}
noncomputable def zcb (CD CF CO CN CT:Addr):Sp:=fun vs H Q E=>∃(x a d:Addr) (n:Nat) (fr:Str→Option (Int×Int×Int)) (w0 w1 w2:Str),vs=[.ref x,.ref a]∧jM CD CF x d n fr H∧H a=some (.lst ([w0,w1,w2].map V.str))∧w1.length≤1000000∧w2.length≤1000000 ∧
 (¬(qD w1∧Num 3000 w2)→∀H',Same H H'→E (.ref CO) none H')∧(qD w1→Num 3000 w2→fr w1=none→∀H',Same H H'→E (.ref CN) none H') ∧
 (qD w1→Num 3000 w2→∀t b l,fr w1=some (t,b,l) →
  (w0="key"→(jh w2<yX t b l→∀bs H',Same H H'→jn bs→bs.length=(b-1).toNat→xZ bs=jh w2→Szs 60010 bs→Q (.str (xR (ZP l bs))) H')∧(¬jh w2<yX t b l→∀H',Same H H'→E (.ref CT) none H')) ∧
  (w0≠"key"→(jh w2<cnt t b l→∀bs H',Same H H'→jn bs→bs.length=b.toNat→xZ bs=jh w2→Szs 60010 bs→Q (.str (xR (jY l bs))) H')∧(¬jh w2<cnt t b l→∀H',Same H H'→E (.ref CT) none H')))
theorem Zb:FnScope ["self","words","name","message","frame"] ["self","words"] (defScope j8):=⟨rfl,rfl,rfl,by decide +kernel,rfl,by decide +kernel,by decide +kernel⟩
theorem zeI {f:Addr}{fd:FuncData} (F:Js K "ring" "Desk.ring" j8 f fd) (hT:DkT K CD CF){zg zf zb:Addr} (jE:FnE P w K mg base 2 "name_in" ["word"] (XS zg)) (ZQ:FnE P w K mg base 3 "message_in" ["word"] (Vk zg 3000)) (Zc:MtE P w K mg base 1 CD "kept" ["self","name"] (KR CD CF zf)) (xg:FnE P w K mg base 40 "written" ["message","turns","bells","late"] (Zj K zb)) (Qf:FnE P w K mg base 41 "keyed" ["message","turns","bells","late"] (XN K zb)) (xm:Fn P w K mg base 1 "turns_told" ["turns"] (yL K)):FnOk P w K mg base (CXE P w) 45 f fd ["self","words"] (zcb CD CF zg zf zb):=by
 refine F.okE Zb (fun vs H Q E h=>?_) (fun cdv A outer s H vs Q E hr h=>?_)
 ·obtain⟨x,a,d,n,fr,w0,w1,w2,rfl,_⟩:=h
  rfl
 ·obtain⟨x,a,d,n,fr,w0,w1,w2,rfl,hD,hA,l1,l2,q1,q2,q3⟩:=h
  refine⟨_,(pss_cons (ps_set (i:=2) Zb.nd rfl (Or.inl rfl) (jj jE (hr.mono (by decide)) (by rfl) qC (pa_cons (pe_ix ix_list (pv 1) pe_int (fun _ _=>rfl)) pa_nil)))
   (pss_cons (ps_set (i:=3) Zb.nd rfl (Or.inl rfl) (jj ZQ (hr.mono (by decide)) (by rfl) qC (pa_cons (pe_ix ix_list (pv 1) pe_int (fun _ _=>rfl)) pa_nil)))
   (pss_cons (ps_set (i:=4) Zb.nd rfl (Or.inl rfl) (QT (pv 0) Zc (hr.mono (by decide)) qC (pa_cons (pv 2) pa_nil)))
   (pss_cons (ps_if (pt_cmpR op_eq (pe_ix ix_list (pv 1) pe_int (fun _ _=>rfl)) pe_str (nomark _))
    (pss_one (ps_ret (zA xm (hr.mono (by decide)) (by rfl) (pa_cons (jj Qf (hr.mono (by decide)) (by rfl) qC (pa_cons (pv 3) (pa_cons (pe_fld (pv 4) rfl) (pa_cons (pe_fld (pv 4) rfl) (pa_cons (pe_fld (pv 4) rfl) pa_nil))))) pa_nil))))
    pss_nil)
   (pss_one (ps_ret (zA xm (hr.mono (by decide)) (by rfl) (pa_cons (jj xg (hr.mono (by decide)) (by rfl) qC (pa_cons (pv 3) (pa_cons (pe_fld (pv 4) rfl) (pa_cons (pe_fld (pv 4) rfl) (pa_cons (pe_fld (pv 4) rfl) pa_nil))))) pa_nil)))))))),?_⟩
  refine⟨_,rfl,a,_,1,_,rfl,rfl,SqL.of hA,rfl,w1,rfl,l1,fun g1 H1 s1=>?_,fun g1 H1 s1=>q1 (fun z=>g1 z.1) H1 s1⟩
  have hA1:=s1 _ _ hA
  refine⟨_,rfl,a,_,2,_,rfl,rfl,SqL.of hA1,rfl,w2,rfl,l2,fun g2 H2 s2=>?_,fun g2 H2 s2=>q1 (fun z=>g2 z.2) H2 (s1.trans s2)⟩
  have s02:=s1.trans s2
  have hD2:=hD.mono s02
  have hA2:=s2 _ _ hA1
  obtain⟨dx,hx⟩:=hD2.self
  refine⟨_,rfl,x,dx,_,rfl,hx,Zk (by decide +kernel),_,rfl,x,d,n,fr,w1,rfl,hD2,fun e=>q2 g1 g2 e H2 s02,fun t b l e p ip=>?_⟩
  obtain⟨pdx,hp⟩:=ip
  have ok:=hD.ok w1 t b l e
  obtain⟨qk,qw⟩:=q3 g1 g2 t b l e
  have m0:=Kf w2
  have mb:intBits (jh w2)≤50000:=zm (zJ m0 (Int.lt_of_lt_of_le (zaq g2) zje)) (by decide)
  refine⟨_,rfl,a,_,0,_,rfl,rfl,SqL.of hA2,rfl,rfl,_,rfl,ifD (fun z=>?_) (fun z=>?_)⟩
  ·obtain⟨q4,q5⟩:=qk (V.str.inj z)
   refine⟨_,rfl,_,rfl,p,CF,pdx,_,_,rfl,hp,hT.cf,hT.n1,Qd ..,_,rfl,p,CF,pdx,_,_,rfl,hp,hT.cf,hT.n2,Qe ..,_,rfl,p,CF,pdx,_,_,rfl,hp,hT.cf,hT.n3,Jp ..,jh w2,t,b,l,rfl,ok.b0,ok.b1,ok.l0,zm (vz ok.l0 ok.l1) (by decide),ok.t0,zm (vz ok.t0 ok.t1) (by decide),mb,fun g r bs H3 s3 _ h3 B bl nb sz=>?_,fun g=>q5 (fun y=>g ⟨m0,y⟩) H2 s02⟩
   obtain⟨bz,tz,mlt⟩:=zaG g.1 g.2
   have b0:=ok.b0
   have t0:=ok.t0
   have eb:(bs.length:Int)=b-1:=by omega
   refine⟨r,ZP l bs,rfl,SqL.of h3,by rw [Q5];have:=ok.b1;omega,fun y hy=>?_,fun H4 s4=>q4 g.2 bs H4 ((s02.trans s3).trans s4) B bl nb sz⟩
   obtain⟨i,hi⟩:=List.getElem?_of_mem hy
   obtain⟨k1,k2,_⟩:=zbm ok.l0 B (by rw [nb,eb];exact mlt) (by omega) hi
   exact⟨by omega,Int.lt_trans k1 (Int.lt_of_lt_of_le ok.t1 zdb)⟩
  ·obtain⟨q4,q5⟩:=qw (fun y=>z (by rw [y]))
   refine⟨_,rfl,_,rfl,p,CF,pdx,_,_,rfl,hp,hT.cf,hT.n1,Qd ..,_,rfl,p,CF,pdx,_,_,rfl,hp,hT.cf,hT.n2,Qe ..,_,rfl,p,CF,pdx,_,_,rfl,hp,hT.cf,hT.n3,Jp ..,jh w2,t,b,l,rfl,ok.b0,ok.b1,ok.l0,zm (vz ok.l0 ok.l1) (by decide),zm (vz ok.t0 ok.t1) (by decide),mb,fun g r bs H3 s3 _ h3 B bl nb sz=>?_,fun g=>q5 (fun y=>g ⟨m0,y⟩) H2 s02⟩
   have b0:=ok.b0
   have eb:(bs.length:Int)=b:=by omega
   refine⟨r,jY l bs,rfl,SqL.of h3,by rw [xf];have:=ok.b1;omega,fun y hy=>?_,fun H4 s4=>q4 g.2 bs H4 ((s02.trans s3).trans s4) B bl nb sz⟩
   obtain⟨k2,k1⟩:=zcz B ok.l0 (by rw [nb,eb];exact g.2) y hy
   exact⟨k2,Int.lt_trans k1 (Int.lt_of_lt_of_le ok.t1 zdb)⟩
noncomputable def KZ (CD CF CO CN CR:Addr) (NH:Sp):Sp:=fun vs H Q E=>∃(x a d:Addr) (n:Nat) (fr:Str→Option (Int×Int×Int)) (w0 w1:Str) (ws:List Str),vs=[.ref x,.ref a]∧jM CD CF x d n fr H∧H a=some (.lst ((w0::w1::ws).map V.str))∧w1.length≤1000000∧ws.length≤1000000∧(∀y∈ws,y.length≤1000000)∧(wX ws→(fr w1).isSome→w0="read"∨w0="unkey"→ws.length≤60) ∧
 (¬(qD w1∧wX ws)→∀H',Same H H'→E (.ref CO) none H')∧(qD w1→wX ws→fr w1=none→∀H',Same H H'→E (.ref CN) none H') ∧
 (qD w1→wX ws→∀t b l,fr w1=some (t,b,l) →
  (w0="read"→(GoodR t b l (ws.map jh)→∀H',Same H H'→Q (.str (txt (xZ (kZ l (ws.map jh))))) H')∧(¬GoodR t b l (ws.map jh)→∀H',Same H H'→E (.ref CR) none H')) ∧
  (w0="unkey"→(XQ t b l (ws.map jh)→∀H',Same H H'→Q (.str (txt (xZ (kZ (2*l) (unL l (ws.map jh)))))) H')∧(¬XQ t b l (ws.map jh)→∀H',Same H H'→E (.ref CR) none H')) ∧
  (w0≠"read"→w0≠"unkey"→∀r p H',Same H H'→H' r=some (.lst ((ws.map jh).map V.int))→zeE CF H' p t b l→NH [.ref r,.ref p] H' (fun v H2=>∃i j:Str,V.str "note "=.str i∧v=.str j∧i.length+j.length≤sizeLine∧Q (.str (i++j)) H2) (fun C _ H2=>E C none H2)))
theorem zcD {bs:List Int} (B:jn bs):0≤xZ bs:=vd bs _
theorem wD:FnScope ["self","words","name","reading","frame"] ["self","words"] (defScope jL):=⟨rfl,rfl,rfl,by decide +kernel,rfl,by decide +kernel,by decide +kernel⟩
theorem zdc {f:Addr}{fd:FuncData} (F:Js K "listen" "Desk.listen" jL f fd) (hT:DkT K CD CF){zg zf za:Addr}{NH:Sp} (jE:FnE P w K mg base 2 "name_in" ["word"] (XS zg)) (Q7:FnE P w K mg base 4 "turns_in" ["words"] (zbp K zg)) (Zc:MtE P w K mg base 1 CD "kept" ["self","name"] (KR CD CF zf)) (yZ:FnE P w K mg base 3 "read" ["reading","turns","bells","late"] (XJ K za)) (wY:FnE P w K mg base 4 "unkeyed" ["reading","turns","bells","late"] (Qm K za)) (yd:Fn P w K mg base 1 "number_told" ["number"] Vm) (ZR:FnE P w K mg base 44 "note_heard" ["reading","frame"] NH):FnOk P w K mg base (CXE P w) 45 f fd ["self","words"] (KZ CD CF zg zf za NH):=by
 refine F.okE wD (fun vs H Q E h=>?_) (fun cdv A outer s H vs Q E hr h=>?_)
 ·obtain⟨x,a,d,n,fr,w0,w1,ws,rfl,_⟩:=h
  rfl
 ·obtain⟨x,a,d,n,fr,w0,w1,ws,rfl,hD,hA,l1,l2,l3,l4,q1,q2,q3⟩:=h
  refine⟨_,(pss_cons (ps_set (i:=2) wD.nd rfl (Or.inl rfl) (jj jE (hr.mono (by decide)) (by rfl) qC (pa_cons (pe_ix ix_list (pv 1) pe_int (fun _ _=>rfl)) pa_nil)))
   (pss_cons (ps_set (i:=3) wD.nd rfl (Or.inl rfl) (jj Q7 (hr.mono (by decide)) (by rfl) qC (pa_cons (pe_slice sl_list (pv 1) (po_some pe_int) po_none) pa_nil)))
   (pss_cons (ps_set (i:=4) wD.nd rfl (Or.inl rfl) (QT (pv 0) Zc (hr.mono (by decide)) qC (pa_cons (pv 2) pa_nil)))
   (pss_cons (ps_if (pt_cmpR op_eq (pe_ix ix_list (pv 1) pe_int (fun _ _=>rfl)) pe_str (nomark _))
    (pss_one (ps_ret (zA yd (hr.mono (by decide)) (by rfl) (pa_cons (jj yZ (hr.mono (by decide)) (by rfl) qC (pa_cons (pv 3) (pa_cons (pe_fld (pv 4) rfl) (pa_cons (pe_fld (pv 4) rfl) (pa_cons (pe_fld (pv 4) rfl) pa_nil))))) pa_nil))))
    pss_nil)
   (pss_cons (ps_if (pt_cmpR op_eq (pe_ix ix_list (pv 1) pe_int (fun _ _=>rfl)) pe_str (nomark _))
    (pss_one (ps_ret (zA yd (hr.mono (by decide)) (by rfl) (pa_cons (jj wY (hr.mono (by decide)) (by rfl) qC (pa_cons (pv 3) (pa_cons (pe_fld (pv 4) rfl) (pa_cons (pe_fld (pv 4) rfl) (pa_cons (pe_fld (pv 4) rfl) pa_nil))))) pa_nil))))
    pss_nil)
   (pss_one (ps_ret (pe_op op_add_str pe_str (jj ZR (hr.mono (by decide)) (by rfl) qC (pa_cons (pv 3) (pa_cons (pv 4) pa_nil))))))))))),?_⟩
  refine⟨_,rfl,a,_,1,_,rfl,rfl,SqL.of hA,(show atI ((w0::w1::ws).map V.str) ((1:Nat):Int)=some (V.str w1) from atI_nat rfl),w1,rfl,l1,fun g1 H1 s1=>?_,fun g1 H1 s1=>q1 (fun z=>g1 z.1) H1 s1⟩
  have hA1:=s1 _ _ hA
  refine⟨_,rfl,_,rfl,_,_,rfl,SqL.of hA1,fun pc hpc=>?_⟩
  have ec:cutV ((w0::w1::ws).map V.str) (some 2) none=ws.map V.str:=zeH ..
  rw [ec]
  refine⟨pc,ws,rfl,SqL.of upd_same,l2,l3,fun g2 rp H2 s2 _ h2=>?_,fun g2 H2 s2=>q1 (fun z=>g2 z.2) H2 ((s1.trans (Same.new hpc)).trans s2)⟩
  have s02:=(s1.trans (Same.new (o:=.lst (ws.map V.str)) hpc)).trans s2
  have hD2:=hD.mono s02
  have hA2:=s02 _ _ hA
  obtain⟨dx,hx⟩:=hD2.self
  refine⟨_,rfl,x,dx,_,rfl,hx,Zk (by decide +kernel),_,rfl,x,d,n,fr,w1,rfl,hD2,fun e=>q2 g1 g2 e H2 s02,fun t b l e p ip=>?_⟩
  have ip':=ip
  obtain⟨pdx,hp⟩:=ip
  have ok:=hD.ok w1 t b l e
  obtain⟨qr,qu,qn⟩:=q3 g1 g2 t b l e
  have hb:Bd 200 (ws.map jh):=fun y hy=>by
   obtain⟨z,hz,rfl⟩:=List.mem_map.mp hy
   exact⟨Kf z,Int.lt_of_lt_of_le (zaq (g2.num z hz)) p60⟩
  refine⟨_,rfl,a,_,0,_,rfl,rfl,SqL.of hA2,(show atI ((w0::w1::ws).map V.str) ((0:Nat):Int)=some (V.str w0) from atI_nat rfl),rfl,_,rfl,ifD (fun z=>?_) (fun z=>?_)⟩
  ·obtain⟨q4,q5⟩:=qr (V.str.inj z)
   have wl:=l4 g2 (by rw [e];rfl) (.inl (V.str.inj z))
   refine⟨_,rfl,_,rfl,p,CF,pdx,_,_,rfl,hp,hT.cf,hT.n1,Qd ..,_,rfl,p,CF,pdx,_,_,rfl,hp,hT.cf,hT.n2,Qe ..,_,rfl,p,CF,pdx,_,_,rfl,hp,hT.cf,hT.n3,Jp ..,rp,ws.map jh,t,b,l,rfl,SqL.of h2,by rw [List.length_map];exact wl,ok.b0,ok.b1,ok.l0,zm (vz ok.l0 ok.l1) (by decide),zm (vz ok.t0 ok.t1) (by decide),zcA hb (by rw [List.length_map];omega) ok.l0,fun g H3 s3=>?_,fun g H3 s3=>q5 g H3 (s02.trans s3)⟩
   exact⟨_,rfl,.inr ⟨_,rfl,zcD g.2.1,Int.lt_of_lt_of_le (Int.lt_trans g.2.2 ok.c1) p54,q4 g H3 (s02.trans s3)⟩⟩
  ·refine⟨_,rfl,a,_,0,_,rfl,rfl,SqL.of hA2,(show atI ((w0::w1::ws).map V.str) ((0:Nat):Int)=some (V.str w0) from atI_nat rfl),rfl,_,rfl,ifD (fun z2=>?_) (fun z2=>?_)⟩
   ·obtain⟨q4,q5⟩:=qu (V.str.inj z2)
    have wl:=l4 g2 (by rw [e];rfl) (.inr (V.str.inj z2))
    refine⟨_,rfl,_,rfl,p,CF,pdx,_,_,rfl,hp,hT.cf,hT.n1,Qd ..,_,rfl,p,CF,pdx,_,_,rfl,hp,hT.cf,hT.n2,Qe ..,_,rfl,p,CF,pdx,_,_,rfl,hp,hT.cf,hT.n3,Jp ..,rp,ws.map jh,t,b,l,rfl,SqL.of h2,by rw [List.length_map];exact wl,ok.b0,ok.b1,ok.l0,zm (vz ok.l0 ok.l1) (by decide),ok.t0,zm (vz ok.t0 ok.t1) (by decide),zdR hb (by rw [List.length_map];omega) ok.l0 (Int.lt_of_lt_of_le ok.l1 p60),fun g H3 s3=>?_,fun g H3 s3=>q5 g H3 (s02.trans s3)⟩
    refine⟨_,rfl,.inr ⟨_,rfl,zcD g.2.2.2.2.1,Int.lt_of_lt_of_le (Int.lt_trans g.2.2.2.2.2 ?_) p54,q4 g H3 (s02.trans s3)⟩⟩
    have:=ok.k1
    unfold yX at this
    rw [if_neg g.1,if_neg g.2.1] at this
    exact this
   ·have q6:=qn (fun y=>z (by rw [y])) (fun y=>z2 (by rw [y])) rp p H2 s02 h2 ip'
    exact⟨_,rfl,_,rfl,q6⟩
end
section
variable {P:Program}{w:World}{K:PySem.W.Frag}{mg:Str→Option Value}{base:Heap}{CD CF:Addr}
noncomputable def zaM (K:PySem.W.Frag) (CD CF CO CN:Addr) (SN:Sp):Sp:=fun vs H Q E=>∃(x a d:Addr) (n:Nat) (fr:Str→Option (Int×Int×Int)) (w0 w1 w2:Str),vs=[.ref x,.ref a]∧jM CD CF x d n fr H∧H a=some (.lst ([w0,w1,w2].map V.str))∧w1.length≤1000000 ∧
 (¬qD w1→∀H',Same H H'→E (.ref CO) none H')∧(qD w1→fr w1=none→∀H',Same H H'→E (.ref CN) none H') ∧
 (qD w1→∀t b l,fr w1=some (t,b,l)→∀H',Same H H'→SN [.str w2,.int t,.int b,.int l] H' (fun v H2=>yL K [v] H2 Q E0) (fun C _ H2=>E C none H2))
theorem ZF:FnScope ["self","words","frame"] ["self","words"] (defScope jk):=⟨rfl,rfl,rfl,by decide +kernel,rfl,by decide +kernel,by decide +kernel⟩
theorem zbw {f:Addr}{fd:FuncData} (F:Js K "send_note" "Desk.send_note" jk f fd) (hT:DkT K CD CF){zg zf:Addr}{SN:Sp} (jE:FnE P w K mg base 2 "name_in" ["word"] (XS zg)) (Zc:MtE P w K mg base 1 CD "kept" ["self","name"] (KR CD CF zf)) (zaN:FnE P w K mg base 44 "sent" ["note","turns","bells","late"] SN) (xm:Fn P w K mg base 1 "turns_told" ["turns"] (yL K)):FnOk P w K mg base (CXE P w) 45 f fd ["self","words"] (zaM K CD CF zg zf SN):=by
 refine F.okE ZF (fun vs H Q E h=>?_) (fun cdv A outer s H vs Q E hr h=>?_)
 ·obtain⟨x,a,d,n,fr,w0,w1,w2,rfl,_⟩:=h
  rfl
 ·obtain⟨x,a,d,n,fr,w0,w1,w2,rfl,hD,hA,l1,q1,q2,q3⟩:=h
  refine⟨_,(pss_cons (ps_set (i:=2) ZF.nd rfl (Or.inl rfl) (QT (pv 0) Zc (hr.mono (by decide)) qC (pa_cons (jj jE (hr.mono (by decide)) (by rfl) qC (pa_cons (pe_ix ix_list (pv 1) pe_int (fun _ _=>rfl)) pa_nil)) pa_nil)))
   (pss_one (ps_ret (zA xm (hr.mono (by decide)) (by rfl) (pa_cons (jj zaN (hr.mono (by decide)) (by rfl) qC (pa_cons (pe_ix ix_list (pv 1) pe_int (fun _ _=>rfl)) (pa_cons (pe_fld (pv 2) rfl) (pa_cons (pe_fld (pv 2) rfl) (pa_cons (pe_fld (pv 2) rfl) pa_nil))))) pa_nil))))),?_⟩
  obtain⟨dx,hx⟩:=hD.self
  refine⟨_,rfl,x,dx,_,rfl,hx,Zk (by decide +kernel),_,rfl,a,_,1,_,rfl,rfl,SqL.of hA,rfl,w1,rfl,l1,fun g1 H1 s1=>?_,fun g1 H1 s1=>q1 g1 H1 s1⟩
  refine⟨x,d,n,fr,w1,rfl,hD.mono s1,fun e=>q2 g1 e H1 s1,fun t b l e p ip=>?_⟩
  obtain⟨pdx,hp⟩:=ip
  have hA1:=s1 _ _ hA
  exact⟨_,rfl,a,_,2,_,rfl,rfl,SqL.of hA1,rfl,_,rfl,p,CF,pdx,_,_,rfl,hp,hT.cf,hT.n1,Qd ..,_,rfl,p,CF,pdx,_,_,rfl,hp,hT.cf,hT.n2,Qe ..,_,rfl,p,CF,pdx,_,_,rfl,hp,hT.cf,hT.n3,Jp ..,q3 g1 t b l e H1 s1⟩
noncomputable def zdU (CD CO:Addr) (KP RG LS SN CT:Sp):Sp:=fun vs H Q E=>∃(x dx d:Addr) (o w0:Str) (ws:List Str),vs=[.ref x,.str o]∧H x=some (.ins CD dx (fr1 d))∧o.length+2≤sizeLine∧Txt.split o " "=w0::ws ∧
 (w0="frame"→ws.length=4→∀a H',Same H H'→H' a=some (.lst ((w0::ws).map V.str))→KP [.ref x,.ref a] H' Q (fun C _ H2=>E C none H2)) ∧
 (w0="write"∨w0="key"→ws.length=2→∀a H',Same H H'→H' a=some (.lst ((w0::ws).map V.str))→RG [.ref x,.ref a] H' Q (fun C _ H2=>E C none H2)) ∧
 (w0="read"∨w0="unkey"∨w0="hear"→1≤ws.length→∀a H',Same H H'→H' a=some (.lst ((w0::ws).map V.str))→LS [.ref x,.ref a] H' Q (fun C _ H2=>E C none H2)) ∧
 (w0="note"→2≤ws.length→(Txt.splitMax o " " 2).length≤sizeLine∧∀a H',Same H H'→H' a=some (.lst ((Txt.splitMax o " " 2).map V.str))→SN [.ref x,.ref a] H' Q (fun C _ H2=>E C none H2)) ∧
 (¬(w0="frame"∧ws.length=4)→¬((w0="write"∨w0="key")∧ws.length=2)→¬((w0="read"∨w0="unkey"∨w0="hear")∧1≤ws.length)→¬(w0="note"∧2≤ws.length)→∀a H',Same H H'→H' a=some (.lst ((w0::ws).map V.str))→CT [.ref a] H' Q (fun C _ H2=>E C none H2))
theorem zdV:((" ":Str).length == 0)=false:=by decide +kernel
theorem in2 {x a b:Str}:inV (.str x) [.str a,.str b]=decide (x=a∨x=b):=by
 rw [Bool.eq_iff_iff]
 simp only [inV,List.any_cons,List.any_nil,eqV,Bool.or_false,Bool.or_eq_true,beq_iff_eq,decide_eq_true_eq]
 exact⟨fun h=>h.imp Eq.symm Eq.symm,fun h=>h.imp Eq.symm Eq.symm⟩
theorem in3 {x a b c:Str}:inV (.str x) [.str a,.str b,.str c]=decide (x=a∨x=b∨x=c):=by
 rw [Bool.eq_iff_iff]
 simp only [inV,List.any_cons,List.any_nil,eqV,Bool.or_false,Bool.or_eq_true,beq_iff_eq,decide_eq_true_eq]
 exact⟨fun h=>h.imp Eq.symm fun h=>h.imp Eq.symm Eq.symm,fun h=>h.imp Eq.symm fun h=>h.imp Eq.symm Eq.symm⟩
theorem VP (K:PySem.W.Frag):PySem.W.kitOne K (.type "str") (.type "str")=some true:=by with_unfolding_all rfl
theorem XX:FnScope ["self","order","words"] ["self","order"] (defScope j6):=⟨rfl,rfl,rfl,by decide +kernel,rfl,by decide +kernel,by decide +kernel⟩
theorem zeJ {f:Addr}{fd:FuncData} (F:Js K "told" "Desk.told" j6 f fd) (T:Txt K mg) (hT:DkT K CD CF){zg:Addr}{KP RG LS SN CT:Sp} (zZ:mg "NoOrder"=some (.ref zg)) (z7:PySem.W.excIn K zg bmV "ValueError.__new__"=true) (zaO:MtE P w K mg base 45 CD "keep" ["self","words"] KP) (zaP:MtE P w K mg base 45 CD "ring" ["self","words"] RG) (Vo:MtE P w K mg base 45 CD "listen" ["self","words"] LS) (Qn:MtE P w K mg base 45 CD "send_note" ["self","words"] SN) (Zm:FnE P w K mg base 45 "choice_told" ["words"] CT):FnOk P w K mg base (CXE P w) 46 f fd ["self","order"] (zdU CD zg KP RG LS SN CT):=by
 refine F.okE XX (fun vs H Q E h=>?_) (fun cdv A outer s H vs Q E hr h=>?_)
 ·obtain⟨x,dx,d,o,w0,ws,rfl,_⟩:=h
  rfl
 ·obtain⟨x,dx,d,o,w0,ws,rfl,hx,ol,es,q1,q2,q3,q4,q5⟩:=h
  refine⟨_,(pss_cons (ps_if (pt_not (pt_val (pe_callB VD (by rfl) T.z_isinstance jy (pa_cons (pv 1) (pa_cons (pe_bltn (v:=.ty "str") (by rfl) T.z_str Xv rfl) pa_nil)))))
    (pss_one (jV PySem.F.excBase_ValueError z7 (by rfl) zZ (pa_cons pe_str pa_nil)))
    pss_nil)
   (pss_cons (ps_set (i:=2) XX.nd rfl (Or.inl rfl) (pe_bm PySem.F.plainAttrs_str PySem.F.slot_str_split PySem.F.type_str_split zdz (pv 1) (pa_cons pe_str pa_nil)))
   (pss_cons (ps_if (pw_and (pt_cmpR op_eq (pe_ix ix_list (pv 2) pe_int (fun _ _=>rfl)) pe_str (nomark _)) (pw_and1 (pt_cmpR vq (pe_callB call_len_seq (by rfl) T.z_len QR (pa_cons (pv 2) pa_nil)) pe_int (nomark _)))).pt
    (pss_one (ps_ret (QT (pv 0) zaO (hr.mono (by decide)) qC (pa_cons (pv 2) pa_nil))))
    pss_nil)
   (pss_cons (ps_if (pw_and (pt_cmpR op_in_seq (pe_ix ix_list (pv 2) pe_int (fun _ _=>rfl)) (pe_tup (pa_cons pe_str (pa_cons pe_str pa_nil))) (by with_unfolding_all rfl)) (pw_and1 (pt_cmpR vq (pe_callB call_len_seq (by rfl) T.z_len QR (pa_cons (pv 2) pa_nil)) pe_int (nomark _)))).pt
    (pss_one (ps_ret (QT (pv 0) zaP (hr.mono (by decide)) qC (pa_cons (pv 2) pa_nil))))
    pss_nil)
   (pss_cons (ps_if (pw_and (pt_cmpR op_in_seq (pe_ix ix_list (pv 2) pe_int (fun _ _=>rfl)) (pe_tup (pa_cons pe_str (pa_cons pe_str (pa_cons pe_str pa_nil)))) (by with_unfolding_all rfl)) (pw_and1 (pt_cmpR Km (pe_callB call_len_seq (by rfl) T.z_len QR (pa_cons (pv 2) pa_nil)) pe_int (nomark _)))).pt
    (pss_one (ps_ret (QT (pv 0) Vo (hr.mono (by decide)) qC (pa_cons (pv 2) pa_nil))))
    pss_nil)
   (pss_cons (ps_if (pw_and (pt_cmpR op_eq (pe_ix ix_list (pv 2) pe_int (fun _ _=>rfl)) pe_str (nomark _)) (pw_and1 (pt_cmpR Km (pe_callB call_len_seq (by rfl) T.z_len QR (pa_cons (pv 2) pa_nil)) pe_int (nomark _)))).pt
    (pss_one (ps_ret (QT (pv 0) Qn (hr.mono (by decide)) qC (pa_cons (pe_bm PySem.F.plainAttrs_str PySem.F.slot_str_split PySem.F.type_str_split zba (pv 1) (pa_cons pe_str (pa_cons pe_int pa_nil))) pa_nil))))
    pss_nil)
   (pss_one (ps_ret (jj Zm (hr.mono (by decide)) (by rfl) qC (pa_cons (pv 2) pa_nil)))))))))),?_⟩
  refine⟨_,rfl,_,_,_,true,rfl,TyOf.str _,VP K,_,rfl,iteF ?_⟩
  refine⟨_,rfl,rfl,o," ",rfl,rfl,zdV,ol,fun a ha=>?_⟩
  rw [es]
  have sA:Same H (upd H a (.lst ((w0::ws).map V.str))):=Same.new ha
  have hA:(upd H a (.lst ((w0::ws).map V.str))) a=some (.lst ((w0::ws).map V.str)):=upd_same
  generalize upd H a (.lst ((w0::ws).map V.str))=H1 at sA hA ⊢
  have h0:atI ((w0::ws).map V.str) ((0:Nat):Int)=some (V.str w0):=atI_nat rfl
  have hx1:=sA _ _ hx
  have el:(((w0::ws).map V.str).length:Int)=(ws.length:Int)+1:=by rw [List.length_map,List.length_cons];omega
  dsimp only [gName]
  refine zb4 (fun σ' H'=>σ'=[some (.ref x),some (.str o),some (.ref a)]∧H'=H1∧¬(w0="frame"∧ws.length=4)) ?_ (fun N hN=>?_)
  rotate_left
  ·refine⟨_,rfl,a,_,0,_,rfl,rfl,SqL.of hA,h0,rfl,_,rfl,ifD (fun z=>⟨_,rfl,_,_,rfl,.inl (SqL.of hA),_,_,rfl,rfl,_,rfl,?_⟩) (fun z=>iteF (hN _ _ ⟨rfl,rfl,fun y=>z (by rw [y.1])⟩))⟩
   rw [el]
   refine ifD (fun z2=>⟨_,rfl,x,dx,_,rfl,hx1,Zk (by decide +kernel),_,rfl,?_⟩) (fun z2=>hN _ _ ⟨rfl,rfl,fun y=>by have:=y.2;omega⟩)
   exact q1 (V.str.inj z) (by omega) a H1 sA hA
  rintro σ' H' ⟨rfl,rfl,n1⟩
  refine zb4 (fun σ' H2=>σ'=[some (.ref x),some (.str o),some (.ref a)]∧Same H' H2∧¬((w0="write"∨w0="key")∧ws.length=2)) ?_ (fun N hN=>?_)
  rotate_left
  ·refine⟨_,rfl,a,_,0,_,rfl,rfl,SqL.of hA,h0,(by show 2≤sizeLine;decide),fun tp htp=>⟨tp,_,rfl,.inr (SqT.of upd_same),rfl,rfl,?_⟩⟩
   have sT:Same H' (upd H' tp (.tup [V.str "write",V.str "key"])):=Same.new htp
   generalize upd H' tp (.tup [V.str "write",V.str "key"])=H3 at sT ⊢
   refine⟨inV (.str w0) [V.str "write",V.str "key"],rfl,?_⟩
   rw [in2]
   refine ifD (fun z=>⟨_,rfl,_,_,rfl,.inl (SqL.of (sT _ _ hA)),_,_,rfl,rfl,_,rfl,?_⟩) (fun z=>iteF (hN _ _ ⟨rfl,sT,fun y=>z y.1⟩))
   rw [el]
   refine ifD (fun z2=>⟨_,rfl,x,dx,_,rfl,sT _ _ hx1,Zk (by decide +kernel),_,rfl,?_⟩) (fun z2=>hN _ _ ⟨rfl,sT,fun y=>by have:=y.2;omega⟩)
   exact q2 z (by omega) a H3 (sA.trans sT) (sT _ _ hA)
  rintro σ' H2 ⟨rfl,s2,n2⟩
  have sA2:=sA.trans s2
  have hA2:=s2 _ _ hA
  have hx2:=s2 _ _ hx1
  refine zb4 (fun σ' H3=>σ'=[some (.ref x),some (.str o),some (.ref a)]∧Same H2 H3∧¬((w0="read"∨w0="unkey"∨w0="hear")∧1≤ws.length)) ?_ (fun N hN=>?_)
  rotate_left
  ·refine⟨_,rfl,a,_,0,_,rfl,rfl,SqL.of hA2,h0,(by show 3≤sizeLine;decide),fun tp htp=>⟨tp,_,rfl,.inr (SqT.of upd_same),rfl,rfl,?_⟩⟩
   have sT:Same H2 (upd H2 tp (.tup [V.str "read",V.str "unkey",V.str "hear"])):=Same.new htp
   generalize upd H2 tp (.tup [V.str "read",V.str "unkey",V.str "hear"])=H3 at sT ⊢
   refine⟨inV (.str w0) [V.str "read",V.str "unkey",V.str "hear"],rfl,?_⟩
   rw [in3]
   refine ifD (fun z=>⟨_,rfl,_,_,rfl,.inl (SqL.of (sT _ _ hA2)),_,_,rfl,rfl,_,rfl,?_⟩) (fun z=>iteF (hN _ _ ⟨rfl,sT,fun y=>z y.1⟩))
   rw [el]
   refine ifD (fun z2=>⟨_,rfl,x,dx,_,rfl,sT _ _ hx2,Zk (by decide +kernel),_,rfl,?_⟩) (fun z2=>hN _ _ ⟨rfl,sT,fun y=>by have:=y.2;omega⟩)
   exact q3 z (by omega) a H3 (sA2.trans sT) (sT _ _ hA2)
  rintro σ' H3 ⟨rfl,s3,n3⟩
  have sA3:=sA2.trans s3
  have hA3:=s3 _ _ hA2
  have hx3:=s3 _ _ hx2
  refine zb4 (fun σ' H4=>σ'=[some (.ref x),some (.str o),some (.ref a)]∧H4=H3∧¬(w0="note"∧2≤ws.length)) ?_ (fun N hN=>?_)
  rotate_left
  ·refine⟨_,rfl,a,_,0,_,rfl,rfl,SqL.of hA3,h0,rfl,_,rfl,ifD (fun z=>⟨_,rfl,_,_,rfl,.inl (SqL.of hA3),_,_,rfl,rfl,_,rfl,?_⟩) (fun z=>iteF (hN _ _ ⟨rfl,rfl,fun y=>z (by rw [y.1])⟩))⟩
   rw [el]
   refine ifD (fun z2=>⟨_,rfl,x,dx,_,rfl,hx3,Zk (by decide +kernel),?_⟩) (fun z2=>hN _ _ ⟨rfl,rfl,fun y=>by have:=y.2;omega⟩)
   obtain⟨zl,q6⟩:=q4 (V.str.inj z) (by omega)
   exact⟨_,rfl,rfl,o," ",2,rfl,rfl,rfl,zdV,ol,zl,fun b hb=>q6 b _ (sA3.trans (Same.new hb)) upd_same⟩
  rintro σ' H4 ⟨rfl,rfl,n4⟩
  exact⟨_,rfl,q5 n1 n2 n3 n4 a H4 sA3 hA3⟩
end
section
variable {P:Program}{w:World}{K:PySem.W.Frag}{mg:Str→Option Value}{base:Heap}{CD CF CO CN CT CR:Addr}{NH SN CH:Sp}
noncomputable def zcc (CN CT CR:Addr) (C:Addr) (nm:Str):Prop:=(C=CN∧nm="NoName")∨(C=CT∧nm="TooGreat")∨(C=CR∧nm="NoReading")
noncomputable def zeK (CN CT CR:Addr):Sp:=fun vs H Q _=>∃(x C:Addr) (nm:Str),vs=[.ref x]∧H x=some (wN x (.ref C))∧zcc CN CT CR C nm∧∀H',Same H H'→Q (.str nm) H'
theorem zdW:Txt.join " " [("NoName":Str)]="NoName":=by decide +kernel
theorem zcd:Txt.join " " [("TooGreat":Str)]="TooGreat":=by decide +kernel
theorem zbx:Txt.join " " [("NoReading":Str)]="NoReading":=by decide +kernel
theorem X3:FnScope ["e","kinds"] ["e"] (defScope wy):=⟨rfl,rfl,rfl,by decide +kernel,rfl,by decide +kernel,by decide +kernel⟩
theorem zeL (D:Def K mg "_law_kind" wy ["e"]) (T:Txt K mg){zq:Addr} (jd:mg "BellError"=some (.ref zq)){qm:Addr} (vg:mg "NoRow"=some (.ref qm)){za:Addr} (zT:mg "NoReading"=some (.ref za)){zb:Addr} (qp:mg "TooGreat"=some (.ref zb)){zR:Addr} (jK:mg "TooMany"=some (.ref zR)){zQ:Addr} (jZ:mg "NoNote"=some (.ref zQ)){zg:Addr} (zZ:mg "NoOrder"=some (.ref zg)){zf:Addr} (jF:mg "NoName"=some (.ref zf)){zy:Addr} (xj:mg "Frame"=some (.ref zy)){zu:Addr} (wF:mg "Desk"=some (.ref zu)){jH:Tok} (jo:mg "LETTERS"=some (.str "abcdefghijklmnopqrstuvwxyz" jH)){qF:Tok} (qi:mg "MOST_LETTERS"=some (.int 8 qF)){jJ:Tok} (jq:mg "FIGURES"=some (.str "0123456789" jJ)){qG:Tok} (qj:mg "MOST_FIGURES"=some (.int 60 qG)){zr:Tok} (zp:mg "MOST_FIGURES_OF_MESSAGE"=some (.int 3000 zr)){qU:Tok} (qK:mg "MOST_BELLS"=some (.int 60 qU)) (je:PySem.W.excIn K zq bmV "ValueError.__new__"=true) (vV:PySem.W.excIn K qm bmV "ValueError.__new__"=true) (zK:PySem.W.excIn K za bmV "ValueError.__new__"=true) (qg:PySem.W.excIn K zb bmV "ValueError.__new__"=true) (z7:PySem.W.excIn K zg bmV "ValueError.__new__"=true) (jC:PySem.W.excIn K zf bmV "ValueError.__new__"=true) (xJ:PySem.W.excIn K zQ bmV "ValueError.__new__"=true) (jf:PySem.W.mroIn K zf (.ref zq)=some true) (jr:PySem.W.findIn K (.ref zf) "__getattribute__"=some (some (.builtin "BaseException.__getattribute__"))) (jt:PySem.W.findIn K (.ref zf) "__getattr__"=some none) (ju:PySem.W.findIn K (.ref zf) "__class__"=some (some (.builtin "object.__class__"))) (jw:PySem.W.mroIn K zf (.type "object")=some true) (jx:PySem.W.mroIn K zf (.type "BaseException")=some true) (qt:PySem.W.kitOne K (.ref zf) (.ref zf)=some true) (zU:PySem.W.kitOne K (.ref zf) (.ref zb)=some false) (zL:PySem.W.kitOne K (.ref zf) (.ref za)=some false) (qx:PySem.W.kitOne K (.ref zf) (.ref zQ)=some false) (z8:PySem.W.kitOne K (.ref zf) (.ref zg)=some false) (qH:PySem.W.kitOne K (.ref zf) (.ref qm)=some false) (z9:PySem.W.kitOne K (.ref zf) (.ref zR)=some false) (qI:PySem.W.kitOne K (.ref zf) (.type "ValueError")=some true) (qJ:PySem.W.mroIn K zb (.ref zq)=some true) (qW:PySem.W.findIn K (.ref zb) "__getattribute__"=some (some (.builtin "BaseException.__getattribute__"))) (qX:PySem.W.findIn K (.ref zb) "__getattr__"=some none) (qY:PySem.W.findIn K (.ref zb) "__class__"=some (some (.builtin "object.__class__"))) (qZ:PySem.W.mroIn K zb (.type "object")=some true) (jb:PySem.W.mroIn K zb (.type "BaseException")=some true) (zV:PySem.W.kitOne K (.ref zb) (.ref zf)=some false) (zF:PySem.W.kitOne K (.ref zb) (.ref zb)=some true) (zB:PySem.W.kitOne K (.ref zb) (.ref za)=some false) (zW:PySem.W.kitOne K (.ref zb) (.ref zQ)=some false) (zM:PySem.W.kitOne K (.ref zb) (.ref zg)=some false) (qd:PySem.W.kitOne K (.ref zb) (.ref qm)=some false) (zN:PySem.W.kitOne K (.ref zb) (.ref zR)=some false) (qe:PySem.W.kitOne K (.ref zb) (.type "ValueError")=some true) (qy:PySem.W.mroIn K za (.ref zq)=some true) (qM:PySem.W.findIn K (.ref za) "__getattribute__"=some (some (.builtin "BaseException.__getattribute__"))) (qN:PySem.W.findIn K (.ref za) "__getattr__"=some none) (qO:PySem.W.findIn K (.ref za) "__class__"=some (some (.builtin "object.__class__"))) (qP:PySem.W.mroIn K za (.type "object")=some true) (qQ:PySem.W.mroIn K za (.type "BaseException")=some true) (zO:PySem.W.kitOne K (.ref za) (.ref zf)=some false) (zE:PySem.W.kitOne K (.ref za) (.ref zb)=some false) (zx:PySem.W.kitOne K (.ref za) (.ref za)=some true) (zP:PySem.W.kitOne K (.ref za) (.ref zQ)=some false) (zG:PySem.W.kitOne K (.ref za) (.ref zg)=some false) (zX:PySem.W.kitOne K (.ref za) (.ref qm)=some false) (zH:PySem.W.kitOne K (.ref za) (.ref zR)=some false) (zY:PySem.W.kitOne K (.ref za) (.type "ValueError")=some true) (JZ:PySem.W.specialIn K (.builtin "object.__class__") "__get__"=some (some (.builtin "getset_descriptor.__get__"))) (J1:PySem.W.takesIn K (.builtin "object.__class__")=some true):Fn P w K mg base 1 "_law_kind" ["e"] (zeK zf zb za):=by
 refine D.fn X3 (fun vs H Q E h=>?_) (fun f cdv A outer s H vs Q E hr h=>?_)
 ·obtain⟨x,C,nm,rfl,_⟩:=h
  rfl
 ·obtain⟨x,C,nm,rfl,hx,kd,q⟩:=h
  refine⟨_,(pss_cons (ps_set (i:=1) X3.nd rfl (Or.inl rfl) (pe_lst pa_nil))
   (pss_cons (ps_if (pt_val (pe_callB jO (by rfl) T.z_isinstance jy (pa_cons (pv 0) (pa_cons (pe_glob (v:=.ref zf) (by rfl) jF rfl) pa_nil))))
    (pss_one (ps_expr (pe_bm PySem.F.plainAttrs_list PySem.F.slot_list_append PySem.F.type_list_append mt_append (pv 1) (pa_cons pe_str pa_nil))))
    pss_nil)
   (pss_cons (ps_if (pt_val (pe_callB jO (by rfl) T.z_isinstance jy (pa_cons (pv 0) (pa_cons (pe_glob (v:=.ref zb) (by rfl) qp rfl) pa_nil))))
    (pss_one (ps_expr (pe_bm PySem.F.plainAttrs_list PySem.F.slot_list_append PySem.F.type_list_append mt_append (pv 1) (pa_cons pe_str pa_nil))))
    pss_nil)
   (pss_cons (ps_if (pt_val (pe_callB jO (by rfl) T.z_isinstance jy (pa_cons (pv 0) (pa_cons (pe_glob (v:=.ref za) (by rfl) zT rfl) pa_nil))))
    (pss_one (ps_expr (pe_bm PySem.F.plainAttrs_list PySem.F.slot_list_append PySem.F.type_list_append mt_append (pv 1) (pa_cons pe_str pa_nil))))
    pss_nil)
   (pss_cons (ps_if (pw_or (pt_val (pe_callB jO (by rfl) T.z_isinstance jy (pa_cons (pv 0) (pa_cons (pe_glob (v:=.ref zQ) (by rfl) jZ rfl) pa_nil)))) (pw_or (pt_val (pe_callB jO (by rfl) T.z_isinstance jy (pa_cons (pv 0) (pa_cons (pe_glob (v:=.ref zg) (by rfl) zZ rfl) pa_nil)))) (pw_or (pt_val (pe_callB jO (by rfl) T.z_isinstance jy (pa_cons (pv 0) (pa_cons (pe_glob (v:=.ref qm) (by rfl) vg rfl) pa_nil)))) (pw_or1 (pt_val (pe_callB jO (by rfl) T.z_isinstance jy (pa_cons (pv 0) (pa_cons (pe_glob (v:=.ref zR) (by rfl) jK rfl) pa_nil)))))))).pt
    (pss_one (ps_expr (pe_bm PySem.F.plainAttrs_list PySem.F.slot_list_append PySem.F.type_list_append mt_append (pv 1) (pa_cons pe_str pa_nil))))
    pss_nil)
   (pss_cons (ps_if (pt_not (pt_val (pe_callB jO (by rfl) T.z_isinstance jy (pa_cons (pv 0) (pa_cons (pe_bltn (v:=.ty "ValueError") (by rfl) T.z_ValueError zag rfl) pa_nil)))))
    (pss_one (ps_expr (pe_bm PySem.F.plainAttrs_list PySem.F.slot_list_append PySem.F.type_list_append mt_append (pv 1) (pa_cons pe_str pa_nil))))
    pss_nil)
   (pss_one (ps_ret (pe_bm PySem.F.plainAttrs_str PySem.F.slot_str_join PySem.F.type_str_join Kd pe_str (pa_cons (pv 1) pa_nil)))))))))),?_⟩
  refine⟨(by decide),fun p hp=>?_⟩
  have s1:Same H (upd H p (.lst [])):=Same.new hp
  have h1:(upd H p (.lst [])) p=some (.lst []):=upd_same
  generalize upd H p (.lst [])=H1 at s1 h1 ⊢
  have hx1:=s1 _ _ hx
  have npx:x≠p:=fun e=>by rw [e,hp] at hx;cases hx
  rcases kd with ⟨ec,rfl⟩ | ⟨ec,rfl⟩ | ⟨ec,rfl⟩ <;> rw [ec] at hx1 <;> clear ec hx
  ·have XL:yW K zf:=⟨jr,jt,ju,JZ,J1,jw,jx⟩
   refine⟨_,rfl,_,_,_,_,true,rfl,fun _ z=>z,.exc XL hx1,qt,_,rfl,iteT ⟨_,rfl,.inl ⟨rfl,_,SqL.of h1⟩,p,_,_,rfl,rfl,h1,(by decide),?_⟩⟩
   have s2:Same H (upd H1 p (.lst ([]++[V.str "NoName"]))):=s1.wr hp
   have h2:(upd H1 p (.lst ([]++[V.str "NoName"]))) p=some (.lst [V.str "NoName"]):=upd_same
   have hx2:(upd H1 p (.lst ([]++[V.str "NoName"]))) x=some (wN x (.ref zf)):=by rw [upd_ne npx];exact hx1
   generalize upd H1 p (.lst ([]++[V.str "NoName"]))=H2 at s2 h2 hx2 ⊢
   refine⟨_,rfl,_,_,_,_,false,rfl,fun _ z=>z,.exc XL hx2,zU,_,rfl,iteF ⟨_,rfl,_,_,_,_,false,rfl,fun _ z=>z,.exc XL hx2,zL,_,rfl,iteF ?_⟩⟩
   refine⟨_,rfl,_,_,_,_,false,rfl,fun _ z=>z,.exc XL hx2,qx,_,rfl,iteF ⟨_,rfl,_,_,_,_,false,rfl,fun _ z=>z,.exc XL hx2,z8,_,rfl,iteF ⟨_,rfl,_,_,_,_,false,rfl,fun _ z=>z,.exc XL hx2,qH,_,rfl,iteF ⟨_,rfl,_,_,_,_,false,rfl,fun _ z=>z,.exc XL hx2,z9,_,rfl,iteF ?_⟩⟩⟩⟩
   refine⟨_,rfl,_,_,_,_,true,rfl,fun _ z=>z,.exc XL hx2,qI,_,rfl,iteF ⟨rfl,_,rfl," ",p,[("NoName":Str)],rfl,rfl,SqL.of h2,by decide +kernel,?_⟩⟩
   rw [zdW]
   exact q H2 s2
  ·have XL:yW K zb:=⟨qW,qX,qY,JZ,J1,qZ,jb⟩
   refine⟨_,rfl,_,_,_,_,false,rfl,fun _ z=>z,.exc XL hx1,zV,_,rfl,iteF ⟨_,rfl,_,_,_,_,true,rfl,fun _ z=>z,.exc XL hx1,zF,_,rfl,iteT ⟨_,rfl,.inl ⟨rfl,_,SqL.of h1⟩,p,_,_,rfl,rfl,h1,(by decide),?_⟩⟩⟩
   have s2:Same H (upd H1 p (.lst ([]++[V.str "TooGreat"]))):=s1.wr hp
   have h2:(upd H1 p (.lst ([]++[V.str "TooGreat"]))) p=some (.lst [V.str "TooGreat"]):=upd_same
   have hx2:(upd H1 p (.lst ([]++[V.str "TooGreat"]))) x=some (wN x (.ref zb)):=by rw [upd_ne npx];exact hx1
   generalize upd H1 p (.lst ([]++[V.str "TooGreat"]))=H2 at s2 h2 hx2 ⊢
   refine⟨_,rfl,_,_,_,_,false,rfl,fun _ z=>z,.exc XL hx2,zB,_,rfl,iteF ?_⟩
   refine⟨_,rfl,_,_,_,_,false,rfl,fun _ z=>z,.exc XL hx2,zW,_,rfl,iteF ⟨_,rfl,_,_,_,_,false,rfl,fun _ z=>z,.exc XL hx2,zM,_,rfl,iteF ⟨_,rfl,_,_,_,_,false,rfl,fun _ z=>z,.exc XL hx2,qd,_,rfl,iteF ⟨_,rfl,_,_,_,_,false,rfl,fun _ z=>z,.exc XL hx2,zN,_,rfl,iteF ?_⟩⟩⟩⟩
   refine⟨_,rfl,_,_,_,_,true,rfl,fun _ z=>z,.exc XL hx2,qe,_,rfl,iteF ⟨rfl,_,rfl," ",p,[("TooGreat":Str)],rfl,rfl,SqL.of h2,by decide +kernel,?_⟩⟩
   rw [zcd]
   exact q H2 s2
  ·have XL:yW K za:=⟨qM,qN,qO,JZ,J1,qP,qQ⟩
   refine⟨_,rfl,_,_,_,_,false,rfl,fun _ z=>z,.exc XL hx1,zO,_,rfl,iteF ⟨_,rfl,_,_,_,_,false,rfl,fun _ z=>z,.exc XL hx1,zE,_,rfl,iteF ⟨_,rfl,_,_,_,_,true,rfl,fun _ z=>z,.exc XL hx1,zx,_,rfl,iteT ⟨_,rfl,.inl ⟨rfl,_,SqL.of h1⟩,p,_,_,rfl,rfl,h1,(by decide),?_⟩⟩⟩⟩
   have s2:Same H (upd H1 p (.lst ([]++[V.str "NoReading"]))):=s1.wr hp
   have h2:(upd H1 p (.lst ([]++[V.str "NoReading"]))) p=some (.lst [V.str "NoReading"]):=upd_same
   have hx2:(upd H1 p (.lst ([]++[V.str "NoReading"]))) x=some (wN x (.ref za)):=by rw [upd_ne npx];exact hx1
   generalize upd H1 p (.lst ([]++[V.str "NoReading"]))=H2 at s2 h2 hx2 ⊢
   refine⟨_,rfl,_,_,_,_,false,rfl,fun _ z=>z,.exc XL hx2,zP,_,rfl,iteF ⟨_,rfl,_,_,_,_,false,rfl,fun _ z=>z,.exc XL hx2,zG,_,rfl,iteF ⟨_,rfl,_,_,_,_,false,rfl,fun _ z=>z,.exc XL hx2,zX,_,rfl,iteF ⟨_,rfl,_,_,_,_,false,rfl,fun _ z=>z,.exc XL hx2,zH,_,rfl,iteF ?_⟩⟩⟩⟩
   refine⟨_,rfl,_,_,_,_,true,rfl,fun _ z=>z,.exc XL hx2,zY,_,rfl,iteF ⟨rfl,_,rfl," ",p,[("NoReading":Str)],rfl,rfl,SqL.of h2,by decide +kernel,?_⟩⟩
   rw [zbx]
   exact q H2 s2
noncomputable def zce (TD:Sp) (vs:List V) (H:Hp) (A:V→Hp→Prop) (R:Value→Hp→Prop):Prop:=∀(Q:VK) (E:XK),(∀v H',A v H'→Q v H')→(∀C H',R C H'→E C none H')→TD vs H Q E
noncomputable def zcE (CD CN CT CR:Addr) (TD:Sp):Sp:=fun vs H Q _=>∃(x dx:Addr) (fs:List (Str×V)) (o:Str) (A:V→Hp→Prop) (R:Value→Hp→Prop),vs=[.ref x,.str o]∧H x=some (.ins CD dx fs)∧fs.lookup ("told":Str)=none∧zce TD [.ref x,.str o] H A R ∧
 (∀v H1,A v H1→∃r:Str,v=.str r∧∀p H',Same H1 H'→H' p=some (.tup [.str "told",.str r])→Q (.ref p) H') ∧
 (∀C H1,R C H1→∃(C':Addr) (nm:Str),C=.ref C'∧zcc CN CT CR C' nm∧∀p H',Same H1 H'→H' p=some (.tup [.str "refused",.str nm])→Q (.ref p) H')
theorem vh:FnScope ["desk","order","caught","found","e"] ["desk","order"] (defScope wz):=⟨rfl,rfl,rfl,by decide +kernel,rfl,by decide +kernel,by decide +kernel⟩
theorem zdX (D:Def K mg "_law_told" wz ["desk","order"]) (T:Txt K mg){zq:Addr} (jd:mg "BellError"=some (.ref zq)){qm:Addr} (vg:mg "NoRow"=some (.ref qm)){za:Addr} (zT:mg "NoReading"=some (.ref za)){zb:Addr} (qp:mg "TooGreat"=some (.ref zb)){zR:Addr} (jK:mg "TooMany"=some (.ref zR)){zQ:Addr} (jZ:mg "NoNote"=some (.ref zQ)){zg:Addr} (zZ:mg "NoOrder"=some (.ref zg)){zf:Addr} (jF:mg "NoName"=some (.ref zf)){zy:Addr} (xj:mg "Frame"=some (.ref zy)){zu:Addr} (wF:mg "Desk"=some (.ref zu)){jH:Tok} (jo:mg "LETTERS"=some (.str "abcdefghijklmnopqrstuvwxyz" jH)){qF:Tok} (qi:mg "MOST_LETTERS"=some (.int 8 qF)){jJ:Tok} (jq:mg "FIGURES"=some (.str "0123456789" jJ)){qG:Tok} (qj:mg "MOST_FIGURES"=some (.int 60 qG)){zr:Tok} (zp:mg "MOST_FIGURES_OF_MESSAGE"=some (.int 3000 zr)){qU:Tok} (qK:mg "MOST_BELLS"=some (.int 60 qU)) (je:PySem.W.excIn K zq bmV "ValueError.__new__"=true) (vV:PySem.W.excIn K qm bmV "ValueError.__new__"=true) (zK:PySem.W.excIn K za bmV "ValueError.__new__"=true) (qg:PySem.W.excIn K zb bmV "ValueError.__new__"=true) (z7:PySem.W.excIn K zg bmV "ValueError.__new__"=true) (jC:PySem.W.excIn K zf bmV "ValueError.__new__"=true) (xJ:PySem.W.excIn K zQ bmV "ValueError.__new__"=true) (jf:PySem.W.mroIn K zf (.ref zq)=some true) (jr:PySem.W.findIn K (.ref zf) "__getattribute__"=some (some (.builtin "BaseException.__getattribute__"))) (jt:PySem.W.findIn K (.ref zf) "__getattr__"=some none) (ju:PySem.W.findIn K (.ref zf) "__class__"=some (some (.builtin "object.__class__"))) (jw:PySem.W.mroIn K zf (.type "object")=some true) (jx:PySem.W.mroIn K zf (.type "BaseException")=some true) (qt:PySem.W.kitOne K (.ref zf) (.ref zf)=some true) (zU:PySem.W.kitOne K (.ref zf) (.ref zb)=some false) (zL:PySem.W.kitOne K (.ref zf) (.ref za)=some false) (qx:PySem.W.kitOne K (.ref zf) (.ref zQ)=some false) (z8:PySem.W.kitOne K (.ref zf) (.ref zg)=some false) (qH:PySem.W.kitOne K (.ref zf) (.ref qm)=some false) (z9:PySem.W.kitOne K (.ref zf) (.ref zR)=some false) (qI:PySem.W.kitOne K (.ref zf) (.type "ValueError")=some true) (qJ:PySem.W.mroIn K zb (.ref zq)=some true) (qW:PySem.W.findIn K (.ref zb) "__getattribute__"=some (some (.builtin "BaseException.__getattribute__"))) (qX:PySem.W.findIn K (.ref zb) "__getattr__"=some none) (qY:PySem.W.findIn K (.ref zb) "__class__"=some (some (.builtin "object.__class__"))) (qZ:PySem.W.mroIn K zb (.type "object")=some true) (jb:PySem.W.mroIn K zb (.type "BaseException")=some true) (zV:PySem.W.kitOne K (.ref zb) (.ref zf)=some false) (zF:PySem.W.kitOne K (.ref zb) (.ref zb)=some true) (zB:PySem.W.kitOne K (.ref zb) (.ref za)=some false) (zW:PySem.W.kitOne K (.ref zb) (.ref zQ)=some false) (zM:PySem.W.kitOne K (.ref zb) (.ref zg)=some false) (qd:PySem.W.kitOne K (.ref zb) (.ref qm)=some false) (zN:PySem.W.kitOne K (.ref zb) (.ref zR)=some false) (qe:PySem.W.kitOne K (.ref zb) (.type "ValueError")=some true) (qy:PySem.W.mroIn K za (.ref zq)=some true) (qM:PySem.W.findIn K (.ref za) "__getattribute__"=some (some (.builtin "BaseException.__getattribute__"))) (qN:PySem.W.findIn K (.ref za) "__getattr__"=some none) (qO:PySem.W.findIn K (.ref za) "__class__"=some (some (.builtin "object.__class__"))) (qP:PySem.W.mroIn K za (.type "object")=some true) (qQ:PySem.W.mroIn K za (.type "BaseException")=some true) (zO:PySem.W.kitOne K (.ref za) (.ref zf)=some false) (zE:PySem.W.kitOne K (.ref za) (.ref zb)=some false) (zx:PySem.W.kitOne K (.ref za) (.ref za)=some true) (zP:PySem.W.kitOne K (.ref za) (.ref zQ)=some false) (zG:PySem.W.kitOne K (.ref za) (.ref zg)=some false) (zX:PySem.W.kitOne K (.ref za) (.ref qm)=some false) (zH:PySem.W.kitOne K (.ref za) (.ref zR)=some false) (zY:PySem.W.kitOne K (.ref za) (.type "ValueError")=some true) (JZ:PySem.W.specialIn K (.builtin "object.__class__") "__get__"=some (some (.builtin "getset_descriptor.__get__"))) (J1:PySem.W.takesIn K (.builtin "object.__class__")=some true){TD:Sp} (hcd:Cls K zu) (zaQ:MtE P w K mg base 46 zu "told" ["self","order"] TD) (kJ:Fn P w K mg base 1 "_law_kind" ["e"] (zeK zf zb za)):Fn P w K mg base 47 "_law_told" ["desk","order"] (zcE zu zf zb za TD):=by
 refine D.fn vh (fun vs H Q E h=>?_) (fun f cdv A outer s H vs Q E hr h=>?_)
 ·obtain⟨x,dx,fs,o,A,R,rfl,_⟩:=h
  rfl
 ·obtain⟨x,dx,fs,o,Aw,Rw,rfl,hx,hl,td,qa,qr⟩:=h
  refine⟨_,(pss_cons (ps_set (i:=2) vh.nd rfl (Or.inl rfl) pe_non)
   (pss_cons (ps_set (i:=3) vh.nd rfl (Or.inl rfl) pe_non)
   (pss_cons (zct (i:=4) rfl rfl vh.nd rfl rfl rfl (by rfl) jd je (by decide) (fun pn xe G hx=>(pss_one (ps_set (i:=3) vh.nd rfl (Or.inl rfl) (QT (pv 0) zaQ (hr.mono (by decide)) hx (pa_cons (pv 1) pa_nil))))) (fun x=>(pss_one (ps_set (i:=2) vh.nd rfl (Or.inl rfl) (pv 4)))))
   (pss_cons (ps_if (pt_cmpR op_notN (pv 2) pe_non (nomark _))
    (pss_one (ps_ret (pe_tup (pa_cons pe_str (pa_cons (zA kJ (hr.mono (by decide)) (by rfl) (pa_cons (pv 2) pa_nil)) pa_nil)))))
    pss_nil)
   (pss_cons (ps_if (pt_val (pe_callB VD (by rfl) T.z_isinstance jy (pa_cons (pv 3) (pa_cons (pe_bltn (v:=.ty "str") (by rfl) T.z_str Xv rfl) pa_nil))))
    (pss_one (ps_ret (pe_tup (pa_cons pe_str (pa_cons (pv 3) pa_nil)))))
    pss_nil)
   (pss_one (ps_ret (pe_tup (pa_cons pe_str (pa_cons pe_str pa_nil)))))))))),?_⟩
  refine⟨_,rfl,x,dx,fs,rfl,hx,hl,_,rfl,td _ _ (fun v H1 a=>?_) (fun C H1 r=>?_)⟩
  ·obtain⟨r,rfl,q⟩:=qa v H1 a
   refine⟨_,rfl,rfl,_,rfl,iteF ⟨_,rfl,_,_,_,true,rfl,TyOf.str _,VP K,_,rfl,iteT ⟨_,rfl,(by show 2≤sizeLine;decide),fun p hp=>q p _ (Same.new hp) upd_same⟩⟩⟩
  ·obtain⟨C',nm,rfl,kd,q⟩:=qr C H1 r
   obtain⟨xi,mr⟩:PySem.W.excIn K C' bmV "ValueError.__new__"=true∧PySem.W.mroIn K C' (.ref zq)=some true:=by
    rcases kd with ⟨ec,_⟩ | ⟨ec,_⟩ | ⟨ec,_⟩ <;> rw [ec]
    ·exact⟨jC,jf⟩
    ·exact⟨qg,qJ⟩
    ·exact⟨zK,qy⟩
   refine⟨C',bmV,_,rfl,xi,by decide,mr,fun y hy=>⟨_,rfl,?_⟩⟩
   have s2:Same H1 (upd H1 y (wN y (.ref C'))):=Same.new hy
   have h2:(upd H1 y (wN y (.ref C'))) y=some (wN y (.ref C')):=upd_same
   generalize upd H1 y (wN y (.ref C'))=H2 at s2 h2 ⊢
   refine⟨_,rfl,rfl,_,rfl,iteT ⟨_,rfl,y,C',nm,rfl,h2,kd,fun H3 s3=>⟨(by show 2≤sizeLine;decide),fun p hp=>q p _ ((s2.trans s3).trans (Same.new hp)) upd_same⟩⟩⟩
end
noncomputable def iOr (a b:TI):TI:=fun σ H R=>a σ H R∨b σ H R
theorem zjf {X:Cx}{tg l:Expr}{i1 i2:TI} (h1:PI X tg l i1) (h2:PI X tg l i2):PI X tg l (iOr i1 i2):=fun pins s σ H R I h=>h.elim (h1 pins s σ H R I) (h2 pins s σ H R I)
section
variable {P:Program}{w:World}{K:PySem.W.Frag}{mg:Str→Option Value}{base:Heap}
noncomputable def Jq (K:PySem.W.Frag) (CT CR:Addr):Sp:=fun vs H Q E=>∃(head:Str) (v:V) (p:Addr) (t b l:Int),vs=[.str head,v,.ref p]∧H p=some (.tup [.int t,.int b,.int l]) ∧
 ((head="write"∧Zj K CT [v,.int t,.int b,.int l] H Q E)∨(head="key"∧XN K CT [v,.int t,.int b,.int l] H Q E)∨(head="read"∧XJ K CR [v,.int t,.int b,.int l] H Q E)∨(head="unkey"∧Qm K CR [v,.int t,.int b,.int l] H Q E))
theorem zjg:¬(V.str "key"=V.str "write"):=fun z=>absurd (V.str.inj z) (by decide +kernel)
theorem ze4:¬(V.str "read"=V.str "write"):=fun z=>absurd (V.str.inj z) (by decide +kernel)
theorem ze5:¬(V.str "unkey"=V.str "write"):=fun z=>absurd (V.str.inj z) (by decide +kernel)
theorem ze6:¬(V.str "read"=V.str "key"):=fun z=>absurd (V.str.inj z) (by decide +kernel)
theorem ze7:¬(V.str "unkey"=V.str "key"):=fun z=>absurd (V.str.inj z) (by decide +kernel)
theorem ze8:¬(V.str "unkey"=V.str "read"):=fun z=>absurd (V.str.inj z) (by decide +kernel)
theorem zjh:¬(V.str "write"=V.str "read"):=fun z=>absurd (V.str.inj z) (by decide +kernel)
theorem zji:¬(V.str "write"=V.str "unkey"):=fun z=>absurd (V.str.inj z) (by decide +kernel)
theorem zjj:¬(V.str "key"=V.str "read"):=fun z=>absurd (V.str.inj z) (by decide +kernel)
theorem zjk:¬(V.str "key"=V.str "unkey"):=fun z=>absurd (V.str.inj z) (by decide +kernel)
theorem ye:FnScope ["head","rest","frame","turns","bells","late"] ["head","rest","frame"] (defScope vM):=⟨rfl,rfl,rfl,by decide +kernel,rfl,by decide +kernel,by decide +kernel⟩
theorem zdY (D:Def K mg "_law_stage" vM ["head","rest","frame"]) (T:Txt K mg){zb za:Addr} (xg:FnE P w K mg base 40 "written" ["message","turns","bells","late"] (Zj K zb)) (Qf:FnE P w K mg base 41 "keyed" ["message","turns","bells","late"] (XN K zb)) (yZ:FnE P w K mg base 3 "read" ["reading","turns","bells","late"] (XJ K za)) (wY:FnE P w K mg base 4 "unkeyed" ["reading","turns","bells","late"] (Qm K za)):FnE P w K mg base 42 "_law_stage" ["head","rest","frame"] (Jq K zb za):=by
 refine D.fnE ye (fun vs H Q E h=>?_) (fun f cdv A outer s H vs Q E hr h=>?_)
 ·obtain⟨head,v,p,t,b,l,rfl,_⟩:=h
  rfl
 ·obtain⟨head,v,p,t,b,l,rfl,hp,h⟩:=h
  refine⟨_,(pss_cons (ps_asg (pv 2) (pg_tup (n:=3) rfl (pgs_cons (pg_name (i:=3) ye.nd rfl (Or.inl rfl)) (pgs_cons (pg_name (i:=4) ye.nd rfl (Or.inl rfl)) (pgs_cons (pg_name (i:=5) ye.nd rfl (Or.inl rfl)) pgs_nil)))))
   (pss_cons (ps_if (pt_cmpR op_eq (pv 0) pe_str (nomark _))
    (pss_one (ps_ret (jj xg (hr.mono (by decide)) (by rfl) qC (pa_cons (pv 1) (pa_cons (pv 3) (pa_cons (pv 4) (pa_cons (pv 5) pa_nil)))))))
    pss_nil)
   (pss_cons (ps_if (pt_cmpR op_eq (pv 0) pe_str (nomark _))
    (pss_one (ps_ret (jj Qf (hr.mono (by decide)) (by rfl) qC (pa_cons (pv 1) (pa_cons (pv 3) (pa_cons (pv 4) (pa_cons (pv 5) pa_nil)))))))
    pss_nil)
   (pss_cons (ps_if (pt_cmpR op_eq (pv 0) pe_str (nomark _))
    (pss_one (ps_ret (jj yZ (hr.mono (by decide)) (by rfl) qC (pa_cons (pv 1) (pa_cons (pv 3) (pa_cons (pv 4) (pa_cons (pv 5) pa_nil)))))))
    pss_nil)
   (pss_one (ps_ret (jj wY (hr.mono (by decide)) (by rfl) qC (pa_cons (pv 1) (pa_cons (pv 3) (pa_cons (pv 4) (pa_cons (pv 5) pa_nil))))))))))),?_⟩
  refine⟨_,rfl,p,_,rfl,SqT.of hp,rfl,_,_,rfl,_,_,rfl,_,_,rfl,rfl,?_⟩
  rcases h with ⟨rfl,h⟩ | ⟨rfl,h⟩ | ⟨rfl,h⟩ | ⟨rfl,h⟩
  ·exact⟨_,rfl,rfl,_,rfl,ifD (fun _=>⟨_,rfl,_,rfl,_,rfl,_,rfl,h⟩) (fun z=>absurd rfl z)⟩
  ·exact⟨_,rfl,rfl,_,rfl,ifF zjg ⟨_,rfl,rfl,_,rfl,ifD (fun _=>⟨_,rfl,_,rfl,_,rfl,_,rfl,h⟩) (fun z=>absurd rfl z)⟩⟩
  ·exact⟨_,rfl,rfl,_,rfl,ifF ze4 ⟨_,rfl,rfl,_,rfl,ifF ze6 ⟨_,rfl,rfl,_,rfl,ifD (fun _=>⟨_,rfl,_,rfl,_,rfl,_,rfl,h⟩) (fun z=>absurd rfl z)⟩⟩⟩
  ·exact⟨_,rfl,rfl,_,rfl,ifF ze5 ⟨_,rfl,rfl,_,rfl,ifF ze7 ⟨_,rfl,rfl,_,rfl,ifF ze8 ⟨_,rfl,_,rfl,_,rfl,_,rfl,h⟩⟩⟩⟩
noncomputable def Kh (K:PySem.W.Frag):Sp:=fun vs H Q _=>∃(a:Addr) (ns:List Int),vs=[.ref a]∧(SqL K H a (ns.map V.int)∨H a=some (.tup (ns.map V.int)))∧ns.length≤1000∧(∀n∈ns,0≤n∧n<10 ^ 500)∧∀H',Same H H'→Q (.str (Txt.join " " (ns.map txt))) H'
theorem WQ:FnScope ["turns"] ["turns"] (defScope vN):=⟨rfl,rfl,rfl,by decide +kernel,rfl,by decide +kernel,by decide +kernel⟩
theorem zdZ (ND:NoDig K) (D:Def K mg "_law_words" vN ["turns"]) (T:Txt K mg):Fn P w K mg base 1 "_law_words" ["turns"] (Kh K):=by
 refine D.fn WQ (fun vs H Q E h=>?_) (fun f cdv A outer s H vs Q E hr h=>?_)
 ·obtain⟨a,ns,rfl,_⟩:=h
  rfl
 ·obtain⟨a,ns,rfl,hS,nl,nb,q⟩:=h
  refine⟨_,(pss_one (ps_ret (pe_bm PySem.F.plainAttrs_str PySem.F.slot_str_join PySem.F.type_str_join Kd pe_str (pa_cons (yc (own:=["turn"]) (fr:=[]) (ix:=[]) rfl ⟨rfl,rfl,rfl,rfl,rfl,rfl⟩ (zjf (pi_list (pv 0)) (pi_tup (pv 0))) (fun _ _ _ _ _=>(pg_name (i:=0) (show (["turn"]:List Str).Nodup by decide +kernel) rfl (Or.inl rfl))) (fun _ _ _ _ _=>xX) (fun _ _ _ _ _=>(pe_callTy (wQ ND) (by rfl) T.z_str Xv (pa_cons (pv 0) pa_nil)))) pa_nil)))),?_⟩
  have fin:∀acc,H acc=none→∃(a':Str) (p:Addr) (ys:List Str),V.str " "=.str a'∧[V.ref acc]=[.ref p]∧SqL K (upd H acc (.lst ((ns.map txt).map V.str))) p (ys.map V.str)∧(ys.map (·.length)).sum+ys.length*a'.length≤16777216∧Q (.str (Txt.join a' ys)) (upd H acc (.lst ((ns.map txt).map V.str))):=fun acc hacc=>by
   refine⟨" ",acc,ns.map txt,rfl,rfl,SqL.of upd_same,?_,q _ (Same.new hacc)⟩
   have h2:=Kg nb
   rw [show (" ":Str).length=1 by decide +kernel,List.length_map]
   omega
  rcases hS with hS | hS
  ·refine⟨rfl,.inl ⟨_,rfl,a,rfl,⟨_,hS⟩,fun acc hacc=>wO (K:=K) (a:=a) (xs:=ns.map V.int) (fun i=>V.str (txt (ns.getD i 0))) hS hacc (by rw [List.length_map,sizeLine_eq];omega) (fun i v H6 R hx s6 hR=>?_) ?_⟩⟩
   ·rw [List.getElem?_map] at hx
    obtain⟨n,hn,rfl⟩:=Option.map_eq_some_iff.mp hx
    have b:=nb n (List.mem_of_getElem? hn)
    simp only [List.getD_eq_getElem?_getD,hn,Option.getD_some] at hR
    exact⟨rfl,_,rfl,n,rfl,lgB b.1 (Int.lt_of_lt_of_le b.2 p54),hR⟩
   ·rw [Jo ns]
    exact fin acc hacc
  ·refine⟨rfl,.inr ⟨_,rfl,a,rfl,⟨_,SqT.of hS⟩,fun acc hacc=>zcV (K:=K) (a:=a) (xs:=ns.map V.int) (fun i=>V.str (txt (ns.getD i 0))) hS hacc (by rw [List.length_map,sizeLine_eq];omega) (fun i v H6 R hx s6 hR=>?_) ?_⟩⟩
   ·rw [List.getElem?_map] at hx
    obtain⟨n,hn,rfl⟩:=Option.map_eq_some_iff.mp hx
    have b:=nb n (List.mem_of_getElem? hn)
    simp only [List.getD_eq_getElem?_getD,hn,Option.getD_some] at hR
    exact⟨rfl,_,rfl,n,rfl,lgB b.1 (Int.lt_of_lt_of_le b.2 p54),hR⟩
   ·rw [Jo ns]
    exact fin acc hacc
end
section
variable {P:Program}{w:World}{K:PySem.W.Frag}{mg:Str→Option Value}{base:Heap}
noncomputable def Due (head:Str) (Q:VK) (x:V) (H1:Hp):Prop:=
 ((head="read"∨head="unkey")∧∃n:Int,x=.int n∧0≤n∧n<10 ^ 500∧∀p H',Same H1 H'→H' p=some (.tup [.str "told",.str (txt n)])→Q (.ref p) H') ∨
 ((head="write"∨head="key")∧∃(a:Addr) (ns:List Int),x=.ref a∧H1 a=some (.lst (ns.map V.int))∧ns.length≤1000∧(∀n∈ns,0≤n∧n<10 ^ 500)∧∀p H',Same H1 H'→H' p=some (.tup [.str "told",.str (xR ns)])→Q (.ref p) H')
noncomputable def ze9 (K:PySem.W.Frag) (CN CT CR:Addr):Sp:=fun vs H Q _=>∃(head:Str) (v:V) (p:Addr) (A:V→Hp→Prop) (R:Value→Hp→Prop),vs=[.str head,v,.ref p]∧zce (Jq K CT CR) [.str head,v,.ref p] H A R∧(∀x H1,A x H1→Due head Q x H1) ∧
 (∀C H1,R C H1→∃(C':Addr) (nm:Str),C=.ref C'∧zcc CN CT CR C' nm∧∀p H',Same H1 H'→H' p=some (.tup [.str "refused",.str nm])→Q (.ref p) H')
theorem kO:FnScope ["head","rest","frame","caught","found","e"] ["head","rest","frame"] (defScope yJ):=⟨rfl,rfl,rfl,by decide +kernel,rfl,by decide +kernel,by decide +kernel⟩
theorem zfr (ND:NoDig K) (D:Def K mg "_law_due" yJ ["head","rest","frame"]) (T:Txt K mg){zq:Addr} (jd:mg "BellError"=some (.ref zq)){qm:Addr} (vg:mg "NoRow"=some (.ref qm)){za:Addr} (zT:mg "NoReading"=some (.ref za)){zb:Addr} (qp:mg "TooGreat"=some (.ref zb)){zR:Addr} (jK:mg "TooMany"=some (.ref zR)){zQ:Addr} (jZ:mg "NoNote"=some (.ref zQ)){zg:Addr} (zZ:mg "NoOrder"=some (.ref zg)){zf:Addr} (jF:mg "NoName"=some (.ref zf)){zy:Addr} (xj:mg "Frame"=some (.ref zy)){zu:Addr} (wF:mg "Desk"=some (.ref zu)){jH:Tok} (jo:mg "LETTERS"=some (.str "abcdefghijklmnopqrstuvwxyz" jH)){qF:Tok} (qi:mg "MOST_LETTERS"=some (.int 8 qF)){jJ:Tok} (jq:mg "FIGURES"=some (.str "0123456789" jJ)){qG:Tok} (qj:mg "MOST_FIGURES"=some (.int 60 qG)){zr:Tok} (zp:mg "MOST_FIGURES_OF_MESSAGE"=some (.int 3000 zr)){qU:Tok} (qK:mg "MOST_BELLS"=some (.int 60 qU)) (je:PySem.W.excIn K zq bmV "ValueError.__new__"=true) (vV:PySem.W.excIn K qm bmV "ValueError.__new__"=true) (zK:PySem.W.excIn K za bmV "ValueError.__new__"=true) (qg:PySem.W.excIn K zb bmV "ValueError.__new__"=true) (z7:PySem.W.excIn K zg bmV "ValueError.__new__"=true) (jC:PySem.W.excIn K zf bmV "ValueError.__new__"=true) (xJ:PySem.W.excIn K zQ bmV "ValueError.__new__"=true) (jf:PySem.W.mroIn K zf (.ref zq)=some true) (jr:PySem.W.findIn K (.ref zf) "__getattribute__"=some (some (.builtin "BaseException.__getattribute__"))) (jt:PySem.W.findIn K (.ref zf) "__getattr__"=some none) (ju:PySem.W.findIn K (.ref zf) "__class__"=some (some (.builtin "object.__class__"))) (jw:PySem.W.mroIn K zf (.type "object")=some true) (jx:PySem.W.mroIn K zf (.type "BaseException")=some true) (qt:PySem.W.kitOne K (.ref zf) (.ref zf)=some true) (zU:PySem.W.kitOne K (.ref zf) (.ref zb)=some false) (zL:PySem.W.kitOne K (.ref zf) (.ref za)=some false) (qx:PySem.W.kitOne K (.ref zf) (.ref zQ)=some false) (z8:PySem.W.kitOne K (.ref zf) (.ref zg)=some false) (qH:PySem.W.kitOne K (.ref zf) (.ref qm)=some false) (z9:PySem.W.kitOne K (.ref zf) (.ref zR)=some false) (qI:PySem.W.kitOne K (.ref zf) (.type "ValueError")=some true) (qJ:PySem.W.mroIn K zb (.ref zq)=some true) (qW:PySem.W.findIn K (.ref zb) "__getattribute__"=some (some (.builtin "BaseException.__getattribute__"))) (qX:PySem.W.findIn K (.ref zb) "__getattr__"=some none) (qY:PySem.W.findIn K (.ref zb) "__class__"=some (some (.builtin "object.__class__"))) (qZ:PySem.W.mroIn K zb (.type "object")=some true) (jb:PySem.W.mroIn K zb (.type "BaseException")=some true) (zV:PySem.W.kitOne K (.ref zb) (.ref zf)=some false) (zF:PySem.W.kitOne K (.ref zb) (.ref zb)=some true) (zB:PySem.W.kitOne K (.ref zb) (.ref za)=some false) (zW:PySem.W.kitOne K (.ref zb) (.ref zQ)=some false) (zM:PySem.W.kitOne K (.ref zb) (.ref zg)=some false) (qd:PySem.W.kitOne K (.ref zb) (.ref qm)=some false) (zN:PySem.W.kitOne K (.ref zb) (.ref zR)=some false) (qe:PySem.W.kitOne K (.ref zb) (.type "ValueError")=some true) (qy:PySem.W.mroIn K za (.ref zq)=some true) (qM:PySem.W.findIn K (.ref za) "__getattribute__"=some (some (.builtin "BaseException.__getattribute__"))) (qN:PySem.W.findIn K (.ref za) "__getattr__"=some none) (qO:PySem.W.findIn K (.ref za) "__class__"=some (some (.builtin "object.__class__"))) (qP:PySem.W.mroIn K za (.type "object")=some true) (qQ:PySem.W.mroIn K za (.type "BaseException")=some true) (zO:PySem.W.kitOne K (.ref za) (.ref zf)=some false) (zE:PySem.W.kitOne K (.ref za) (.ref zb)=some false) (zx:PySem.W.kitOne K (.ref za) (.ref za)=some true) (zP:PySem.W.kitOne K (.ref za) (.ref zQ)=some false) (zG:PySem.W.kitOne K (.ref za) (.ref zg)=some false) (zX:PySem.W.kitOne K (.ref za) (.ref qm)=some false) (zH:PySem.W.kitOne K (.ref za) (.ref zR)=some false) (zY:PySem.W.kitOne K (.ref za) (.type "ValueError")=some true) (JZ:PySem.W.specialIn K (.builtin "object.__class__") "__get__"=some (some (.builtin "getset_descriptor.__get__"))) (J1:PySem.W.takesIn K (.builtin "object.__class__")=some true) (xN:FnE P w K mg base 42 "_law_stage" ["head","rest","frame"] (Jq K zb za)) (kJ:Fn P w K mg base 1 "_law_kind" ["e"] (zeK zf zb za)) (vo:Fn P w K mg base 1 "_law_words" ["turns"] (Kh K)):Fn P w K mg base 43 "_law_due" ["head","rest","frame"] (ze9 K zf zb za):=by
 refine D.fn kO (fun vs H Q E h=>?_) (fun f cdv A outer s H vs Q E hr h=>?_)
 ·obtain⟨head,v,p,A,R,rfl,_⟩:=h
  rfl
 ·obtain⟨head,v,p,Aw,Rw,rfl,td,qa,qr⟩:=h
  have hu:=zel hr
  refine⟨_,(pss_cons (ps_set (i:=3) kO.nd rfl (Or.inl rfl) pe_non)
   (pss_cons (ps_set (i:=4) kO.nd rfl (Or.inl rfl) pe_non)
   (pss_cons (zct (i:=5) rfl rfl kO.nd rfl rfl rfl (by rfl) jd je (by decide) (fun pn xe G hx=>(pss_one (ps_set (i:=4) kO.nd rfl (Or.inl rfl) (jj xN (hr.mono (by decide)) (by rfl) hx (pa_cons (pv 0) (pa_cons (pv 1) (pa_cons (pv 2) pa_nil))))))) (fun x=>(pss_one (ps_set (i:=3) kO.nd rfl (Or.inl rfl) (pv 5)))))
   (pss_cons (ps_if (pt_cmpR op_notN (pv 3) pe_non (nomark _))
    (pss_one (ps_ret (pe_tup (pa_cons pe_str (pa_cons (zA kJ (hr.mono (by decide)) (by rfl) (pa_cons (pv 3) pa_nil)) pa_nil)))))
    pss_nil)
   (pss_cons (ps_if (pw_or (pt_cmpR op_eq (pv 0) pe_str (nomark _)) (pw_or1 (pt_cmpR op_eq (pv 0) pe_str (nomark _)))).pt
    (pss_one (ps_ret (pe_tup (pa_cons pe_str (pa_cons (pe_callTy (wQ ND) (by rfl) T.z_str Xv (pa_cons (pv 4) pa_nil)) pa_nil)))))
    pss_nil)
   (pss_one (ps_ret (pe_tup (pa_cons pe_str (pa_cons (pe_ix ix_list (pe_lst (pa_cons (zA vo (hr.mono (by decide)) (by rfl) (pa_cons (pv 4) pa_nil)) (pa_cons pe_str pa_nil))) (pe_callTy call_int1 (by rfl) T.z_int zaW (pa_cons (pe_cmpR (zfd hu) (pv 4) (pe_lst pa_nil) (nomark _)) pa_nil)) (fun _ _=>rfl)) pa_nil)))))))))),?_⟩
  refine⟨_,rfl,_,rfl,_,rfl,td _ _ (fun x H1 aw=>?_) (fun C H1 r=>?_)⟩
  ·rcases qa x H1 aw with ⟨hh,n,rfl,n0,n1,q⟩ | ⟨hh,a,ns,rfl,ha,nl,nb,q⟩
   ·refine⟨_,rfl,rfl,_,rfl,iteF ?_⟩
    rcases hh with rfl | rfl
    ·exact⟨_,rfl,rfl,_,rfl,ifD (fun _=>⟨_,rfl,n,rfl,lgB n0 (Int.lt_of_lt_of_le n1 p54),(by show 2≤sizeLine;decide),fun p hp=>q p _ (Same.new hp) upd_same⟩) (fun z=>absurd rfl z)⟩
    ·exact⟨_,rfl,rfl,_,rfl,ifF ze8 ⟨_,rfl,rfl,_,rfl,ifD (fun _=>⟨_,rfl,n,rfl,lgB n0 (Int.lt_of_lt_of_le n1 p54),(by show 2≤sizeLine;decide),fun p hp=>q p _ (Same.new hp) upd_same⟩) (fun z=>absurd rfl z)⟩⟩
   ·skip
    refine⟨_,rfl,rfl,_,rfl,iteF ?_⟩
    have n1:¬(V.str head=V.str "read"):=by rcases hh with rfl | rfl;exact zjh;exact zjj
    have n2:¬(V.str head=V.str "unkey"):=by rcases hh with rfl | rfl;exact zji;exact zjk
    refine⟨_,rfl,rfl,_,rfl,ifF n1 ⟨_,rfl,rfl,_,rfl,ifF n2 ?_⟩⟩
    refine⟨_,rfl,a,ns,rfl,.inl (SqL.of ha),nl,nb,fun H2 s2=>⟨(by show 2≤sizeLine;decide),fun pl hpl=>?_⟩⟩
    have s3:Same H1 (upd H2 pl (.lst [V.str (Txt.join " " (ns.map txt)),V.str "none"])):=s2.put hpl
    have h3:(upd H2 pl (.lst [V.str (Txt.join " " (ns.map txt)),V.str "none"])) pl=some (.lst [V.str (Txt.join " " (ns.map txt)),V.str "none"]):=upd_same
    generalize upd H2 pl (.lst [V.str (Txt.join " " (ns.map txt)),V.str "none"])=H3 at s3 h3 ⊢
    refine⟨_,rfl,(by decide),fun pe hpe=>?_⟩
    have s4:Same H3 (upd H3 pe (.lst [])):=Same.new hpe
    have h4:(upd H3 pe (.lst [])) pe=some (.lst []):=upd_same
    generalize upd H3 pe (.lst [])=H4 at s4 h4 ⊢
    refine⟨a,pe,ns,[],rfl,rfl,SqL.of (s4 _ _ (s3 _ _ ha)),SqL.of h4,.inr ⟨_,rfl,pl,_,_,_,rfl,rfl,SqL.of (s4 _ _ h3),(show atI [V.str (Txt.join " " (ns.map txt)),V.str "none"] (if decide (ns=[])=true then 1 else 0)=some (V.str (xR ns)) from ?_),(by show 2≤sizeLine;decide),fun p hp=>q p _ ((s3.trans s4).trans (Same.new hp)) upd_same⟩⟩
    unfold xR
    by_cases z:ns=[]
    ·rw [if_pos z,if_pos (decide_eq_true z)];rfl
    ·rw [if_neg z,if_neg (by rw [decide_eq_false z];decide)];rfl
  ·obtain⟨C',nm,rfl,kd,q⟩:=qr C H1 r
   obtain⟨xi,mr⟩:PySem.W.excIn K C' bmV "ValueError.__new__"=true∧PySem.W.mroIn K C' (.ref zq)=some true:=by
    rcases kd with ⟨ec,_⟩ | ⟨ec,_⟩ | ⟨ec,_⟩ <;> rw [ec]
    ·exact⟨jC,jf⟩
    ·exact⟨qg,qJ⟩
    ·exact⟨zK,qy⟩
   refine⟨C',bmV,_,rfl,xi,by decide,mr,fun y hy=>⟨_,rfl,?_⟩⟩
   have s2:Same H1 (upd H1 y (wN y (.ref C'))):=Same.new hy
   have h2:(upd H1 y (wN y (.ref C'))) y=some (wN y (.ref C')):=upd_same
   generalize upd H1 y (wN y (.ref C'))=H2 at s2 h2 ⊢
   refine⟨_,rfl,rfl,_,rfl,iteT ⟨_,rfl,y,C',nm,rfl,h2,kd,fun H3 s3=>⟨(by show 2≤sizeLine;decide),fun p hp=>q p _ ((s2.trans s3).trans (Same.new hp)) upd_same⟩⟩⟩
noncomputable def K3:Sp:=fun vs H Q _=>∃(head:Str) (p:Addr) (t b l c:Int),vs=[.str head,.ref p]∧H p=some (.tup [.int t,.int b,.int l])∧Vn t b l∧(head="write"∨head="read"→c=cnt t b l)∧(¬(head="write"∨head="read")→c=yX t b l)∧Q (.int c) H
theorem WR:FnScope ["head","frame"] ["head","frame"] (defScope vO):=⟨rfl,rfl,rfl,by decide +kernel,rfl,by decide +kernel,by decide +kernel⟩
theorem zdd (D:Def K mg "_law_count" vO ["head","frame"]) (T:Txt K mg) (qT:Fn P w K mg base 2 "box_count" ["turns","bells","late"] Qj) (xK:Fn P w K mg base 3 "keyed_count" ["turns","bells","late"] XM):Fn P w K mg base 4 "_law_count" ["head","frame"] K3:=by
 refine D.fn WR (fun vs H Q E h=>?_) (fun f cdv A outer s H vs Q E hr h=>?_)
 ·obtain⟨head,p,t,b,l,c,rfl,_⟩:=h
  rfl
 ·obtain⟨head,p,t,b,l,c,rfl,hp,ok,w1,w2,q⟩:=h
  have q1:(head="write"∨head="read")→Q (.int (cnt t b l)) H:=fun z=>by rw [← w1 z];exact q
  have q2:¬(head="write"∨head="read")→Q (.int (yX t b l)) H:=fun z=>by rw [← w2 z];exact q
  refine⟨_,(pss_cons (ps_if (pw_or (pt_cmpR op_eq (pv 0) pe_str (nomark _)) (pw_or1 (pt_cmpR op_eq (pv 0) pe_str (nomark _)))).pt
    (pss_one (ps_ret (zA qT (hr.mono (by decide)) (by rfl) (pa_cons (pe_ix ix_tup (pv 1) pe_int (fun _ _=>rfl)) (pa_cons (pe_ix ix_tup (pv 1) pe_int (fun _ _=>rfl)) (pa_cons (pe_ix ix_tup (pv 1) pe_int (fun _ _=>rfl)) pa_nil))))))
    pss_nil)
   (pss_one (ps_ret (zA xK (hr.mono (by decide)) (by rfl) (pa_cons (pe_ix ix_tup (pv 1) pe_int (fun _ _=>rfl)) (pa_cons (pe_ix ix_tup (pv 1) pe_int (fun _ _=>rfl)) (pa_cons (pe_ix ix_tup (pv 1) pe_int (fun _ _=>rfl)) pa_nil))))))),?_⟩
  have lb:=vz ok.l0 ok.l1
  have tb:=vz ok.t0 ok.t1
  have b60:=ok.b1
  have A1:=SqT.of (K:=K) hp
  refine⟨_,rfl,rfl,_,rfl,ifD (fun z=>iteT ⟨_,rfl,p,_,0,_,rfl,rfl,A1,rfl,_,rfl,p,_,1,_,rfl,rfl,A1,rfl,_,rfl,p,_,2,_,rfl,rfl,A1,rfl,t,b,l,rfl,ok.b0,by omega,ok.l0,zm lb (by decide),zm tb (by decide),q1 (.inl (V.str.inj z))⟩) (fun z=>⟨_,rfl,rfl,_,rfl,ifD (fun z2=>⟨_,rfl,p,_,0,_,rfl,rfl,A1,rfl,_,rfl,p,_,1,_,rfl,rfl,A1,rfl,_,rfl,p,_,2,_,rfl,rfl,A1,rfl,t,b,l,rfl,ok.b0,by omega,ok.l0,zm lb (by decide),zm tb (by decide),q1 (.inr (V.str.inj z2))⟩) (fun z2=>?_)⟩)⟩
  exact⟨_,rfl,p,_,0,_,rfl,rfl,A1,rfl,_,rfl,p,_,1,_,rfl,rfl,A1,rfl,_,rfl,p,_,2,_,rfl,rfl,A1,rfl,t,b,l,rfl,ok.b0,by omega,ok.l0,zm lb (by decide),ok.t0,zm tb (by decide),q2 (fun y=>y.elim (fun e=>z (by rw [e])) (fun e=>z2 (by rw [e])))⟩
end
theorem K4 {t b l:Int}{B:Nat} (b0:0≤b) (l0:0≤l) (nb:intBits ((t-b) / (l+1)+b)≤B) (hb:B*b.toNat+1≤1600):cnt t b l<10 ^ 500:=by
 unfold cnt
 split
 ·exact(show (0:Int)<10 ^ 500 by decide +kernel)
 ·have h3:0≤(t-b) / (l+1):=Int.ediv_nonneg (by omega) (by omega)
  have h4:=zal (k:=b.toNat) nb (by omega)
  rw [show ((b.toNat:Nat):Int)=b by omega] at h4
  have h5:intBits (ch ((t-b) / (l+1)+b) b)≤1600:=zm h4 hb
  have h6:=intBits_le_iff.mp h5
  have zkm:(2:Int) ^ 1600≤10 ^ 500:=by decide +kernel
  omega
theorem cnt_none {t b l:Int} (h:t<b):cnt t b l=0:=by unfold cnt;rw [if_pos h]
structure zd0 (t b l:Int):Prop where
 ok:Vn t b l
 b24:b≤24
 t1:t<10 ^ 36
 l1:l<10 ^ 20
theorem Y7:(0:Int)<10 ^ 500:=by decide +kernel
theorem zeM {b l st r:Int} (b0:0≤b) (b24:b≤24) (l0:0≤l) (l1:l<10 ^ 20) (s0:0≤st) (s1:st<10 ^ 15) (s6:6<b→st<4) (r0:0≤r) (r1:r<l+1):zd0 (b+st*(l+1)+r) b l:=by
 have m0:0≤st*(l+1):=Int.mul_nonneg s0 (by omega)
 have m1:st*(l+1)≤10 ^ 15*10 ^ 20:=Int.mul_le_mul (by omega) (by omega) (by omega) (by decide)
 have e:(b+st*(l+1)+r-b) / (l+1)=st:=by
  rw [show b+st*(l+1)+r-b=r+st*(l+1) by omega,Int.add_mul_ediv_right _ _ (by omega),Int.ediv_eq_zero_of_lt r0 r1,Int.zero_add]
 refine⟨⟨by omega,by omega,b0,by omega,l0,by omega,?_,?_⟩,b24,by omega,l1⟩
 ·by_cases z:6<b
  ·exact K4 (B:=6) b0 l0 (by rw [e];exact zJ (by omega) (by have:=s6 z;omega)) (by omega)
  ·exact K4 (B:=60) b0 l0 (by rw [e];exact zJ (by omega) (by omega)) (by omega)
 ·unfold yX
  split
  ·exact Y7
  split
  ·exact Y7
  have e2:(b+st*(l+1)+r-1-(b-1)) / (2*l+1)≤st∧0≤(b+st*(l+1)+r-1-(b-1)) / (2*l+1):=by
   rw [show b+st*(l+1)+r-1-(b-1)=st*(l+1)+r by omega]
   refine⟨?_,Int.ediv_nonneg (by omega) (by omega)⟩
   have d:(st*(l+1)+r) / (2*l+1)<st+1:=by
    refine Int.ediv_lt_of_lt_mul (by omega) ?_
    have k:(st+1)*(2*l+1)=st*(l+1)+(st*l+(2*l+1)):=by
     rw [Int.add_mul,Int.one_mul,show st*(2*l+1)=st*(l+1)+st*l by rw [← Int.mul_add];congr 1;omega]
     omega
    have k0:0≤st*l:=Int.mul_nonneg s0 l0
    omega
   omega
  by_cases z:6<b
  ·exact K4 (B:=6) (by omega) (by omega) (zJ (by omega) (by have:=s6 z;omega)) (by omega)
  ·exact K4 (B:=60) (by omega) (by omega) (zJ (by omega) (by omega)) (by omega)
theorem zeN {t b l:Int} (b0:0≤b) (b24:b≤24) (l0:0≤l) (l1:l<10 ^ 20) (t0:0≤t) (tb:t<b∨(t=0∧b=0)):zd0 t b l:=by
 refine⟨⟨t0,by omega,b0,by omega,l0,by omega,?_,?_⟩,b24,by omega,l1⟩
 ·rcases tb with z | ⟨z1,z2⟩
  ·rw [cnt_none z];exact Y7
  ·exact K4 (B:=10) b0 l0 (by rw [z1,z2,show ((0:Int)-0)=0 by decide,Int.zero_ediv];decide) (by rw [z2];decide)
 ·unfold yX
  split
  ·exact Y7
  split
  ·exact Y7
  rw [cnt_none (by omega)]
  exact Y7
noncomputable def zd1 (x:Str):Bool:=decide (1≤x.length) && decide (x.length≤8) && (cpl x).all fun c=>decide (97≤c) && decide (c≤122)
theorem zeO {x:Str} (h:zd1 x=true):qD x:=by
 unfold zd1 at h
 simp only [Bool.and_eq_true,decide_eq_true_eq,List.all_eq_true] at h
 exact⟨h.1.1,h.1.2,h.2⟩
noncomputable def K5:List Str:=["","ab","aaaaaaa","zz"]
theorem zde:∀st∈K5,∀k:Fin 8,k.val≤st.length→∀sgn∈([("a":Str),"b","q"]:List Str),zd1 (Txt.slice st none (some (k.val:Int))++sgn++Txt.slice st (some (k.val:Int)) none)=true:=by decide +kernel
section
variable {P:Program}{w:World}{K:PySem.W.Frag}{mg:Str→Option Value}{base:Heap}
noncomputable def zd2:Sp:=fun vs H Q _=>∃c:Int,vs=[.int c]∧∀(p:Addr) (t b l:Int) (H':Hp),Same H H'→H p=none→H' p=some (.tup [.int t,.int b,.int l])→zd0 t b l→Q (.ref p) H'
theorem zeP:intBits ((7:Int) ^ (40:Int).toNat)≤120:=by decide
theorem vQ:FnScope ["cell","bells","late","steps"] ["cell"] (defScope vL):=⟨rfl,rfl,rfl,by decide +kernel,rfl,by decide +kernel,by decide +kernel⟩
theorem zd3 (D:Def K mg "_law_frame" vL ["cell"]) (T:Txt K mg) (zj:Fn P w K mg base 1 "_law_drawn" ["cell","k"] zbZ):Fn P w K mg base 2 "_law_frame" ["cell"] zd2:=by
 refine D.fn vQ (fun vs H Q E h=>?_) (fun f cdv A outer s H vs Q E hr h=>?_)
 ·obtain⟨c,rfl,_⟩:=h
  rfl
 ·obtain⟨cell,rfl,q⟩:=h
  refine⟨_,(pss_cons (ps_set (i:=1) vQ.nd rfl (Or.inl rfl) (pe_op ql (zA zj (hr.mono (by decide)) (by rfl) (pa_cons (pv 0) (pa_cons pe_int pa_nil))) (pe_ix ix_list (pe_lst (pa_cons pe_int (pa_cons pe_int (pa_cons pe_int (pa_cons pe_int pa_nil))))) (pe_op ql (zA zj (hr.mono (by decide)) (by rfl) (pa_cons (pv 0) (pa_cons pe_int pa_nil))) pe_int) (fun _ _=>rfl))))
   (pss_cons (ps_set (i:=2) vQ.nd rfl (Or.inl rfl) (pe_ix ix_list (pe_lst (pa_cons (pe_op ql (zA zj (hr.mono (by decide)) (by rfl) (pa_cons (pv 0) (pa_cons pe_int pa_nil))) pe_int) (pa_cons (pe_op ql (pe_op jc (zA zj (hr.mono (by decide)) (by rfl) (pa_cons (pv 0) (pa_cons pe_int pa_nil))) (pe_op vU pe_int pe_int)) (pe_op vU pe_int pe_int)) pa_nil))) (pe_op ql (zA zj (hr.mono (by decide)) (by rfl) (pa_cons (pv 0) (pa_cons pe_int pa_nil))) pe_int) (fun _ _=>rfl)))
   (pss_cons (ps_set (i:=3) vQ.nd rfl (Or.inl rfl) (pe_op ql (zA zj (hr.mono (by decide)) (by rfl) (pa_cons (pv 0) (pa_cons pe_int pa_nil))) (pe_ix ix_list (pe_lst (pa_cons pe_int (pa_cons pe_int (pa_cons (pe_op vU pe_int pe_int) pa_nil)))) (pe_op ql (zA zj (hr.mono (by decide)) (by rfl) (pa_cons (pv 0) (pa_cons pe_int pa_nil))) pe_int) (fun _ _=>rfl))))
   (pss_cons (ps_if (pt_cmpR X8 (pv 1) pe_int (nomark _))
    (pss_one (ps_set (i:=3) vQ.nd rfl (Or.inl rfl) (pe_op ql (zA zj (hr.mono (by decide)) (by rfl) (pa_cons (pv 0) (pa_cons pe_int pa_nil))) pe_int)))
    pss_nil)
   (pss_cons (ps_if (pt_cmpR vq (pe_op ql (zA zj (hr.mono (by decide)) (by rfl) (pa_cons (pv 0) (pa_cons pe_int pa_nil))) pe_int) pe_int (nomark _))
    (pss_one (ps_ret (pe_tup (pa_cons (pe_op ql (zA zj (hr.mono (by decide)) (by rfl) (pa_cons (pv 0) (pa_cons pe_int pa_nil))) (pe_callB (call_max2 rfl) (by rfl) T.z_max zcn (pa_cons pe_int (pa_cons (pv 1) pa_nil)))) (pa_cons (pv 1) (pa_cons (pv 2) pa_nil))))))
    pss_nil)
   (pss_one (ps_ret (pe_tup (pa_cons (pe_op qz (pe_op qz (pv 1) (pe_op jc (pv 3) (pe_op qz (pv 2) pe_int))) (pe_op ql (pe_op jc (zA zj (hr.mono (by decide)) (by rfl) (pa_cons (pv 0) (pa_cons pe_int pa_nil))) (pe_op vU pe_int pe_int)) (pe_op qz (pv 2) pe_int))) (pa_cons (pv 1) (pa_cons (pv 2) pa_nil))))))))))),?_⟩
  refine⟨_,rfl,cell,2,rfl,by decide,fun d2 d20 d21=>⟨(by show 4≤sizeLine;decide),fun p0 hp0=>?_⟩⟩
  have s0:Same H (upd H p0 (.lst [V.int 7,V.int 7,V.int 7,V.int 25])):=Same.new hp0
  have h0:(upd H p0 (.lst [V.int 7,V.int 7,V.int 7,V.int 25])) p0=some (.lst [V.int 7,V.int 7,V.int 7,V.int 25]):=upd_same
  generalize upd H p0 (.lst [V.int 7,V.int 7,V.int 7,V.int 25])=H0 at s0 h0 ⊢
  refine⟨_,rfl,cell,3,rfl,by decide,fun d3 d30 d31=>⟨_,_,rfl,rfl,(by decide),?_⟩⟩
  obtain⟨m0,e0,hm0⟩:∃m0:Int,atI [V.int 7,V.int 7,V.int 7,V.int 25] (d3 % 4)=some (V.int m0)∧0<m0∧m0≤25:=by
   rcases (by omega:d3 % 4=0∨d3 % 4=1∨d3 % 4=2∨d3 % 4=3) with z | z | z | z
   ·exact⟨7,by rw [z];rfl,by decide⟩
   ·exact⟨7,by rw [z];rfl,by decide⟩
   ·exact⟨7,by rw [z];rfl,by decide⟩
   ·exact⟨25,by rw [z];rfl,by decide⟩
  refine⟨_,_,_,_,rfl,rfl,SqL.of h0,e0,_,_,rfl,rfl,by omega,?_⟩
  have b0:=Int.emod_nonneg d2 (show m0≠0 by omega)
  have b1:=Int.emod_lt_of_pos d2 hm0.1
  have bb:0≤d2 % m0∧d2 % m0≤24:=by omega
  generalize d2 % m0=b at bb ⊢
  refine⟨_,rfl,cell,4,rfl,by decide,fun d4 d40 d41=>⟨_,_,rfl,rfl,(by decide),_,rfl,cell,4,rfl,by decide,fun d4' d40' d41'=>⟨_,_,rfl,rfl,⟨by decide,by decide,by decide⟩,_,_,rfl,rfl,⟨62,120,zJ d40' (by omega),zeP,by decide⟩,_,_,rfl,rfl,⟨by decide,by decide,by decide⟩,_,_,rfl,rfl,(by decide),(by show 2≤sizeLine;decide),fun p1 hp1=>?_⟩⟩⟩
  have l20:(0:Int)<10 ^ (20:Int).toNat:=by decide
  have x0:=Int.emod_nonneg (d4'*7 ^ (40:Int).toNat) (show (10:Int) ^ (20:Int).toNat≠0 by decide)
  have x1:=Int.emod_lt_of_pos (d4'*7 ^ (40:Int).toNat) l20
  generalize d4'*7 ^ (40:Int).toNat % 10 ^ (20:Int).toNat=g4 at x0 x1 ⊢
  have x1:g4<10 ^ 20:=x1
  have s1:Same H0 (upd H0 p1 (.lst [V.int (d4 % 7),V.int g4])):=Same.new hp1
  have h1:(upd H0 p1 (.lst [V.int (d4 % 7),V.int g4])) p1=some (.lst [V.int (d4 % 7),V.int g4]):=upd_same
  generalize upd H0 p1 (.lst [V.int (d4 % 7),V.int g4])=H1 at s1 h1 ⊢
  refine⟨_,rfl,cell,5,rfl,by decide,fun d5 d50 d51=>⟨_,_,rfl,rfl,(by decide),?_⟩⟩
  obtain⟨l,e1,l0,l1⟩:∃l:Int,atI [V.int (d4 % 7),V.int g4] (d5 % 2)=some (V.int l)∧0≤l∧l<10 ^ 20:=by
   rcases (by omega:d5 % 2=0∨d5 % 2=1) with z | z
   ·exact⟨d4 % 7,by rw [z];rfl,by omega⟩
   ·exact⟨g4,by rw [z];rfl,x0,x1⟩
  refine⟨_,_,_,_,rfl,rfl,SqL.of h1,e1,?_⟩
  refine⟨_,rfl,cell,6,rfl,by decide,fun d6 d60 d61=>⟨_,_,rfl,rfl,⟨by decide,by decide,by decide⟩,(by show 3≤sizeLine;decide),fun p2 hp2=>?_⟩⟩
  have s2:Same H1 (upd H1 p2 (.lst [V.int 13,V.int 13,V.int (10 ^ (15:Int).toNat)])):=Same.new hp2
  have h2:(upd H1 p2 (.lst [V.int 13,V.int 13,V.int (10 ^ (15:Int).toNat)])) p2=some (.lst [V.int 13,V.int 13,V.int (10 ^ (15:Int).toNat)]):=upd_same
  generalize upd H1 p2 (.lst [V.int 13,V.int 13,V.int (10 ^ (15:Int).toNat)])=H2 at s2 h2 ⊢
  refine⟨_,rfl,cell,7,rfl,by decide,fun d7 d70 d71=>⟨_,_,rfl,rfl,(by decide),?_⟩⟩
  obtain⟨m2,e2,hm2⟩:∃m2:Int,atI [V.int 13,V.int 13,V.int (10 ^ (15:Int).toNat)] (d7 % 3)=some (V.int m2)∧0<m2∧m2≤10 ^ 15:=by
   rcases (by omega:d7 % 3=0∨d7 % 3=1∨d7 % 3=2) with z | z | z
   ·exact⟨13,by rw [z];rfl,by decide⟩
   ·exact⟨13,by rw [z];rfl,by decide⟩
   ·exact⟨10 ^ (15:Int).toNat,by rw [z];rfl,by decide⟩
  refine⟨_,_,_,_,rfl,rfl,SqL.of h2,e2,_,_,rfl,rfl,by omega,?_⟩
  have t0:=Int.emod_nonneg d6 (show m2≠0 by omega)
  have t1:=Int.emod_lt_of_pos d6 hm2.1
  have tt:0≤d6 % m2∧d6 % m2<10 ^ 15:=by omega
  generalize d6 % m2=st0 at tt ⊢
  have s02:=(s0.trans s1).trans s2
  dsimp only [gName]
  refine zb4 (fun σ' H'=>∃st:Int,σ'=[some (.int cell),some (.int b),some (.int l),some (.int st)]∧H'=H2∧0≤st∧st<10 ^ 15∧(6<b→st<4)) ?_ (fun N hN=>?_)
  rotate_left
  ·refine⟨_,rfl,_,_,rfl,rfl,_,rfl,ifD (fun z=>⟨_,rfl,cell,6,rfl,by decide,fun d6' d60' d61'=>⟨_,_,rfl,rfl,(by decide),hN _ _ ⟨_,rfl,rfl,by omega,by omega,fun _=>by omega⟩⟩⟩) (fun z=>hN _ _ ⟨st0,rfl,rfl,tt.1,tt.2,fun y=>absurd y z⟩)⟩
  rintro σ' H' ⟨st,rfl,rfl,st0,st1,st6⟩
  refine⟨_,rfl,cell,8,rfl,by decide,fun d8 d80 d81=>⟨_,_,rfl,rfl,(by decide),_,_,rfl,rfl,_,rfl,ifD (fun z=>?_) (fun z=>?_)⟩⟩
  ·refine⟨_,rfl,cell,6,rfl,by decide,fun d9 d90 d91=>⟨_,rfl,_,_,rfl,_,_,rfl,rfl,by omega,_,rfl,_,rfl,(by show 3≤sizeLine;decide),fun pt hpt=>q pt _ b l _ (s02.put hpt) (s02.free hpt) upd_same ?_⟩⟩
   have mp:0<(if b > 1 then b else 1)∧((if b > 1 then b else 1)≤b∨(b=0∧(if b > 1 then b else 1)=1)):=by split <;> omega
   generalize (if b > 1 then b else 1)=mx at mp
   have y0:=Int.emod_nonneg d9 (show mx≠0 by omega)
   have y1:=Int.emod_lt_of_pos d9 mp.1
   exact zeN bb.1 bb.2 l0 l1 y0 (by omega)
  ·refine⟨_,rfl,_,rfl,_,rfl,_,_,rfl,rfl,_,_,rfl,rfl,⟨60,80,zJ st0 (by omega),zJ (by omega) (by omega),by decide⟩,_,_,rfl,rfl,_,rfl,cell,9,rfl,by decide,fun d9 d90 d91=>⟨_,_,rfl,rfl,⟨by decide,by decide,by decide⟩,_,_,rfl,rfl,⟨62,120,zJ d90 (by omega),zeP,by decide⟩,_,rfl,_,_,rfl,rfl,_,_,rfl,rfl,by omega,_,_,rfl,rfl,_,rfl,_,rfl,(by show 3≤sizeLine;decide),fun pt hpt=>?_⟩⟩
   exact q pt _ b l _ (s02.put hpt) (s02.free hpt) upd_same (zeM bb.1 bb.2 l0 l1 st0 st1 st6 (Int.emod_nonneg _ (by omega)) (Int.emod_lt_of_pos _ (by omega)))
noncomputable def zeQ:Sp:=fun vs H Q _=>∃c:Int,vs=[.int c]∧∀(p:Addr) (a b d:Str) (H':Hp),Same H H'→H' p=some (.lst [.str a,.str b,.str d])→qD a→qD b→qD d→Q (.ref p) H'
end
section
variable {P:Program}{w:World}{K:PySem.W.Frag}{mg:Str→Option Value}{base:Heap}
theorem zd4:∀st∈K5,st.length≤7:=by decide +kernel
theorem ZS:FnScope ["cell","stem","place"] ["cell"] (defScope vK):=⟨rfl,rfl,rfl,by decide +kernel,rfl,by decide +kernel,by decide +kernel⟩
theorem zd5 (D:Def K mg "_law_names" vK ["cell"]) (T:Txt K mg) (zj:Fn P w K mg base 1 "_law_drawn" ["cell","k"] zbZ):Fn P w K mg base 2 "_law_names" ["cell"] zeQ:=by
 refine D.fn ZS (fun vs H Q E h=>?_) (fun f cdv A outer s H vs Q E hr h=>?_)
 ·obtain⟨c,rfl,_⟩:=h
  rfl
 ·obtain⟨cell,rfl,q⟩:=h
  refine⟨_,(pss_cons (ps_set (i:=1) ZS.nd rfl (Or.inr rfl) (pe_ix ix_list (pe_lst (pa_cons pe_str (pa_cons pe_str (pa_cons pe_str (pa_cons pe_str pa_nil))))) (pe_op ql (zA zj (hr.mono (by decide)) (by rfl) (pa_cons (pv 0) (pa_cons pe_int pa_nil))) pe_int) (fun _ _=>rfl)))
   (pss_cons (ps_set (i:=2) ZS.nd rfl (Or.inr rfl) (pe_op ql (zA zj (hr.mono (by decide)) (by rfl) (pa_cons (pv 0) (pa_cons pe_int pa_nil))) (pe_op qz (pe_callB call_len_str (by rfl) T.z_len QR (pa_cons (pv 1) pa_nil)) pe_int)))
   (pss_one (ps_ret (yc (own:=["sign"]) (fr:=["stem","place"]) (ix:=[1,2]) rfl ⟨rfl,rfl,rfl,rfl,rfl,rfl⟩ (pi_list (pe_lst (pa_cons pe_str (pa_cons pe_str (pa_cons pe_str pa_nil))))) (fun _ _ _ _ _=>(pg_name (i:=0) (show (["sign","stem","place"]:List Str).Nodup by decide +kernel) rfl (Or.inl rfl))) (fun _ _ _ _ _=>xX) (fun _ _ _ _ _=>(pe_op op_add_str (pe_op op_add_str (pe_slice zdr (pv 1) po_none (po_some (pv 2))) (pv 0)) (pe_slice zdr (pv 1) (po_some (pv 2)) po_none)))))))),?_⟩
  refine⟨(by show 4≤sizeLine;decide),fun p0 hp0=>?_⟩
  have s0:Same H (upd H p0 (.lst [V.str "",V.str "ab",V.str "aaaaaaa",V.str "zz"])):=Same.new hp0
  have h0:(upd H p0 (.lst [V.str "",V.str "ab",V.str "aaaaaaa",V.str "zz"])) p0=some (.lst [V.str "",V.str "ab",V.str "aaaaaaa",V.str "zz"]):=upd_same
  generalize upd H p0 (.lst [V.str "",V.str "ab",V.str "aaaaaaa",V.str "zz"])=H0 at s0 h0 ⊢
  refine⟨_,rfl,cell,0,rfl,by decide,fun d0 d00 d01=>⟨_,_,rfl,rfl,(by decide),?_⟩⟩
  obtain⟨st,hst,e0⟩:∃st∈K5,atI [V.str "",V.str "ab",V.str "aaaaaaa",V.str "zz"] (d0 % 4)=some (V.str st):=by
   rcases (by omega:d0 % 4=0∨d0 % 4=1∨d0 % 4=2∨d0 % 4=3) with z | z | z | z
   ·exact⟨"",by simp [K5],by rw [z];rfl⟩
   ·exact⟨"ab",by simp [K5],by rw [z];rfl⟩
   ·exact⟨"aaaaaaa",by simp [K5],by rw [z];rfl⟩
   ·exact⟨"zz",by simp [K5],by rw [z];rfl⟩
  have sl:=zd4 st hst
  have fit:st.length≤sizeLine:=by rw [sizeLine_eq];omega
  refine⟨_,_,_,_,rfl,rfl,SqL.of h0,e0,?_⟩
  refine⟨_,rfl,cell,1,rfl,by decide,fun d1 d10 d11=>⟨_,rfl,st,rfl,fit,_,_,rfl,rfl,_,_,rfl,rfl,by omega,?_⟩⟩
  have k0:=Int.emod_nonneg d1 (show (st.length:Int)+1≠0 by omega)
  have k1:=Int.emod_lt_of_pos d1 (show 0<(st.length:Int)+1 by omega)
  generalize d1 % ((st.length:Int)+1)=k at k0 k1 ⊢
  have gd:∀sgn∈([("a":Str),"b","q"]:List Str),qD (Txt.slice st none (some k)++sgn++Txt.slice st (some k) none):=fun sgn hs=>by
   have:=zde st hst ⟨k.toNat,by omega⟩ (by show k.toNat≤_;omega) sgn hs
   rw [show ((⟨k.toNat,by omega⟩:Fin 8).val:Int)=k by show ((k.toNat:Nat):Int)=k;omega] at this
   exact zeO this
  refine⟨(by show 3≤sizeLine;decide),fun p1 hp1=>?_⟩
  have s1:Same H0 (upd H0 p1 (.lst [V.str "a",V.str "b",V.str "q"])):=Same.new hp1
  have h1:(upd H0 p1 (.lst [V.str "a",V.str "b",V.str "q"])) p1=some (.lst [V.str "a",V.str "b",V.str "q"]):=upd_same
  generalize upd H0 p1 (.lst [V.str "a",V.str "b",V.str "q"])=H1 at s1 h1 ⊢
  have sll:(Txt.slice st none (some k)).length≤7∧(Txt.slice st (some k) none).length≤7:=by
   have h:=(gd "a" (by simp)).le
   rw [← jz,xY,xY,List.length_append,List.length_append,jz,jz,jz,show ("a":Str).length=1 by decide +kernel] at h
   omega
  refine⟨p1,rfl,⟨_,SqL.of h1⟩,fun acc hacc=>wO (K:=K) (a:=p1) (xs:=[V.str "a",V.str "b",V.str "q"]) (fun i=>V.str (Txt.slice st none (some k)++([("a":Str),"b","q"].getD i "")++Txt.slice st (some k) none)) (SqL.of h1) hacc (by show 3≤sizeLine;decide) (fun i v H6 R hx s6 hR=>?_) ?_⟩
  ·obtain⟨sgn,e1,el,rfl⟩:∃sgn:Str,([("a":Str),"b","q"].getD i "")=sgn∧sgn.length=1∧v=.str sgn:=by
    match i with
    | 0=>cases hx;exact⟨"a",rfl,by decide +kernel,rfl⟩
    | 1=>cases hx;exact⟨"b",rfl,by decide +kernel,rfl⟩
    | 2=>cases hx;exact⟨"q",rfl,by decide +kernel,rfl⟩
    | i+3=>simp at hx
   rw [e1] at hR
   have f1:(Txt.slice st none (some k)).length+sgn.length≤sizeLine:=by rw [sizeLine_eq];omega
   have f2:(Txt.slice st none (some k)++sgn).length+(Txt.slice st (some k) none).length≤sizeLine:=by rw [← jz,xY,List.length_append,jz,jz,sizeLine_eq];omega
   exact⟨rfl,_,rfl,_,rfl,_,rfl,st,rfl,fit,_,rfl,_,_,rfl,rfl,f1,_,rfl,_,rfl,_,rfl,st,rfl,fit,_,_,rfl,rfl,f2,hR⟩
  ·exact q acc _ _ _ _ ((s0.trans s1).put hacc) upd_same (gd _ (by simp)) (gd _ (by simp)) (gd _ (by simp))
end
theorem zby:("8":Str)=⟨#[56]⟩:=by decide +kernel
theorem Y8 (c:Nat):∀(k:Nat) (a:Array Nat),(List.replicate k #[c]).foldl (·++·) a=a++(List.replicate k c).toArray
 | 0,a=>by simp
 | k+1,a=>by
  rw [List.replicate_succ,List.foldl_cons,Y8 c k]
  apply Array.ext'
  simp [List.replicate_succ]
theorem zd6 {n:Int} (h:0≤n):cpl (Txt.mul "8" n)=List.replicate n.toNat 56:=by
 rw [zby]
 unfold Txt.mul
 by_cases h1:n<1
 ·have:n=0:=by omega
  subst this
  rw [if_pos (by decide)]
  rfl
 ·rw [if_neg h1]
  by_cases h2:n=1
  ·subst h2
   rw [if_pos (show ((1:Int) == 1 || (⟨#[56]⟩:Str).length == 0)=true from rfl)]
   rfl
  ·have hb:(n == 1 || (⟨#[56]⟩:Str).length == 0)=false:=by
    rw [Bool.or_eq_false_iff]
    exact⟨by simpa using h2,by simp [Str.length]⟩
   rw [if_neg (by rw [hb];decide)]
   show (cpl (Str.mk ((List.replicate n.toNat #[56]).foldl (·++·) #[])))=_
   rw [Y8]
   simp [cpl]
theorem zeR {n:Int} (h:0≤n) (h1:n≤3000):MulOk "8" n:=by
 rw [zby]
 have hl:(⟨#[56]⟩:Str).length=1:=rfl
 refine⟨?_,fun h2 _=>?_,fun _ _=>?_⟩
 ·have e1:decide (n < -(2 ^ 63:Int))=false:=decide_eq_false (by omega)
  have e2:decide (n ≥ 2 ^ 63)=false:=decide_eq_false (by omega)
  rw [e1,e2,Bool.or_false]
 ·rw [hl]
  have:(3000:Int)≤(2 ^ 63-1) / n:=by
   rw [Int.le_ediv_iff_mul_le (by omega)]
   omega
  omega
 ·rw [hl]
  unfold Builtin.Str.tooLong
  exact decide_eq_false (by rw [sizeLine_eq];omega)
theorem zcf {n:Int} (h0:1≤n) (h1:n≤3000):Num 3000 (Txt.mul "8" n):=by
 have e:=zd6 (n:=n) (by omega)
 have l:(Txt.mul "8" n).length=n.toNat:=by rw [← jz,e,List.length_replicate]
 refine⟨by omega,by omega,?_,fun z=>?_⟩
 ·rw [e]
  intro c hc
  rw [List.eq_of_mem_replicate hc];decide
 ·rw [e] at z
  exact absurd (List.eq_of_mem_replicate (List.mem_of_getElem? z)) (by decide)
theorem zjl:intBits ((7:Int) ^ (64:Int).toNat)≤200:=by decide
section
variable {P:Program}{w:World}{K:PySem.W.Frag}{mg:Str→Option Value}{base:Heap}
noncomputable def zfa:Sp:=fun vs H Q _=>∃cell count:Int,vs=[.int cell,.int count]∧0≤count∧count<10 ^ 500∧∀(m:Int) (H':Hp),Same H H'→0≤m→m<10 ^ 3000→Q (.int m) H'
theorem yO:FnScope ["cell","count","number","way"] ["cell","count"] (defScope xG):=⟨rfl,rfl,rfl,by decide +kernel,rfl,by decide +kernel,by decide +kernel⟩
theorem zbz (ND:NoDig K) (D:Def K mg "_law_message" xG ["cell","count"]) (T:Txt K mg) (zj:Fn P w K mg base 1 "_law_drawn" ["cell","k"] zbZ):Fn P w K mg base 2 "_law_message" ["cell","count"] zfa:=by
 refine D.fn yO (fun vs H Q E h=>?_) (fun f cdv A outer s H vs Q E hr h=>?_)
 ·obtain⟨a,b,rfl,_⟩:=h
  rfl
 ·obtain⟨cell,count,rfl,c0,c1,q⟩:=h
  refine⟨_,(pss_cons (ps_set (i:=2) yO.nd rfl (Or.inl rfl) (pe_op jc (pe_op jc (pe_op jc (zA zj (hr.mono (by decide)) (by rfl) (pa_cons (pv 0) (pa_cons pe_int pa_nil))) (zA zj (hr.mono (by decide)) (by rfl) (pa_cons (pv 0) (pa_cons pe_int pa_nil)))) (zA zj (hr.mono (by decide)) (by rfl) (pa_cons (pv 0) (pa_cons pe_int pa_nil)))) (pe_op vU pe_int pe_int)))
   (pss_cons (ps_set (i:=3) yO.nd rfl (Or.inl rfl) (pe_op ql (zA zj (hr.mono (by decide)) (by rfl) (pa_cons (pv 0) (pa_cons pe_int pa_nil))) pe_int))
   (pss_cons (ps_if (pt_cmpR vq (pv 3) pe_int (nomark _))
    (pss_one (ps_ret (pe_op qz (pv 1) (pe_op ql (zA zj (hr.mono (by decide)) (by rfl) (pa_cons (pv 0) (pa_cons pe_int pa_nil))) pe_int))))
    pss_nil)
   (pss_cons (ps_if (pt_cmpR vq (pv 3) pe_int (nomark _))
    (pss_one (ps_ret (pe_callTy (Kw ND) (by rfl) T.z_int zaW (pa_cons (pe_op zer pe_str (pe_op qz pe_int (pe_op ql (zA zj (hr.mono (by decide)) (by rfl) (pa_cons (pv 0) (pa_cons pe_int pa_nil))) pe_int))) pa_nil))))
    pss_nil)
   (pss_one (ps_ret (pe_op jc (pe_ix ix_list (pe_lst (pa_cons pe_int (pa_cons (pe_op ji (pv 1) pe_int) (pa_cons (pe_op ql (pv 2) (pe_callB (call_max2 rfl) (by rfl) T.z_max zcn (pa_cons pe_int (pa_cons (pv 1) pa_nil)))) pa_nil)))) (pe_op ql (pv 3) pe_int) (fun _ _=>rfl)) (pe_callTy call_int1 (by rfl) T.z_int zaW (pa_cons (pe_cmpR X8 (pv 1) pe_int (nomark _)) pa_nil))))))))),?_⟩
  have zkl:(10:Int) ^ 500*10≤10 ^ 3000:=by decide +kernel
  have p1:(1:Int)≤10 ^ 500:=by decide +kernel
  have cb:intBits count≤1920:=zJ c0 (Int.lt_of_lt_of_le c1 (by decide +kernel))
  refine⟨_,rfl,cell,20,rfl,by decide,fun a a0 a1=>⟨_,rfl,cell,21,rfl,by decide,fun b b0 b1=>⟨_,_,rfl,rfl,⟨62,62,zJ a0 (by omega),zJ b0 (by omega),by decide⟩,_,rfl,cell,22,rfl,by decide,fun c cc0 cc1=>⟨_,_,rfl,rfl,⟨124,62,intBits_mul_le (m:=62) (n:=62) (zJ a0 (by omega)) (zJ b0 (by omega)),zJ cc0 (by omega),by decide⟩,_,_,rfl,rfl,⟨by decide,by decide,by decide⟩,_,_,rfl,rfl,⟨186,200,intBits_mul_le (m:=124) (n:=62) (intBits_mul_le (m:=62) (n:=62) (zJ a0 (by omega)) (zJ b0 (by omega))) (zJ cc0 (by omega)),zjl,by decide⟩,?_⟩⟩⟩⟩
  generalize a*b*c*7 ^ (64:Int).toNat=number
  refine⟨_,rfl,cell,23,rfl,by decide,fun d d0 d1=>⟨_,_,rfl,rfl,(by decide),?_⟩⟩
  have w0:=Int.emod_nonneg d (show (7:Int)≠0 by decide)
  generalize d % 7=way at w0
  refine⟨_,rfl,_,_,rfl,rfl,_,rfl,ifD (fun z=>?_) (fun z=>?_)⟩
  ·exact⟨_,rfl,_,rfl,cell,24,rfl,by decide,fun e e0 e1=>⟨_,_,rfl,rfl,(by decide),_,_,rfl,rfl,q _ H (Same.refl _) (by omega) (by omega)⟩⟩
  refine⟨_,rfl,_,_,rfl,rfl,_,rfl,ifD (fun z1=>?_) (fun z1=>?_)⟩
  ·refine⟨_,rfl,cell,24,rfl,by decide,fun e e0 e1=>⟨_,_,rfl,rfl,(by decide),_,_,rfl,rfl,?_⟩⟩
   have n0:1≤1+e % 3000∧1+e % 3000≤3000:=by omega
   generalize 1+e % 3000=n at n0
   have N:=zcf n0.1 n0.2
   exact⟨_,_,rfl,rfl,zeR (by omega) n0.2,Txt.mul "8" n,jh (Txt.mul "8" n),rfl,num_reads N (by decide),Nat.le_trans N.le (by decide),q _ H (Same.refl _) (Kf _) (zaq N)⟩
  have mp:0<(if count > 1 then count else 1)∧((if count > 1 then count else 1)≤count∨(count=0∧(if count > 1 then count else 1)=1)):=by split <;> omega
  refine⟨_,rfl,_,_,rfl,rfl,_,rfl,_,rfl,_,_,rfl,_,_,rfl,rfl,mp.1,(by show 3≤sizeLine;decide),fun pl hpl=>?_⟩
  generalize (if count > 1 then count else 1)=mx at mp
  have m0:=Int.emod_nonneg number (show mx≠0 by omega)
  have m1:=Int.emod_lt_of_pos number mp.1
  generalize number % mx=g at m0 m1
  have s1:Same H (upd H pl (.lst [V.int 0,V.int (count-1),V.int g])):=Same.new hpl
  have h1:(upd H pl (.lst [V.int 0,V.int (count-1),V.int g])) pl=some (.lst [V.int 0,V.int (count-1),V.int g]):=upd_same
  generalize upd H pl (.lst [V.int 0,V.int (count-1),V.int g])=H1 at s1 h1 ⊢
  refine⟨_,rfl,_,_,rfl,rfl,(by decide),?_⟩
  obtain⟨y,ey,y0,y1⟩:∃y:Int,atI [V.int 0,V.int (count-1),V.int g] (way % 3)=some (V.int y)∧(0<count→0≤y∧y<count)∧(-1≤y∧y≤count):=by
   rcases (by omega:way % 3=0∨way % 3=1∨way % 3=2) with z | z | z
   ·exact⟨0,by rw [z];rfl,by omega,by omega⟩
   ·exact⟨count-1,by rw [z];rfl,by omega,by omega⟩
   ·exact⟨g,by rw [z];rfl,by omega,by omega⟩
  refine⟨_,_,_,_,rfl,rfl,SqL.of h1,ey,_,rfl,_,_,rfl,rfl,.inr ⟨_,rfl,_,_,rfl,rfl,?_,?_⟩⟩
  ·refine⟨1930,2,?_,by split <;> decide,by decide⟩
   exact intBits_le_of_natAbs (y:=count+1) (by omega) (zm (intBits_add_le (m:=1920) (n:=1) cb (by decide)) (by decide))
  ·by_cases zc:0<count
   ·have yy:=y0 zc
    rw [show (decide (count > 0))=true from decide_eq_true zc]
    exact q _ H1 s1 (by show 0≤y*1;omega) (by show y*1 < _;omega)
   ·rw [show (decide (count > 0))=false from decide_eq_false zc]
    exact q _ H1 s1 (by show 0≤y*0;omega) (by show y*0 < _;omega)
end
theorem zbA (c:Nat):∀xs:List (List Nat),(yV c xs).length≤(xs.map List.length).sum+xs.length
 | []=>Nat.le_refl _
 | [x]=>by simp [yV]
 | x::y::r=>by
  have:=zbA c (y::r)
  show (x++c::yV c (y::r)).length≤_
  rw [List.length_append,List.length_cons,List.map_cons,List.sum_cons,List.length_cons]
  omega
theorem zbB (ws:List Str):(Txt.join " " ws).length≤(ws.map (·.length)).sum+ws.length:=by
 rw [Ke,← jz,show (" ":Str)=⟨#[32]⟩ by decide +kernel,QV]
 have:=zbA 32 (ws.map cpl)
 rw [List.map_map,List.length_map] at this
 have e:(ws.map (List.length ∘ cpl))=ws.map (·.length):=List.map_congr_left fun x _=>jz x
 rw [e] at this
 exact this
theorem zfs:(" ":Str)=sp:=by decide +kernel
theorem FnE.mono {P:Program}{w:World}{K:PySem.W.Frag}{mg:Str→Option Value}{base:Heap}{k j:Nat}{x:Str}{ps:List Str}{sp:Sp} (G:FnE P w K mg base k x ps sp) (h:k≤j):FnE P w K mg base j x ps sp:=by
 obtain⟨f,fd,F,r⟩:=G
 exact⟨f,fd,F.mono h,r⟩
theorem zcg:cpl (" ":Str)=[32]:=by decide +kernel
theorem Jr (ws:List Str):cpl (Txt.join " " ws)=yV 32 (ws.map cpl):=by
 rw [Ke,show (" ":Str)=⟨#[32]⟩ by decide +kernel,QV]
theorem join_one (x:Str):Txt.join " " [x]=x:=XF (by rw [Jr];rfl)
theorem Y9 {x:Str}{r:List Str} (h:r≠[]):cpl (Txt.join " " (x::r))=cpl x++32::cpl (Txt.join " " r):=by
 cases r with
 | nil=>exact absurd rfl h
 | cons y r=>
  rw [Jr,Jr]
  rfl
theorem zd7 {h w0 nm:Str}{r:List Str} (e:cpl h=cpl w0++[32]) (hr:r≠[]):((h++nm)++" ")++Txt.join " " r=Txt.join " " (w0::nm::r):=by
 apply XF
 rw [Y9 (by simp),Y9 hr,xY,xY,xY,zcg,e]
 simp only [List.append_assoc,List.cons_append,List.nil_append]
theorem Vp {w0 nm:Str}{r:List Str} (h0:QQ w0) (h1:QQ nm) (h2:∀w∈r,QQ w):Txt.split (Txt.join " " (w0::nm::r)) " "=w0::nm::r:=by
 rw [zfs]
 refine zbW (by simp) fun w hw=>?_
 rcases List.mem_cons.mp hw with rfl | hw
 ·exact h0
 rcases List.mem_cons.mp hw with rfl | hw
 ·exact h1
 exact h2 w hw
theorem Vq {ns:List Int} (h:∀n∈ns,0≤n):∀w∈ns.map txt,QQ w:=fun w hw=>by
 obtain⟨n,hn,rfl⟩:=List.mem_map.mp hw
 exact zdy (h n hn)
theorem zbC {ns:List Int} (h:∀n∈ns,0≤n):(ns.map txt).map jh=ns:=by
 rw [List.map_map]
 have:ns.map (jh ∘ txt)=ns.map id:=List.map_congr_left fun n hn=>QW (h n hn)
 rw [this,List.map_id]
theorem zaR {w0 nm:Str}{ns:List Int} (h0:w0.length≤100) (h1:nm.length≤100) (hl:ns.length≤1000) (hb:∀n∈ns,0≤n∧n<10 ^ 500):(Txt.join " " (w0::nm::ns.map txt)).length+2≤sizeLine:=by
 have h2:=zbB (w0::nm::ns.map txt)
 have h3:=Kg hb
 simp only [List.map_cons,List.sum_cons,List.length_cons,List.length_map] at h2
 rw [sizeLine_eq]
 omega
theorem zdf {ns:List Int} (h:∀n∈ns,0≤n∧n<10 ^ 60) (pw:ns.Pairwise (·≤·)):wX (ns.map txt):=by
 refine⟨fun x hx=>?_,by rw [zbC fun n hn=>(h n hn).1];exact pw⟩
 obtain⟨n,hn,rfl⟩:=List.mem_map.mp hx
 exact ZD (by decide) (h n hn).1 (h n hn).2
theorem Q8 {n:Int} (h0:0≤n) (h1:n<10 ^ 500):(txt n).length≤500:=(ZD (k:=500) (by decide) h0 h1).le
section
variable {K:PySem.W.Frag}{CD CF CO CN CT CR:Addr}{NH SN CH:Sp}{x d:Addr}{n:Nat}{fr:Str→Option (Int×Int×Int)}{H:Hp}{Q:VK}{E:XK}
abbrev Q9 (K:PySem.W.Frag) (CD CF CO CN CT CR:Addr) (NH SN CH:Sp):Sp:=zdU CD CO (zca CD CF CO) (zcb CD CF CO CN CT) (KZ CD CF CO CN CR NH) (zaM K CD CF CO CN SN) CH
theorem zd8:QQ "frame":=by unfold QQ;decide +kernel
theorem zd9:QQ "write":=by unfold QQ;decide +kernel
theorem zft:QQ "key":=by unfold QQ;decide +kernel
theorem zeS:QQ "read":=by unfold QQ;decide +kernel
theorem zea:QQ "unkey":=by unfold QQ;decide +kernel
theorem zch {nm:Str}{t b l:Int} (hD:jM CD CF x d n fr H) (hn:n<1000) (g:qD nm) (ok:Vn t b l)
  (q:∀H',xO d H H'→jM CD CF x d (n+1) (Jw fr nm (t,b,l)) H'→Q (.str ("messages "++txt (cnt t b l))) H'):Q9 K CD CF CO CN CT CR NH SN CH [.ref x,.str (Txt.join " " ("frame"::nm::[t,b,l].map txt))] H Q E:=by
 obtain⟨dx,hx⟩:=hD.self
 have b60:b<10 ^ 60:=Int.lt_of_le_of_lt ok.b1 (by decide)
 have hb:∀m∈[t,b,l],0≤m∧m<10 ^ 60:=fun m hm=>by
  rcases List.mem_cons.mp hm with rfl | hm
  ·exact⟨ok.t0,ok.t1⟩
  rcases List.mem_cons.mp hm with rfl | hm
  ·exact⟨ok.b0,b60⟩
  rw [List.mem_singleton.mp hm]
  exact⟨ok.l0,ok.l1⟩
 have hb5:∀m∈[t,b,l],0≤m∧m<10 ^ 500:=fun m hm=>⟨(hb m hm).1,Int.lt_of_lt_of_le (hb m hm).2 zdb⟩
 refine⟨x,dx,d,_,"frame",nm::[t,b,l].map txt,rfl,hx,zaR (by decide +kernel) (by have:=g.le;omega) (by show 3≤1000;decide) hb5,Vp zd8 (Vj g) (Vq fun m hm=>(hb m hm).1),fun _ _ a H' s h=>?_,fun z=>?_,fun z=>?_,fun z=>?_,fun z=>?_⟩
 ·have vt:=QW ok.t0
  have vb:=QW ok.b0
  have vl:=QW ok.l0
  refine⟨x,a,d,n,fr,"frame",nm,txt t,txt b,txt l,rfl,hD.mono s,hn,h,by have:=g.le;omega,Nat.le_trans (Q8 ok.t0 (hb5 t (by simp)).2) (by decide),Nat.le_trans (Q8 ok.b0 (hb5 b (by simp)).2) (by decide),Nat.le_trans (Q8 ok.l0 (hb5 l (by simp)).2) (by decide),fun z=>?_,fun _=>?_⟩
  ·exact absurd ⟨g,ZD (by decide) ok.t0 ok.t1,⟨ZD (by decide) ok.b0 b60,by rw [vb];exact ok.b1⟩,ZD (by decide) ok.l0 ok.l1⟩ z
  ·rw [vt,vb,vl]
   exact⟨ok,fun H2 s2 h2=>q H2 ((xO.of s).trans s2) h2⟩
 ·exact absurd z (by decide +kernel)
 ·exact absurd z (by decide +kernel)
 ·exact absurd z (by decide +kernel)
 ·exact absurd ⟨rfl,rfl⟩ z
structure zfu (k:Bool) (t b l m:Int) (rs:List Int):Prop where
 len:(rs.length:Int)=b
 bd:∀y∈rs,0≤y∧y<t
 inc:∀(i:Nat) (y z:Int),rs[i]?=some y→rs[i+1]?=some z→y<z
 srt:rs.Pairwise (·≤·)
 hear:∀lag ms,(k=false→lag=0)→Al l (rs.map (·+lag)) ms→(k=false→GoodR t b l ms∧xZ (kZ l ms)=m)∧(k=true→XQ t b l ms∧xZ (kZ (2*l) (unL l ms))=m)
theorem zeb {late:Int}{bs:List Int} (l0:0≤late) (B:jn bs) (i:Nat) (y z:Int) (hy:(jY late bs)[i]?=some y) (hz:(jY late bs)[i+1]?=some z):y<z:=by
 obtain⟨c,hc,rfl⟩:=v7 hy
 obtain⟨e,he,rfl⟩:=v7 hz
 have:=Int.mul_le_mul_of_nonneg_right (B.get (Nat.le_succ i) hc he) (show 0≤late+1 by omega)
 omega
theorem zbD (rs:List Int):rs.map (·+0)=rs:=by
 have:(fun y:Int=>y+0)=id:=funext fun y=>by simp
 rw [this,List.map_id]
theorem zjm {t b l m:Int}{bs:List Int} (ok:Vn t b l) (B:jn bs) (bl:bs.length=b.toNat) (nb:xZ bs=m) (hm:m<cnt t b l):zfu false t b l m (jY l bs):=by
 have b0:=ok.b0
 have eb:(bs.length:Int)=b:=by omega
 have hc:xZ bs<cnt t (bs.length:Int) l:=by rw [nb,eb];exact hm
 refine⟨by rw [xf];exact eb,zcz B ok.l0 hc,fun i y z=>zeb ok.l0 B i y z,VL ok.l0 B,fun lag ms h0 al=>⟨fun _=>?_,fun z=>nomatch z⟩⟩
 rw [h0 rfl,zbD] at al
 have e:=zbi ok.l0 al
 have ml:=zdH al
 rw [xf] at ml
 exact⟨⟨by omega,by rw [e];exact B,by rw [e,nb];exact hm⟩,by rw [e,nb]⟩
theorem zjn {t b l m:Int}{bs:List Int} (ok:Vn t b l) (B:jn bs) (bl:bs.length=(b-1).toNat) (nb:xZ bs=m) (m0:0≤m) (hm:m<yX t b l):zfu true t b l m (ZP l bs):=by
 obtain⟨bz,tz,mlt⟩:=zaG m0 hm
 have b0:=ok.b0
 have t0:=ok.t0
 have eb:(bs.length:Int)=b-1:=by omega
 have hc:xZ bs<cnt (t-1) (bs.length:Int) (2*l):=by rw [nb,eb];exact mlt
 have kr:∀{i:Nat}{y:Int},(ZP l bs)[i]?=some y→y<t∧-1<y∧∀z,(ZP l bs)[i+1]?=some z→y<z:=fun h=>zbm ok.l0 B hc (by omega) h
 refine⟨by rw [Q5];omega,fun y hy=>?_,fun i y z hy hz=>(kr hy).2.2 z hz,?_,fun lag ms _ al=>⟨(fun z=>nomatch z),fun _=>?_⟩⟩
 ·obtain⟨i,hi⟩:=List.getElem?_of_mem hy
  have:=kr hi
  omega
 ·have:=zb3 ok.l0 B 0
  rw [zbD] at this
  exact this
 ·have e:=zc6 ok.l0 al
  have ml:=zdH al
  rw [List.length_map,Q5] at ml
  exact⟨⟨bz,tz,by omega,by rw [JT];omega,by rw [e];exact B,by rw [e,nb];exact mlt⟩,by rw [e,nb]⟩
noncomputable def wW (k:Bool):Str:=if k then "key" else "write"
noncomputable def wR (k:Bool):Str:=if k then "unkey" else "read"
end
section
variable {K:PySem.W.Frag}{CD CF CO CN CT CR:Addr}{NH SN CH:Sp}{x d:Addr}{n:Nat}{fr:Str→Option (Int×Int×Int)}{H:Hp}{Q:VK}{E:XK}
theorem zec {m:Int} (m0:0≤m) (m1:m<10 ^ 3000):Num 3000 (txt m):=ZD (by decide) m0 m1
theorem zed {w0 nm:Str}{m:Int} (h0:w0.length≤100) (h1:nm.length≤100) (m0:0≤m) (m1:m<10 ^ 3000):(Txt.join " " (w0::nm::[m].map txt)).length+2≤sizeLine:=by
 have h2:=zbB (w0::nm::[m].map txt)
 have h3:=(zec m0 m1).le
 simp only [List.map_cons,List.map_nil,List.sum_cons,List.sum_nil,List.length_cons,List.length_nil] at h2
 rw [sizeLine_eq]
 show (Txt.join " " (w0::nm::[txt m])).length+2≤_
 omega
theorem zaa {k:Bool}{nm:Str}{m:Int} (hD:jM CD CF x d n fr H) (g:qD nm) (m0:0≤m) (m1:m<10 ^ 3000)
  (q1:fr nm=none→∀H',Same H H'→E (.ref CN) none H')
  (q2:∀t b l,fr nm=some (t,b,l)→(m<(if k then yX t b l else cnt t b l)→∀bs H',Same H H'→jn bs→bs.length=(if k then b-1 else b).toNat→xZ bs=m→Szs 60010 bs→Q (.str (xR (if k then ZP l bs else jY l bs))) H')∧(¬m<(if k then yX t b l else cnt t b l)→∀H',Same H H'→E (.ref CT) none H')) :
  Q9 K CD CF CO CN CT CR NH SN CH [.ref x,.str (Txt.join " " (wW k::nm::[m].map txt))] H Q E:=by
 obtain⟨dx,hx⟩:=hD.self
 have N:=zec m0 m1
 have vm:=QW m0
 have tl:(txt m).length≤1000000:=Nat.le_trans N.le (by decide)
 refine⟨x,dx,d,_,wW k,nm::[m].map txt,rfl,hx,zed (by cases k <;> decide +kernel) (by have:=g.le;omega) m0 m1,Vp (by cases k;exact zd9;exact zft) (Vj g) (Vq fun y hy=>by rw [List.mem_singleton.mp hy];exact m0),fun z=>?_,fun _ _ a H' s h=>?_,fun z=>?_,fun z=>?_,fun _ z=>?_⟩
 ·cases k <;> exact absurd z (by decide +kernel)
 ·refine⟨x,a,d,n,fr,wW k,nm,txt m,rfl,hD.mono s,h,by have:=g.le;omega,tl,fun z=>absurd ⟨g,N⟩ z,fun _ _ z H2 s2=>q1 z H2 (s.trans s2),fun _ _ t b l e=>?_⟩
  obtain⟨qa,qb⟩:=q2 t b l e
  rw [vm]
  refine⟨fun z=>?_,fun z=>?_⟩
  ·have hk:k=true:=by
    cases k
    ·exact absurd z (by decide +kernel)
    ·rfl
   subst hk
   exact⟨fun hm bs H2 s2 B bl nb sz=>qa hm bs H2 (s.trans s2) B bl nb sz,fun hm H2 s2=>qb hm H2 (s.trans s2)⟩
  ·have hk:k=false:=by
    cases k
    ·rfl
    ·exact absurd rfl z
   subst hk
   exact⟨fun hm bs H2 s2 B bl nb sz=>qa hm bs H2 (s.trans s2) B bl nb sz,fun hm H2 s2=>qb hm H2 (s.trans s2)⟩
 ·cases k <;> exact absurd z (by decide +kernel)
 ·cases k <;> exact absurd z (by decide +kernel)
 ·refine absurd ⟨?_,rfl⟩ z
  cases k
  ·exact .inl rfl
  ·exact .inr rfl
theorem VR {k:Bool}{nm:Str}{ms:List Int} (hD:jM CD CF x d n fr H) (g:qD nm) (mu:ms.length≤60) (mb:∀y∈ms,0≤y∧y<10 ^ 60) (pw:ms.Pairwise (·≤·))
  (q1:fr nm=none→∀H',Same H H'→E (.ref CN) none H')
  (q2:∀t b l,fr nm=some (t,b,l)→(k=false→(GoodR t b l ms→∀H',Same H H'→Q (.str (txt (xZ (kZ l ms)))) H')∧(¬GoodR t b l ms→∀H',Same H H'→E (.ref CR) none H')) ∧
   (k=true→(XQ t b l ms→∀H',Same H H'→Q (.str (txt (xZ (kZ (2*l) (unL l ms))))) H')∧(¬XQ t b l ms→∀H',Same H H'→E (.ref CR) none H'))) :
  Q9 K CD CF CO CN CT CR NH SN CH [.ref x,.str (Txt.join " " (wR k::nm::ms.map txt))] H Q E:=by
 obtain⟨dx,hx⟩:=hD.self
 have mb5:∀y∈ms,0≤y∧y<10 ^ 500:=fun y hy=>⟨(mb y hy).1,Int.lt_of_lt_of_le (mb y hy).2 zdb⟩
 have vm:=zbC fun y hy=>(mb y hy).1
 have gt:=zdf mb pw
 refine⟨x,dx,d,_,wR k,nm::ms.map txt,rfl,hx,zaR (by cases k <;> decide +kernel) (by have:=g.le;omega) (by omega) mb5,Vp (by cases k;exact zeS;exact zea) (Vj g) (Vq fun y hy=>(mb y hy).1),fun z=>?_,fun z=>?_,fun _ _ a H' s h=>?_,fun z=>?_,fun _ _ z=>?_⟩
 ·cases k <;> exact absurd z (by decide +kernel)
 ·cases k <;> exact absurd z (by decide +kernel)
 ·refine⟨x,a,d,n,fr,wR k,nm,ms.map txt,rfl,hD.mono s,h,by have:=g.le;omega,by rw [List.length_map];omega,fun y hy=>?_,fun _ _ _=>by rw [List.length_map];exact mu,fun z=>absurd ⟨g,gt⟩ z,fun _ _ z H2 s2=>q1 z H2 (s.trans s2),fun _ _ t b l e=>?_⟩
  ·obtain⟨u,hu,rfl⟩:=List.mem_map.mp hy
   exact Nat.le_trans (Q8 (mb5 u hu).1 (mb5 u hu).2) (by decide)
  obtain⟨qa,qb⟩:=q2 t b l e
  rw [vm]
  refine⟨fun z=>?_,fun z=>?_,fun z1 z2=>?_⟩
  ·have hk:k=false:=by
    cases k
    ·rfl
    ·exact absurd z (by decide +kernel)
   obtain⟨h1,h2⟩:=qa hk
   exact⟨fun gg H2 s2=>h1 gg H2 (s.trans s2),fun gg H2 s2=>h2 gg H2 (s.trans s2)⟩
  ·have hk:k=true:=by
    cases k
    ·exact absurd z (by decide +kernel)
    ·rfl
   obtain⟨h1,h2⟩:=qb hk
   exact⟨fun gg H2 s2=>h1 gg H2 (s.trans s2),fun gg H2 s2=>h2 gg H2 (s.trans s2)⟩
  ·cases k
   ·exact absurd rfl z1
   ·exact absurd rfl z2
 ·cases k <;> exact absurd z (by decide +kernel)
 ·refine absurd ⟨?_,?_⟩ z
  ·cases k
   ·exact .inl rfl
   ·exact .inr (.inl rfl)
  ·simp
end
section
variable {P:Program}{w:World}{K:PySem.W.Frag}{mg:Str→Option Value}{base:Heap}
theorem zab {head:Str}{t b l:Int} (ok:Vn t b l):∃c:Int,0≤c∧c<10 ^ 500∧(head="write"∨head="read"→c=cnt t b l)∧(¬(head="write"∨head="read")→c=yX t b l):=by
 by_cases z:head="write"∨head="read"
 ·exact⟨cnt t b l,Qk t b l,ok.c1,fun _=>rfl,fun y=>absurd z y⟩
 ·refine⟨yX t b l,?_,ok.k1,fun y=>absurd y z,fun _=>rfl⟩
  unfold yX
  split
  ·exact Int.le_refl _
  split
  ·exact Int.le_refl _
  exact Qk _ _ _
end
theorem Mt.plain {P:Program}{w:World}{K:PySem.W.Frag}{mg:Str→Option Value}{base:Heap}{k:Nat}{C:Addr}{m:Str}{ps:List Str}{sp:Sp} (F:MtE P w K mg base k C m ps sp):Mt P w K mg base k C m ps (fun vs H Q _=>sp vs H Q E0):=by
 obtain⟨f,fd,F,r⟩:=F
 refine⟨f,fd,⟨fun vs H Q _ h=>F.len vs H Q E0 h,fun A outer s H args us vs Q E hr e0 hb rv h=>codeAny_mono (F.run A outer s H args us vs Q E0 hr e0 hb rv h) fun rr s' q=>?_⟩,r⟩
 cases rr with
 | ok fl=>cases fl <;> exact q
 | error e=>
  obtain⟨_,_,_,_,_,_,_,_,_,_,_,_,z⟩:=q
  exact z.elim
theorem K6 {P:Program}{w:World}{K:PySem.W.Frag}{mg:Str→Option Value}{base:Heap}{k:Nat}{x:Str}{st:Stmt}{ps:List Str} (D:Def K mg x st ps):FnE P w K mg base k x ps (fun _ _ _ _=>False):=by
 obtain⟨f,fd,F,b,m⟩:=D
 exact⟨f,fd,⟨fun _ _ _ _ h=>h.elim,fun _ _ _ _ _ _ _ _ _ _ _ _ _ h=>h.elim⟩,F.kp,b,m⟩
theorem xO.seq {K:PySem.W.Frag}{d a:Addr} {H H':Hp}{xs:List V}{kvs:List (Key×V)} (hd:H d=some (.dK kvs)) (s:xO d H H') (h:SqL K H a xs):SqL K H' a xs:=by
 rcases h with h | h
 ·rcases h with h | ⟨o,h⟩
  ·exact .inl (.inl (s _ _ h (fun e=>by rw [e,hd] at h;cases h)))
  ·exact .inl (.inr ⟨o,s _ _ h (fun e=>by rw [e,hd] at h;cases h)⟩)
 ·exact .inr h
section
open PySem.Spec PyProof.Rows PySem.SeqAt
variable {X:Cx}
theorem X4 {xs:List V} (ok:∀v∈xs,okF v=true):shaped (.tuple (xs.map dV))=true:=by
 have h1:=Ku xs
 have h2:PyData.depth (.tuple (xs.map dV))≤64:=by simp only [PyData.depth];omega
 show (PyData.canLay0 (.tuple (xs.map dV)) && decide (PyData.depth (.tuple (xs.map dV))≤64))=true
 rw [Bool.and_eq_true]
 exact⟨by simp only [PyData.canLay0];exact VJ ok,decide_eq_true h2⟩
theorem zcF {pins:List (Addr×Obj)}{σ:L2.St}{H:Hp}{s:Shared} (I:Inv X pins σ H s){a:Addr}{xs:List V} (h:SqT X.K H a xs) (ok:∀v∈xs,okF v=true):∃bs,Reads s.heap (.ref a) (.tuple (xs.map dV)) bs:=by
 obtain⟨its,r,⟨o,ho,hc,n,hd⟩,z⟩:=I.tuple h
 exact⟨_,.tuple ho hc hd (by simpa using Jt r ok)⟩
noncomputable def ZV (x:Str):Prop:=∀c∈cpl x,c<1114112
noncomputable def zjo:R2:=fun x y H Q=>∃(a b:Addr) (i j:Str),x=.ref a∧y=.ref b∧H a=some (.tup [.str i,.str j])∧H b=some (.tup [.str i,.str j])∧ZV i∧ZV j∧Q (.bl true) H
theorem zcG {x:Str} (h:ZV x):okF (.str x)=true:=by
 show (x.cps.all (·<0x110000))=true
 rw [Array.all_eq_true']
 intro c hc
 exact decide_eq_true (h c (Array.mem_toList_iff.mpr hc))
theorem Kl (hu:X.A.units+64<cLine):OpR X (compareOp .Eq) zjo:=by
 intro pins s σ H x y v u Q I rx ry h
 obtain⟨a,b,i,j,rfl,rfl,h1,h2,o1,o2,q⟩:=h
 cases rx;cases ry
 have ok:∀v∈[V.str i,V.str j],okF v=true:=fun v hv=>by
  rcases List.mem_cons.mp hv with rfl | hv
  ·exact zcG o1
  ·rw [List.mem_singleton.mp hv];exact zcG o2
 obtain⟨_,r1⟩:=zcF I (SqT.of h1) ok
 obtain⟨_,r2⟩:=zcF I (SqT.of h2) ok
 refine eq_dataH_same r1 r2 (X4 ok) (X4 ok) hu ?_ ?_
 ·simp [noMix,noMixAll,dV]
 ·rw [show PySem.Spec.same (.tuple ([V.str i,V.str j].map dV)) (.tuple ([V.str i,V.str j].map dV))=true by simp [PySem.Spec.same,PySem.Spec.sameAll,dV]]
  exact⟨.bl _,H,I,rfl,q⟩
end
theorem zcH:∀{l:List (List Nat)},(∀x∈l,∀c∈x,c<1114112)→∀c∈yV 32 l,c<1114112
 | [],_,c,h=>absurd h (by simp [yV])
 | [x],hx,c,h=>hx x (by simp) c h
 | x::y::r,hx,c,h=>by
  have h:c∈x++32::yV 32 (y::r):=h
  rcases List.mem_append.mp h with h | h
  ·exact hx x (by simp) c h
  rcases List.mem_cons.mp h with rfl | h
  ·decide
  ·exact zcH (fun z hz=>hx z (List.mem_cons_of_mem _ hz)) c h
theorem K7 {n:Int} (h:0≤n):ZV (txt n):=fun c hc=>by
 obtain⟨m,rfl⟩:∃m:Nat,n=(m:Int):=⟨n.toNat,by omega⟩
 have:=zar m c hc
 omega
theorem zci {ns:List Int} (h:∀n∈ns,0≤n):ZV (xR ns):=by
 unfold xR
 split
 ·unfold ZV;decide +kernel
 ·intro c hc
  rw [Jr] at hc
  refine zcH (fun x hx=>?_) c hc
  obtain⟨y,hy,rfl⟩:=List.mem_map.mp hx
  obtain⟨n,hn,rfl⟩:=List.mem_map.mp hy
  exact K7 (h n hn)
theorem zee {x y:Str} (h1:ZV x) (h2:ZV y):ZV (x++y):=fun c hc=>by
 rw [xY] at hc
 exact(List.mem_append.mp hc).elim (h1 c) (h2 c)
theorem Vr:ZV "told":=by unfold ZV;decide +kernel
theorem Qo:ZV "refused":=by unfold ZV;decide +kernel
theorem zbE:ZV "NoName":=by unfold ZV;decide +kernel
theorem WT:ZV "TooGreat":=by unfold ZV;decide +kernel
theorem K8:ZV "NoReading":=by unfold ZV;decide +kernel
theorem WW:ZV "messages ":=by unfold ZV;decide +kernel
section
variable {K:PySem.W.Frag}{CT CR p:Addr}{t b l m:Int}{H:Hp}
noncomputable def cntK (k:Bool) (t b l:Int):Int:=if k then yX t b l else cnt t b l
noncomputable def zef (k:Bool) (l:Int) (bs:List Int):List Int:=if k then ZP l bs else jY l bs
noncomputable def zbF (k:Bool) (t b l:Int) (ms:List Int):Prop:=if k then XQ t b l ms else GoodR t b l ms
noncomputable def zeT (k:Bool) (l:Int) (ms:List Int):Int:=if k then xZ (kZ (2*l) (unL l ms)) else xZ (kZ l ms)
theorem zfv (m0:0≤m) (m1:m<10 ^ 3000):intBits m≤50000:=zm (zJ (m:=10000) m0 (Int.lt_of_lt_of_le m1 (by decide +kernel))) (by decide)
noncomputable def zfw (k:Bool) (t b l m:Int) (H:Hp) (v:V) (H':Hp):Prop:=Same H H'∧m<cntK k t b l∧∃(a:Addr) (bs:List Int),v=.ref a∧H' a=some (.lst ((zef k l bs).map V.int))∧jn bs∧bs.length=(if k then b-1 else b).toNat∧xZ bs=m
theorem J2 {k:Bool} (hp:H p=some (.tup [.int t,.int b,.int l])) (ok:Vn t b l) (m0:0≤m) (m1:m<10 ^ 3000):zce (Jq K CT CR) [.str (wW k),.int m,.ref p] H (zfw k t b l m H) (fun C H'=>H'=H∧C=.ref CT∧¬m<cntK k t b l):=by
 intro Q E qa qr
 have mb:=zfv m0 m1
 have lb:=vz ok.l0 ok.l1
 have tb:=vz ok.t0 ok.t1
 refine⟨wW k,.int m,p,t,b,l,rfl,hp,?_⟩
 cases k
 ·refine .inl ⟨rfl,m,t,b,l,rfl,ok.b0,ok.b1,ok.l0,zm lb (by decide),zm tb (by decide),mb,fun h a bs H' s _ ha B bl nb _=>qa _ _ ⟨s,h.2,a,bs,rfl,ha,B,bl,nb⟩,fun h=>qr _ _ ⟨rfl,rfl,fun z=>h ⟨m0,z⟩⟩⟩
 ·refine .inr (.inl ⟨rfl,m,t,b,l,rfl,ok.b0,ok.b1,ok.l0,zm lb (by decide),ok.t0,zm tb (by decide),mb,fun h a bs H' s _ ha B bl nb _=>qa _ _ ⟨s,h.2,a,bs,rfl,ha,B,bl,nb⟩,fun h=>qr _ _ ⟨rfl,rfl,fun z=>h ⟨m0,z⟩⟩⟩)
theorem row_of {k:Bool}{bs:List Int} (ok:Vn t b l) (m0:0≤m) (hm:m<cntK k t b l) (B:jn bs) (bl:bs.length=(if k then b-1 else b).toNat) (nb:xZ bs=m):zfu k t b l m (zef k l bs):=by
 cases k
 ·exact zjm ok B bl nb hm
 ·exact zjn ok B bl nb m0 hm
theorem zac {k:Bool}{a:Addr}{ms:List Int} (hp:H p=some (.tup [.int t,.int b,.int l])) (ok:Vn t b l) (ha:H a=some (.lst (ms.map V.int))) (ml:ms.length≤60) (mb:∀y∈ms,0≤y∧y<10 ^ 60):zce (Jq K CT CR) [.str (wR k),.ref a,.ref p] H (fun v H'=>Same H H'∧zbF k t b l ms∧v=.int (zeT k l ms)) (fun C H'=>Same H H'∧C=.ref CR∧¬zbF k t b l ms):=by
 intro Q E qa qr
 have lb:=vz ok.l0 ok.l1
 have tb:=vz ok.t0 ok.t1
 have bd:Bd 200 ms:=fun y hy=>⟨(mb y hy).1,Int.lt_of_lt_of_le (mb y hy).2 p60⟩
 refine⟨wR k,.ref a,p,t,b,l,rfl,hp,?_⟩
 cases k
 ·refine .inr (.inr (.inl ⟨rfl,a,ms,t,b,l,rfl,SqL.of ha,ml,ok.b0,ok.b1,ok.l0,zm lb (by decide),zm tb (by decide),zcA bd (by omega) ok.l0,fun g H' s=>qa _ _ ⟨s,g,rfl⟩,fun g H' s=>qr _ _ ⟨s,rfl,g⟩⟩))
 ·refine .inr (.inr (.inr ⟨rfl,a,ms,t,b,l,rfl,SqL.of ha,ml,ok.b0,ok.b1,ok.l0,zm lb (by decide),ok.t0,zm tb (by decide),zdR bd (by omega) ok.l0 (Int.lt_of_lt_of_le ok.l1 p60),fun g H' s=>qa _ _ ⟨s,g,rfl⟩,fun g H' s=>qr _ _ ⟨s,rfl,g⟩⟩))
theorem zfx {k:Bool}{ms:List Int} (ok:Vn t b l) (g:zbF k t b l ms):0≤zeT k l ms∧zeT k l ms<10 ^ 500:=by
 cases k
 ·exact⟨vd _ _,Int.lt_trans g.2.2 ok.c1⟩
 ·have g:XQ t b l ms:=g
  refine⟨vd _ _,Int.lt_trans (b:=yX t b l) ?_ ok.k1⟩
  unfold yX
  have h1:=g.2.2.2.2.2
  rw [if_neg g.1,if_neg g.2.1]
  exact h1
end
theorem zjp {v:V}{i:Nat}{R:TS}{D:Ends}{σ:St}{H:Hp} (h:R D (σ.set i (some v)) H):tSeq (tAsg (tC v) (gName i)) R D σ H:=h
theorem Jj:∀(cs:List Int) (j:Nat),(cs.map V.int).eraseIdx j=(cs.eraseIdx j).map V.int
 | [],_=>rfl
 | _::_,0=>rfl
 | c::cs,j+1=>by
  show V.int c::(cs.map V.int).eraseIdx j=V.int c::(cs.eraseIdx j).map V.int
  rw [Jj cs j]
section
variable {P:Program}{w:World}{K:PySem.W.Frag}{mg:Str→Option Value}{base:Heap}
noncomputable def zad:Sp:=fun vs H Q _=>∃(cell:Int) (k:Bool) (p:Addr) (t b l:Int),vs=[.int cell,.str (wR k),.ref p]∧H p=some (.tup [.int t,.int b,.int l])∧zd0 t b l∧∀(a:Addr) (ms:List Int) (H':Hp),Same H H'→H' a=some (.lst (ms.map V.int))→ms.length≤60→(∀y∈ms,0≤y∧y<10 ^ 60)→ms.Pairwise (·≤·)→Q (.ref a) H'
theorem zjq:¬(V.str "read"=V.str "unkey"):=fun z=>absurd (V.str.inj z) (by decide +kernel)
theorem zeg (k:Bool):decide (V.str (wR k)=V.str "unkey")=k:=by
 cases k
 ·exact decide_eq_false zjq
 ·exact decide_eq_true rfl
theorem zkh:intBits ((7:Int) ^ (60:Int).toNat)≤200:=by decide
theorem zfy:¬(("unkey":Str)="write"∨("unkey":Str)="read"):=by decide +kernel
noncomputable def Cam (cs:List Int):Prop:=cs.length≤30∧∀y∈cs,0≤y∧y<10 ^ 40
theorem qL:FnScope ["cell","head","frame","count","most","many","message","row","lag","came","at","way"] ["cell","head","frame"] (defScope xH):=⟨rfl,rfl,rfl,by decide +kernel,rfl,by decide +kernel,by decide +kernel⟩
theorem zcj (D:Def K mg "_law_reading" xH ["cell","head","frame"]) (T:Txt K mg){zb za:Addr} (zj:Fn P w K mg base 1 "_law_drawn" ["cell","k"] zbZ) (xq:Fn P w K mg base 4 "_law_count" ["head","frame"] K3) (xN:FnE P w K mg base 42 "_law_stage" ["head","rest","frame"] (Jq K zb za)):Fn P w K mg base 43 "_law_reading" ["cell","head","frame"] zad:=by
 have zaS:=zfl xN
 refine D.fn qL (fun vs H Q E h=>?_) (fun f cdv A outer s H vs Q E hr h=>?_)
 ·obtain⟨c,k,p,t,b,l,rfl,_⟩:=h
  rfl
 ·obtain⟨cell,k,p,t,b,l,rfl,hp,fo,q⟩:=h
  have hu:=zel hr
  refine⟨_,(pss_cons (ps_set (i:=3) qL.nd rfl (Or.inl rfl) (zA xq (hr.mono (by decide)) (by rfl) (pa_cons (pv 1) (pa_cons (pv 2) pa_nil))))
   (pss_cons (ps_if (pw_or (pt_cmpR vq (pv 3) pe_int (nomark _)) (pw_or1 (pt_cmpR vq (pe_op ql (zA zj (hr.mono (by decide)) (by rfl) (pa_cons (pv 0) (pa_cons pe_int pa_nil))) pe_int) pe_int (nomark _)))).pt
    (pss_cons (ps_set (i:=4) qL.nd rfl (Or.inr rfl) (pe_ix ix_list (pe_lst (pa_cons pe_int (pa_cons pe_int (pa_cons (pe_op vU pe_int pe_int) pa_nil)))) (pe_op ql (zA zj (hr.mono (by decide)) (by rfl) (pa_cons (pv 0) (pa_cons pe_int pa_nil))) pe_int) (fun _ _=>rfl)))
    (pss_cons (ps_set (i:=5) qL.nd rfl (Or.inl rfl) (pe_op ql (zA zj (hr.mono (by decide)) (by rfl) (pa_cons (pv 0) (pa_cons pe_int pa_nil))) pe_int))
    (pss_one (ps_ret (pe_callB Xy (by rfl) T.z_sorted zaX (pa_cons (yc (own:=["k"]) (fr:=["most","cell"]) (ix:=[4,0]) rfl ⟨rfl,rfl,rfl,rfl,rfl,rfl⟩ (pi_range1 (by rfl) T.z_range (pa_cons (pv 5) pa_nil)) (fun _ _ _ _ _=>(pg_name (i:=0) (show (["k","most","cell"]:List Str).Nodup by decide +kernel) rfl (Or.inl rfl))) (fun _ _ _ _ _=>xX) (fun _ _ _ _ _=>(pe_op ql (pe_op jc (zA zj (hr.mono (by decide)) (by rfl) (pa_cons (pv 2) (pa_cons (pe_op qz pe_int (pv 0)) pa_nil))) (pe_op vU pe_int pe_int)) (pv 1)))) pa_nil))))))
    pss_nil)
   (pss_cons (ps_set (i:=6) qL.nd rfl (Or.inl rfl) (pe_op ql (pe_op jc (pe_op jc (zA zj (hr.mono (by decide)) (by rfl) (pa_cons (pv 0) (pa_cons pe_int pa_nil))) (zA zj (hr.mono (by decide)) (by rfl) (pa_cons (pv 0) (pa_cons pe_int pa_nil)))) (pe_op vU pe_int pe_int)) (pv 3)))
   (pss_cons (ps_set (i:=7) qL.nd rfl (Or.inr rfl) (zA zaS (hr.mono (by decide)) (by rfl) (pa_cons (pe_ix ix_list (pe_lst (pa_cons pe_str (pa_cons pe_str pa_nil))) (pe_callTy call_int1 (by rfl) T.z_int zaW (pa_cons (pe_cmpR op_eq (pv 1) pe_str (nomark _)) pa_nil)) (fun _ _=>rfl)) (pa_cons (pv 6) (pa_cons (pv 2) pa_nil)))))
   (pss_cons (ps_set (i:=8) qL.nd rfl (Or.inr rfl) pe_int)
   (pss_cons (ps_if (pt_cmpR op_eq (pv 1) pe_str (nomark _))
    (pss_one (ps_set (i:=8) qL.nd rfl (Or.inr rfl) (pe_op ql (pe_op jc (zA zj (hr.mono (by decide)) (by rfl) (pa_cons (pv 0) (pa_cons pe_int pa_nil))) (pe_op vU pe_int pe_int)) (pe_ix ix_list (pe_lst (pa_cons pe_int (pa_cons pe_int (pa_cons (pe_op vU pe_int pe_int) pa_nil)))) (pe_op ql (zA zj (hr.mono (by decide)) (by rfl) (pa_cons (pv 0) (pa_cons pe_int pa_nil))) pe_int) (fun _ _=>rfl)))))
    pss_nil)
   (pss_cons (zco (k:=9) (own:=["k"]) (fr:=["lag","row","cell","frame"]) (ix:=[8,7,0,2]) rfl qL.nd rfl rfl ⟨rfl,rfl,rfl,rfl,rfl,rfl⟩ (pi_range1 (by rfl) T.z_range (pa_cons (pe_callB call_len_seq (by rfl) T.z_len QR (pa_cons (pv 7) pa_nil)) pa_nil)) (fun _ _ _ _ _=>(pg_name (i:=0) (show (["k","lag","row","cell","frame"]:List Str).Nodup by decide +kernel) rfl (Or.inl rfl))) (fun _ _ _ _ _=>xX) (fun _ _ _ _ _=>(pe_op qz (pe_op qz (pe_ix (zdl K) (pv 2) (pv 0) (fun _ _=>rfl)) (pv 1)) (pe_op ql (pe_op jc (zA zj (hr.mono (by decide)) (by rfl) (pa_cons (pv 3) (pa_cons (pe_op qz pe_int (pv 0)) pa_nil))) (pe_op vU pe_int pe_int)) (pe_op qz (pe_ix (zem K) (pv 4) pe_int (fun _ _=>rfl)) pe_int)))))
   (pss_cons (ps_set (i:=10) qL.nd rfl (Or.inl rfl) (pe_op ql (zA zj (hr.mono (by decide)) (by rfl) (pa_cons (pv 0) (pa_cons pe_int pa_nil))) (pe_callB (call_max2 rfl) (by rfl) T.z_max zcn (pa_cons pe_int (pa_cons (pe_callB call_len_seq (by rfl) T.z_len QR (pa_cons (pv 9) pa_nil)) pa_nil)))))
   (pss_cons (ps_set (i:=11) qL.nd rfl (Or.inl rfl) (pe_op ql (zA zj (hr.mono (by decide)) (by rfl) (pa_cons (pv 0) (pa_cons pe_int pa_nil))) pe_int))
   (pss_cons (ps_if (pw_and (pt_cmpR vq (pv 11) pe_int (nomark _)) (pw_and1 (pt_cmpR (zbL hu) (pv 9) (pe_lst pa_nil) (nomark _)))).pt
    (pss_one (ps_asg (pe_callB (call_max2 rfl) (by rfl) T.z_max zcn (pa_cons pe_int (pa_cons (pe_op ji (pe_op ji (pe_op qz (pe_ix ix_list (pv 9) (pv 10) (fun _ _=>rfl)) (pe_op ql (zA zj (hr.mono (by decide)) (by rfl) (pa_cons (pv 0) (pa_cons pe_int pa_nil))) (pe_op qz (pe_op jc pe_int (pe_ix ix_tup (pv 2) pe_int (fun _ _=>rfl))) pe_int))) (pe_op jc pe_int (pe_ix ix_tup (pv 2) pe_int (fun _ _=>rfl)))) pe_int) pa_nil))) (pg_sub (pv 9) (pv 10) set_list)))
    (pss_one (ps_if (pw_and (pt_cmpR vq (pv 11) pe_int (nomark _)) (pw_and1 (pt_cmpR (zbL hu) (pv 9) (pe_lst pa_nil) (nomark _)))).pt
     (pss_one (ps_expr (pe_bm PySem.F.plainAttrs_list PySem.F.slot_list_pop PySem.F.type_list_pop mt_popAt (pv 9) (pa_cons (pv 10) pa_nil))))
     (pss_one (ps_if (pw_and (pt_cmpR vq (pv 11) pe_int (nomark _)) (pw_and1 (pt_cmpR (zbL hu) (pv 9) (pe_lst pa_nil) (nomark _)))).pt
      (pss_one (ps_expr (pe_bm PySem.F.plainAttrs_list PySem.F.slot_list_append PySem.F.type_list_append mt_append (pv 9) (pa_cons (pe_ix ix_list (pv 9) (pv 10) (fun _ _=>rfl)) pa_nil))))
      pss_nil)))))
   (pss_one (ps_ret (pe_callB Xy (by rfl) T.z_sorted zaX (pa_cons (pv 9) pa_nil)))))))))))))),?_⟩
  obtain⟨c,c0,c1,cw,ck⟩:=zab (head:=wR k) fo.ok
  have ec:c=cntK k t b l:=by
   cases k
   ·exact cw (.inr rfl)
   ·exact ck zfy
  refine⟨_,rfl,_,rfl,_,p,t,b,l,c,rfl,hp,fo.ok,cw,ck,?_⟩
  refine(fun G=>⟨_,rfl,_,_,rfl,rfl,_,rfl,ifD (fun z=>G) (fun z=>⟨_,rfl,cell,25,rfl,by decide,fun d d0 d1=>⟨_,_,rfl,rfl,(by decide),_,_,rfl,rfl,_,rfl,ifD (fun z2=>G) (fun z2=>?_)⟩⟩)⟩) ?_
  ·refine⟨_,_,rfl,rfl,⟨by decide,by decide,by decide⟩,(by show 3≤sizeLine;decide),fun p2 hp2=>?_⟩
   have s2:Same H (upd H p2 (.lst [V.int 40,V.int 40,V.int (10 ^ (60:Int).toNat)])):=Same.new hp2
   have h2:(upd H p2 (.lst [V.int 40,V.int 40,V.int (10 ^ (60:Int).toNat)])) p2=some (.lst [V.int 40,V.int 40,V.int (10 ^ (60:Int).toNat)]):=upd_same
   generalize upd H p2 (.lst [V.int 40,V.int 40,V.int (10 ^ (60:Int).toNat)])=H2 at s2 h2 ⊢
   refine⟨_,rfl,cell,32,rfl,by decide,fun d7 d70 d71=>⟨_,_,rfl,rfl,(by decide),?_⟩⟩
   obtain⟨most,e2,hm2⟩:∃most:Int,atI [V.int 40,V.int 40,V.int (10 ^ (60:Int).toNat)] (d7 % 3)=some (V.int most)∧0<most∧most≤10 ^ 60:=by
    rcases (by omega:d7 % 3=0∨d7 % 3=1∨d7 % 3=2) with z | z | z
    ·exact⟨40,by rw [z];rfl,by decide⟩
    ·exact⟨40,by rw [z];rfl,by decide⟩
    ·exact⟨10 ^ (60:Int).toNat,by rw [z];rfl,by decide⟩
   refine⟨_,_,_,_,rfl,rfl,SqL.of h2,e2,?_⟩
   refine⟨_,rfl,cell,26,rfl,by decide,fun d8 d80 d81=>⟨_,_,rfl,rfl,(by decide),?_⟩⟩
   have n0:0≤d8 % 5∧d8 % 5≤4:=by omega
   generalize d8 % 5=many at n0 ⊢
   refine⟨_,rfl,many,rfl,by omega,by omega,fun pm hpm=>VH (lo:=0) (n:=many.toNat) (fun _ v=>∃m:Int,v=V.int m∧0≤m∧m<10 ^ 60) hpm (Nat.le_of_lt (small1000 (by omega))) (fun i H6 R' hi s6 hR=>?_) ?_⟩
   ·rw [show (0:Int)+(i:Int)=(i:Int) by omega]
    refine⟨rfl,_,rfl,_,rfl,_,_,rfl,rfl,cell,60+(i:Int),rfl,zm (zJ (m:=64) (by omega) (by omega)) (by decide),fun d9 d90 d91=>⟨_,_,rfl,rfl,⟨by decide,by decide,by decide⟩,_,_,rfl,rfl,⟨62,200,zJ d90 (by omega),zkh,by decide⟩,_,rfl,_,_,rfl,rfl,by omega,hR _ _ (Same.refl _) ⟨_,rfl,Int.emod_nonneg _ (by omega),Int.lt_of_lt_of_le (Int.emod_lt_of_pos _ hm2.1) hm2.2⟩⟩⟩
   intro ys H3 s3 hY yl yp
   obtain⟨ns,rfl,np⟩:=ints_of (Pd:=fun m=>0≤m∧m<10 ^ 60) (fun i v hv=>yp i v hv)
   rw [List.length_map] at yl
   refine⟨pm,ns,rfl,SqL.of hY,by omega,fun l' ms hl' pms pw=>q l' ms _ ((s2.trans s3).put hl') upd_same (by rw [pms.length_eq];omega) (fun y hy=>np y (pms.mem_iff.mp hy)) pw⟩
  clear G
  refine⟨_,rfl,cell,20,rfl,by decide,fun a a0 a1=>⟨_,rfl,cell,21,rfl,by decide,fun b' b0 b1=>⟨_,_,rfl,rfl,⟨62,62,zJ a0 (by omega),zJ b0 (by omega),by decide⟩,_,_,rfl,rfl,⟨by decide,by decide,by decide⟩,_,_,rfl,rfl,⟨124,200,intBits_mul_le (m:=62) (n:=62) (zJ a0 (by omega)) (zJ b0 (by omega)),zjl,by decide⟩,_,rfl,_,_,rfl,rfl,by omega,?_⟩⟩⟩
  have m0:=Int.emod_nonneg (a*b'*7 ^ (64:Int).toNat) z
  have m1:=Int.emod_lt_of_pos (a*b'*7 ^ (64:Int).toNat) (show 0<c by omega)
  generalize a*b'*7 ^ (64:Int).toNat % c=m at m0 m1 ⊢
  refine⟨(by show 2≤sizeLine;decide),fun p1 hp1=>?_⟩
  have s1:Same H (upd H p1 (.lst [V.str "write",V.str "key"])):=Same.new hp1
  have h1:(upd H p1 (.lst [V.str "write",V.str "key"])) p1=some (.lst [V.str "write",V.str "key"]):=upd_same
  generalize upd H p1 (.lst [V.str "write",V.str "key"])=H1 at s1 h1 ⊢
  have m3:m<10 ^ 3000:=Int.lt_trans m1 (Int.lt_trans c1 (by decide +kernel))
  refine⟨_,rfl,rfl,.inr ⟨_,rfl,p1,_,_,_,rfl,rfl,SqL.of h1,(show atI [V.str "write",V.str "key"] (if decide (V.str (wR k)=V.str "unkey")=true then 1 else 0)=some (V.str (wW k)) from ?_),_,rfl,_,rfl,J2 (k:=k) (s1 _ _ hp) fo.ok m0 m3 _ _ (fun v H2 aw=>?_) (fun C H2 r=>?_)⟩⟩
  ·rw [zeg];cases k <;> rfl
  rotate_left
  ·exact absurd (ec ▸ m1) r.2.2
  obtain⟨s12,hm,pr,bs,rfl,hR,B,bl,nb⟩:=aw
  have RK:=row_of fo.ok m0 hm B bl nb
  generalize zef k l bs=rs at hR RK
  have s2:=s1.trans s12
  have rl:rs.length≤24:=by have h1:=RK.len;have h2:=fo.b24;omega
  clear s12 h1 hp1 s1 B bl nb bs m3
  dsimp only [gName]
  refine zjp ?_
  refine zb4 (fun σ' H'=>∃lag:Int,σ'=[some (.int cell),some (.str (wR k)),some (.ref p),some (.int c),none,none,some (.int m),some (.ref pr),some (.int lag),none,none,none]∧Same H2 H'∧0≤lag∧lag<10 ^ 30) ?_ (fun N hN=>?_)
  rotate_left
  ·refine⟨_,rfl,rfl,_,rfl,ifD (fun z=>⟨_,rfl,cell,27,rfl,by decide,fun d d0 d1=>⟨_,_,rfl,rfl,⟨by decide,by decide,by decide⟩,_,_,rfl,rfl,⟨62,120,zJ d0 (by omega),zeP,by decide⟩,_,_,rfl,rfl,⟨by decide,by decide,by decide⟩,(by show 3≤sizeLine;decide),fun p4 hp4=>?_⟩⟩) (fun z=>hN _ _ ⟨0,rfl,Same.refl _,by decide,by decide⟩)⟩
   have s4:Same H2 (upd H2 p4 (.lst [V.int 1,V.int 30,V.int (10 ^ (30:Int).toNat)])):=Same.new hp4
   have h4:(upd H2 p4 (.lst [V.int 1,V.int 30,V.int (10 ^ (30:Int).toNat)])) p4=some (.lst [V.int 1,V.int 30,V.int (10 ^ (30:Int).toNat)]):=upd_same
   generalize upd H2 p4 (.lst [V.int 1,V.int 30,V.int (10 ^ (30:Int).toNat)])=H4 at s4 h4 ⊢
   refine⟨_,rfl,cell,28,rfl,by decide,fun d7 d70 d71=>⟨_,_,rfl,rfl,(by decide),?_⟩⟩
   obtain⟨most,e2,hm2⟩:∃most:Int,atI [V.int 1,V.int 30,V.int (10 ^ (30:Int).toNat)] (d7 % 3)=some (V.int most)∧0<most∧most≤10 ^ 30:=by
    rcases (by omega:d7 % 3=0∨d7 % 3=1∨d7 % 3=2) with z | z | z
    ·exact⟨1,by rw [z];rfl,by decide⟩
    ·exact⟨30,by rw [z];rfl,by decide⟩
    ·exact⟨10 ^ (30:Int).toNat,by rw [z];rfl,by decide⟩
   exact⟨_,_,_,_,rfl,rfl,SqL.of h4,e2,_,_,rfl,rfl,by omega,hN _ _ ⟨_,rfl,s4,Int.emod_nonneg _ (by omega),Int.lt_of_lt_of_le (Int.emod_lt_of_pos _ hm2.1) hm2.2⟩⟩
  rintro σ' H3 ⟨lag,rfl,s23,lg0,lg1⟩
  have s3:=s2.trans s23
  have hR3:=s23 _ _ hR
  have hp3:=s3 _ _ hp
  have l0:=fo.ok.l0
  have l1:=fo.l1
  have t1:=fo.t1
  refine⟨_,rfl,_,_,rfl,.inl (SqL.of hR3),_,rfl,by rw [List.length_map];omega,by rw [List.length_map];omega,fun ac hac=>VH (lo:=0) (n:=((rs.map V.int).length:Int).toNat) (fun i v=>∃y:Int,v=.int y∧0≤y∧y<10 ^ 38) hac (by rw [List.length_map];exact Nat.le_of_lt (small1000 (by omega))) ?_ ?_⟩
  ·intro i H6 R hi s6 hR'
   rw [List.length_map] at hi
   have hi':i<rs.length:=by omega
   rw [show (0:Int)+(i:Int)=(i:Int) by omega]
   have gx:=zaw (ns:=rs) (k:=i) (x:=rs.getD i 0) (by rw [List.getD_eq_getElem?_getD,List.getElem?_eq_getElem hi'];rfl)
   have yb:=RK.bd (rs.getD i 0) (by rw [List.getD_eq_getElem?_getD,List.getElem?_eq_getElem hi'];exact List.getElem_mem hi')
   refine⟨rfl,_,rfl,_,rfl,_,_,_,_,rfl,rfl,SqL.of (s6 _ _ hR3),gx,_,rfl,_,_,rfl,rfl,_,rfl,_,rfl,_,_,rfl,rfl,cell,_,rfl,zm (zJ (m:=64) (by omega) (by omega)) (by decide),fun d d0 d1=>⟨_,_,rfl,rfl,⟨by decide,by decide,by decide⟩,_,_,rfl,rfl,⟨62,120,zJ d0 (by omega),zeP,by decide⟩,_,rfl,p,_,2,_,rfl,rfl,SqT.of (s6 _ _ hp3),rfl,_,_,rfl,rfl,_,_,rfl,rfl,by omega,_,_,rfl,rfl,?_⟩⟩
   have e0:=Int.emod_nonneg (d*7 ^ (40:Int).toNat) (show l+1≠0 by omega)
   have e1:=Int.emod_lt_of_pos (d*7 ^ (40:Int).toNat) (show 0<l+1 by omega)
   exact hR' _ _ (Same.refl _) ⟨_,rfl,by omega,by omega⟩
  intro ys H4 s34 hC yl yp
  obtain⟨cs,rfl,cp⟩:=ints_of (Pd:=fun m=>0≤m∧m<10 ^ 38) (fun i v hv=>yp i v hv)
  rw [List.length_map,List.length_map] at yl
  have cl:cs.length≤24:=by omega
  have s4:=s3.trans s34
  have hp4:=s4 _ _ hp
  have hc:H ac=none:=s3.free hac
  refine⟨_,rfl,cell,29,rfl,by decide,fun d29 x0 x1=>⟨_,rfl,_,_,rfl,.inl (SqL.of hC),_,_,rfl,?_⟩⟩
  rw [List.length_map]
  have mp:0<(if (cs.length:Int) > 1 then (cs.length:Int) else 1)∧(cs≠[]→(if (cs.length:Int) > 1 then (cs.length:Int) else 1)≤(cs.length:Int)):=by
   refine⟨by split <;> omega,fun h=>?_⟩
   have:=List.length_pos_iff.mpr h
   split <;> omega
  refine⟨_,_,rfl,rfl,mp.1,?_⟩
  generalize (if (cs.length:Int) > 1 then (cs.length:Int) else 1)=mx at mp
  have at0:=Int.emod_nonneg d29 (show mx≠0 by omega)
  have at1:=Int.emod_lt_of_pos d29 mp.1
  generalize d29 % mx=aat at at0 at1 ⊢
  obtain⟨j,rfl⟩:∃j:Nat,aat=(j:Int):=⟨aat.toNat,by omega⟩
  have jl:cs≠[]→j<cs.length:=fun h=>by have:=mp.2 h;omega
  refine⟨_,rfl,cell,30,rfl,by decide,fun d30 y0 y1=>⟨_,_,rfl,rfl,(by decide),?_⟩⟩
  generalize d30 % 6=way
  dsimp only [gName]
  refine zb4 (fun σ' H'=>∃cs',σ'=[some (.int cell),some (.str (wR k)),some (.ref p),some (.int c),none,none,some (.int m),some (.ref pr),some (.int lag),some (.ref ac),some (.int (j:Int)),some (.int way)]∧Same H H'∧H' ac=some (.lst (cs'.map V.int))∧Cam cs') ?_ (fun N hN=>?_)
  ·rintro σ' H' ⟨cs',rfl,s',h',ca1,ca2⟩
   exact⟨_,rfl,ac,cs',rfl,SqL.of h',by omega,fun l' ms hl' pms pw=>q l' ms _ (s'.put hl') upd_same (by rw [pms.length_eq];omega) (fun y hy=>by have:=ca2 y (pms.mem_iff.mp hy);omega) pw⟩
  have same:∀H',Same H4 H'→N [some (.int cell),some (.str (wR k)),some (.ref p),some (.int c),none,none,some (.int m),some (.ref pr),some (.int lag),some (.ref ac),some (.int (j:Int)),some (.int way)] H':=fun H' s'=>hN _ _ ⟨cs,rfl,s4.trans s',s' _ _ hC,by omega,fun y hy=>by have:=cp y hy;omega⟩
  have gx:cs≠[]→atI (cs.map V.int) (j:Int)=some (V.int (cs.getD j 0))∧0≤cs.getD j 0∧cs.getD j 0<10 ^ 38:=fun h=>by
   have hj:=jl h
   refine⟨zaw (by rw [List.getD_eq_getElem?_getD,List.getElem?_eq_getElem hj];rfl),cp _ (by rw [List.getD_eq_getElem?_getD,List.getElem?_eq_getElem hj];exact List.getElem_mem hj)⟩
  have ixj:cs≠[]→ixN (cs.map V.int).length (j:Int)=some j:=fun h=>by
   have hj:=jl h
   unfold ixN
   rw [List.length_map,if_pos (by omega),if_pos (by omega),Int.toNat_natCast]
  refine(fun(G:∀H',Same H4 H'→_)=>⟨_,rfl,_,_,rfl,rfl,_,rfl,ifD (fun z=>⟨_,rfl,(by decide),fun pe hpe=>⟨ac,pe,cs,[],rfl,rfl,SqL.of ((Same.new hpe) _ _ hC),SqL.of upd_same,_,rfl,zbJ (fun e=>?_) (fun e=>G _ (Same.new hpe))⟩⟩) (fun z=>iteF (G H4 (Same.refl _)))⟩) (fun H5 s5=>?_)
  rotate_left
  ·clear G
   have s5:Same H4 (upd H4 pe (.lst [])):=Same.new hpe
   generalize upd H4 pe (.lst [])=H5 at s5 ⊢
   obtain⟨g1,g2,g3⟩:=gx e
   have hC5:=s5 _ _ hC
   have hp5:=s5 _ _ hp4
   have lb:intBits l≤80:=zJ l0 (by omega)
   refine⟨_,rfl,_,rfl,_,_,_,_,rfl,rfl,SqL.of hC5,g1,_,rfl,cell,31,rfl,by decide,fun d d0 d1=>⟨_,rfl,p,_,2,_,rfl,rfl,SqT.of hp5,rfl,_,_,rfl,rfl,⟨10,80,by decide,lb,by decide⟩,_,_,rfl,rfl,_,_,rfl,rfl,by omega,_,_,rfl,rfl,_,rfl,p,_,2,_,rfl,rfl,SqT.of hp5,rfl,_,_,rfl,rfl,⟨10,80,by decide,lb,by decide⟩,_,_,rfl,rfl,_,_,rfl,rfl,_,_,rfl,_,rfl,_,rfl,ac,_,_,j,rfl,rfl,hC5,ixj e,?_⟩⟩
   have e0:=Int.emod_nonneg d (show 4*l+5≠0 by omega)
   have e1:=Int.emod_lt_of_pos d (show 0<4*l+5 by omega)
   generalize d % (4*l+5)=dd at e0 e1 ⊢
   obtain⟨nv,env,nv0,nv1⟩:∃nv,(if cs.getD j 0+dd-2*l-2 > 0 then cs.getD j 0+dd-2*l-2 else 0)=nv∧0≤nv∧nv<10 ^ 40:=⟨_,rfl,by split <;> omega,by split <;> omega⟩
   refine hN _ _ ⟨cs.set j nv,rfl,(s4.trans s5).wr hc,by rw [upd_same,env,List.map_set],by rw [List.length_set];omega,fun y hy=>?_⟩
   rcases List.mem_or_eq_of_mem_set hy with hy | rfl
   ·have:=cp y hy;omega
   ·exact⟨nv0,nv1⟩
  refine(fun(G:∀H',Same H4 H'→_)=>⟨_,rfl,_,_,rfl,rfl,_,rfl,ifD (fun z=>⟨_,rfl,(by decide),fun pe hpe=>⟨ac,pe,cs,[],rfl,rfl,SqL.of ((s5.put hpe) _ _ hC),SqL.of upd_same,_,rfl,zbJ (fun e=>?_) (fun e=>G _ (s5.put hpe))⟩⟩) (fun z=>iteF (G H5 s5))⟩) (fun H6 s6=>?_)
  rotate_left
  ·clear G
   have s6:Same H4 (upd H5 pe (.lst [])):=s5.put hpe
   generalize upd H5 pe (.lst [])=H6 at s6 ⊢
   have hj:=jl e
   refine⟨_,rfl,.inl ⟨rfl,_,SqL.of (s6 _ _ hC)⟩,_,rfl,ac,_,(j:Int),j,_,rfl,rfl,s6 _ _ hC,by omega,by omega,(ixN_seq (ixj e)).1,(by rw [List.getElem?_map,List.getElem?_eq_getElem hj];rfl),hN _ _ ⟨cs.eraseIdx j,rfl,(s4.trans s6).wr hc,by rw [upd_same,Jj],?_,fun y hy=>?_⟩⟩
   ·have:=List.length_eraseIdx_le cs j
    omega
   ·have:=cp y (List.mem_of_mem_eraseIdx hy)
    omega
  refine⟨_,rfl,_,_,rfl,rfl,_,rfl,ifD (fun z=>⟨_,rfl,(by decide),fun pe hpe=>⟨ac,pe,cs,[],rfl,rfl,SqL.of ((s6.put hpe) _ _ hC),SqL.of upd_same,_,rfl,zbJ (fun e=>?_) (fun e=>same _ (s6.put hpe))⟩⟩) (fun z=>iteF (same H6 s6))⟩
  have s7:Same H4 (upd H6 pe (.lst [])):=s6.put hpe
  generalize upd H6 pe (.lst [])=H7 at s7 ⊢
  obtain⟨g1,g2,g3⟩:=gx e
  have hC7:=s7 _ _ hC
  refine⟨_,rfl,.inl ⟨rfl,_,SqL.of hC7⟩,_,rfl,_,rfl,_,_,_,_,rfl,rfl,SqL.of hC7,g1,ac,_,_,rfl,rfl,hC7,(by rw [List.length_map,sizeLine_eq];omega),hN _ _ ⟨cs++[cs.getD j 0],rfl,(s4.trans s7).wr hc,by rw [upd_same,List.map_append];rfl,by rw [List.length_append];show cs.length+1≤30;omega,fun y hy=>?_⟩⟩
  rcases List.mem_append.mp hy with hy | hy
  ·have:=cp y hy;omega
  ·rw [List.mem_singleton.mp hy];omega
end
theorem xT (a b:Str):(a++b).length=a.length+b.length:=by rw [← jz,xY,List.length_append,jz,jz]
structure Qp (CD CF x d e:Addr) (n:Nat) (fr:Str→Option (Int×Int×Int)) (H:Hp):Prop where
 desk:jM CD CF x d n fr H
 ne:d≠e
 dict:∃kvs,H e=some (.dK kvs)∧kvs.length≤n∧(∀nm,fr nm=none→valV kvs (Sum.inr nm)=none)∧∀nm t b l,fr nm=some (t,b,l)→∃p,valV kvs (Sum.inr nm)=some (.ref p)∧H p=some (.tup [.int t,.int b,.int l])
 ok:∀nm t b l,fr nm=some (t,b,l)→zd0 t b l
noncomputable def K9 (d e:Addr) (H H':Hp):Prop:=∀a o,H a=some o→a≠d→a≠e→H' a=some o
section
variable {CD CF x d e:Addr}{n:Nat}{fr:Str→Option (Int×Int×Int)} {H H':Hp}
theorem jM.more {n':Nat} (h:jM CD CF x d n fr H) (hn:n≤n'):jM CD CF x d n' fr H:=by
 obtain⟨h1,⟨kvs,h2,h3,h4,h5⟩,h6⟩:=h
 exact⟨h1,⟨kvs,h2,Nat.le_trans h3 hn,h4,h5⟩,h6⟩
theorem jM.keepX (h:jM CD CF x d n fr H) (s:∀a o,H a=some o→(∀kvs,o≠.dK kvs)∨a=d→H' a=some o):jM CD CF x d n fr H':=by
 obtain⟨⟨dx,h1⟩,⟨kvs,h2,h3,h4,h5⟩,h6⟩:=h
 refine⟨⟨dx,s _ _ h1 (.inl fun _ z=>nomatch z)⟩,⟨kvs,s _ _ h2 (.inr rfl),h3,h4,fun nm t b l q=>?_⟩,h6⟩
 obtain⟨p,hp,dx,hq⟩:=h5 nm t b l q
 exact⟨p,hp,dx,s _ _ hq (.inl fun _ z=>nomatch z)⟩
theorem Qp.more (h:Qp CD CF x d e n fr H):Qp CD CF x d e (n+1) fr H:=by
 obtain⟨h1,h2,⟨kvs,h3,h4,h5⟩,h6⟩:=h
 exact⟨h1.more (Nat.le_succ n),h2,⟨kvs,h3,Nat.le_succ_of_le h4,h5⟩,h6⟩
theorem Qp.keepX (h:Qp CD CF x d e n fr H) (s:∀a o,H a=some o→(∀kvs,o≠.dK kvs)∨a=d∨a=e→H' a=some o):Qp CD CF x d e n fr H':=by
 obtain⟨h1,h2,⟨kvs,h3,h4,h5,h6⟩,h7⟩:=h
 refine⟨h1.keepX fun a o q z=>s a o q (z.imp id .inl),h2,⟨kvs,s _ _ h3 (.inr (.inr rfl)),h4,h5,fun nm t b l q=>?_⟩,h7⟩
 obtain⟨p,hp,hq⟩:=h6 nm t b l q
 exact⟨p,hp,s _ _ hq (.inl fun _ z=>nomatch z)⟩
theorem Qp.mono (s:Same H H') (h:Qp CD CF x d e n fr H):Qp CD CF x d e n fr H':=h.keepX fun a o q _=>s a o q
theorem K9.of (s:Same H H'):K9 d e H H':=fun a o h _ _=>s a o h
end
section
variable {P:Program}{w:World}{K:PySem.W.Frag}{mg:Str→Option Value}{base:Heap}
noncomputable def zeU (CD CF:Addr):Sp:=fun vs H Q _=>∃(x d e:Addr) (n:Nat) (fr:Str→Option (Int×Int×Int)) (nm:Str) (cell:Int),vs=[.ref x,.ref e,.str nm,.int cell]∧Qp CD CF x d e n fr H∧n<1000∧qD nm∧∀fr' H',Qp CD CF x d e (n+1) fr' H'→K9 d e H H'→Q (.bl true) H'
theorem hd5 {d:Int} (d0:0≤d):∃head:Str,atI [V.str "frame",V.str "write",V.str "read",V.str "key",V.str "unkey"] (d % 5)=some (V.str head)∧(head="frame"∨∃k,head=wW k∨head=wR k):=by
 rcases (by omega:d % 5=0∨d % 5=1∨d % 5=2∨d % 5=3∨d % 5=4) with z | z | z | z | z
 ·exact⟨"frame",by rw [z];rfl,.inl rfl⟩
 ·exact⟨"write",by rw [z];rfl,.inr ⟨false,.inl rfl⟩⟩
 ·exact⟨"read",by rw [z];rfl,.inr ⟨false,.inr rfl⟩⟩
 ·exact⟨"key",by rw [z];rfl,.inr ⟨true,.inl rfl⟩⟩
 ·exact⟨"unkey",by rw [z];rfl,.inr ⟨true,.inr rfl⟩⟩
theorem zfz (k:Bool):(wW k).length≤5:=by cases k <;> decide +kernel
theorem zeh (k:Bool):(wR k).length≤5:=by cases k <;> decide +kernel
theorem bl1:(" ":Str).length=1:=by decide +kernel
theorem bl2:(" 1":Str).length=2:=by decide +kernel
theorem bl6:("frame ":Str).length=6:=by decide +kernel
theorem bl9:("messages ":Str).length=9:=by decide +kernel
theorem zcI {h nm:Str}{m:Int}:(((h++" ")++nm)++" ")++txt m=Txt.join " " (h::nm::[m].map txt):=by
 have:=zd7 (h:=h++" ") (w0:=h) (nm:=nm) (r:=[txt m]) (by rw [xY,zcg]) (by simp)
 rw [join_one] at this
 exact this
theorem zjr {h nm:Str}:((h++" ")++nm)++" 1"=Txt.join " " (h::nm::[(1:Int)].map txt):=by
 rw [← zcI]
 apply XF
 simp only [xY,zcg,show cpl (" 1":Str)=[32,49] by decide +kernel,show cpl (txt 1)=[49] by decide +kernel,List.append_assoc]
 rfl
theorem jG:FnScope ["desk","frames","name","cell","head","frame","order","message","reading"] ["desk","frames","name","cell"] (defScope vP):=⟨rfl,rfl,rfl,by decide +kernel,rfl,by decide +kernel,by decide +kernel⟩
theorem zei (ND:NoDig K) (D:Def K mg "_law_order" vP ["desk","frames","name","cell"]) (T:Txt K mg){zq:Addr} (jd:mg "BellError"=some (.ref zq)){qm:Addr} (vg:mg "NoRow"=some (.ref qm)){za:Addr} (zT:mg "NoReading"=some (.ref za)){zb:Addr} (qp:mg "TooGreat"=some (.ref zb)){zR:Addr} (jK:mg "TooMany"=some (.ref zR)){zQ:Addr} (jZ:mg "NoNote"=some (.ref zQ)){zg:Addr} (zZ:mg "NoOrder"=some (.ref zg)){zf:Addr} (jF:mg "NoName"=some (.ref zf)){zy:Addr} (xj:mg "Frame"=some (.ref zy)){zu:Addr} (wF:mg "Desk"=some (.ref zu)){jH:Tok} (jo:mg "LETTERS"=some (.str "abcdefghijklmnopqrstuvwxyz" jH)){qF:Tok} (qi:mg "MOST_LETTERS"=some (.int 8 qF)){jJ:Tok} (jq:mg "FIGURES"=some (.str "0123456789" jJ)){qG:Tok} (qj:mg "MOST_FIGURES"=some (.int 60 qG)){zr:Tok} (zp:mg "MOST_FIGURES_OF_MESSAGE"=some (.int 3000 zr)){qU:Tok} (qK:mg "MOST_BELLS"=some (.int 60 qU)) (je:PySem.W.excIn K zq bmV "ValueError.__new__"=true) (vV:PySem.W.excIn K qm bmV "ValueError.__new__"=true) (zK:PySem.W.excIn K za bmV "ValueError.__new__"=true) (qg:PySem.W.excIn K zb bmV "ValueError.__new__"=true) (z7:PySem.W.excIn K zg bmV "ValueError.__new__"=true) (jC:PySem.W.excIn K zf bmV "ValueError.__new__"=true) (xJ:PySem.W.excIn K zQ bmV "ValueError.__new__"=true) (jf:PySem.W.mroIn K zf (.ref zq)=some true) (jr:PySem.W.findIn K (.ref zf) "__getattribute__"=some (some (.builtin "BaseException.__getattribute__"))) (jt:PySem.W.findIn K (.ref zf) "__getattr__"=some none) (ju:PySem.W.findIn K (.ref zf) "__class__"=some (some (.builtin "object.__class__"))) (jw:PySem.W.mroIn K zf (.type "object")=some true) (jx:PySem.W.mroIn K zf (.type "BaseException")=some true) (qt:PySem.W.kitOne K (.ref zf) (.ref zf)=some true) (zU:PySem.W.kitOne K (.ref zf) (.ref zb)=some false) (zL:PySem.W.kitOne K (.ref zf) (.ref za)=some false) (qx:PySem.W.kitOne K (.ref zf) (.ref zQ)=some false) (z8:PySem.W.kitOne K (.ref zf) (.ref zg)=some false) (qH:PySem.W.kitOne K (.ref zf) (.ref qm)=some false) (z9:PySem.W.kitOne K (.ref zf) (.ref zR)=some false) (qI:PySem.W.kitOne K (.ref zf) (.type "ValueError")=some true) (qJ:PySem.W.mroIn K zb (.ref zq)=some true) (qW:PySem.W.findIn K (.ref zb) "__getattribute__"=some (some (.builtin "BaseException.__getattribute__"))) (qX:PySem.W.findIn K (.ref zb) "__getattr__"=some none) (qY:PySem.W.findIn K (.ref zb) "__class__"=some (some (.builtin "object.__class__"))) (qZ:PySem.W.mroIn K zb (.type "object")=some true) (jb:PySem.W.mroIn K zb (.type "BaseException")=some true) (zV:PySem.W.kitOne K (.ref zb) (.ref zf)=some false) (zF:PySem.W.kitOne K (.ref zb) (.ref zb)=some true) (zB:PySem.W.kitOne K (.ref zb) (.ref za)=some false) (zW:PySem.W.kitOne K (.ref zb) (.ref zQ)=some false) (zM:PySem.W.kitOne K (.ref zb) (.ref zg)=some false) (qd:PySem.W.kitOne K (.ref zb) (.ref qm)=some false) (zN:PySem.W.kitOne K (.ref zb) (.ref zR)=some false) (qe:PySem.W.kitOne K (.ref zb) (.type "ValueError")=some true) (qy:PySem.W.mroIn K za (.ref zq)=some true) (qM:PySem.W.findIn K (.ref za) "__getattribute__"=some (some (.builtin "BaseException.__getattribute__"))) (qN:PySem.W.findIn K (.ref za) "__getattr__"=some none) (qO:PySem.W.findIn K (.ref za) "__class__"=some (some (.builtin "object.__class__"))) (qP:PySem.W.mroIn K za (.type "object")=some true) (qQ:PySem.W.mroIn K za (.type "BaseException")=some true) (zO:PySem.W.kitOne K (.ref za) (.ref zf)=some false) (zE:PySem.W.kitOne K (.ref za) (.ref zb)=some false) (zx:PySem.W.kitOne K (.ref za) (.ref za)=some true) (zP:PySem.W.kitOne K (.ref za) (.ref zQ)=some false) (zG:PySem.W.kitOne K (.ref za) (.ref zg)=some false) (zX:PySem.W.kitOne K (.ref za) (.ref qm)=some false) (zH:PySem.W.kitOne K (.ref za) (.ref zR)=some false) (zY:PySem.W.kitOne K (.ref za) (.type "ValueError")=some true) (JZ:PySem.W.specialIn K (.builtin "object.__class__") "__get__"=some (some (.builtin "getset_descriptor.__get__"))) (J1:PySem.W.takesIn K (.builtin "object.__class__")=some true){NH SN CH:Sp} (zj:Fn P w K mg base 1 "_law_drawn" ["cell","k"] zbZ) (xq:Fn P w K mg base 4 "_law_count" ["head","frame"] K3) (Qq:Fn P w K mg base 2 "_law_frame" ["cell"] zd2) (vo:Fn P w K mg base 1 "_law_words" ["turns"] (Kh K)) (Zn:Fn P w K mg base 2 "_law_message" ["cell","count"] zfa) (Zo:Fn P w K mg base 43 "_law_reading" ["cell","head","frame"] zad) (Qs:Fn P w K mg base 43 "_law_due" ["head","rest","frame"] (ze9 K zf zb za)) (kW:Fn P w K mg base 47 "_law_told" ["desk","order"] (zcE zu zf zb za (Q9 K zu zy zg zf zb za NH SN CH))):Fn P w K mg base 48 "_law_order" ["desk","frames","name","cell"] (zeU zu zy):=by
 refine D.fn jG (fun vs H Q E h=>?_) (fun f cdv A outer s H vs Q E hr h=>?_)
 ·obtain⟨x,d,e,n,fr,nm,cell,rfl,_⟩:=h
  rfl
 ·obtain⟨x,d,e,n,fr,nm,cell,rfl,BK,hn,g,q⟩:=h
  have hu:=zel hr
  refine⟨_,(pss_cons (ps_set (i:=4) jG.nd rfl (Or.inl rfl) (pe_ix ix_list (pe_lst (pa_cons pe_str (pa_cons pe_str (pa_cons pe_str (pa_cons pe_str (pa_cons pe_str pa_nil)))))) (pe_op ql (zA zj (hr.mono (by decide)) (by rfl) (pa_cons (pv 3) (pa_cons pe_int pa_nil))) pe_int) (fun _ _=>rfl)))
   (pss_cons (ps_if (pt_cmpR op_eq (pv 4) pe_str (nomark _))
    (pss_cons (ps_set (i:=5) jG.nd rfl (Or.inl rfl) (zA Qq (hr.mono (by decide)) (by rfl) (pa_cons (pv 3) pa_nil)))
    (pss_cons (ps_dput (hu_of hr) (pv 1) (pv 2) (pv 5) rfl)
    (pss_cons (ps_set (i:=6) jG.nd rfl (Or.inl rfl) (pe_op op_add_str (pe_op op_add_str (pe_op op_add_str pe_str (pv 2)) pe_str) (zA vo (hr.mono (by decide)) (by rfl) (pa_cons (pv 5) pa_nil))))
    (pss_one (ps_ret (pe_cmpR (Kl hu) (zA kW (hr.mono (by decide)) (by rfl) (pa_cons (pv 0) (pa_cons (pv 6) pa_nil))) (pe_tup (pa_cons pe_str (pa_cons (pe_op op_add_str pe_str (pe_callTy (wQ ND) (by rfl) T.z_str Xv (pa_cons (zA xq (hr.mono (by decide)) (by rfl) (pa_cons pe_str (pa_cons (pv 5) pa_nil))) pa_nil))) pa_nil))) (nomark _)))))))
    pss_nil)
   (pss_cons (ps_if (pt_cmp (pc_dnotin (hu_of hr) (pv 2) (pv 1)))
    (pss_one (ps_ret (pe_cmpR (Kl hu) (zA kW (hr.mono (by decide)) (by rfl) (pa_cons (pv 0) (pa_cons (pe_op op_add_str (pe_op op_add_str (pe_op op_add_str (pv 4) pe_str) (pv 2)) pe_str) pa_nil))) (pe_tup (pa_cons pe_str (pa_cons pe_str pa_nil))) (nomark _))))
    pss_nil)
   (pss_cons (ps_set (i:=5) jG.nd rfl (Or.inl rfl) (pe_dget (hu_of hr) (pv 1) (pv 2) (fun _ _=>rfl)))
   (pss_cons (ps_if (pw_or (pt_cmpR op_eq (pv 4) pe_str (nomark _)) (pw_or1 (pt_cmpR op_eq (pv 4) pe_str (nomark _)))).pt
    (pss_cons (ps_set (i:=7) jG.nd rfl (Or.inl rfl) (zA Zn (hr.mono (by decide)) (by rfl) (pa_cons (pv 3) (pa_cons (zA xq (hr.mono (by decide)) (by rfl) (pa_cons (pv 4) (pa_cons (pv 5) pa_nil))) pa_nil))))
    (pss_one (ps_ret (pe_cmpR (Kl hu) (zA kW (hr.mono (by decide)) (by rfl) (pa_cons (pv 0) (pa_cons (pe_op op_add_str (pe_op op_add_str (pe_op op_add_str (pe_op op_add_str (pv 4) pe_str) (pv 2)) pe_str) (pe_callTy (wQ ND) (by rfl) T.z_str Xv (pa_cons (pv 7) pa_nil))) pa_nil))) (zA Qs (hr.mono (by decide)) (by rfl) (pa_cons (pv 4) (pa_cons (pv 7) (pa_cons (pv 5) pa_nil)))) (nomark _)))))
    pss_nil)
   (pss_cons (ps_set (i:=8) jG.nd rfl (Or.inl rfl) (zA Zo (hr.mono (by decide)) (by rfl) (pa_cons (pv 3) (pa_cons (pv 4) (pa_cons (pv 5) pa_nil)))))
   (pss_cons (ps_set (i:=6) jG.nd rfl (Or.inl rfl) (pe_bm PySem.F.plainAttrs_str PySem.F.slot_str_join PySem.F.type_str_join Kd pe_str (pa_cons (pe_op op_cat (pe_lst (pa_cons (pv 4) (pa_cons (pv 2) pa_nil))) (yc (own:=["turn"]) (fr:=[]) (ix:=[]) rfl ⟨rfl,rfl,rfl,rfl,rfl,rfl⟩ (pi_list (pv 8)) (fun _ _ _ _ _=>(pg_name (i:=0) (show (["turn"]:List Str).Nodup by decide +kernel) rfl (Or.inl rfl))) (fun _ _ _ _ _=>xX) (fun _ _ _ _ _=>(pe_callTy (wQ ND) (by rfl) T.z_str Xv (pa_cons (pv 0) pa_nil))))) pa_nil)))
   (pss_one (ps_ret (pe_cmpR (Kl hu) (zA kW (hr.mono (by decide)) (by rfl) (pa_cons (pv 0) (pa_cons (pv 6) pa_nil))) (zA Qs (hr.mono (by decide)) (by rfl) (pa_cons (pv 4) (pa_cons (pv 8) (pa_cons (pv 5) pa_nil)))) (nomark _))))))))))),?_⟩
  have gl:=g.le
  refine⟨(by show 5≤sizeLine;decide),fun p0 hp0=>?_⟩
  have s0:Same H (upd H p0 (.lst [V.str "frame",V.str "write",V.str "read",V.str "key",V.str "unkey"])):=Same.new hp0
  have h0:(upd H p0 (.lst [V.str "frame",V.str "write",V.str "read",V.str "key",V.str "unkey"])) p0=some (.lst [V.str "frame",V.str "write",V.str "read",V.str "key",V.str "unkey"]):=upd_same
  generalize upd H p0 (.lst [V.str "frame",V.str "write",V.str "read",V.str "key",V.str "unkey"])=H0 at s0 h0 ⊢
  refine⟨_,rfl,cell,10,rfl,by decide,fun d10 x0 x1=>⟨_,_,rfl,rfl,(by decide),?_⟩⟩
  obtain⟨head,eh,hh⟩:=hd5 x0
  refine⟨_,_,_,_,rfl,rfl,SqL.of h0,eh,?_⟩
  have BK0:=BK.mono s0
  clear h0 eh x0 x1 hp0
  refine⟨_,rfl,rfl,_,rfl,ifD (fun z=>?_) (fun z=>?_)⟩
  ·clear z hh
   refine⟨_,rfl,cell,rfl,fun pf t b l H1 s1 hpf hF fo=>?_⟩
   have BK1:=BK0.mono s1
   obtain⟨kvs,he,kl,k1,k2⟩:=BK1.dict
   refine⟨_,rfl,_,rfl,_,rfl,e,_,rfl,DPut.k (k:=Sum.inr nm) he (by rw [sizeLine_eq];omega),?_⟩
   have hF2:(upd H1 e (.dK (putK kvs (Sum.inr nm) (V.ref pf)))) pf=some (.tup [.int t,.int b,.int l]):=by rw [upd_ne fun z=>by rw [z,he] at hF;cases hF];exact hF
   have he2:(upd H1 e (.dK (putK kvs (Sum.inr nm) (V.ref pf)))) e=some (.dK (putK kvs (Sum.inr nm) (V.ref pf))):=upd_same
   have y2:∀a o,H1 a=some o→a≠e→(upd H1 e (.dK (putK kvs (Sum.inr nm) (V.ref pf)))) a=some o:=fun a o h ne=>by rw [upd_ne ne];exact h
   generalize upd H1 e (.dK (putK kvs (Sum.inr nm) (V.ref pf)))=H2 at hF2 he2 y2 ⊢
   have hD2:jM zu zy x d n fr H2:=BK1.desk.keepX fun a o h z=>y2 a o h fun w=>by
    rcases z with z | z
    ·rw [w,he] at h;cases h;exact z _ rfl
    ·exact BK1.ne (z.symm.trans w)
   have b60:b<10 ^ 60:=Int.lt_of_le_of_lt fo.ok.b1 (by decide)
   have hb5:∀m∈[t,b,l],0≤m∧m<10 ^ 500:=fun m hm=>by
    have pp:=zdb
    rcases List.mem_cons.mp hm with rfl | hm
    ·exact⟨fo.ok.t0,Int.lt_of_lt_of_le fo.ok.t1 pp⟩
    rcases List.mem_cons.mp hm with rfl | hm
    ·exact⟨fo.ok.b0,Int.lt_of_lt_of_le b60 pp⟩
    rw [List.mem_singleton.mp hm]
    exact⟨fo.ok.l0,Int.lt_of_lt_of_le fo.ok.l1 pp⟩
   have eo:(("frame "++nm)++" ")++Txt.join " " ([t,b,l].map txt)=Txt.join " " ("frame"::nm::[t,b,l].map txt):=zd7 (by decide +kernel) (by simp)
   have ol:=zaR (w0:="frame") (nm:=nm) (ns:=[t,b,l]) (by decide +kernel) (by omega) (by show 3≤1000;decide) hb5
   rw [← eo,xT] at ol
   refine⟨_,rfl,_,_,rfl,rfl,by rw [bl6,sizeLine_eq];omega,_,_,rfl,rfl,by rw [xT,bl6,bl1,sizeLine_eq];omega,_,rfl,pf,[t,b,l],rfl,.inr hF2,(by show 3≤1000;decide),hb5,fun H3 s3=>⟨_,_,rfl,rfl,by omega,?_⟩⟩
   rw [eo]
   have hD3:=hD2.mono s3
   obtain⟨dx,hx3⟩:=hD3.self
   have hF3:=s3 _ _ hF2
   have he3:=s3 _ _ he2
   refine⟨_,rfl,_,rfl,x,dx,fr1 d,_,(fun v H'=>v=.str ("messages "++txt (cnt t b l))∧xO d H3 H'∧jM zu zy x d (n+1) (Jw fr nm (t,b,l)) H'),(fun _ _=>False),rfl,hx3,Zk (by decide +kernel),fun Q' E' qa qr=>zch hD3 hn g fo.ok (fun H' s' h'=>qa _ _ ⟨rfl,s',h'⟩),fun v H4 a4=>?_,fun _ _ z=>z.elim⟩
   obtain⟨rfl,s4,hD4⟩:=a4
   refine⟨_,rfl,fun pt H5 s5 h5=>?_⟩
   obtain⟨kvd,hd3,_⟩:=hD3.dict
   have nfd:pf≠d:=fun z=>by rw [z,hd3] at hF3;cases hF3
   have hF5:=s5 _ _ (s4 _ _ hF3 nfd)
   have he5:=s5 _ _ (s4 _ _ he3 (Ne.symm BK1.ne))
   have c0:=Qk t b l
   have c1:=fo.ok.c1
   have tl:=Q8 c0 c1
   refine⟨_,rfl,_,pf,t,b,l,cnt t b l,rfl,hF5,fo.ok,fun _=>rfl,fun z=>absurd (.inl rfl) z,_,rfl,lgB c0 (Int.lt_of_lt_of_le c1 p54),_,_,rfl,rfl,(by rw [bl9,sizeLine_eq];show 9+(txt (cnt t b l)).length≤_;omega),(by show 2≤sizeLine;decide),fun pu hpu=>?_⟩
   refine⟨pt,pu,_,_,rfl,rfl,(Same.new hpu) _ _ h5,upd_same,Vr,zee WW (K7 c0),q (Jw fr nm (t,b,l)) _ ⟨hD4.mono (s5.put hpu),BK1.ne,⟨_,(Same.new hpu) _ _ he5,?_,fun nm' z=>?_,fun nm' t' b' l' z=>?_⟩,fun nm' t' b' l' z=>?_⟩ fun a o h n1 n2=>?_⟩
   ·have:=zbr kvs (Sum.inr nm) (V.ref pf)
    omega
   ·unfold Jw at z
    split at z
    ·cases z
    ·rename_i h
     rw [valV_put,if_neg (fun z=>h (Sum.inr.inj z))]
     exact k1 nm' z
   ·unfold Jw at z
    rw [valV_put]
    split at z
    ·rename_i h
     cases z
     rw [if_pos (by rw [h])]
     exact⟨pf,rfl,(Same.new hpu) _ _ hF5⟩
    ·rename_i h
     rw [if_neg (fun z=>h (Sum.inr.inj z))]
     obtain⟨r,hr1,hr2⟩:=k2 nm' t' b' l' z
     have hr3:=s3 _ _ (y2 _ _ hr2 fun z=>by rw [z,he] at hr2;cases hr2)
     have hr4:=s4 _ _ hr3 fun z=>by rw [z,hd3] at hr3;cases hr3
     exact⟨r,hr1,(Same.new hpu) _ _ (s5 _ _ hr4)⟩
   ·unfold Jw at z
    split at z
    ·cases z
     exact fo
    ·exact BK1.ok nm' t' b' l' z
   ·exact(Same.new hpu) _ _ (s5 _ _ (s4 _ _ (s3 _ _ (y2 _ _ (s1 _ _ (s0 _ _ h)) n2)) n1))
  have hh:∃k,head=wW k∨head=wR k:=hh.resolve_left fun y=>z (by rw [y])
  clear z
  obtain⟨kvs,he,kl,k1,k2⟩:=BK0.dict
  obtain⟨dx,hx⟩:=BK0.desk.self
  have hl:head.length≤5:=by
   obtain⟨k,rfl | rfl⟩:=hh
   ·exact zfz k
   ·exact zeh k
  refine⟨_,rfl,_,rfl,e,_,rfl,DGet.k (k:=Sum.inr nm) he,?_⟩
  have fin:∀H',Same H0 H'→Q (.bl true) H':=fun H' s'=>q fr H' (BK0.mono s').more (K9.of (s0.trans s'))
  cases ef:fr nm with
  | none=>
   rw [k1 nm ef]
   refine⟨_,rfl,iteT ?_⟩
   have says:zce (Q9 K zu zy zg zf zb za NH SN CH) [.ref x,.str (((head++" ")++nm)++" 1")] H0 (fun _ _=>False) (fun C H'=>Same H0 H'∧C=.ref zf):=by
    rw [zjr]
    intro Q' E' qa qr
    obtain⟨k,rfl | rfl⟩:=hh
    ·exact zaa BK0.desk g (by decide) (by decide +kernel) (fun _ H' s'=>qr _ _ ⟨s',rfl⟩) (fun t b l z=>by rw [ef] at z;cases z)
    ·exact VR BK0.desk g (by decide) (fun y hy=>by rw [List.mem_singleton.mp hy];decide) (List.pairwise_singleton ..) (fun _ H' s'=>qr _ _ ⟨s',rfl⟩) (fun t b l z=>by rw [ef] at z;cases z)
   refine⟨_,rfl,_,rfl,_,_,rfl,rfl,by rw [bl1,sizeLine_eq];omega,_,rfl,_,_,rfl,rfl,by rw [xT,bl1,sizeLine_eq];omega,_,_,rfl,rfl,by rw [xT,xT,bl1,bl2,sizeLine_eq];omega,x,dx,fr1 d,_,_,_,rfl,hx,Zk (by decide +kernel),says,fun _ _ z=>z.elim,fun C H1 r=>?_⟩
   obtain⟨s1,rfl⟩:=r
   refine⟨_,"NoName",rfl,.inl ⟨rfl,rfl⟩,fun pt H2 s2 h2=>⟨(by show 2≤sizeLine;decide),fun pu hpu=>⟨pt,pu,_,_,rfl,rfl,(Same.new hpu) _ _ h2,upd_same,Qo,zbE,fin _ ((s1.trans s2).put hpu)⟩⟩⟩
  | some zz=>
   obtain⟨t,b,l⟩:=zz
   obtain⟨p,hv,hp⟩:=k2 nm t b l ef
   have fo:=BK0.ok nm t b l ef
   have dg:=DGet.k (k:=Sum.inr nm) he
   rw [hv] at dg ⊢
   refine⟨_,rfl,iteF ⟨_,rfl,_,rfl,e,V.ref p,rfl,dg,?_⟩⟩
   obtain⟨k,hk⟩:=hh
   rcases hk with rfl | rfl
   ·refine(fun G=>⟨_,rfl,rfl,_,rfl,ifD (fun z=>G) (fun z=>⟨_,rfl,rfl,_,rfl,ifD (fun z2=>G) (fun z2=>?_)⟩)⟩) ?_
    rotate_left
    ·exfalso
     cases k
     ·exact z rfl
     ·exact z2 rfl
    obtain⟨c,c0,c1,cw,ck⟩:=zab (head:=wW k) fo.ok
    refine⟨_,rfl,_,rfl,_,rfl,_,p,t,b,l,c,rfl,hp,fo.ok,cw,ck,cell,c,rfl,c0,c1,fun m H1 s1 m0 m1=>?_⟩
    have hD1:=BK0.desk.mono s1
    have N:=zec m0 m1
    have nl:=N.le
    have says:zce (Q9 K zu zy zg zf zb za NH SN CH) [.ref x,.str ((((wW k++" ")++nm)++" ")++txt m)] H1 (fun v H'=>Same H1 H'∧m<cntK k t b l∧∃bs,v=.str (xR (zef k l bs))∧jn bs∧bs.length=(if k then b-1 else b).toNat∧xZ bs=m) (fun C H'=>Same H1 H'∧C=.ref zb∧¬m<cntK k t b l):=by
     rw [zcI]
     intro Q' E' qa qr
     refine zaa hD1 g m0 m1 (fun z=>by rw [ef] at z;cases z) (fun t' b' l' z=>?_)
     rw [ef] at z
     cases z
     exact⟨fun hm bs H' s' B bl nb _=>qa _ _ ⟨s',hm,bs,rfl,B,bl,nb⟩,fun hm H' s'=>qr _ _ ⟨s',rfl,hm⟩⟩
    refine⟨_,rfl,_,rfl,_,_,rfl,rfl,by rw [bl1,sizeLine_eq];omega,_,rfl,_,_,rfl,rfl,by rw [xT,bl1,sizeLine_eq];omega,_,_,rfl,rfl,by rw [xT,xT,bl1,sizeLine_eq];omega,_,rfl,m,rfl,lgB m0 (Int.lt_of_lt_of_le m1 (by decide +kernel)),_,_,rfl,rfl,(by rw [xT,xT,xT,bl1,sizeLine_eq];show _+(txt m).length≤_;omega),x,dx,fr1 d,_,_,_,rfl,s1 _ _ hx,Zk (by decide +kernel),says,fun v H2 a2=>?_,fun C H2 r2=>?_⟩
    ·obtain⟨s2,hm,bs,ev,B,bl,nb⟩:=a2
     refine⟨_,ev,fun pt H3 s3 h3=>⟨_,rfl,_,rfl,_,rfl,wW k,.int m,p,_,_,rfl,J2 (k:=k) (s3 _ _ (s2 _ _ (s1 _ _ hp))) fo.ok m0 m1,fun v' H4 aw=>?_,fun C H4 r=>absurd hm r.2.2⟩⟩
     obtain⟨s4,_,a,bs',rfl,ha,B',bl',nb'⟩:=aw
     obtain rfl:=zdI B B' (bl.trans bl'.symm) (nb.trans nb'.symm)
     have RK:=row_of fo.ok m0 hm B bl nb
     generalize zef k l bs=rs at RK ha h3
     have yb:∀y∈rs,0≤y∧y<10 ^ 500:=fun y hy=>⟨(RK.bd y hy).1,Int.lt_trans (RK.bd y hy).2 (Int.lt_trans fo.t1 (by decide +kernel))⟩
     refine .inr ⟨?_,a,rs,rfl,ha,by have h1:=RK.len;have h2:=fo.b24;omega,yb,fun pu H5 s5 h5=>?_⟩
     ·cases k
      ·exact .inl rfl
      ·exact .inr rfl
     ·exact⟨pt,pu,_,_,rfl,rfl,s5 _ _ (s4 _ _ h3),h5,Vr,zci fun y hy=>(yb y hy).1,fin _ ((((s1.trans s2).trans s3).trans s4).trans s5)⟩
    ·obtain⟨s2,eC,hm⟩:=r2
     refine⟨_,"TooGreat",eC,.inr (.inl ⟨rfl,rfl⟩),fun pt H3 s3 h3=>⟨_,rfl,_,rfl,_,rfl,wW k,.int m,p,_,_,rfl,J2 (k:=k) (s3 _ _ (s2 _ _ (s1 _ _ hp))) fo.ok m0 m1,fun v' H4 aw=>absurd aw.2.1 hm,fun C' H4 r=>?_⟩⟩
     obtain⟨rfl,eC',_⟩:=r
     exact⟨_,"TooGreat",eC',.inr (.inl ⟨rfl,rfl⟩),fun pu H5 s5 h5=>⟨pt,pu,_,_,rfl,rfl,s5 _ _ h3,h5,Qo,WT,fin _ (((s1.trans s2).trans s3).trans s5)⟩⟩
   ·have n1:¬(V.str (wR k)=V.str "write"):=by
     cases k
     ·exact ze4
     ·exact ze5
    have n2:¬(V.str (wR k)=V.str "key"):=by
     cases k
     ·exact ze6
     ·exact ze7
    refine⟨_,rfl,rfl,_,rfl,ifF n1 ⟨_,rfl,rfl,_,rfl,ifF n2 ?_⟩⟩
    refine⟨_,rfl,_,rfl,_,rfl,cell,k,p,t,b,l,rfl,hp,fo,fun a ms H1 s1 ha ml mb pw=>?_⟩
    have mb5:∀y∈ms,0≤y∧y<10 ^ 500:=fun y hy=>⟨(mb y hy).1,Int.lt_of_lt_of_le (mb y hy).2 zdb⟩
    refine⟨rfl,_,rfl,_,rfl,(by show 2≤sizeLine;decide),fun pl hpl=>?_⟩
    have s2:Same H1 (upd H1 pl (.lst [V.str (wR k),V.str nm])):=Same.new hpl
    have h2:(upd H1 pl (.lst [V.str (wR k),V.str nm])) pl=some (.lst [V.str (wR k),V.str nm]):=upd_same
    generalize upd H1 pl (.lst [V.str (wR k),V.str nm])=H2 at s2 h2 ⊢
    have ha2:=s2 _ _ ha
    refine⟨_,rfl,a,rfl,⟨_,SqL.of ha2⟩,fun ac hac=>wO (K:=K) (a:=a) (xs:=ms.map V.int) (fun i=>V.str (txt (ms.getD i 0))) (SqL.of ha2) hac (by rw [List.length_map,sizeLine_eq];omega) (fun i v H6 R hx s6 hR=>?_) ?_⟩
    ·rw [List.getElem?_map] at hx
     obtain⟨y,hy,rfl⟩:=Option.map_eq_some_iff.mp hx
     have yb:=mb5 y (List.mem_of_getElem? hy)
     simp only [List.getD_eq_getElem?_getD,hy,Option.getD_some] at hR
     exact⟨rfl,_,rfl,y,rfl,lgB yb.1 (Int.lt_of_lt_of_le yb.2 p54),hR⟩
    rw [Jo ms]
    have s3:Same H2 (upd H2 ac (.lst ((ms.map txt).map V.str))):=Same.new hac
    have h3:(upd H2 ac (.lst ((ms.map txt).map V.str))) ac=some (.lst ((ms.map txt).map V.str)):=upd_same
    generalize upd H2 ac (.lst ((ms.map txt).map V.str))=H3 at s3 h3 ⊢
    have sl:=Kg mb5
    refine⟨pl,ac,_,_,rfl,rfl,s3 _ _ h2,h3,by rw [List.length_map,List.length_map,sizeLine_eq];show 2+ms.length≤_;omega,fun pj hpj=>⟨" ",pj,wR k::nm::ms.map txt,rfl,rfl,SqL.of upd_same,?_,?_⟩⟩
    ·have:=zeh k
     rw [bl1]
     simp only [List.map_cons,List.sum_cons,List.length_cons,List.length_map]
     omega
    have s4:=((s1.trans s2).trans s3).put hpj (o:=.lst ([V.str (wR k),V.str nm]++(ms.map txt).map V.str))
    have ha4:(upd H3 pj (.lst ([V.str (wR k),V.str nm]++(ms.map txt).map V.str))) a=some (.lst (ms.map V.int)):=((s2.trans s3).put hpj) _ _ ha
    generalize upd H3 pj (.lst ([V.str (wR k),V.str nm]++(ms.map txt).map V.str))=H4 at s4 ha4 ⊢
    have hp4:=s4 _ _ hp
    have says:zce (Q9 K zu zy zg zf zb za NH SN CH) [.ref x,.str (Txt.join " " (wR k::nm::ms.map txt))] H4 (fun v H'=>Same H4 H'∧zbF k t b l ms∧v=.str (txt (zeT k l ms))) (fun C H'=>Same H4 H'∧C=.ref za∧¬zbF k t b l ms):=by
     intro Q' E' qa qr
     refine VR (BK0.desk.mono s4) g ml mb pw (fun z=>by rw [ef] at z;cases z) (fun t' b' l' z=>?_)
     rw [ef] at z
     cases z
     refine⟨fun z=>?_,fun z=>?_⟩
     ·subst z
      exact⟨fun gg H' s'=>qa _ _ ⟨s',gg,rfl⟩,fun gg H' s'=>qr _ _ ⟨s',rfl,gg⟩⟩
     ·subst z
      exact⟨fun gg H' s'=>qa _ _ ⟨s',gg,rfl⟩,fun gg H' s'=>qr _ _ ⟨s',rfl,gg⟩⟩
    refine⟨_,rfl,_,rfl,x,dx,fr1 d,_,_,_,rfl,s4 _ _ hx,Zk (by decide +kernel),says,fun v H5 a5=>?_,fun C H5 r5=>?_⟩
    ·obtain⟨s5,gg,ev⟩:=a5
     refine⟨_,ev,fun pt H6 s6 h6=>⟨_,rfl,_,rfl,_,rfl,wR k,.ref a,p,_,_,rfl,zac (k:=k) (s6 _ _ (s5 _ _ hp4)) fo.ok (s6 _ _ (s5 _ _ ha4)) ml mb,fun v' H7 a7=>?_,fun C H7 r=>absurd gg r.2.2⟩⟩
     obtain⟨s7,_,ev'⟩:=a7
     have vb:=zfx fo.ok gg
     refine .inl ⟨?_,_,ev',vb.1,vb.2,fun pu H8 s8 h8=>?_⟩
     ·cases k
      ·exact .inl rfl
      ·exact .inr rfl
     ·exact⟨pt,pu,_,_,rfl,rfl,s8 _ _ (s7 _ _ h6),h8,Vr,K7 vb.1,fin _ ((((s4.trans s5).trans s6).trans s7).trans s8)⟩
    ·obtain⟨s5,eC,gg⟩:=r5
     refine⟨_,"NoReading",eC,.inr (.inr ⟨rfl,rfl⟩),fun pt H6 s6 h6=>⟨_,rfl,_,rfl,_,rfl,wR k,.ref a,p,_,_,rfl,zac (k:=k) (s6 _ _ (s5 _ _ hp4)) fo.ok (s6 _ _ (s5 _ _ ha4)) ml mb,fun v' H7 a7=>absurd a7.2.1 gg,fun C' H7 r=>?_⟩⟩
     obtain⟨s7,eC',_⟩:=r
     exact⟨_,"NoReading",eC',.inr (.inr ⟨rfl,rfl⟩),fun pu H8 s8 h8=>⟨pt,pu,_,_,rfl,rfl,s8 _ _ (s7 _ _ h6),h8,Qo,K8,fin _ ((((s4.trans s5).trans s6).trans s7).trans s8)⟩⟩
end
theorem zbG {H H0:Hp}{x dx:Addr}{o1 o2:HO} (hx:H x=none) (hdx:H dx=none) (sx:xO x (upd (upd H dx o1) x o2) H0):Same H H0:=fun c o hc=>by
 have n1:c≠x:=fun e=>by rw [e,hx] at hc;cases hc
 have n2:c≠dx:=fun e=>by rw [e,hdx] at hc;cases hc
 exact sx c o (by rw [upd_ne n1,upd_ne n2];exact hc) n1
structure Jx (CD CF pd pf pn x1 d1 e1 x2 d2 e2:Addr) (na nb nc:Str) (n:Nat) (H:Hp):Prop where
 ds:H pd=some (.lst [.ref x1,.ref x2])
 fs:H pf=some (.lst [.ref e1,.ref e2])
 ns:H pn=some (.lst [.str na,.str nb,.str nc])
 B1:∃fr,Qp CD CF x1 d1 e1 n fr H
 B2:∃fr,Qp CD CF x2 d2 e2 n fr H
 a1:d1≠d2
 a2:d1≠e2
 a3:e1≠d2
 a4:e1≠e2
section
variable {CD CF pd pf pn x1 d1 e1 x2 d2 e2:Addr}{na nb nc:Str}{n:Nat} {H H':Hp}
theorem Jx.mono (s:Same H H') (h:Jx CD CF pd pf pn x1 d1 e1 x2 d2 e2 na nb nc n H):Jx CD CF pd pf pn x1 d1 e1 x2 d2 e2 na nb nc n H':=
 ⟨s _ _ h.ds,s _ _ h.fs,s _ _ h.ns,h.B1.imp fun _ b=>b.mono s,h.B2.imp fun _ b=>b.mono s,h.a1,h.a2,h.a3,h.a4⟩
theorem Wa {x d e x' d' e':Addr}{m:Nat} {fr fr':Str→Option (Int×Int×Int)} (B:Qp CD CF x d e n fr H) (B':Qp CD CF x' d' e' m fr' H) (q1:d'≠d) (q2:d'≠e) (q3:e'≠d) (q4:e'≠e) (s:K9 d e H H'):Qp CD CF x' d' e' m fr' H':=by
 obtain⟨kd,hd,_⟩:=B.desk.dict
 obtain⟨ke,he,_⟩:=B.dict
 refine B'.keepX fun a o h z=>?_
 rcases z with z | z | z
 ·exact s a o h (fun y=>by rw [y,hd] at h;cases h;exact z _ rfl) (fun y=>by rw [y,he] at h;cases h;exact z _ rfl)
 ·exact s a o h (fun y=>q1 (z.symm.trans y)) (fun y=>q2 (z.symm.trans y))
 ·exact s a o h (fun y=>q3 (z.symm.trans y)) (fun y=>q4 (z.symm.trans y))
theorem yM {x d e a:Addr}{xs:List V}{fr:Str→Option (Int×Int×Int)} (B:Qp CD CF x d e n fr H) (s:K9 d e H H') (h:H a=some (.lst xs)):H' a=some (.lst xs):=by
 obtain⟨kd,hd,_⟩:=B.desk.dict
 obtain⟨ke,he,_⟩:=B.dict
 exact s a _ h (fun y=>by rw [y,hd] at h;cases h) (fun y=>by rw [y,he] at h;cases h)
theorem Jx.step (W:Jx CD CF pd pf pn x1 d1 e1 x2 d2 e2 na nb nc n H){i:Int} (hi:i=0∨i=1):∃(x d e:Addr) (fr:Str→Option (Int×Int×Int)),atI [V.ref x1,V.ref x2] i=some (.ref x)∧atI [V.ref e1,V.ref e2] i=some (.ref e)∧Qp CD CF x d e n fr H ∧
  ∀fr' H',Qp CD CF x d e (n+1) fr' H'→K9 d e H H'→Jx CD CF pd pf pn x1 d1 e1 x2 d2 e2 na nb nc (n+1) H'∧∀a xs,H a=some (.lst xs)→H' a=some (.lst xs):=by
 obtain⟨f1,B1⟩:=W.B1
 obtain⟨f2,B2⟩:=W.B2
 rcases hi with rfl | rfl
 ·refine⟨x1,d1,e1,f1,rfl,rfl,B1,fun fr' H' b s=>⟨⟨yM B1 s W.ds,yM B1 s W.fs,yM B1 s W.ns,⟨fr',b⟩,⟨f2,(Wa B1 B2 W.a1.symm W.a3.symm W.a2.symm W.a4.symm s).more⟩,W.a1,W.a2,W.a3,W.a4⟩,fun a xs h=>yM B1 s h⟩⟩
 ·refine⟨x2,d2,e2,f2,rfl,rfl,B2,fun fr' H' b s=>⟨⟨yM B2 s W.ds,yM B2 s W.fs,yM B2 s W.ns,⟨f1,(Wa B2 B1 W.a1 W.a2 W.a3 W.a4 s).more⟩,⟨fr',b⟩,W.a1,W.a2,W.a3,W.a4⟩,fun a xs h=>yM B2 s h⟩⟩
theorem zki {na nb nc:Str}{i:Int} (g1:qD na) (g2:qD nb) (g3:qD nc) (h:i=0∨i=1∨i=2):∃nm,atI [V.str na,V.str nb,V.str nc] i=some (V.str nm)∧qD nm:=by
 rcases h with rfl | rfl | rfl
 ·exact⟨na,rfl,g1⟩
 ·exact⟨nb,rfl,g2⟩
 ·exact⟨nc,rfl,g3⟩
end
section
variable {P:Program}{w:World}{K:PySem.W.Frag}{mg:Str→Option Value}{base:Heap}
theorem Ja:FnScope ["script","desks","frames","names","cell","at","name"] ["script"] (defScope Vf):=⟨rfl,rfl,rfl,by decide +kernel,rfl,by decide +kernel,by decide +kernel⟩
theorem ok_law (hP:P.given.tree=none){f:Addr}{fd:FuncData} (F:Fun K "law" "law" Vf f fd) (T:Txt K mg) (Wb:Def K mg "choose" Z9 ["n","k"]) (zbH:Def K mg "top_of" Ve ["k","number"]) (J3:Def K mg "top_from" yE ["start","k","number"]) (Jb:Def K mg "above_top" wg ["k","number"]) (Qt:Def K mg "rounded_up" vB ["number","divisor"]) (Wc:Def K mg "box_of" Qa ["row","late"]) (J4:Def K mg "bell_row" yF ["box","late"]) (Jc:Def K mg "heard_box" wj ["reading","late"]) (Jd:Def K mg "box_count" wk ["turns","bells","late"]) (yP:Def K mg "greatest_part" jW ["turns","bells","late"]) (Qg:Def K mg "shortest_frame" wu ["bells","late","many"]) (X5:Def K mg "best_bells" ZK ["turns","late","most"]) (Wd:Def K mg "cheapest" QX ["many","late","turn_cost","bell_cost","most"]) (Qu:Def K mg "box_number" vC ["box"]) (wZ:Def K mg "box_of_message" jP ["message","bells"]) (Vs:Def K mg "written" Zd ["message","turns","bells","late"]) (zck:Def K mg "read" XH ["reading","turns","bells","late"]) (ZW:Def K mg "keyed_count" xP ["turns","bells","late"]) (zaT:Def K mg "keyed" QZ ["message","turns","bells","late"]) (Vt:Def K mg "unkeyed" Ze ["reading","turns","bells","late"]) (QK:Def K mg "refuse_silent" wU ["turns","bells"]) (zej:Def K mg "rung" zas ["messages","turns","bells","late"]) (Jy:Def K mg "by_messages" Zf ["reading","turns","late"]) (Jz:Def K mg "note_number" Zg ["note"]) (zae:Def K mg "note_of" JQ ["number"]) (zcJ:Def K mg "parts" Ky ["number","base"]) (ZG:Def K mg "number_of_parts" vZ ["figures","base"]) (zcl:Def K mg "sent" zat ["note","turns","bells","late"]) (We:Def K mg "received" Q0 ["reading","turns","bells","late"]) (kY:Def K mg "messages_ahead_of_end" jR ["reading","turns","bells","late"]) (Qv:Def K mg "is_made_of" vD ["word","signs","most"]) (Vu:Def K mg "name_in" Zh ["word"]) (Qw:Def K mg "figures_in" vG ["word","most"]) (Je:Def K mg "number_in" ww ["word"]) (Qx:Def K mg "message_in" vH ["word"]) (Xa:Def K mg "bells_in" yG ["word"]) (Xb:Def K mg "turns_in" yH ["words"]) (ZX:Def K mg "number_told" xQ ["number"]) (Qy:Def K mg "turns_told" vI ["turns"]) (Xc:Def K mg "count_of" yI ["frame"]) (Qz:Def K mg "note_heard" ZL ["reading","frame"]) (ZZ:Def K mg "choice_told" Zi ["words"]) (QL:Def K mg "cheapest_told" wV ["words"]) (Zq:Def K mg "_law_cell_at" xF ["script","k"]) (QB:Def K mg "_law_drawn" vJ ["cell","k"]) (QC:Def K mg "_law_names" vK ["cell"]) (QD:Def K mg "_law_frame" vL ["cell"]) (Jf:Def K mg "_law_kind" wy ["e"]) (Jg:Def K mg "_law_told" wz ["desk","order"]) (QF:Def K mg "_law_stage" vM ["head","rest","frame"]) (QG:Def K mg "_law_words" vN ["turns"]) (Xd:Def K mg "_law_due" yJ ["head","rest","frame"]) (QH:Def K mg "_law_count" vO ["head","frame"]) (Zr:Def K mg "_law_message" xG ["cell","count"]) (Zt:Def K mg "_law_reading" xH ["cell","head","frame"]) (QJ:Def K mg "_law_order" vP ["desk","frames","name","cell"]){zq:Addr} (jd:mg "BellError"=some (.ref zq)){qm:Addr} (vg:mg "NoRow"=some (.ref qm)){za:Addr} (zT:mg "NoReading"=some (.ref za)){zb:Addr} (qp:mg "TooGreat"=some (.ref zb)){zR:Addr} (jK:mg "TooMany"=some (.ref zR)){zQ:Addr} (jZ:mg "NoNote"=some (.ref zQ)){zg:Addr} (zZ:mg "NoOrder"=some (.ref zg)){zf:Addr} (jF:mg "NoName"=some (.ref zf)){zy:Addr} (xj:mg "Frame"=some (.ref zy)){zu:Addr} (wF:mg "Desk"=some (.ref zu)){jH:Tok} (jo:mg "LETTERS"=some (.str "abcdefghijklmnopqrstuvwxyz" jH)){qF:Tok} (qi:mg "MOST_LETTERS"=some (.int 8 qF)){jJ:Tok} (jq:mg "FIGURES"=some (.str "0123456789" jJ)){qG:Tok} (qj:mg "MOST_FIGURES"=some (.int 60 qG)){zr:Tok} (zp:mg "MOST_FIGURES_OF_MESSAGE"=some (.int 3000 zr)){qU:Tok} (qK:mg "MOST_BELLS"=some (.int 60 qU)) (je:PySem.W.excIn K zq bmV "ValueError.__new__"=true) (vV:PySem.W.excIn K qm bmV "ValueError.__new__"=true) (zK:PySem.W.excIn K za bmV "ValueError.__new__"=true) (qg:PySem.W.excIn K zb bmV "ValueError.__new__"=true) (z7:PySem.W.excIn K zg bmV "ValueError.__new__"=true) (jC:PySem.W.excIn K zf bmV "ValueError.__new__"=true) (xJ:PySem.W.excIn K zQ bmV "ValueError.__new__"=true) (jf:PySem.W.mroIn K zf (.ref zq)=some true) (jr:PySem.W.findIn K (.ref zf) "__getattribute__"=some (some (.builtin "BaseException.__getattribute__"))) (jt:PySem.W.findIn K (.ref zf) "__getattr__"=some none) (ju:PySem.W.findIn K (.ref zf) "__class__"=some (some (.builtin "object.__class__"))) (jw:PySem.W.mroIn K zf (.type "object")=some true) (jx:PySem.W.mroIn K zf (.type "BaseException")=some true) (qt:PySem.W.kitOne K (.ref zf) (.ref zf)=some true) (zU:PySem.W.kitOne K (.ref zf) (.ref zb)=some false) (zL:PySem.W.kitOne K (.ref zf) (.ref za)=some false) (qx:PySem.W.kitOne K (.ref zf) (.ref zQ)=some false) (z8:PySem.W.kitOne K (.ref zf) (.ref zg)=some false) (qH:PySem.W.kitOne K (.ref zf) (.ref qm)=some false) (z9:PySem.W.kitOne K (.ref zf) (.ref zR)=some false) (qI:PySem.W.kitOne K (.ref zf) (.type "ValueError")=some true) (qJ:PySem.W.mroIn K zb (.ref zq)=some true) (qW:PySem.W.findIn K (.ref zb) "__getattribute__"=some (some (.builtin "BaseException.__getattribute__"))) (qX:PySem.W.findIn K (.ref zb) "__getattr__"=some none) (qY:PySem.W.findIn K (.ref zb) "__class__"=some (some (.builtin "object.__class__"))) (qZ:PySem.W.mroIn K zb (.type "object")=some true) (jb:PySem.W.mroIn K zb (.type "BaseException")=some true) (zV:PySem.W.kitOne K (.ref zb) (.ref zf)=some false) (zF:PySem.W.kitOne K (.ref zb) (.ref zb)=some true) (zB:PySem.W.kitOne K (.ref zb) (.ref za)=some false) (zW:PySem.W.kitOne K (.ref zb) (.ref zQ)=some false) (zM:PySem.W.kitOne K (.ref zb) (.ref zg)=some false) (qd:PySem.W.kitOne K (.ref zb) (.ref qm)=some false) (zN:PySem.W.kitOne K (.ref zb) (.ref zR)=some false) (qe:PySem.W.kitOne K (.ref zb) (.type "ValueError")=some true) (qy:PySem.W.mroIn K za (.ref zq)=some true) (qM:PySem.W.findIn K (.ref za) "__getattribute__"=some (some (.builtin "BaseException.__getattribute__"))) (qN:PySem.W.findIn K (.ref za) "__getattr__"=some none) (qO:PySem.W.findIn K (.ref za) "__class__"=some (some (.builtin "object.__class__"))) (qP:PySem.W.mroIn K za (.type "object")=some true) (qQ:PySem.W.mroIn K za (.type "BaseException")=some true) (zO:PySem.W.kitOne K (.ref za) (.ref zf)=some false) (zE:PySem.W.kitOne K (.ref za) (.ref zb)=some false) (zx:PySem.W.kitOne K (.ref za) (.ref za)=some true) (zP:PySem.W.kitOne K (.ref za) (.ref zQ)=some false) (zG:PySem.W.kitOne K (.ref za) (.ref zg)=some false) (zX:PySem.W.kitOne K (.ref za) (.ref qm)=some false) (zH:PySem.W.kitOne K (.ref za) (.ref zR)=some false) (zY:PySem.W.kitOne K (.ref za) (.type "ValueError")=some true) (JZ:PySem.W.specialIn K (.builtin "object.__class__") "__get__"=some (some (.builtin "getset_descriptor.__get__"))) (J1:PySem.W.takesIn K (.builtin "object.__class__")=some true) (O:Own K zy zu) (ND:NoDig K):FnOk P w K mg base CX0 50 f fd ["script"] (spLaw K):=by
 have hT:DkT K zu zy:=⟨O.c_Desk,O.c_Frame,O.n_Frame_turns,O.n_Frame_bells,O.n_Frame_late,O.n_Desk_frames⟩
 have jX:Fn P w K mg base 1 "choose" ["n","k"] Z7:=zc1 Wb T
 have yN:Fn P w K mg base 1 "greatest_part" ["turns","bells","late"] zaB:=Vi yP
 have qT:Fn P w K mg base 2 "box_count" ["turns","bells","late"] Qj:=zaD Jd T yN jX
 have zaf:=Wt (w:=w) (base:=base) Qt hP
 have Q4:=zay Jb T zaf
 have JS:=zbd J3 jX zaf hP
 have wC:=JR wZ T qp qg Q4 JS jX
 have xg:=zbj Vs T qp qg qT wC (zbg J4 T)
 have Ql:=Wy Jc T zT zK (zc4 (P:=P) (w:=w) (base:=base) Wc T)
 have yZ:=zdP zck T zT zK qT Ql (Ww Qu T jX)
 have xK:Fn P w K mg base 3 "keyed_count" ["turns","bells","late"] XM:=KH ZW T qT
 have Qf:=zc7 zaT T qp qg xK xg
 have wY:=zbl Vt T zT zK yZ
 have vf:Fn P w K mg base 1 "is_made_of" ["word","signs","most"] zaH:=zeD Qv T
 have jE:=zb8 Vu T zZ z7 jo qi vf
 have xM:=WF ND Qw T zZ z7 jq vf
 have jA:=zaJ Je T qj xM
 have ZQ:=WL Qx T zp xM
 have Q6:=zbo Xa T zZ z7 qK jA
 have Q7:=zbq Xb T zZ z7 jA
 have yd:Fn P w K mg base 1 "number_told" ["number"] Vm:=KN ND ZX T
 have xm:Fn P w K mg base 1 "turns_told" ["turns"] (yL K):=WN ND Qy T
 have JX:=zbu Xc hT qT
 have zaN:FnE P w K mg base 44 "sent" ["note","turns","bells","late"] (fun _ _ _ _=>False):=K6 zcl
 have ZR:FnE P w K mg base 44 "note_heard" ["reading","frame"] (fun _ _ _ _=>False):=K6 Qz
 have Zm:FnE P w K mg base 45 "choice_told" ["words"] (fun _ _ _ _=>False):=K6 ZZ
 obtain⟨f1,⟨fd1,F1,b1⟩,l1⟩:=O.d_Frame_init
 obtain⟨f2,⟨fd2,F2,b2⟩,l2⟩:=O.d_Desk_init
 obtain⟨f3,⟨fd3,F3,b3⟩,l3⟩:=O.d_Desk_told
 obtain⟨f4,⟨fd4,F4,b4⟩,l4⟩:=O.d_Desk_keep
 obtain⟨f5,⟨fd5,F5,b5⟩,l5⟩:=O.d_Desk_ring
 obtain⟨f6,⟨fd6,F6,b6⟩,l6⟩:=O.d_Desk_listen
 obtain⟨f7,⟨fd7,F7,b7⟩,l7⟩:=O.d_Desk_send_note
 obtain⟨f8,⟨fd8,F8,b8⟩,l8⟩:=O.d_Desk_kept
 have KY:MkX CX0 P w K mg base 1 zy ["self","turns","bells","late"] (KQ zy):=⟨f1,fd1,zc9 F1 hT,l1,b1⟩
 have zcK:MkX CX0 P w K mg base 1 zu ["self"] (zbs zu zy):=⟨f2,fd2,zda F2 hT,l2,b2⟩
 have Zc:MtE P w K mg base 1 zu "kept" ["self","name"] (KR zu zy zf):=⟨f8,fd8,zeF F8 hT jF jC,hT.cd,l8,b8⟩
 have zaO:MtE P w K mg base 45 zu "keep" ["self","words"] (zca zu zy zg):=⟨f4,fd4,(zeG ND F4 hT xj jE jA Q6 KY JX).mono (by decide),hT.cd,l4,b4⟩
 have zaP:MtE P w K mg base 45 zu "ring" ["self","words"] (zcb zu zy zg zf zb):=⟨f5,fd5,zeI F5 hT jE ZQ Zc xg Qf xm,hT.cd,l5,b5⟩
 have Vo:MtE P w K mg base 45 zu "listen" ["self","words"] (KZ zu zy zg zf za _):=⟨f6,fd6,zdc F6 hT jE Q7 Zc yZ wY yd ZR,hT.cd,l6,b6⟩
 have Qn:MtE P w K mg base 45 zu "send_note" ["self","words"] (zaM K zu zy zg zf _):=⟨f7,fd7,zbw F7 hT jE Zc zaN xm,hT.cd,l7,b7⟩
 have zaQ:MtE P w K mg base 46 zu "told" ["self","order"] (Q9 K zu zy zg zf zb za _ _ _):=⟨f3,fd3,zeJ F3 T hT zZ z7 zaO zaP Vo Qn Zm,hT.cd,l3,b3⟩
 have Jh:Fn P w K mg base 1 "_law_cell_at" ["script","k"] (zdE K):=zbY Zq T
 have zj:Fn P w K mg base 1 "_law_drawn" ["cell","k"] zbZ:=zjc QB
 have Qq:=zd3 QD T zj
 have zaU:=zd5 QC T zj
 have kJ:Fn P w K mg base 1 "_law_kind" ["e"] (zeK zf zb za):=zeL Jf T jd vg zT qp jK jZ zZ jF xj wF jo qi jq qj zp qK je vV zK qg z7 jC xJ jf jr jt ju jw jx qt zU zL qx z8 qH z9 qI qJ qW qX qY qZ jb zV zF zB zW zM qd zN qe qy qM qN qO qP qQ zO zE zx zP zG zX zH zY JZ J1
 have kW:=zdX Jg T jd vg zT qp jK jZ zZ jF xj wF jo qi jq qj zp qK je vV zK qg z7 jC xJ jf jr jt ju jw jx qt zU zL qx z8 qH z9 qI qJ qW qX qY qZ jb zV zF zB zW zM qd zN qe qy qM qN qO qP qQ zO zE zx zP zG zX zH zY JZ J1 O.c_Desk zaQ kJ
 have xN:=zdY QF T xg Qf yZ wY
 have vo:Fn P w K mg base 1 "_law_words" ["turns"] (Kh K):=zdZ ND QG T
 have Qs:=zfr ND Xd T jd vg zT qp jK jZ zZ jF xj wF jo qi jq qj zp qK je vV zK qg z7 jC xJ jf jr jt ju jw jx qt zU zL qx z8 qH z9 qI qJ qW qX qY qZ jb zV zF zB zW zM qd zN qe qy qM qN qO qP qQ zO zE zx zP zG zX zH zY JZ J1 xN kJ vo
 have xq:=zdd QH T qT xK
 have Zn:=zbz ND Zr T zj
 have Zo:=zcj Zt T zj xq xN
 have X6:=zei ND QJ T jd vg zT qp jK jZ zZ jF xj wF jo qi jq qj zp qK je vV zK qg z7 jC xJ jf jr jt ju jw jx qt zU zL qx z8 qH z9 qI qJ qW qX qY qZ jb zV zF zB zW zM qd zN qe qy qM qN qO qP qQ zO zE zx zP zG zX zH zY JZ J1 zj xq Qq vo Zn Zo Qs kW
 refine F.ok Ja (fun vs H Q E h=>?_) (fun cdv A outer s H vs Q E hr h=>?_)
 ·obtain⟨a,ns,rfl,_⟩:=h
  rfl
 ·obtain⟨a,ns,rfl,hS,hlen,q⟩:=h
  have hu:=zel hr
  refine⟨_,(pss_cons (ps_set (i:=1) Ja.nd rfl (Or.inl rfl) (pe_lst (pa_cons (zdA zcK (hr.mono (by decide)) (by rfl) wF) (pa_cons (zdA zcK (hr.mono (by decide)) (by rfl) wF) pa_nil))))
   (pss_cons (ps_set (i:=2) Ja.nd rfl (Or.inl rfl) (pe_lst (pa_cons pe_dnewK (pa_cons pe_dnewK pa_nil))))
   (pss_cons (ps_set (i:=3) Ja.nd rfl (Or.inl rfl) (zA zaU (hr.mono (by decide)) (by rfl) (pa_cons (zA Jh (hr.mono (by decide)) (by rfl) (pa_cons (pv 0) (pa_cons pe_int pa_nil))) pa_nil)))
   (pss_cons (ps_for PassesOwn.never rfl (pi_list (pe_op op_cat (pe_lst (pa_cons (zA Jh (hr.mono (by decide)) (by rfl) (pa_cons (pv 0) (pa_cons pe_int pa_nil))) pa_nil)) (pe_slice sl_list (pv 0) (po_some pe_int) (po_some pe_int)))) (pg_name (i:=4) Ja.nd rfl (Or.inl rfl))
    (pss_cons (ps_set (i:=5) Ja.nd rfl (Or.inl rfl) (pe_op ql (zA zj (hr.mono (by decide)) (by rfl) (pa_cons (pv 4) (pa_cons pe_int pa_nil))) pe_int))
    (pss_one (ps_if (pt_not (pt_val (zA X6 (hr.mono (by decide)) (by rfl) (pa_cons (pe_ix ix_list (pv 1) (pv 5) (fun _ _=>rfl)) (pa_cons (pe_ix ix_list (pv 2) (pv 5) (fun _ _=>rfl)) (pa_cons (pe_ix ix_list (pv 3) (pe_op ql (zA zj (hr.mono (by decide)) (by rfl) (pa_cons (pv 4) (pa_cons pe_int pa_nil))) pe_int) (fun _ _=>rfl)) (pa_cons (pv 4) pa_nil)))))))
     (pss_one (ps_ret pe_bl))
     pss_nil))))
   (pss_cons (ps_for PassesOwn.never rfl (pi_range1 (by rfl) T.z_range (pa_cons pe_int pa_nil)) (pg_name (i:=5) Ja.nd rfl (Or.inl rfl))
    (pss_one (ps_for PassesOwn.never rfl (pi_list (pv 3)) (pg_name (i:=6) Ja.nd rfl (Or.inl rfl))
     (pss_one (ps_if (pt_not (pt_val (zA X6 (hr.mono (by decide)) (by rfl) (pa_cons (pe_ix ix_list (pv 1) (pv 5) (fun _ _=>rfl)) (pa_cons (pe_ix ix_list (pv 2) (pv 5) (fun _ _=>rfl)) (pa_cons (pv 6) (pa_cons pe_int pa_nil)))))))
      (pss_one (ps_ret pe_bl))
      pss_nil)))))
   (pss_one (ps_ret pe_bl))))))),?_⟩
  refine fun x1 y1 hx1 hy1 ne1=>⟨x1,y1,rfl,upd_same,fun d1 H2 sx1 hd1 hD1=>⟨rfl,fun x2 y2 hx2 hy2 ne2=>⟨x2,y2,rfl,upd_same,fun d2 H3 sx2 hd2 hD2=>⟨rfl,(by show 2≤sizeLine;decide),fun pd hpd=>?_⟩⟩⟩⟩
  have s12:=zbG hx1 hy1 sx1
  have s23:=zbG hx2 hy2 sx2
  obtain⟨kv0,hk0,_⟩:=hD1.dict
  have n12:d1≠d2:=fun e=>by
   have n1:d1≠x2:=fun e=>by rw [e,hx2] at hk0;cases hk0
   have n2:d1≠y2:=fun e=>by rw [e,hy2] at hk0;cases hk0
   rw [← e,upd_ne n1,upd_ne n2,hk0] at hd2
   cases hd2
  have hD1:=hD1.mono s23
  have s34:Same H3 (upd H3 pd (.lst [V.ref x1,V.ref x2])):=Same.new hpd
  have hP4:(upd H3 pd (.lst [V.ref x1,V.ref x2])) pd=some (.lst [V.ref x1,V.ref x2]):=upd_same
  generalize upd H3 pd (.lst [V.ref x1,V.ref x2])=H4 at s34 hP4 ⊢
  have hD1:=hD1.mono s34
  have hD2:=hD2.mono s34
  have s4:=(s12.trans s23).trans s34
  refine fun e1 he1=>?_
  have s45:Same H4 (upd H4 e1 (.dK [])):=Same.new he1
  have hE1:(upd H4 e1 (.dK [])) e1=some (.dK []):=upd_same
  generalize upd H4 e1 (.dK [])=H5 at s45 hE1 ⊢
  refine fun e2 he2=>?_
  have s56:Same H5 (upd H5 e2 (.dK [])):=Same.new he2
  have hE2:(upd H5 e2 (.dK [])) e2=some (.dK []):=upd_same
  generalize upd H5 e2 (.dK [])=H6 at s56 hE2 ⊢
  refine⟨(by show 2≤sizeLine;decide),fun pf hpf=>?_⟩
  have s67:Same H6 (upd H6 pf (.lst [V.ref e1,V.ref e2])):=Same.new hpf
  have hF7:(upd H6 pf (.lst [V.ref e1,V.ref e2])) pf=some (.lst [V.ref e1,V.ref e2]):=upd_same
  generalize upd H6 pf (.lst [V.ref e1,V.ref e2])=H7 at s67 hF7 ⊢
  have s7:=((s4.trans s45).trans s56).trans s67
  obtain⟨kd1,hkd1,_⟩:=hD1.dict
  obtain⟨kd2,hkd2,_⟩:=hD2.dict
  have c1:d1≠e1:=fun z=>by rw [z,he1] at hkd1;cases hkd1
  have c2:d2≠e1:=fun z=>by rw [z,he1] at hkd2;cases hkd2
  have c3:d1≠e2:=fun z=>by rw [← z,s45 _ _ hkd1] at he2;cases he2
  have c4:d2≠e2:=fun z=>by rw [← z,s45 _ _ hkd2] at he2;cases he2
  have c5:e1≠e2:=fun z=>by rw [← z,hE1] at he2;cases he2
  have s47:=(s45.trans s56).trans s67
  refine⟨_,rfl,a,ns,0,rfl,s7.seq hS,by decide,_,rfl,fun pn na nb nc H8 s78 hN g1 g2 g3=>?_⟩
  have W8:Jx zu zy pd pf pn x1 d1 e1 x2 d2 e2 na nb nc 0 H8:=⟨s78 _ _ (s47 _ _ hP4),s78 _ _ hF7,hN,⟨_,(hD1.mono s47).mono s78,c1,⟨[],s78 _ _ (s67 _ _ (s56 _ _ hE1)),Nat.le_refl _,fun _ _=>rfl,fun _ _ _ _ z=>nomatch z⟩,fun _ _ _ _ z=>nomatch z⟩,⟨_,(hD2.mono s47).mono s78,c4,⟨[],s78 _ _ (s67 _ _ hE2),Nat.le_refl _,fun _ _=>rfl,fun _ _ _ _ z=>nomatch z⟩,fun _ _ _ _ z=>nomatch z⟩,n12,c3,Ne.symm c2,c5⟩
  have hS8:=(s7.trans s78).seq hS
  clear hD1 hD2 hk0 hkd1 hkd2 hE1 hE2 hN hF7 hP4
  refine⟨_,rfl,a,ns,0,rfl,hS8,by decide,(by show 1≤sizeLine;decide),fun pe hpe=>?_⟩
  have sA:Same H8 (upd H8 pe (.lst [V.int (cellOf ns 0)])):=Same.new hpe
  have hA:(upd H8 pe (.lst [V.int (cellOf ns 0)])) pe=some (.lst [V.int (cellOf ns 0)]):=upd_same
  generalize upd H8 pe (.lst [V.int (cellOf ns 0)])=HA at sA hA ⊢
  refine⟨_,rfl,_,rfl,_,rfl,_,_,rfl,sA.seq hS8,fun ps hps=>?_⟩
  rw [zax]
  have cl:=zdF ns (some 1) (some 21)
  generalize zc0 ns (some 1) (some 21)=cs at cl
  have sB:Same HA (upd HA ps (.lst (cs.map V.int))):=Same.new hps
  have hB:(upd HA ps (.lst (cs.map V.int))) ps=some (.lst (cs.map V.int)):=upd_same
  generalize upd HA ps (.lst (cs.map V.int))=HB at sB hB ⊢
  refine⟨pe,ps,_,_,rfl,rfl,sB _ _ hA,hB,(by rw [List.length_map,sizeLine_eq];show 1+cs.length≤_;omega),fun pa hpa=>?_⟩
  have ec:[V.int (cellOf ns 0)]++cs.map V.int=(cellOf ns 0::cs).map V.int:=rfl
  rw [ec]
  have cl2:(cellOf ns 0::cs).length≤200:=by rw [List.length_cons];omega
  generalize cellOf ns 0::cs=cs2 at cl2
  have sC:Same HB (upd HB pa (.lst (cs2.map V.int))):=Same.new hpa
  have hC:(upd HB pa (.lst (cs2.map V.int))) pa=some (.lst (cs2.map V.int)):=upd_same
  generalize upd HB pa (.lst (cs2.map V.int))=HC at sC hC ⊢
  have W9:=W8.mono ((sA.trans sB).trans sC)
  refine⟨pa,rfl,⟨_,SqL.of hC⟩,for_list (K:=K) (a:=pa) (xs:=cs2.map V.int) (fun i σ Hn=>∃(n:Nat) (v4 v5:Option V),σ=[some (.ref a),some (.ref pd),some (.ref pf),some (.ref pn),v4,v5,none]∧n≤i∧i≤200∧Jx zu zy pd pf pn x1 d1 e1 x2 d2 e2 na nb nc n Hn∧Hn pa=some (.lst (cs2.map V.int))) ⟨0,none,none,rfl,Nat.le_refl _,by decide,W9,hC⟩ (fun i σ Hn _ ⟨_,_,_,_,_,_,_,h⟩=>SqL.of h) ?_ ?_⟩
  ·rintro i y σ Hn hy ⟨n,v4,v5,rfl,ni,i2,W,hPa⟩
   have il:=(List.getElem?_eq_some_iff.mp hy).1
   rw [List.length_map] at il
   rw [List.getElem?_map] at hy
   obtain⟨c,hc,rfl⟩:=Option.map_eq_some_iff.mp hy
   refine⟨_,rfl,c,11,rfl,by decide,fun d11 z0 z1=>⟨_,_,rfl,rfl,(by decide),?_⟩⟩
   obtain⟨x,d,e,fr,ex,ee,BK,st⟩:=W.step (i:=d11 % 2) (by omega)
   refine⟨_,rfl,_,rfl,_,_,_,_,rfl,rfl,SqL.of W.ds,ex,_,rfl,_,rfl,_,_,_,_,rfl,rfl,SqL.of W.fs,ee,_,rfl,_,rfl,c,12,rfl,by decide,fun d12 w0 w1=>⟨_,_,rfl,rfl,(by decide),?_⟩⟩
   obtain⟨nm,en,gn⟩:=zki g1 g2 g3 (i:=d12 % 3) (by omega)
   refine⟨_,_,_,_,rfl,rfl,SqL.of W.ns,en,_,rfl,x,d,e,n,fr,nm,c,rfl,BK,by omega,gn,fun fr' H' b' s'=>?_⟩
   obtain⟨W',ls⟩:=st fr' H' b' s'
   exact⟨_,rfl,iteF ⟨n+1,_,_,rfl,by omega,by omega,W',ls _ _ hPa⟩⟩
  rintro σ Hn ⟨n,v4,v5,rfl,ni,i2,W,hPa⟩
  refine⟨2,rfl,by decide,by decide,for_range (n:=(2:Int).toNat) (fun i σ Hn=>∃(n:Nat) (v5 v6:Option V),σ=[some (.ref a),some (.ref pd),some (.ref pf),some (.ref pn),v4,v5,v6]∧n≤200+3*i∧Jx zu zy pd pf pn x1 d1 e1 x2 d2 e2 na nb nc n Hn) ⟨n,v5,none,rfl,by omega,W⟩ ?_ ?_⟩
  ·rintro i σ Hn hi ⟨n,v5,v6,rfl,ni,W⟩
   have hi2:i<2:=hi
   refine⟨_,rfl,pn,rfl,⟨_,SqL.of W.ns⟩,for_list (K:=K) (a:=pn) (xs:=[V.str na,V.str nb,V.str nc]) (fun j σ Hn=>∃(n:Nat) (v6:Option V),σ=[some (.ref a),some (.ref pd),some (.ref pf),some (.ref pn),v4,some (.int (0+(i:Int))),v6]∧n≤200+3*i+j∧j≤3∧Jx zu zy pd pf pn x1 d1 e1 x2 d2 e2 na nb nc n Hn) ⟨n,v6,rfl,by omega,by decide,W⟩ (fun j σ Hn _ ⟨_,_,_,_,_,w⟩=>SqL.of w.ns) ?_ ?_⟩
   ·rintro j y σ Hn hy ⟨n,v6,rfl,nj,j3,W⟩
    obtain⟨nm,rfl,gn⟩:∃nm,y=V.str nm∧qD nm:=by
     match j with
     | 0=>cases hy;exact⟨na,rfl,g1⟩
     | 1=>cases hy;exact⟨nb,rfl,g2⟩
     | 2=>cases hy;exact⟨nc,rfl,g3⟩
     | j+3=>simp at hy
    have jl:j<3:=(List.getElem?_eq_some_iff.mp hy).1
    obtain⟨x,d,e,fr,ex,ee,BK,st⟩:=W.step (i:=0+(i:Int)) (by omega)
    refine⟨_,rfl,_,rfl,_,_,_,_,rfl,rfl,SqL.of W.ds,ex,_,rfl,_,rfl,_,_,_,_,rfl,rfl,SqL.of W.fs,ee,_,rfl,x,d,e,n,fr,nm,5,rfl,BK,by omega,gn,fun fr' H' b' s'=>?_⟩
    obtain⟨W',ls⟩:=st fr' H' b' s'
    exact⟨_,rfl,iteF ⟨n+1,_,rfl,by omega,by omega,W'⟩⟩
   ·rintro σ Hn ⟨n,v6,rfl,nj,j3,W⟩
    exact⟨n,_,v6,rfl,by simp only [List.length_cons,List.length_nil] at nj;omega,W⟩
  ·rintro σ Hn ⟨n,v5,v6,rfl,ni,W⟩
   exact q _
end
theorem zeV {α:Type}{F:List α→Prop}{us:List α} (h:us.length=0) (k:F []):F us:=by
 cases us with
 | nil=>exact k
 | cons a r=>cases h
theorem zcL {α:Type}{F:List α→Prop}{us:List α} (h:us.length=1) (k:∀a,F [a]):F us:=by
 cases us with
 | nil=>cases h
 | cons a r=>exact zeV (F:=fun r=>F (a::r)) (Nat.succ.inj h) (k a)
theorem zcM {α:Type}{F:List α→Prop}{us:List α} (h:us.length=2) (k:∀a b,F [a,b]):F us:=by
 cases us with
 | nil=>cases h
 | cons a r=>exact zcL (F:=fun r=>F (a::r)) (Nat.succ.inj h) (k a)
theorem zcN {α:Type}{F:List α→Prop}{us:List α} (h:us.length=3) (k:∀a b c,F [a,b,c]):F us:=by
 cases us with
 | nil=>cases h
 | cons a r=>exact zcM (F:=fun r=>F (a::r)) (Nat.succ.inj h) (k a)
theorem zcO {α:Type}{F:List α→Prop}{us:List α} (h:us.length=4) (k:∀a b c d,F [a,b,c,d]):F us:=by
 cases us with
 | nil=>cases h
 | cons a r=>exact zcN (F:=fun r=>F (a::r)) (Nat.succ.inj h) (k a)
theorem zeW {α:Type}{F:List α→Prop}{us:List α} (h:us.length=5) (k:∀a b c d e,F [a,b,c,d,e]):F us:=by
 cases us with
 | nil=>cases h
 | cons a r=>exact zcO (F:=fun r=>F (a::r)) (Nat.succ.inj h) (k a)
theorem qR {fd:FuncData}{ps:List Str}{us:List Value} (h:us.length=1) (k:∀a,bindArgs fd ⟨[a],[]⟩=pure (ps.zip [a])):bindArgs fd ⟨us,[]⟩=pure (ps.zip us):=zcL (F:=fun us=>bindArgs fd ⟨us,[]⟩=pure (ps.zip us)) h k
theorem z6 {fd:FuncData}{ps:List Str}{us:List Value} (h:us.length=2) (k:∀a b,bindArgs fd ⟨[a,b],[]⟩=pure (ps.zip [a,b])):bindArgs fd ⟨us,[]⟩=pure (ps.zip us):=zcM (F:=fun us=>bindArgs fd ⟨us,[]⟩=pure (ps.zip us)) h k
theorem jN {fd:FuncData}{ps:List Str}{us:List Value} (h:us.length=3) (k:∀a b c,bindArgs fd ⟨[a,b,c],[]⟩=pure (ps.zip [a,b,c])):bindArgs fd ⟨us,[]⟩=pure (ps.zip us):=zcN (F:=fun us=>bindArgs fd ⟨us,[]⟩=pure (ps.zip us)) h k
theorem jU {fd:FuncData}{ps:List Str}{us:List Value} (h:us.length=4) (k:∀a b c d,bindArgs fd ⟨[a,b,c,d],[]⟩=pure (ps.zip [a,b,c,d])):bindArgs fd ⟨us,[]⟩=pure (ps.zip us):=zcO (F:=fun us=>bindArgs fd ⟨us,[]⟩=pure (ps.zip us)) h k
theorem zcm {fd:FuncData}{ps:List Str}{us:List Value} (h:us.length=5) (k:∀a b c d e,bindArgs fd ⟨[a,b,c,d,e],[]⟩=pure (ps.zip [a,b,c,d,e])):bindArgs fd ⟨us,[]⟩=pure (ps.zip us):=zeW (F:=fun us=>bindArgs fd ⟨us,[]⟩=pure (ps.zip us)) h k
noncomputable def DI (K:PySem.W.Frag) (x:Str) (st:Stmt) (f:Addr):Prop:=∃(oc:Value) (od:Option Addr) (sl:Array (Option Value)) (kV dc pm:Value) (an:Option Addr) (cd ct:Value),PySem.W.nsIn K mainGlobals x=some (some (.ref f))∧K.lookup f=some ⟨oc,od,.func (PySem.W.fnOf x x (defArgs st) (defBody st) (defScope st) .none kV dc pm an cd ct),sl⟩∧PySem.W.codeIn K cd x=true∧PySem.W.keepIn K (.ref f)=true
theorem DI.dd {K:PySem.W.Frag}{h:Heap}{mg:Str→Option Value}{x:Str}{st:Stmt}{f:Addr}{ps:List Str} (d:DI K x st f) (X:K.In h) (G:h.Ns mainGlobals mg) (hb:∀(kV dc pm:Value) (an:Option Addr) (cd ct:Value) (us:List Value),us.length=ps.length→bindArgs (PySem.W.fnOf x x (defArgs st) (defBody st) (defScope st) .none kV dc pm an cd ct) ⟨us,[]⟩=pure (ps.zip us)):Def K mg x st ps:=by
 obtain⟨oc,od,sl,kV,dc,pm,an,cd,ct,a,l,c,k⟩:=d
 exact⟨f,_,fun_mk l c k,(fun_mk (st:=st) l c k).binds (ps:=ps) hb,PySem.W.mg_of X G a⟩
theorem di_mk {K:PySem.W.Frag}{x:Str}{st:Stmt}{f:Addr}{oc:Value}{od:Option Addr}{sl:Array (Option Value)}{kV dc pm:Value}{an:Option Addr}{cd ct:Value} (a:PySem.W.nsIn K mainGlobals x=some (some (.ref f))) (l:K.lookup f=some ⟨oc,od,.func (PySem.W.fnOf x x (defArgs st) (defBody st) (defScope st) .none kV dc pm an cd ct),sl⟩) (c:PySem.W.codeIn K cd x=true) (k:PySem.W.keepIn K (.ref f)=true):DI K x st f:=⟨_,_,_,_,_,_,_,_,_,a,l,c,k⟩
theorem all_mk {l:PySem.W.OpenLaw} (hP:l.prog.given.tree=none){w:World}{K:PySem.W.Frag}{h:Heap}{mg:Str→Option Value}{fa:Addr} (X:K.In h) (G:h.Ns mainGlobals mg) (hfa:mg "law"=some (.ref fa))
  {f0:Addr} (d0:DI K "choose" Z9 f0)
  {f1:Addr} (d1:DI K "top_of" Ve f1)
  {f2:Addr} (d2:DI K "top_from" yE f2)
  {f3:Addr} (d3:DI K "above_top" wg f3)
  {f4:Addr} (d4:DI K "rounded_up" vB f4)
  {f5:Addr} (d5:DI K "box_of" Qa f5)
  {f6:Addr} (d6:DI K "bell_row" yF f6)
  {f7:Addr} (d7:DI K "heard_box" wj f7)
  {f8:Addr} (d8:DI K "box_count" wk f8)
  {f9:Addr} (d9:DI K "greatest_part" jW f9)
  {f10:Addr} (d10:DI K "shortest_frame" wu f10)
  {f11:Addr} (d11:DI K "best_bells" ZK f11)
  {f12:Addr} (d12:DI K "cheapest" QX f12)
  {f13:Addr} (d13:DI K "box_number" vC f13)
  {f14:Addr} (d14:DI K "box_of_message" jP f14)
  {f15:Addr} (d15:DI K "written" Zd f15)
  {f16:Addr} (d16:DI K "read" XH f16)
  {f17:Addr} (d17:DI K "keyed_count" xP f17)
  {f18:Addr} (d18:DI K "keyed" QZ f18)
  {f19:Addr} (d19:DI K "unkeyed" Ze f19)
  {f20:Addr} (d20:DI K "refuse_silent" wU f20)
  {f21:Addr} (d21:DI K "rung" zas f21)
  {f22:Addr} (d22:DI K "by_messages" Zf f22)
  {f23:Addr} (d23:DI K "note_number" Zg f23)
  {f24:Addr} (d24:DI K "note_of" JQ f24)
  {f25:Addr} (d25:DI K "parts" Ky f25)
  {f26:Addr} (d26:DI K "number_of_parts" vZ f26)
  {f27:Addr} (d27:DI K "sent" zat f27)
  {f28:Addr} (d28:DI K "received" Q0 f28)
  {f29:Addr} (d29:DI K "messages_ahead_of_end" jR f29)
  {f30:Addr} (d30:DI K "is_made_of" vD f30)
  {f31:Addr} (d31:DI K "name_in" Zh f31)
  {f32:Addr} (d32:DI K "figures_in" vG f32)
  {f33:Addr} (d33:DI K "number_in" ww f33)
  {f34:Addr} (d34:DI K "message_in" vH f34)
  {f35:Addr} (d35:DI K "bells_in" yG f35)
  {f36:Addr} (d36:DI K "turns_in" yH f36)
  {f37:Addr} (d37:DI K "number_told" xQ f37)
  {f38:Addr} (d38:DI K "turns_told" vI f38)
  {f39:Addr} (d39:DI K "count_of" yI f39)
  {f40:Addr} (d40:DI K "note_heard" ZL f40)
  {f41:Addr} (d41:DI K "choice_told" Zi f41)
  {f42:Addr} (d42:DI K "cheapest_told" wV f42)
  {f43:Addr} (d43:DI K "_law_cell_at" xF f43)
  {f44:Addr} (d44:DI K "_law_drawn" vJ f44)
  {f45:Addr} (d45:DI K "_law_names" vK f45)
  {f46:Addr} (d46:DI K "_law_frame" vL f46)
  {f47:Addr} (d47:DI K "_law_kind" wy f47)
  {f48:Addr} (d48:DI K "_law_told" wz f48)
  {f49:Addr} (d49:DI K "_law_stage" vM f49)
  {f50:Addr} (d50:DI K "_law_words" vN f50)
  {f51:Addr} (d51:DI K "_law_due" yJ f51)
  {f52:Addr} (d52:DI K "_law_count" vO f52)
  {f53:Addr} (d53:DI K "_law_message" xG f53)
  {f54:Addr} (d54:DI K "_law_reading" xH f54)
  {f55:Addr} (d55:DI K "_law_order" vP f55)
  {f56:Addr} (d56:DI K "law" Vf f56)
  (z_range:PySem.W.nsIn K mainGlobals "range"=some none)
  (z_isinstance:PySem.W.nsIn K mainGlobals "isinstance"=some none)
  (z_int:PySem.W.nsIn K mainGlobals "int"=some none)
  (zau:PySem.W.nsIn K mainGlobals "bool"=some none)
  (z_len:PySem.W.nsIn K mainGlobals "len"=some none)
  (zav:PySem.W.nsIn K mainGlobals "list"=some none)
  (z_max:PySem.W.nsIn K mainGlobals "max"=some none)
  (z_min:PySem.W.nsIn K mainGlobals "min"=some none)
  (z_enumerate:PySem.W.nsIn K mainGlobals "enumerate"=some none)
  (z_sorted:PySem.W.nsIn K mainGlobals "sorted"=some none)
  (z_sum:PySem.W.nsIn K mainGlobals "sum"=some none)
  (z_all:PySem.W.nsIn K mainGlobals "all"=some none)
  (z_str:PySem.W.nsIn K mainGlobals "str"=some none)
  (zcv:PySem.W.nsIn K mainGlobals "zip"=some none)
  (z_ValueError:PySem.W.nsIn K mainGlobals "ValueError"=some none)
  {zq:Addr} (jd:PySem.W.nsIn K mainGlobals "BellError"=some (some (.ref zq)))
  {qm:Addr} (vg:PySem.W.nsIn K mainGlobals "NoRow"=some (some (.ref qm)))
  {za:Addr} (zT:PySem.W.nsIn K mainGlobals "NoReading"=some (some (.ref za)))
  {zb:Addr} (qp:PySem.W.nsIn K mainGlobals "TooGreat"=some (some (.ref zb)))
  {zR:Addr} (jK:PySem.W.nsIn K mainGlobals "TooMany"=some (some (.ref zR)))
  {zQ:Addr} (jZ:PySem.W.nsIn K mainGlobals "NoNote"=some (some (.ref zQ)))
  {zg:Addr} (zZ:PySem.W.nsIn K mainGlobals "NoOrder"=some (some (.ref zg)))
  {zf:Addr} (jF:PySem.W.nsIn K mainGlobals "NoName"=some (some (.ref zf)))
  {zy:Addr} (xj:PySem.W.nsIn K mainGlobals "Frame"=some (some (.ref zy)))
  {zu:Addr} (wF:PySem.W.nsIn K mainGlobals "Desk"=some (some (.ref zu)))
  {jH:Tok} (jo:PySem.W.nsIn K mainGlobals "LETTERS"=some (some (.str "abcdefghijklmnopqrstuvwxyz" jH)))
  {qF:Tok} (qi:PySem.W.nsIn K mainGlobals "MOST_LETTERS"=some (some (.int 8 qF)))
  {jJ:Tok} (jq:PySem.W.nsIn K mainGlobals "FIGURES"=some (some (.str "0123456789" jJ)))
  {qG:Tok} (qj:PySem.W.nsIn K mainGlobals "MOST_FIGURES"=some (some (.int 60 qG)))
  {zr:Tok} (zp:PySem.W.nsIn K mainGlobals "MOST_FIGURES_OF_MESSAGE"=some (some (.int 3000 zr)))
  {qU:Tok} (qK:PySem.W.nsIn K mainGlobals "MOST_BELLS"=some (some (.int 60 qU)))
  (je:PySem.W.excIn K zq bmV "ValueError.__new__"=true)
  (vV:PySem.W.excIn K qm bmV "ValueError.__new__"=true)
  (zK:PySem.W.excIn K za bmV "ValueError.__new__"=true)
  (qg:PySem.W.excIn K zb bmV "ValueError.__new__"=true)
  (z7:PySem.W.excIn K zg bmV "ValueError.__new__"=true)
  (jC:PySem.W.excIn K zf bmV "ValueError.__new__"=true)
  (xJ:PySem.W.excIn K zQ bmV "ValueError.__new__"=true)
  (jf:PySem.W.mroIn K zf (.ref zq)=some true)
  (jr:PySem.W.findIn K (.ref zf) "__getattribute__"=some (some (.builtin "BaseException.__getattribute__")))
  (jt:PySem.W.findIn K (.ref zf) "__getattr__"=some none)
  (ju:PySem.W.findIn K (.ref zf) "__class__"=some (some (.builtin "object.__class__")))
  (jw:PySem.W.mroIn K zf (.type "object")=some true)
  (jx:PySem.W.mroIn K zf (.type "BaseException")=some true)
  (qt:PySem.W.kitOne K (.ref zf) (.ref zf)=some true)
  (zU:PySem.W.kitOne K (.ref zf) (.ref zb)=some false)
  (zL:PySem.W.kitOne K (.ref zf) (.ref za)=some false)
  (qx:PySem.W.kitOne K (.ref zf) (.ref zQ)=some false)
  (z8:PySem.W.kitOne K (.ref zf) (.ref zg)=some false)
  (qH:PySem.W.kitOne K (.ref zf) (.ref qm)=some false)
  (z9:PySem.W.kitOne K (.ref zf) (.ref zR)=some false)
  (qI:PySem.W.kitOne K (.ref zf) (.type "ValueError")=some true)
  (qJ:PySem.W.mroIn K zb (.ref zq)=some true)
  (qW:PySem.W.findIn K (.ref zb) "__getattribute__"=some (some (.builtin "BaseException.__getattribute__")))
  (qX:PySem.W.findIn K (.ref zb) "__getattr__"=some none)
  (qY:PySem.W.findIn K (.ref zb) "__class__"=some (some (.builtin "object.__class__")))
  (qZ:PySem.W.mroIn K zb (.type "object")=some true)
  (jb:PySem.W.mroIn K zb (.type "BaseException")=some true)
  (zV:PySem.W.kitOne K (.ref zb) (.ref zf)=some false)
  (zF:PySem.W.kitOne K (.ref zb) (.ref zb)=some true)
  (zB:PySem.W.kitOne K (.ref zb) (.ref za)=some false)
  (zW:PySem.W.kitOne K (.ref zb) (.ref zQ)=some false)
  (zM:PySem.W.kitOne K (.ref zb) (.ref zg)=some false)
  (qd:PySem.W.kitOne K (.ref zb) (.ref qm)=some false)
  (zN:PySem.W.kitOne K (.ref zb) (.ref zR)=some false)
  (qe:PySem.W.kitOne K (.ref zb) (.type "ValueError")=some true)
  (qy:PySem.W.mroIn K za (.ref zq)=some true)
  (qM:PySem.W.findIn K (.ref za) "__getattribute__"=some (some (.builtin "BaseException.__getattribute__")))
  (qN:PySem.W.findIn K (.ref za) "__getattr__"=some none)
  (qO:PySem.W.findIn K (.ref za) "__class__"=some (some (.builtin "object.__class__")))
  (qP:PySem.W.mroIn K za (.type "object")=some true)
  (qQ:PySem.W.mroIn K za (.type "BaseException")=some true)
  (zO:PySem.W.kitOne K (.ref za) (.ref zf)=some false)
  (zE:PySem.W.kitOne K (.ref za) (.ref zb)=some false)
  (zx:PySem.W.kitOne K (.ref za) (.ref za)=some true)
  (zP:PySem.W.kitOne K (.ref za) (.ref zQ)=some false)
  (zG:PySem.W.kitOne K (.ref za) (.ref zg)=some false)
  (zX:PySem.W.kitOne K (.ref za) (.ref qm)=some false)
  (zH:PySem.W.kitOne K (.ref za) (.ref zR)=some false)
  (zY:PySem.W.kitOne K (.ref za) (.type "ValueError")=some true)
  (JZ:PySem.W.specialIn K (.builtin "object.__class__") "__get__"=some (some (.builtin "getset_descriptor.__get__")))
  (J1:PySem.W.takesIn K (.builtin "object.__class__")=some true)
  {zjs:Value}{zjt:Option Addr}{zfb:Array DictEntry}{zju:Nat}{zjv:Array (Option Value)} (zfA:K.lookup cStatics=some ⟨zjs,zjt,.dict zfb zju,zjv⟩) (zfB:(zfb.all fun e=>match e.key with | .str _ _=>true | _=>false)=true) (zfC:PySem.W.nsIn K cStatics "sys.int_max_str_digits"=some none)
  (Xe:PySem.W.plainGet K zy Str.empty=true)
  (Xf:PySem.W.hasDictIn K zy=true)
  (Xg:PySem.W.plainOver K zy=true)
  (Xh:PySem.W.findIn K (.ref zy) "__setattr__"=some (some (.builtin "object.__setattr__")))
  (Xi:PySem.W.makesIn K zy=true)
  (Xj:PySem.W.keepIn K (.ref zy)=true)
  (yQ:PySem.W.findIn K (.ref zy) "turns"=some none)
  (yR:PySem.W.findIn K (.ref zy) "bells"=some none)
  (Zu:PySem.W.findIn K (.ref zy) "late"=some none)
  (w6:PySem.W.findIn K (.ref zy) "frames"=some none)
  (Vv:PySem.W.plainGet K zu Str.empty=true)
  (Vw:PySem.W.hasDictIn K zu=true)
  (Vx:PySem.W.plainOver K zu=true)
  (Vy:PySem.W.findIn K (.ref zu) "__setattr__"=some (some (.builtin "object.__setattr__")))
  (Vz:PySem.W.makesIn K zu=true)
  (VB:PySem.W.keepIn K (.ref zu)=true)
  (Zv:PySem.W.findIn K (.ref zu) "turns"=some none)
  (Zw:PySem.W.findIn K (.ref zu) "bells"=some none)
  (Z0:PySem.W.findIn K (.ref zu) "late"=some none)
  (yS:PySem.W.findIn K (.ref zu) "frames"=some none)
  {vR:Addr}{Wf Wg:Option Addr}{Wh:Array (Option Value)}{Wi Wj Wk Wl Ji Wm:Value}
  (xU:PySem.W.findIn K (.ref zy) "__init__"=some (some (.ref vR)))
  (wG:K.lookup vR=some ⟨Wi,Wf,.func (PySem.W.fnOf "__init__" "Frame.__init__" (defArgs jT) (defBody jT) (defScope jT) .none Wj Wk Wl Wg Ji Wm),Wh⟩) (wH:PySem.W.codeIn K Ji "Frame.__init__"=true) (Zx:PySem.W.keepIn K (.ref vR)=true) (Zy:PySem.W.isFn K (.ref vR)=true)
  {wI:Addr}{WX WY:Option Addr}{W0:Array (Option Value)}{W2 W3 W4 W5 JB W6:Value}
  (v8:PySem.W.findIn K (.ref zu) "__init__"=some (some (.ref wI)))
  (yf:K.lookup wI=some ⟨W2,WX,.func (PySem.W.fnOf "__init__" "Desk.__init__" (defArgs j5) (defBody j5) (defScope j5) .none W3 W4 W5 WY JB W6),W0⟩) (yg:PySem.W.codeIn K JB "Desk.__init__"=true) (Z1:PySem.W.keepIn K (.ref wI)=true) (Z2:PySem.W.isFn K (.ref wI)=true)
  {wJ:Addr}{W7 Yb:Option Addr}{Yc:Array (Option Value)}{Yd Ye Yg Yh JC Yi:Value}
  (v9:PySem.W.findIn K (.ref zu) "told"=some (some (.ref wJ)))
  (yh:K.lookup wJ=some ⟨Yd,W7,.func (PySem.W.fnOf "told" "Desk.told" (defArgs j6) (defBody j6) (defScope j6) .none Ye Yg Yh Yb JC Yi),Yc⟩) (yj:PySem.W.codeIn K JC "Desk.told"=true) (yo:PySem.W.keepIn K (.ref wJ)=true) (Z3:PySem.W.isFn K (.ref wJ)=true)
  {wK:Addr}{Yj Yk:Option Addr}{Yl:Array (Option Value)}{Ym Yn Yo Yp JD Yq:Value}
  (kh:PySem.W.findIn K (.ref zu) "keep"=some (some (.ref wK)))
  (yq:K.lookup wK=some ⟨Ym,Yj,.func (PySem.W.fnOf "keep" "Desk.keep" (defArgs j7) (defBody j7) (defScope j7) .none Yn Yo Yp Yk JD Yq),Yl⟩) (yr:PySem.W.codeIn K JD "Desk.keep"=true) (yt:PySem.W.keepIn K (.ref wK)=true) (Z4:PySem.W.isFn K (.ref wK)=true)
  {wL:Addr}{Yr Ys:Option Addr}{Yt:Array (Option Value)}{Yu Yv Yw Yx JF Yy:Value}
  (kj:PySem.W.findIn K (.ref zu) "ring"=some (some (.ref wL)))
  (yu:K.lookup wL=some ⟨Yu,Yr,.func (PySem.W.fnOf "ring" "Desk.ring" (defArgs j8) (defBody j8) (defScope j8) .none Yv Yw Yx Ys JF Yy),Yt⟩) (yw:PySem.W.codeIn K JF "Desk.ring"=true) (yx:PySem.W.keepIn K (.ref wL)=true) (Z5:PySem.W.isFn K (.ref wL)=true)
  {xV:Addr}{V2 V3:Option Addr}{V4:Array (Option Value)}{V5 V6 V7 V8 QM V9:Value}
  (xW:PySem.W.findIn K (.ref zu) "listen"=some (some (.ref xV)))
  (vW:K.lookup xV=some ⟨V5,V2,.func (PySem.W.fnOf "listen" "Desk.listen" (defArgs jL) (defBody jL) (defScope jL) .none V6 V7 V8 V3 QM V9),V4⟩) (vX:PySem.W.codeIn K QM "Desk.listen"=true) (vY:PySem.W.keepIn K (.ref xV)=true) (yU:PySem.W.isFn K (.ref xV)=true)
  {jQ:Addr}{Xk Xl:Option Addr}{Xm:Array (Option Value)}{Xn Xo Xp Xq Zz Xr:Value}
  (j0:PySem.W.findIn K (.ref zu) "send_note"=some (some (.ref jQ)))
  (xr:K.lookup jQ=some ⟨Xn,Xk,.func (PySem.W.fnOf "send_note" "Desk.send_note" (defArgs jk) (defBody jk) (defScope jk) .none Xo Xp Xq Xl Zz Xr),Xm⟩) (xu:PySem.W.codeIn K Zz "Desk.send_note"=true) (xx:PySem.W.keepIn K (.ref jQ)=true) (km:PySem.W.isFn K (.ref jQ)=true)
  {wM:Addr}{Yz YB:Option Addr}{YC:Array (Option Value)}{YD YF YG YH JG YJ:Value}
  (kI:PySem.W.findIn K (.ref zu) "kept"=some (some (.ref wM)))
  (yz:K.lookup wM=some ⟨YD,Yz,.func (PySem.W.fnOf "kept" "Desk.kept" (defArgs j9) (defBody j9) (defScope j9) .none YF YG YH YB JG YJ),YC⟩) (yC:PySem.W.codeIn K JG "Desk.kept"=true) (yD:PySem.W.keepIn K (.ref wM)=true) (Z6:PySem.W.isFn K (.ref wM)=true)
  : ∃fd:FuncData,(∀(s:Shared) (v:Value),BindsTo s fd ⟨[v],[]⟩ [("script",v)])∧∀base:Heap,K.In base→base.Ns mainGlobals mg→FnOk l.prog w K mg base CX0 50 fa fd ["script"] (spLaw K):=by
 obtain⟨_,_,_,kL,dL,pL,nL,cL,tL,aL,lL,eL,rL⟩:=d56
 have e:=hfa.symm.trans (PySem.W.mg_of X G aL)
 cases e
 have Wb:Def K mg "choose" Z9 ["n","k"]:=d0.dd X G fun _ _ _ _ _ _ us hl=>z6 hl fun _ _=>rfl
 have zbH:Def K mg "top_of" Ve ["k","number"]:=d1.dd X G fun _ _ _ _ _ _ us hl=>z6 hl fun _ _=>rfl
 have J3:Def K mg "top_from" yE ["start","k","number"]:=d2.dd X G fun _ _ _ _ _ _ us hl=>jN hl fun _ _ _=>rfl
 have Jb:Def K mg "above_top" wg ["k","number"]:=d3.dd X G fun _ _ _ _ _ _ us hl=>z6 hl fun _ _=>rfl
 have Qt:Def K mg "rounded_up" vB ["number","divisor"]:=d4.dd X G fun _ _ _ _ _ _ us hl=>z6 hl fun _ _=>rfl
 have Wc:Def K mg "box_of" Qa ["row","late"]:=d5.dd X G fun _ _ _ _ _ _ us hl=>z6 hl fun _ _=>rfl
 have J4:Def K mg "bell_row" yF ["box","late"]:=d6.dd X G fun _ _ _ _ _ _ us hl=>z6 hl fun _ _=>rfl
 have Jc:Def K mg "heard_box" wj ["reading","late"]:=d7.dd X G fun _ _ _ _ _ _ us hl=>z6 hl fun _ _=>rfl
 have Jd:Def K mg "box_count" wk ["turns","bells","late"]:=d8.dd X G fun _ _ _ _ _ _ us hl=>jN hl fun _ _ _=>rfl
 have yP:Def K mg "greatest_part" jW ["turns","bells","late"]:=d9.dd X G fun _ _ _ _ _ _ us hl=>jN hl fun _ _ _=>rfl
 have Qg:Def K mg "shortest_frame" wu ["bells","late","many"]:=d10.dd X G fun _ _ _ _ _ _ us hl=>jN hl fun _ _ _=>rfl
 have X5:Def K mg "best_bells" ZK ["turns","late","most"]:=d11.dd X G fun _ _ _ _ _ _ us hl=>jN hl fun _ _ _=>rfl
 have Wd:Def K mg "cheapest" QX ["many","late","turn_cost","bell_cost","most"]:=d12.dd X G fun _ _ _ _ _ _ us hl=>zcm hl fun _ _ _ _ _=>rfl
 have Qu:Def K mg "box_number" vC ["box"]:=d13.dd X G fun _ _ _ _ _ _ us hl=>qR hl fun _=>rfl
 have wZ:Def K mg "box_of_message" jP ["message","bells"]:=d14.dd X G fun _ _ _ _ _ _ us hl=>z6 hl fun _ _=>rfl
 have Vs:Def K mg "written" Zd ["message","turns","bells","late"]:=d15.dd X G fun _ _ _ _ _ _ us hl=>jU hl fun _ _ _ _=>rfl
 have zck:Def K mg "read" XH ["reading","turns","bells","late"]:=d16.dd X G fun _ _ _ _ _ _ us hl=>jU hl fun _ _ _ _=>rfl
 have ZW:Def K mg "keyed_count" xP ["turns","bells","late"]:=d17.dd X G fun _ _ _ _ _ _ us hl=>jN hl fun _ _ _=>rfl
 have zaT:Def K mg "keyed" QZ ["message","turns","bells","late"]:=d18.dd X G fun _ _ _ _ _ _ us hl=>jU hl fun _ _ _ _=>rfl
 have Vt:Def K mg "unkeyed" Ze ["reading","turns","bells","late"]:=d19.dd X G fun _ _ _ _ _ _ us hl=>jU hl fun _ _ _ _=>rfl
 have QK:Def K mg "refuse_silent" wU ["turns","bells"]:=d20.dd X G fun _ _ _ _ _ _ us hl=>z6 hl fun _ _=>rfl
 have zej:Def K mg "rung" zas ["messages","turns","bells","late"]:=d21.dd X G fun _ _ _ _ _ _ us hl=>jU hl fun _ _ _ _=>rfl
 have Jy:Def K mg "by_messages" Zf ["reading","turns","late"]:=d22.dd X G fun _ _ _ _ _ _ us hl=>jN hl fun _ _ _=>rfl
 have Jz:Def K mg "note_number" Zg ["note"]:=d23.dd X G fun _ _ _ _ _ _ us hl=>qR hl fun _=>rfl
 have zae:Def K mg "note_of" JQ ["number"]:=d24.dd X G fun _ _ _ _ _ _ us hl=>qR hl fun _=>rfl
 have zcJ:Def K mg "parts" Ky ["number","base"]:=d25.dd X G fun _ _ _ _ _ _ us hl=>z6 hl fun _ _=>rfl
 have ZG:Def K mg "number_of_parts" vZ ["figures","base"]:=d26.dd X G fun _ _ _ _ _ _ us hl=>z6 hl fun _ _=>rfl
 have zcl:Def K mg "sent" zat ["note","turns","bells","late"]:=d27.dd X G fun _ _ _ _ _ _ us hl=>jU hl fun _ _ _ _=>rfl
 have We:Def K mg "received" Q0 ["reading","turns","bells","late"]:=d28.dd X G fun _ _ _ _ _ _ us hl=>jU hl fun _ _ _ _=>rfl
 have kY:Def K mg "messages_ahead_of_end" jR ["reading","turns","bells","late"]:=d29.dd X G fun _ _ _ _ _ _ us hl=>jU hl fun _ _ _ _=>rfl
 have Qv:Def K mg "is_made_of" vD ["word","signs","most"]:=d30.dd X G fun _ _ _ _ _ _ us hl=>jN hl fun _ _ _=>rfl
 have Vu:Def K mg "name_in" Zh ["word"]:=d31.dd X G fun _ _ _ _ _ _ us hl=>qR hl fun _=>rfl
 have Qw:Def K mg "figures_in" vG ["word","most"]:=d32.dd X G fun _ _ _ _ _ _ us hl=>z6 hl fun _ _=>rfl
 have Je:Def K mg "number_in" ww ["word"]:=d33.dd X G fun _ _ _ _ _ _ us hl=>qR hl fun _=>rfl
 have Qx:Def K mg "message_in" vH ["word"]:=d34.dd X G fun _ _ _ _ _ _ us hl=>qR hl fun _=>rfl
 have Xa:Def K mg "bells_in" yG ["word"]:=d35.dd X G fun _ _ _ _ _ _ us hl=>qR hl fun _=>rfl
 have Xb:Def K mg "turns_in" yH ["words"]:=d36.dd X G fun _ _ _ _ _ _ us hl=>qR hl fun _=>rfl
 have ZX:Def K mg "number_told" xQ ["number"]:=d37.dd X G fun _ _ _ _ _ _ us hl=>qR hl fun _=>rfl
 have Qy:Def K mg "turns_told" vI ["turns"]:=d38.dd X G fun _ _ _ _ _ _ us hl=>qR hl fun _=>rfl
 have Xc:Def K mg "count_of" yI ["frame"]:=d39.dd X G fun _ _ _ _ _ _ us hl=>qR hl fun _=>rfl
 have Qz:Def K mg "note_heard" ZL ["reading","frame"]:=d40.dd X G fun _ _ _ _ _ _ us hl=>z6 hl fun _ _=>rfl
 have ZZ:Def K mg "choice_told" Zi ["words"]:=d41.dd X G fun _ _ _ _ _ _ us hl=>qR hl fun _=>rfl
 have QL:Def K mg "cheapest_told" wV ["words"]:=d42.dd X G fun _ _ _ _ _ _ us hl=>qR hl fun _=>rfl
 have Zq:Def K mg "_law_cell_at" xF ["script","k"]:=d43.dd X G fun _ _ _ _ _ _ us hl=>z6 hl fun _ _=>rfl
 have QB:Def K mg "_law_drawn" vJ ["cell","k"]:=d44.dd X G fun _ _ _ _ _ _ us hl=>z6 hl fun _ _=>rfl
 have QC:Def K mg "_law_names" vK ["cell"]:=d45.dd X G fun _ _ _ _ _ _ us hl=>qR hl fun _=>rfl
 have QD:Def K mg "_law_frame" vL ["cell"]:=d46.dd X G fun _ _ _ _ _ _ us hl=>qR hl fun _=>rfl
 have Jf:Def K mg "_law_kind" wy ["e"]:=d47.dd X G fun _ _ _ _ _ _ us hl=>qR hl fun _=>rfl
 have Jg:Def K mg "_law_told" wz ["desk","order"]:=d48.dd X G fun _ _ _ _ _ _ us hl=>z6 hl fun _ _=>rfl
 have QF:Def K mg "_law_stage" vM ["head","rest","frame"]:=d49.dd X G fun _ _ _ _ _ _ us hl=>jN hl fun _ _ _=>rfl
 have QG:Def K mg "_law_words" vN ["turns"]:=d50.dd X G fun _ _ _ _ _ _ us hl=>qR hl fun _=>rfl
 have Xd:Def K mg "_law_due" yJ ["head","rest","frame"]:=d51.dd X G fun _ _ _ _ _ _ us hl=>jN hl fun _ _ _=>rfl
 have QH:Def K mg "_law_count" vO ["head","frame"]:=d52.dd X G fun _ _ _ _ _ _ us hl=>z6 hl fun _ _=>rfl
 have Zr:Def K mg "_law_message" xG ["cell","count"]:=d53.dd X G fun _ _ _ _ _ _ us hl=>z6 hl fun _ _=>rfl
 have Zt:Def K mg "_law_reading" xH ["cell","head","frame"]:=d54.dd X G fun _ _ _ _ _ _ us hl=>jN hl fun _ _ _=>rfl
 have QJ:Def K mg "_law_order" vP ["desk","frames","name","cell"]:=d55.dd X G fun _ _ _ _ _ _ us hl=>jU hl fun _ _ _ _=>rfl
 have O:Own K zy zu:=⟨⟨Xe,Xf,Xg,Xh⟩,yQ,yR,Zu,w6,⟨Vv,Vw,Vx,Vy⟩,Zv,Zw,Z0,yS,⟨vR,⟨_,ZC wG wH,(fun_mk (st:=jT) wG wH Zx).binds (ps:=["self","turns","bells","late"]) (fun _ _ _ _ _ _ us hl=>jU hl fun _ _ _ _=>rfl)⟩,⟨Xi,xU,Zy,Xj⟩⟩,⟨wI,⟨_,ZC yf yg,(fun_mk (st:=j5) yf yg Z1).binds (ps:=["self"]) (fun _ _ _ _ _ _ us hl=>qR hl fun _=>rfl)⟩,⟨Vz,v8,Z2,VB⟩⟩,⟨wJ,⟨_,ZC yh yj,(fun_mk (st:=j6) yh yj yo).binds (ps:=["self","order"]) (fun _ _ _ _ _ _ us hl=>z6 hl fun _ _=>rfl)⟩,⟨v9,Z3,yo⟩⟩,⟨wK,⟨_,ZC yq yr,(fun_mk (st:=j7) yq yr yt).binds (ps:=["self","words"]) (fun _ _ _ _ _ _ us hl=>z6 hl fun _ _=>rfl)⟩,⟨kh,Z4,yt⟩⟩,⟨wL,⟨_,ZC yu yw,(fun_mk (st:=j8) yu yw yx).binds (ps:=["self","words"]) (fun _ _ _ _ _ _ us hl=>z6 hl fun _ _=>rfl)⟩,⟨kj,Z5,yx⟩⟩,⟨xV,⟨_,ZC vW vX,(fun_mk (st:=jL) vW vX vY).binds (ps:=["self","words"]) (fun _ _ _ _ _ _ us hl=>z6 hl fun _ _=>rfl)⟩,⟨xW,yU,vY⟩⟩,⟨jQ,⟨_,ZC xr xu,(fun_mk (st:=jk) xr xu xx).binds (ps:=["self","words"]) (fun _ _ _ _ _ _ us hl=>z6 hl fun _ _=>rfl)⟩,⟨j0,km,xx⟩⟩,⟨wM,⟨_,ZC yz yC,(fun_mk (st:=j9) yz yC yD).binds (ps:=["self","name"]) (fun _ _ _ _ _ _ us hl=>z6 hl fun _ _=>rfl)⟩,⟨kI,Z6,yD⟩⟩⟩
 have ND:L2.NoDig K:=L2.nodig_of zfA zfB zfC
 have T:Txt K mg:=⟨PySem.W.mg_none_of X G z_range,PySem.W.mg_none_of X G z_isinstance,PySem.W.mg_none_of X G z_int,PySem.W.mg_none_of X G zau,PySem.W.mg_none_of X G z_len,PySem.W.mg_none_of X G zav,PySem.W.mg_none_of X G z_max,PySem.W.mg_none_of X G z_min,PySem.W.mg_none_of X G z_enumerate,PySem.W.mg_none_of X G z_sorted,PySem.W.mg_none_of X G z_sum,PySem.W.mg_none_of X G z_all,PySem.W.mg_none_of X G z_str,PySem.W.mg_none_of X G zcv,PySem.W.mg_none_of X G z_ValueError⟩
 exact⟨PySem.W.fnOf "law" "law" (defArgs Vf) (defBody Vf) (defScope Vf) .none kL dL pL nL cL tL,fun s v=>.of_eq rfl,fun base _ _=>ok_law hP (fun_mk lL eL rL) T Wb zbH J3 Jb Qt Wc J4 Jc Jd yP Qg X5 Wd Qu wZ Vs zck ZW zaT Vt QK zej Jy Jz zae zcJ ZG zcl We kY Qv Vu Qw Je Qx Xa Xb ZX Qy Xc Qz ZZ QL Zq QB QC QD Jf Jg QF QG Xd QH Zr Zt QJ (PySem.W.mg_of X G jd) (PySem.W.mg_of X G vg) (PySem.W.mg_of X G zT) (PySem.W.mg_of X G qp) (PySem.W.mg_of X G jK) (PySem.W.mg_of X G jZ) (PySem.W.mg_of X G zZ) (PySem.W.mg_of X G jF) (PySem.W.mg_of X G xj) (PySem.W.mg_of X G wF) (PySem.W.mg_of X G jo) (PySem.W.mg_of X G qi) (PySem.W.mg_of X G jq) (PySem.W.mg_of X G qj) (PySem.W.mg_of X G zp) (PySem.W.mg_of X G qK) je vV zK qg z7 jC xJ jf jr jt ju jw jx qt zU zL qx z8 qH z9 qI qJ qW qX qY qZ jb zV zF zB zW zM qd zN qe qy qM qN qO qP qQ zO zE zx zP zG zX zH zY JZ J1 O ND⟩
theorem walk {l:PySem.W.OpenLaw}{q:Program}{loose:List Str}{XP:(Str→Option Value)→Heap→Prop}{YP:World→Heap→Prop}{d:DefRec}{K:Params→PySem.W.Frag} (hn:l.most=some 63) (hdf:d.params.defaults=[]) (hq:PyProof.Rows.importsNone q=true)
  (hY:∀(w:World) (h:Heap),YP w h→(K w.params).In h)
  (F:∀(w:World) (mg:Str→Option Value) (fa:Addr) (h:Heap),(K w.params).In h→h.Ns mainGlobals mg→mg d.name=some (.ref fa) →
   ∃fd:FuncData,(∀(s:Shared) (u:Value),BindsTo s fd ⟨[u],[]⟩ [("script",u)])∧∀base:Heap,(K w.params).In base→base.Ns mainGlobals mg→FnOk l.prog w (K w.params) mg base CX0 50 fa fd ["script"] (spLaw (K w.params))) :
  PySem.W.WalkO q loose XP YP l.row.toRowW d [] (fun f vs=>PySem.call f vs):=
 L2.walk_of (n:=63) (k:=50) (x:="script") (CX:=fun _=>CX0) (sp:=fun w=>spLaw (K w.params)) hn (by decide) hdf hq ⟨rfl,by decide,by decide⟩ hY F (fun _ _ a ns hl hbt _ hS=>⟨a,ns,rfl,hS,hl,fun _=>rfl⟩) fun _ _ _ _ _ z=>z
end Bw
namespace Op
noncomputable section
open PySem PySem.W PyProof.Rows L2
noncomputable abbrev p:Program:=PySem.Challenge.pw_bellwrite_k94_rows_at_the_desk
noncomputable def t (i:Nat):Stmt:=p.main.body.getD i (.Pass ⟨0,0,0,0⟩)
noncomputable def u (i j:Nat):Stmt:=inClass (t i) j
noncomputable abbrev fd (s:Stmt) (nm qn:Str) (g:Addr) (cl:List (Str×Addr)) (d kd dc pm:Value) (an:Option Addr) (cd ct:Value) (bi:Addr):FuncData:=⟨nm,qn,defArgs s,.stmts (defBody s),defScope s,g,cl,d,kd,dc,pm,an,cd,ct,bi⟩
noncomputable abbrev e (P:Params) (s:Str) (k:Tok) (v:Value):DictEntry:=⟨PyData.keyHash P s,.str s k,v⟩
abbrev n:=BT.node
abbrev z:=BT.nil
abbrev vi (k:Int):Value:=.int k 0
abbrev vr (a:Addr):Value:=.ref a
abbrev vs (x:Str) (k:Tok):Value:=.str x k
abbrev vy:=Value.type
abbrev vb:=Value.builtin
abbrev tp (xs:Array Value):Obj:=⟨vy "tuple",none,.seq xs 0,#[]⟩
abbrev co (xs:Array Value):Obj:=⟨vy "code",none,.fields xs,#[]⟩
noncomputable abbrev fo (x:Stmt) (nm qn:Str) (m:Value) (c:Addr):Obj:=⟨vy "function",none,.func (fd x nm qn 3 [] .none .none .none m none (.ref c) .none 0),#[]⟩
noncomputable abbrev go (x:Stmt) (nm qn:Str):Obj:=⟨.none,none,.func (fd x nm qn 0 [] .none .none .none .none none .none .none 0),#[]⟩
noncomputable def lf:Life:=⟨[],[],[],0,[],[],false,#[],[],0,false,false,false,0,[2000,10,10],false,0,true,[],[],0,false⟩
noncomputable def o1:Obj:=co #[(vs "<module>" 182),(vs "<module>" 183),(vs "/claim/cut.py" 184),(vi 1),(vi 0),(vi 0),(vi 0),(vi 0),(vr 11),(.bool false),(vi 181),(vr 12),.none,.none,.none,.none,(vi 185),(vi 1),(vs "/claim/cut.py" 186)]
noncomputable def o2:Obj:=⟨(vy "frame"),none,.plain,#[(some (vr 13)),(some (vr 3)),(some (vr 3)),none,(some (vs "__main__" 164)),none,(some (vr 0))]⟩
noncomputable def o3 (P:Params):Obj:=⟨(vy "dict"),none,(.dict #[e P "__name__" 165 (vs "law_bellwrite_k94_rows_at_the_desk" 849),e P "__doc__" 166 .none,e P "__package__" 167 .none,e P "__loader__" 168 (vb "__main__.__loader__#opaque"),e P "__spec__" 169 .none,e P "__annotations__" 170 (vr 6),e P "__builtins__" 171 (vr 4),e P "__file__" 173 (vs "/claim/cut.py" 172),e P "__cached__" 174 .none,e P "choose" 198 (vr 21),e P "top_of" 206 (vr 28),e P "top_from" 219 (vr 35),e P "above_top" 230 (vr 42),e P "rounded_up" 238 (vr 49),e P "BellError" 258 (vr 59),e P "NoRow" 274 (vr 72),e P "NoReading" 290 (vr 84),e P "TooGreat" 306 (vr 96),e P "TooMany" 322 (vr 108),e P "NoNote" 338 (vr 120),e P "NoOrder" 354 (vr 132),e P "NoName" 370 (vr 144),e P "box_of" 378 (vr 151),e P "bell_row" 384 (vr 156),e P "heard_box" 395 (vr 163),e P "box_count" 404 (vr 170),e P "greatest_part" 413 (vr 177),e P "shortest_frame" 425 (vr 184),e P "best_bells" 438 (vr 191),e P "cheapest" 455 (vr 198),e P "box_number" 463 (vr 203),e P "box_of_message" 475 (vr 210),e P "written" 485 (vr 217),e P "read" 496 (vr 224),e P "keyed_count" 507 (vr 231),e P "keyed" 513 (vr 236),e P "unkeyed" 519 (vr 241),e P "refuse_silent" 529 (vr 248),e P "rung" 535 (vr 253),e P "by_messages" 547 (vr 260),e P "SIGNS" 551 (vs "abcdefghijklmnopqrstuvwxyz " 550),e P "MOST_SIGNS" 553 (.int 60 552),e P "LEAST_COUNT" 555 (.int 3 554),e P "note_number" 565 (vr 267),e P "note_of" 574 (vr 274),e P "parts" 584 (vr 281),e P "number_of_parts" 590 (vr 286),e P "sent" 596 (vr 291),e P "received" 602 (vr 296),e P "messages_ahead_of_end" 615 (vr 303),e P "LETTERS" 619 (vs "abcdefghijklmnopqrstuvwxyz" 618),e P "MOST_LETTERS" 621 (.int 8 620),e P "FIGURES" 623 (vs "0123456789" 622),e P "MOST_FIGURES" 625 (.int 60 624),e P "MOST_FIGURES_OF_MESSAGE" 627 (.int 3000 626),e P "MOST_BELLS" 629 (.int 60 628),e P "is_made_of" 635 (vr 308),e P "name_in" 642 (vr 315),e P "figures_in" 650 (vr 322),e P "number_in" 657 (vr 329),e P "message_in" 664 (vr 336),e P "bells_in" 672 (vr 343),e P "turns_in" 678 (vr 348),e P "number_told" 685 (vr 355),e P "turns_told" 691 (vr 360),e P "Frame" 726 (vr 377),e P "Desk" 813 (vr 440),e P "count_of" 820 (vr 451),e P "note_heard" 828 (vr 458),e P "choice_told" 835 (vr 465),e P "cheapest_told" 848 (vr 472),e P "_law_cell_at" 858 (vr 479),e P "_law_drawn" 867 (vr 486),e P "_law_names" 873 (vr 491),e P "_law_frame" 883 (vr 498),e P "_law_kind" 891 (vr 505),e P "_law_told" 902 (vr 512)] 77),#[]⟩
noncomputable def o4:Obj:=⟨.none,none,(.fields #[(vi 2),(vi 0),(vr 20),(vi 9),(vi 0),(vr 27),(vi 11),(vi 0),(vr 34),(vi 20),(vi 0),(vr 41),(vi 26),(vi 0),(vr 48),(vi 29),(vi 0),(vr 55),(vi 31),(vi 0),(vr 68),(vi 33),(vi 0),(vr 80),(vi 35),(vi 0),(vr 92),(vi 37),(vi 0),(vr 104),(vi 39),(vi 0),(vr 116),(vi 41),(vi 0),(vr 128),(vi 43),(vi 0),(vr 140),(vi 46),(vi 0),(vr 150),(vi 48),(vi 0),(vr 155),(vi 50),(vi 0),(vr 162),(vi 58),(vi 0),(vr 169),(vi 62),(vi 0),(vr 176),(vi 65),(vi 0),(vr 183),(vi 72),(vi 0),(vr 190),(vi 82),(vi 0),(vr 197),(vi 92),(vi 0),(vr 202),(vi 94),(vi 0),(vr 209),(vi 105),(vi 0),(vr 216),(vi 109),(vi 0),(vr 223),(vi 117),(vi 0),(vr 230),(vi 121),(vi 0),(vr 235),(vi 126),(vi 0),(vr 240),(vi 133),(vi 0),(vr 247),(vi 136),(vi 0),(vr 252),(vi 143),(vi 0),(vr 259),(vi 153),(vi 0),(vr 266),(vi 163),(vi 0),(vr 273),(vi 175),(vi 0),(vr 280),(vi 182),(vi 0),(vr 285),(vi 191),(vi 0),(vr 290),(vi 199),(vi 0),(vr 295),(vi 206),(vi 0),(vr 302),(vi 221),(vi 0),(vr 307),(vi 223),(vi 0),(vr 314),(vi 227),(vi 0),(vr 321),(vi 231),(vi 0),(vr 328),(vi 233),(vi 0),(vr 335),(vi 235),(vi 0),(vr 342),(vi 240),(vi 0),(vr 347),(vi 248),(vi 0),(vr 354),(vi 250),(vi 0),(vr 359),(vi 253),(vi 0),(vr 366),(vi 259),(vi 0),(vr 387),(vi 311),(vi 0),(vr 450),(vi 313),(vi 0),(vr 457),(vi 317),(vi 0),(vr 464),(vi 325),(vi 0),(vr 471),(vi 336),(vi 0),(vr 478),(vi 340),(vi 0),(vr 485),(vi 344),(vi 0),(vr 490),(vi 348),(vi 0),(vr 497),(vi 357),(vi 0),(vr 504),(vi 370),(vi 0),(vr 511)]),#[]⟩
noncomputable def o5:Obj:=tp #[(vs "n" 192),(vs "k" 193),(vs "ways" 194),(vs "taken" 195)]
noncomputable def o6:Obj:=go (t 1) "choose" "choose"
noncomputable def o7:Obj:=co #[(vs "choose" 189),(vs "choose" 190),(vs "/claim/cut.py" 191),(vi 2),(vi 2),(vi 0),(vi 0),(vi 3),(vr 15),(.bool true),(vi 181),(vr 16),.none,(vr 17),(vr 18),(vr 19),(vi 196),(vi 2),(vs "/claim/cut.py" 197)]
noncomputable def o8:Obj:=fo (t 1) "choose" "choose" (vs "bellwrite.choices" 187) 20
noncomputable def o9:Obj:=tp #[(vs "k" 202),(vs "number" 203)]
noncomputable def o10:Obj:=go (t 2) "top_of" "top_of"
noncomputable def o11:Obj:=co #[(vs "top_of" 199),(vs "top_of" 200),(vs "/claim/cut.py" 201),(vi 9),(vi 2),(vi 0),(vi 0),(vi 3),(vr 22),(.bool true),(vi 181),(vr 23),.none,(vr 24),(vr 25),(vr 26),(vi 204),(vi 9),(vs "/claim/cut.py" 205)]
noncomputable def o12:Obj:=fo (t 2) "top_of" "top_of" (vs "bellwrite.choices" 187) 27
noncomputable def o13:Obj:=tp #[(vs "start" 210),(vs "k" 211),(vs "number" 212),(vs "top" 213),(vs "ways" 214),(vs "most_off" 215),(vs "step" 216)]
noncomputable def o14:Obj:=go (t 3) "top_from" "top_from"
noncomputable def o15:Obj:=co #[(vs "top_from" 207),(vs "top_from" 208),(vs "/claim/cut.py" 209),(vi 11),(vi 3),(vi 0),(vi 0),(vi 3),(vr 29),(.bool true),(vi 181),(vr 30),.none,(vr 31),(vr 32),(vr 33),(vi 217),(vi 11),(vs "/claim/cut.py" 218)]
noncomputable def o16:Obj:=fo (t 3) "top_from" "top_from" (vs "bellwrite.choices" 187) 34
noncomputable def o17:Obj:=tp #[(vs "k" 223),(vs "number" 224),(vs "product" 225),(vs "factor" 226),(vs "figures" 227)]
noncomputable def o18:Obj:=go (t 4) "above_top" "above_top"
noncomputable def o19:Obj:=co #[(vs "above_top" 220),(vs "above_top" 221),(vs "/claim/cut.py" 222),(vi 20),(vi 2),(vi 0),(vi 0),(vi 3),(vr 36),(.bool true),(vi 181),(vr 37),.none,(vr 38),(vr 39),(vr 40),(vi 228),(vi 20),(vs "/claim/cut.py" 229)]
noncomputable def o20:Obj:=fo (t 4) "above_top" "above_top" (vs "bellwrite.choices" 187) 41
noncomputable def o21:Obj:=tp #[(vs "number" 234),(vs "divisor" 235)]
noncomputable def o22:Obj:=go (t 5) "rounded_up" "rounded_up"
noncomputable def o23:Obj:=co #[(vs "rounded_up" 231),(vs "rounded_up" 232),(vs "/claim/cut.py" 233),(vi 26),(vi 2),(vi 0),(vi 0),(vi 3),(vr 43),(.bool true),(vi 181),(vr 44),.none,(vr 45),(vr 46),(vr 47),(vi 236),(vi 26),(vs "/claim/cut.py" 237)]
noncomputable def o24:Obj:=fo (t 5) "rounded_up" "rounded_up" (vs "bellwrite.choices" 187) 48
noncomputable def o25:Obj:=tp #[(vy "ValueError")]
noncomputable def o26:Obj:=⟨(vy "builtin_function_or_method"),none,(.fields #[(vb "type.__prepare__"),(vy "type")]),#[]⟩
noncomputable def o27 (P:Params):Obj:=⟨(vy "dict"),none,(.dict #[e P "__module__" 248 (vs "bellwrite.errors" 239),e P "__qualname__" 250 (vs "BellError" 249),e P "__firstlineno__" 252 (.int 29 251),e P "__static_attributes__" 253 (vr 57)] 4),#[]⟩
noncomputable def o28:Obj:=co #[(vs "BellError" 243),(vs "BellError" 244),(vs "/claim/cut.py" 245),(vi 29),(vi 0),(vi 0),(vi 0),(vi 0),(vr 53),(.bool false),(vi 181),(vr 54),.none,.none,.none,.none,(vi 246),(vi 29),(vs "/claim/cut.py" 247)]
noncomputable def o29:Obj:=⟨(vy "frame"),none,.plain,#[(some (vr 55)),(some (vr 3)),(some (vr 52)),none,(some (vs "bellwrite.errors" 239)),none,(some (vr 0))]⟩
noncomputable def o30 (P:Params):Obj:=⟨(vy "dict"),none,(.dict #[e P "__module__" 248 (vs "bellwrite.errors" 239),e P "__firstlineno__" 252 (.int 29 251),e P "__static_attributes__" 253 (vr 57),e P "__weakref__" 255 (vr 60),e P "__doc__" 256 .none] 3),#[]⟩
noncomputable def o31:Obj:=⟨(vy "type"),none,(.cls ⟨"BellError",[(vy "ValueError")],[(vr 59),(vy "ValueError"),(vy "Exception"),(vy "BaseException"),(vy "object")],58,"BellError",true,[],[(vr 72),(vr 84),(vr 96),(vr 108),(vr 120),(vr 132),(vr 144)],false,none,false⟩),#[(some (vr 50)),none,(some (vs "BellError" 241)),(some (vs "BellError" 249)),(some (vb "ValueError.__new__")),(some (.bool true))]⟩
noncomputable def o32:Obj:=⟨(vy "getset_descriptor"),none,(.fields #[(vs "__weakref__" 254),(vr 59),(vb "ExceptionGroup.__weakref__"),.none]),#[]⟩
noncomputable def o33:Obj:=⟨(vy "super"),none,(.fields #[(vr 59),(vr 59),(vr 59)]),#[]⟩
noncomputable def o34:Obj:=⟨(vy "builtin_function_or_method"),none,(.fields #[(vb "object.__init_subclass__"),(vr 59)]),#[]⟩
noncomputable def o35:Obj:=tp #[(vr 59)]
noncomputable def o36 (P:Params):Obj:=⟨(vy "dict"),none,(.dict #[e P "__module__" 266 (vs "bellwrite.errors" 239),e P "__qualname__" 268 (vs "NoRow" 267),e P "__firstlineno__" 270 (.int 31 269),e P "__static_attributes__" 271 (vr 70)] 4),#[]⟩
noncomputable def o37:Obj:=co #[(vs "NoRow" 261),(vs "NoRow" 262),(vs "/claim/cut.py" 263),(vi 31),(vi 0),(vi 0),(vi 0),(vi 0),(vr 66),(.bool false),(vi 181),(vr 67),.none,.none,.none,.none,(vi 264),(vi 31),(vs "/claim/cut.py" 265)]
noncomputable def o38:Obj:=⟨(vy "frame"),none,.plain,#[(some (vr 68)),(some (vr 3)),(some (vr 65)),none,(some (vs "bellwrite.errors" 239)),none,(some (vr 0))]⟩
noncomputable def o39 (P:Params):Obj:=⟨(vy "dict"),none,(.dict #[e P "__module__" 266 (vs "bellwrite.errors" 239),e P "__firstlineno__" 270 (.int 31 269),e P "__static_attributes__" 271 (vr 70),e P "__doc__" 272 .none] 2),#[]⟩
noncomputable def o40:Obj:=⟨(vy "type"),none,(.cls ⟨"NoRow",[(vr 59)],[(vr 72),(vr 59),(vy "ValueError"),(vy "Exception"),(vy "BaseException"),(vy "object")],71,"NoRow",true,[],[],false,none,false⟩),#[(some (vr 63)),none,(some (vs "NoRow" 259)),(some (vs "NoRow" 267)),(some (vb "ValueError.__new__")),(some (.bool true))]⟩
noncomputable def o41:Obj:=⟨(vy "super"),none,(.fields #[(vr 72),(vr 72),(vr 72)]),#[]⟩
noncomputable def o42:Obj:=⟨(vy "builtin_function_or_method"),none,(.fields #[(vb "object.__init_subclass__"),(vr 72)]),#[]⟩
noncomputable def o43 (P:Params):Obj:=⟨(vy "dict"),none,(.dict #[e P "__module__" 282 (vs "bellwrite.errors" 239),e P "__qualname__" 284 (vs "NoReading" 283),e P "__firstlineno__" 286 (.int 33 285),e P "__static_attributes__" 287 (vr 82)] 4),#[]⟩
noncomputable def o44:Obj:=co #[(vs "NoReading" 277),(vs "NoReading" 278),(vs "/claim/cut.py" 279),(vi 33),(vi 0),(vi 0),(vi 0),(vi 0),(vr 78),(.bool false),(vi 181),(vr 79),.none,.none,.none,.none,(vi 280),(vi 33),(vs "/claim/cut.py" 281)]
noncomputable def o45:Obj:=⟨(vy "frame"),none,.plain,#[(some (vr 80)),(some (vr 3)),(some (vr 77)),none,(some (vs "bellwrite.errors" 239)),none,(some (vr 0))]⟩
noncomputable def o46 (P:Params):Obj:=⟨(vy "dict"),none,(.dict #[e P "__module__" 282 (vs "bellwrite.errors" 239),e P "__firstlineno__" 286 (.int 33 285),e P "__static_attributes__" 287 (vr 82),e P "__doc__" 288 .none] 2),#[]⟩
noncomputable def o47:Obj:=⟨(vy "type"),none,(.cls ⟨"NoReading",[(vr 59)],[(vr 84),(vr 59),(vy "ValueError"),(vy "Exception"),(vy "BaseException"),(vy "object")],83,"NoReading",true,[],[],false,none,false⟩),#[(some (vr 75)),none,(some (vs "NoReading" 275)),(some (vs "NoReading" 283)),(some (vb "ValueError.__new__")),(some (.bool true))]⟩
noncomputable def o48:Obj:=⟨(vy "super"),none,(.fields #[(vr 84),(vr 84),(vr 84)]),#[]⟩
noncomputable def o49:Obj:=⟨(vy "builtin_function_or_method"),none,(.fields #[(vb "object.__init_subclass__"),(vr 84)]),#[]⟩
noncomputable def o50 (P:Params):Obj:=⟨(vy "dict"),none,(.dict #[e P "__module__" 298 (vs "bellwrite.errors" 239),e P "__qualname__" 300 (vs "TooGreat" 299),e P "__firstlineno__" 302 (.int 35 301),e P "__static_attributes__" 303 (vr 94)] 4),#[]⟩
noncomputable def o51:Obj:=co #[(vs "TooGreat" 293),(vs "TooGreat" 294),(vs "/claim/cut.py" 295),(vi 35),(vi 0),(vi 0),(vi 0),(vi 0),(vr 90),(.bool false),(vi 181),(vr 91),.none,.none,.none,.none,(vi 296),(vi 35),(vs "/claim/cut.py" 297)]
noncomputable def o52:Obj:=⟨(vy "frame"),none,.plain,#[(some (vr 92)),(some (vr 3)),(some (vr 89)),none,(some (vs "bellwrite.errors" 239)),none,(some (vr 0))]⟩
noncomputable def o53 (P:Params):Obj:=⟨(vy "dict"),none,(.dict #[e P "__module__" 298 (vs "bellwrite.errors" 239),e P "__firstlineno__" 302 (.int 35 301),e P "__static_attributes__" 303 (vr 94),e P "__doc__" 304 .none] 2),#[]⟩
noncomputable def o54:Obj:=⟨(vy "type"),none,(.cls ⟨"TooGreat",[(vr 59)],[(vr 96),(vr 59),(vy "ValueError"),(vy "Exception"),(vy "BaseException"),(vy "object")],95,"TooGreat",true,[],[],false,none,false⟩),#[(some (vr 87)),none,(some (vs "TooGreat" 291)),(some (vs "TooGreat" 299)),(some (vb "ValueError.__new__")),(some (.bool true))]⟩
noncomputable def o55:Obj:=⟨(vy "super"),none,(.fields #[(vr 96),(vr 96),(vr 96)]),#[]⟩
noncomputable def o56:Obj:=⟨(vy "builtin_function_or_method"),none,(.fields #[(vb "object.__init_subclass__"),(vr 96)]),#[]⟩
noncomputable def o57 (P:Params):Obj:=⟨(vy "dict"),none,(.dict #[e P "__module__" 314 (vs "bellwrite.errors" 239),e P "__qualname__" 316 (vs "TooMany" 315),e P "__firstlineno__" 318 (.int 37 317),e P "__static_attributes__" 319 (vr 106)] 4),#[]⟩
noncomputable def o58:Obj:=co #[(vs "TooMany" 309),(vs "TooMany" 310),(vs "/claim/cut.py" 311),(vi 37),(vi 0),(vi 0),(vi 0),(vi 0),(vr 102),(.bool false),(vi 181),(vr 103),.none,.none,.none,.none,(vi 312),(vi 37),(vs "/claim/cut.py" 313)]
noncomputable def o59:Obj:=⟨(vy "frame"),none,.plain,#[(some (vr 104)),(some (vr 3)),(some (vr 101)),none,(some (vs "bellwrite.errors" 239)),none,(some (vr 0))]⟩
noncomputable def o60 (P:Params):Obj:=⟨(vy "dict"),none,(.dict #[e P "__module__" 314 (vs "bellwrite.errors" 239),e P "__firstlineno__" 318 (.int 37 317),e P "__static_attributes__" 319 (vr 106),e P "__doc__" 320 .none] 2),#[]⟩
noncomputable def o61:Obj:=⟨(vy "type"),none,(.cls ⟨"TooMany",[(vr 59)],[(vr 108),(vr 59),(vy "ValueError"),(vy "Exception"),(vy "BaseException"),(vy "object")],107,"TooMany",true,[],[],false,none,false⟩),#[(some (vr 99)),none,(some (vs "TooMany" 307)),(some (vs "TooMany" 315)),(some (vb "ValueError.__new__")),(some (.bool true))]⟩
noncomputable def o62:Obj:=⟨(vy "super"),none,(.fields #[(vr 108),(vr 108),(vr 108)]),#[]⟩
noncomputable def o63:Obj:=⟨(vy "builtin_function_or_method"),none,(.fields #[(vb "object.__init_subclass__"),(vr 108)]),#[]⟩
noncomputable def o64 (P:Params):Obj:=⟨(vy "dict"),none,(.dict #[e P "__module__" 330 (vs "bellwrite.errors" 239),e P "__qualname__" 332 (vs "NoNote" 331),e P "__firstlineno__" 334 (.int 39 333),e P "__static_attributes__" 335 (vr 118)] 4),#[]⟩
noncomputable def o65:Obj:=co #[(vs "NoNote" 325),(vs "NoNote" 326),(vs "/claim/cut.py" 327),(vi 39),(vi 0),(vi 0),(vi 0),(vi 0),(vr 114),(.bool false),(vi 181),(vr 115),.none,.none,.none,.none,(vi 328),(vi 39),(vs "/claim/cut.py" 329)]
noncomputable def o66:Obj:=⟨(vy "frame"),none,.plain,#[(some (vr 116)),(some (vr 3)),(some (vr 113)),none,(some (vs "bellwrite.errors" 239)),none,(some (vr 0))]⟩
noncomputable def o67 (P:Params):Obj:=⟨(vy "dict"),none,(.dict #[e P "__module__" 330 (vs "bellwrite.errors" 239),e P "__firstlineno__" 334 (.int 39 333),e P "__static_attributes__" 335 (vr 118),e P "__doc__" 336 .none] 2),#[]⟩
noncomputable def o68:Obj:=⟨(vy "type"),none,(.cls ⟨"NoNote",[(vr 59)],[(vr 120),(vr 59),(vy "ValueError"),(vy "Exception"),(vy "BaseException"),(vy "object")],119,"NoNote",true,[],[],false,none,false⟩),#[(some (vr 111)),none,(some (vs "NoNote" 323)),(some (vs "NoNote" 331)),(some (vb "ValueError.__new__")),(some (.bool true))]⟩
noncomputable def o69:Obj:=⟨(vy "super"),none,(.fields #[(vr 120),(vr 120),(vr 120)]),#[]⟩
noncomputable def o70:Obj:=⟨(vy "builtin_function_or_method"),none,(.fields #[(vb "object.__init_subclass__"),(vr 120)]),#[]⟩
noncomputable def o71 (P:Params):Obj:=⟨(vy "dict"),none,(.dict #[e P "__module__" 346 (vs "bellwrite.errors" 239),e P "__qualname__" 348 (vs "NoOrder" 347),e P "__firstlineno__" 350 (.int 41 349),e P "__static_attributes__" 351 (vr 130)] 4),#[]⟩
noncomputable def o72:Obj:=co #[(vs "NoOrder" 341),(vs "NoOrder" 342),(vs "/claim/cut.py" 343),(vi 41),(vi 0),(vi 0),(vi 0),(vi 0),(vr 126),(.bool false),(vi 181),(vr 127),.none,.none,.none,.none,(vi 344),(vi 41),(vs "/claim/cut.py" 345)]
noncomputable def o73:Obj:=⟨(vy "frame"),none,.plain,#[(some (vr 128)),(some (vr 3)),(some (vr 125)),none,(some (vs "bellwrite.errors" 239)),none,(some (vr 0))]⟩
noncomputable def o74 (P:Params):Obj:=⟨(vy "dict"),none,(.dict #[e P "__module__" 346 (vs "bellwrite.errors" 239),e P "__firstlineno__" 350 (.int 41 349),e P "__static_attributes__" 351 (vr 130),e P "__doc__" 352 .none] 2),#[]⟩
noncomputable def o75:Obj:=⟨(vy "type"),none,(.cls ⟨"NoOrder",[(vr 59)],[(vr 132),(vr 59),(vy "ValueError"),(vy "Exception"),(vy "BaseException"),(vy "object")],131,"NoOrder",true,[],[],false,none,false⟩),#[(some (vr 123)),none,(some (vs "NoOrder" 339)),(some (vs "NoOrder" 347)),(some (vb "ValueError.__new__")),(some (.bool true))]⟩
noncomputable def o76:Obj:=⟨(vy "super"),none,(.fields #[(vr 132),(vr 132),(vr 132)]),#[]⟩
noncomputable def o77:Obj:=⟨(vy "builtin_function_or_method"),none,(.fields #[(vb "object.__init_subclass__"),(vr 132)]),#[]⟩
noncomputable def o78 (P:Params):Obj:=⟨(vy "dict"),none,(.dict #[e P "__module__" 362 (vs "bellwrite.errors" 239),e P "__qualname__" 364 (vs "NoName" 363),e P "__firstlineno__" 366 (.int 43 365),e P "__static_attributes__" 367 (vr 142)] 4),#[]⟩
noncomputable def o79:Obj:=co #[(vs "NoName" 357),(vs "NoName" 358),(vs "/claim/cut.py" 359),(vi 43),(vi 0),(vi 0),(vi 0),(vi 0),(vr 138),(.bool false),(vi 181),(vr 139),.none,.none,.none,.none,(vi 360),(vi 43),(vs "/claim/cut.py" 361)]
noncomputable def o80:Obj:=⟨(vy "frame"),none,.plain,#[(some (vr 140)),(some (vr 3)),(some (vr 137)),none,(some (vs "bellwrite.errors" 239)),none,(some (vr 0))]⟩
noncomputable def o81 (P:Params):Obj:=⟨(vy "dict"),none,(.dict #[e P "__module__" 362 (vs "bellwrite.errors" 239),e P "__firstlineno__" 366 (.int 43 365),e P "__static_attributes__" 367 (vr 142),e P "__doc__" 368 .none] 2),#[]⟩
noncomputable def o82:Obj:=⟨(vy "type"),none,(.cls ⟨"NoName",[(vr 59)],[(vr 144),(vr 59),(vy "ValueError"),(vy "Exception"),(vy "BaseException"),(vy "object")],143,"NoName",true,[],[],false,none,false⟩),#[(some (vr 135)),none,(some (vs "NoName" 355)),(some (vs "NoName" 363)),(some (vb "ValueError.__new__")),(some (.bool true))]⟩
noncomputable def o83:Obj:=⟨(vy "super"),none,(.fields #[(vr 144),(vr 144),(vr 144)]),#[]⟩
noncomputable def o84:Obj:=⟨(vy "builtin_function_or_method"),none,(.fields #[(vb "object.__init_subclass__"),(vr 144)]),#[]⟩
noncomputable def o85:Obj:=go (t 16) "box_of" "box_of"
noncomputable def o86:Obj:=co #[(vs "box_of" 373),(vs "box_of" 374),(vs "/claim/cut.py" 375),(vi 46),(vi 2),(vi 0),(vi 0),(vi 3),(vr 147),(.bool true),(vi 181),(vr 148),.none,.none,.none,(vr 149),(vi 376),(vi 46),(vs "/claim/cut.py" 377)]
noncomputable def o87:Obj:=fo (t 16) "box_of" "box_of" (vs "bellwrite.boxes" 371) 150
noncomputable def o88:Obj:=go (t 17) "bell_row" "bell_row"
noncomputable def o89:Obj:=co #[(vs "bell_row" 379),(vs "bell_row" 380),(vs "/claim/cut.py" 381),(vi 48),(vi 2),(vi 0),(vi 0),(vi 3),(vr 152),(.bool true),(vi 181),(vr 153),.none,.none,.none,(vr 154),(vi 382),(vi 48),(vs "/claim/cut.py" 383)]
noncomputable def o90:Obj:=fo (t 17) "bell_row" "bell_row" (vs "bellwrite.boxes" 371) 155
noncomputable def o91:Obj:=tp #[(vs "reading" 388),(vs "late" 389),(vs "box" 390),(vs "before" 391),(vs "part" 392)]
noncomputable def o92:Obj:=go (t 18) "heard_box" "heard_box"
noncomputable def o93:Obj:=co #[(vs "heard_box" 385),(vs "heard_box" 386),(vs "/claim/cut.py" 387),(vi 50),(vi 2),(vi 0),(vi 0),(vi 3),(vr 157),(.bool true),(vi 181),(vr 158),.none,(vr 159),(vr 160),(vr 161),(vi 393),(vi 50),(vs "/claim/cut.py" 394)]
noncomputable def o94:Obj:=fo (t 18) "heard_box" "heard_box" (vs "bellwrite.boxes" 371) 162
noncomputable def o95:Obj:=tp #[(vs "turns" 399),(vs "bells" 400),(vs "late" 401)]
noncomputable def o96:Obj:=go (t 19) "box_count" "box_count"
noncomputable def o97:Obj:=co #[(vs "box_count" 396),(vs "box_count" 397),(vs "/claim/cut.py" 398),(vi 58),(vi 3),(vi 0),(vi 0),(vi 3),(vr 164),(.bool true),(vi 181),(vr 165),.none,(vr 166),(vr 167),(vr 168),(vi 402),(vi 58),(vs "/claim/cut.py" 403)]
noncomputable def o98:Obj:=fo (t 19) "box_count" "box_count" (vs "bellwrite.boxes" 371) 169
noncomputable def o99:Obj:=tp #[(vs "turns" 408),(vs "bells" 409),(vs "late" 410)]
noncomputable def o100:Obj:=go (t 20) "greatest_part" "greatest_part"
noncomputable def zfD:Obj:=co #[(vs "greatest_part" 405),(vs "greatest_part" 406),(vs "/claim/cut.py" 407),(vi 62),(vi 3),(vi 0),(vi 0),(vi 3),(vr 171),(.bool true),(vi 181),(vr 172),.none,(vr 173),(vr 174),(vr 175),(vi 411),(vi 62),(vs "/claim/cut.py" 412)]
noncomputable def zfE:Obj:=fo (t 20) "greatest_part" "greatest_part" (vs "bellwrite.boxes" 371) 176
noncomputable def zfF:Obj:=tp #[(vs "bells" 419),(vs "late" 420),(vs "many" 421),(vs "greatest" 422)]
noncomputable def zfG:Obj:=go (t 22) "shortest_frame" "shortest_frame"
noncomputable def zfH:Obj:=co #[(vs "shortest_frame" 416),(vs "shortest_frame" 417),(vs "/claim/cut.py" 418),(vi 65),(vi 3),(vi 0),(vi 0),(vi 3),(vr 178),(.bool true),(vi 181),(vr 179),.none,(vr 180),(vr 181),(vr 182),(vi 423),(vi 65),(vs "/claim/cut.py" 424)]
noncomputable def zfI:Obj:=fo (t 22) "shortest_frame" "shortest_frame" (vs "bellwrite.frames" 414) 183
noncomputable def zfJ:Obj:=tp #[(vs "turns" 429),(vs "late" 430),(vs "most" 431),(vs "best" 432),(vs "greatest" 433),(vs "bells" 434),(vs "many" 435)]
noncomputable def zfK:Obj:=go (t 23) "best_bells" "best_bells"
noncomputable def zfL:Obj:=co #[(vs "best_bells" 426),(vs "best_bells" 427),(vs "/claim/cut.py" 428),(vi 72),(vi 3),(vi 0),(vi 0),(vi 3),(vr 185),(.bool true),(vi 181),(vr 186),.none,(vr 187),(vr 188),(vr 189),(vi 436),(vi 72),(vs "/claim/cut.py" 437)]
noncomputable def zfM:Obj:=fo (t 23) "best_bells" "best_bells" (vs "bellwrite.frames" 414) 190
noncomputable def o111:Obj:=tp #[(vs "many" 444),(vs "late" 445),(vs "turn_cost" 446),(vs "bell_cost" 447),(vs "most" 448),(vs "best" 449),(vs "bells" 450),(vs "turns" 451),(vs "cost" 452)]
noncomputable def zfN:Obj:=go (t 25) "cheapest" "cheapest"
noncomputable def zfO:Obj:=co #[(vs "cheapest" 441),(vs "cheapest" 442),(vs "/claim/cut.py" 443),(vi 82),(vi 5),(vi 0),(vi 0),(vi 3),(vr 192),(.bool true),(vi 181),(vr 193),.none,(vr 194),(vr 195),(vr 196),(vi 453),(vi 82),(vs "/claim/cut.py" 454)]
noncomputable def zfP:Obj:=fo (t 25) "cheapest" "cheapest" (vs "bellwrite.costs" 439) 197
noncomputable def zfQ:Obj:=go (t 27) "box_number" "box_number"
noncomputable def zfR:Obj:=co #[(vs "box_number" 458),(vs "box_number" 459),(vs "/claim/cut.py" 460),(vi 92),(vi 1),(vi 0),(vi 0),(vi 3),(vr 199),(.bool true),(vi 181),(vr 200),.none,.none,.none,(vr 201),(vi 461),(vi 92),(vs "/claim/cut.py" 462)]
noncomputable def zfS:Obj:=fo (t 27) "box_number" "box_number" (vs "bellwrite.messages" 456) 202
noncomputable def zfT:Obj:=tp #[(vs "message" 467),(vs "bells" 468),(vs "box" 469),(vs "left" 470),(vs "top" 471),(vs "place" 472)]
noncomputable def zfU:Obj:=go (t 28) "box_of_message" "box_of_message"
noncomputable def zfV:Obj:=co #[(vs "box_of_message" 464),(vs "box_of_message" 465),(vs "/claim/cut.py" 466),(vi 94),(vi 2),(vi 0),(vi 0),(vi 3),(vr 204),(.bool true),(vi 181),(vr 205),.none,(vr 206),(vr 207),(vr 208),(vi 473),(vi 94),(vs "/claim/cut.py" 474)]
noncomputable def zfW:Obj:=fo (t 28) "box_of_message" "box_of_message" (vs "bellwrite.messages" 456) 209
noncomputable def zfX:Obj:=tp #[(vs "message" 479),(vs "turns" 480),(vs "bells" 481),(vs "late" 482)]
noncomputable def zfY:Obj:=go (t 29) "written" "written"
noncomputable def zfZ:Obj:=co #[(vs "written" 476),(vs "written" 477),(vs "/claim/cut.py" 478),(vi 105),(vi 4),(vi 0),(vi 0),(vi 3),(vr 211),(.bool true),(vi 181),(vr 212),.none,(vr 213),(vr 214),(vr 215),(vi 483),(vi 105),(vs "/claim/cut.py" 484)]
noncomputable def zf0:Obj:=fo (t 29) "written" "written" (vs "bellwrite.messages" 456) 216
noncomputable def zf1:Obj:=tp #[(vs "reading" 489),(vs "turns" 490),(vs "bells" 491),(vs "late" 492),(vs "message" 493)]
noncomputable def zf2:Obj:=go (t 30) "read" "read"
noncomputable def zf3:Obj:=co #[(vs "read" 486),(vs "read" 487),(vs "/claim/cut.py" 488),(vi 109),(vi 4),(vi 0),(vi 0),(vi 3),(vr 218),(.bool true),(vi 181),(vr 219),.none,(vr 220),(vr 221),(vr 222),(vi 494),(vi 109),(vs "/claim/cut.py" 495)]
noncomputable def zf4:Obj:=fo (t 30) "read" "read" (vs "bellwrite.messages" 456) 223
noncomputable def zf5:Obj:=tp #[(vs "turns" 502),(vs "bells" 503),(vs "late" 504)]
noncomputable def zf6:Obj:=go (t 32) "keyed_count" "keyed_count"
noncomputable def zf7:Obj:=co #[(vs "keyed_count" 499),(vs "keyed_count" 500),(vs "/claim/cut.py" 501),(vi 117),(vi 3),(vi 0),(vi 0),(vi 3),(vr 225),(.bool true),(vi 181),(vr 226),.none,(vr 227),(vr 228),(vr 229),(vi 505),(vi 117),(vs "/claim/cut.py" 506)]
noncomputable def zf8:Obj:=fo (t 32) "keyed_count" "keyed_count" (vs "bellwrite.lags" 497) 230
noncomputable def zf9:Obj:=go (t 33) "keyed" "keyed"
noncomputable def zga:Obj:=co #[(vs "keyed" 508),(vs "keyed" 509),(vs "/claim/cut.py" 510),(vi 121),(vi 4),(vi 0),(vi 0),(vi 3),(vr 232),(.bool true),(vi 181),(vr 233),.none,.none,.none,(vr 234),(vi 511),(vi 121),(vs "/claim/cut.py" 512)]
noncomputable def zgb:Obj:=fo (t 33) "keyed" "keyed" (vs "bellwrite.lags" 497) 235
noncomputable def zgc:Obj:=go (t 34) "unkeyed" "unkeyed"
noncomputable def zgd:Obj:=co #[(vs "unkeyed" 514),(vs "unkeyed" 515),(vs "/claim/cut.py" 516),(vi 126),(vi 4),(vi 0),(vi 0),(vi 3),(vr 237),(.bool true),(vi 181),(vr 238),.none,.none,.none,(vr 239),(vi 517),(vi 126),(vs "/claim/cut.py" 518)]
noncomputable def zge:Obj:=fo (t 34) "unkeyed" "unkeyed" (vs "bellwrite.lags" 497) 240
noncomputable def zgf:Obj:=tp #[(vs "turns" 525),(vs "bells" 526)]
noncomputable def zgg:Obj:=go (t 36) "refuse_silent" "refuse_silent"
noncomputable def zgh:Obj:=co #[(vs "refuse_silent" 522),(vs "refuse_silent" 523),(vs "/claim/cut.py" 524),(vi 133),(vi 2),(vi 0),(vi 0),(vi 3),(vr 242),(.bool true),(vi 181),(vr 243),.none,(vr 244),(vr 245),(vr 246),(vi 527),(vi 133),(vs "/claim/cut.py" 528)]
noncomputable def zgi:Obj:=fo (t 36) "refuse_silent" "refuse_silent" (vs "bellwrite.talks" 520) 247
noncomputable def zgj:Obj:=go (t 37) "rung" "rung"
noncomputable def zgk:Obj:=co #[(vs "rung" 530),(vs "rung" 531),(vs "/claim/cut.py" 532),(vi 136),(vi 4),(vi 0),(vi 0),(vi 3),(vr 249),(.bool true),(vi 181),(vr 250),.none,.none,.none,(vr 251),(vi 533),(vi 136),(vs "/claim/cut.py" 534)]
noncomputable def zgl:Obj:=fo (t 37) "rung" "rung" (vs "bellwrite.talks" 520) 252
noncomputable def zgm:Obj:=tp #[(vs "reading" 539),(vs "turns" 540),(vs "late" 541),(vs "length" 542),(vs "heard_of" 543),(vs "turn" 544)]
noncomputable def zgn:Obj:=go (t 38) "by_messages" "by_messages"
noncomputable def zgo:Obj:=co #[(vs "by_messages" 536),(vs "by_messages" 537),(vs "/claim/cut.py" 538),(vi 143),(vi 3),(vi 0),(vi 0),(vi 3),(vr 254),(.bool true),(vi 181),(vr 255),.none,(vr 256),(vr 257),(vr 258),(vi 545),(vi 143),(vs "/claim/cut.py" 546)]
noncomputable def zgp:Obj:=fo (t 38) "by_messages" "by_messages" (vs "bellwrite.talks" 520) 259
noncomputable def zgq:Obj:=tp #[(vs "note" 559),(vs "number" 560),(vs "sign" 561),(vs "place" 562)]
noncomputable def zgr:Obj:=go (t 43) "note_number" "note_number"
noncomputable def zgs:Obj:=co #[(vs "note_number" 556),(vs "note_number" 557),(vs "/claim/cut.py" 558),(vi 153),(vi 1),(vi 0),(vi 0),(vi 3),(vr 261),(.bool true),(vi 181),(vr 262),.none,(vr 263),(vr 264),(vr 265),(vi 563),(vi 153),(vs "/claim/cut.py" 564)]
noncomputable def zgt:Obj:=fo (t 43) "note_number" "note_number" (vs "bellwrite.notes" 548) 266
noncomputable def zgu:Obj:=tp #[(vs "number" 569),(vs "signs" 570),(vs "left" 571)]
noncomputable def zgv:Obj:=go (t 44) "note_of" "note_of"
noncomputable def zgw:Obj:=co #[(vs "note_of" 566),(vs "note_of" 567),(vs "/claim/cut.py" 568),(vi 163),(vi 1),(vi 0),(vi 0),(vi 3),(vr 268),(.bool true),(vi 181),(vr 269),.none,(vr 270),(vr 271),(vr 272),(vi 572),(vi 163),(vs "/claim/cut.py" 573)]
noncomputable def zgx:Obj:=fo (t 44) "note_of" "note_of" (vs "bellwrite.notes" 548) 273
noncomputable def zgy:Obj:=tp #[(vs "number" 578),(vs "base" 579),(vs "figures" 580),(vs "left" 581)]
noncomputable def zgz:Obj:=go (t 45) "parts" "parts"
noncomputable def zgA:Obj:=co #[(vs "parts" 575),(vs "parts" 576),(vs "/claim/cut.py" 577),(vi 175),(vi 2),(vi 0),(vi 0),(vi 3),(vr 275),(.bool true),(vi 181),(vr 276),.none,(vr 277),(vr 278),(vr 279),(vi 582),(vi 175),(vs "/claim/cut.py" 583)]
noncomputable def zgB:Obj:=fo (t 45) "parts" "parts" (vs "bellwrite.notes" 548) 280
noncomputable def zgC:Obj:=go (t 46) "number_of_parts" "number_of_parts"
noncomputable def zgD:Obj:=co #[(vs "number_of_parts" 585),(vs "number_of_parts" 586),(vs "/claim/cut.py" 587),(vi 182),(vi 2),(vi 0),(vi 0),(vi 3),(vr 282),(.bool true),(vi 181),(vr 283),.none,.none,.none,(vr 284),(vi 588),(vi 182),(vs "/claim/cut.py" 589)]
noncomputable def zgE:Obj:=fo (t 46) "number_of_parts" "number_of_parts" (vs "bellwrite.notes" 548) 285
noncomputable def zgF:Obj:=go (t 47) "sent" "sent"
noncomputable def zgG:Obj:=co #[(vs "sent" 591),(vs "sent" 592),(vs "/claim/cut.py" 593),(vi 191),(vi 4),(vi 0),(vi 0),(vi 3),(vr 287),(.bool true),(vi 181),(vr 288),.none,.none,.none,(vr 289),(vi 594),(vi 191),(vs "/claim/cut.py" 595)]
noncomputable def zgH:Obj:=fo (t 47) "sent" "sent" (vs "bellwrite.notes" 548) 290
noncomputable def zgI:Obj:=go (t 48) "received" "received"
noncomputable def zgJ:Obj:=co #[(vs "received" 597),(vs "received" 598),(vs "/claim/cut.py" 599),(vi 199),(vi 4),(vi 0),(vi 0),(vi 3),(vr 292),(.bool true),(vi 181),(vr 293),.none,.none,.none,(vr 294),(vi 600),(vi 199),(vs "/claim/cut.py" 601)]
noncomputable def zgK:Obj:=fo (t 48) "received" "received" (vs "bellwrite.notes" 548) 295
noncomputable def zgL:Obj:=tp #[(vs "reading" 606),(vs "turns" 607),(vs "bells" 608),(vs "late" 609),(vs "heard_of" 610),(vs "messages" 611),(vs "message" 612)]
noncomputable def zgM:Obj:=go (t 49) "messages_ahead_of_end" "messages_ahead_of_end"
noncomputable def zgN:Obj:=co #[(vs "messages_ahead_of_end" 603),(vs "messages_ahead_of_end" 604),(vs "/claim/cut.py" 605),(vi 206),(vi 4),(vi 0),(vi 0),(vi 3),(vr 297),(.bool true),(vi 181),(vr 298),.none,(vr 299),(vr 300),(vr 301),(vi 613),(vi 206),(vs "/claim/cut.py" 614)]
noncomputable def zgO:Obj:=fo (t 49) "messages_ahead_of_end" "messages_ahead_of_end" (vs "bellwrite.notes" 548) 302
noncomputable def zgP:Obj:=go (t 57) "is_made_of" "is_made_of"
noncomputable def zgQ:Obj:=co #[(vs "is_made_of" 630),(vs "is_made_of" 631),(vs "/claim/cut.py" 632),(vi 221),(vi 3),(vi 0),(vi 0),(vi 3),(vr 304),(.bool true),(vi 181),(vr 305),.none,.none,.none,(vr 306),(vi 633),(vi 221),(vs "/claim/cut.py" 634)]
noncomputable def zgR:Obj:=fo (t 57) "is_made_of" "is_made_of" (vs "bellwrite.words" 616) 307
noncomputable def zgS:Obj:=tp #[(vs "word" 639)]
noncomputable def zgT:Obj:=go (t 58) "name_in" "name_in"
noncomputable def zgU:Obj:=co #[(vs "name_in" 636),(vs "name_in" 637),(vs "/claim/cut.py" 638),(vi 223),(vi 1),(vi 0),(vi 0),(vi 3),(vr 309),(.bool true),(vi 181),(vr 310),.none,(vr 311),(vr 312),(vr 313),(vi 640),(vi 223),(vs "/claim/cut.py" 641)]
noncomputable def zgV:Obj:=fo (t 58) "name_in" "name_in" (vs "bellwrite.words" 616) 314
noncomputable def zgW:Obj:=tp #[(vs "word" 646),(vs "most" 647)]
noncomputable def zgX:Obj:=go (t 59) "figures_in" "figures_in"
noncomputable def zgY:Obj:=co #[(vs "figures_in" 643),(vs "figures_in" 644),(vs "/claim/cut.py" 645),(vi 227),(vi 2),(vi 0),(vi 0),(vi 3),(vr 316),(.bool true),(vi 181),(vr 317),.none,(vr 318),(vr 319),(vr 320),(vi 648),(vi 227),(vs "/claim/cut.py" 649)]
noncomputable def zgZ:Obj:=fo (t 59) "figures_in" "figures_in" (vs "bellwrite.words" 616) 321
noncomputable def zg0:Obj:=tp #[(vs "word" 654)]
noncomputable def zg1:Obj:=go (t 60) "number_in" "number_in"
noncomputable def zg2:Obj:=co #[(vs "number_in" 651),(vs "number_in" 652),(vs "/claim/cut.py" 653),(vi 231),(vi 1),(vi 0),(vi 0),(vi 3),(vr 323),(.bool true),(vi 181),(vr 324),.none,(vr 325),(vr 326),(vr 327),(vi 655),(vi 231),(vs "/claim/cut.py" 656)]
noncomputable def zg3:Obj:=fo (t 60) "number_in" "number_in" (vs "bellwrite.words" 616) 328
noncomputable def zg4:Obj:=tp #[(vs "word" 661)]
noncomputable def zg5:Obj:=go (t 61) "message_in" "message_in"
noncomputable def zg6:Obj:=co #[(vs "message_in" 658),(vs "message_in" 659),(vs "/claim/cut.py" 660),(vi 233),(vi 1),(vi 0),(vi 0),(vi 3),(vr 330),(.bool true),(vi 181),(vr 331),.none,(vr 332),(vr 333),(vr 334),(vi 662),(vi 233),(vs "/claim/cut.py" 663)]
noncomputable def zg7:Obj:=fo (t 61) "message_in" "message_in" (vs "bellwrite.words" 616) 335
noncomputable def zg8:Obj:=tp #[(vs "word" 668),(vs "bells" 669)]
noncomputable def zg9:Obj:=go (t 62) "bells_in" "bells_in"
noncomputable def zha:Obj:=co #[(vs "bells_in" 665),(vs "bells_in" 666),(vs "/claim/cut.py" 667),(vi 235),(vi 1),(vi 0),(vi 0),(vi 3),(vr 337),(.bool true),(vi 181),(vr 338),.none,(vr 339),(vr 340),(vr 341),(vi 670),(vi 235),(vs "/claim/cut.py" 671)]
noncomputable def zhb:Obj:=fo (t 62) "bells_in" "bells_in" (vs "bellwrite.words" 616) 342
noncomputable def zhc:Obj:=go (t 63) "turns_in" "turns_in"
noncomputable def o200:Obj:=co #[(vs "turns_in" 673),(vs "turns_in" 674),(vs "/claim/cut.py" 675),(vi 240),(vi 1),(vi 0),(vi 0),(vi 3),(vr 344),(.bool true),(vi 181),(vr 345),.none,.none,.none,(vr 346),(vi 676),(vi 240),(vs "/claim/cut.py" 677)]
noncomputable def zhd:Obj:=fo (t 63) "turns_in" "turns_in" (vs "bellwrite.words" 616) 347
noncomputable def zhe:Obj:=tp #[(vs "number" 682)]
noncomputable def zhf:Obj:=go (t 64) "number_told" "number_told"
noncomputable def zhg:Obj:=co #[(vs "number_told" 679),(vs "number_told" 680),(vs "/claim/cut.py" 681),(vi 248),(vi 1),(vi 0),(vi 0),(vi 3),(vr 349),(.bool true),(vi 181),(vr 350),.none,(vr 351),(vr 352),(vr 353),(vi 683),(vi 248),(vs "/claim/cut.py" 684)]
noncomputable def zhh:Obj:=fo (t 64) "number_told" "number_told" (vs "bellwrite.words" 616) 354
noncomputable def zhi:Obj:=go (t 65) "turns_told" "turns_told"
noncomputable def zhj:Obj:=co #[(vs "turns_told" 686),(vs "turns_told" 687),(vs "/claim/cut.py" 688),(vi 250),(vi 1),(vi 0),(vi 0),(vi 3),(vr 356),(.bool true),(vi 181),(vr 357),.none,.none,.none,(vr 358),(vi 689),(vi 250),(vs "/claim/cut.py" 690)]
noncomputable def zhk:Obj:=fo (t 65) "turns_told" "turns_told" (vs "bellwrite.words" 616) 359
noncomputable def zhl (P:Params):Obj:=⟨(vy "dict"),none,(.dict #[e P "__module__" 701 (vs "bellwrite.desk" 692),e P "__qualname__" 703 (vs "Frame" 702),e P "__firstlineno__" 705 (.int 253 704),e P "__init__" 715 (vr 374),e P "__static_attributes__" 719 (vr 375)] 5),#[]⟩
noncomputable def zhm:Obj:=⟨.none,none,(.fields #[(vi 255),(vi 4),(vr 373)]),#[]⟩
noncomputable def zhn:Obj:=co #[(vs "Frame" 696),(vs "Frame" 697),(vs "/claim/cut.py" 698),(vi 253),(vi 0),(vi 0),(vi 0),(vi 0),(vr 364),(.bool false),(vi 181),(vr 365),.none,.none,.none,.none,(vi 699),(vi 253),(vs "/claim/cut.py" 700)]
noncomputable def zho:Obj:=⟨(vy "frame"),none,.plain,#[(some (vr 366)),(some (vr 3)),(some (vr 363)),none,(some (vs "bellwrite.desk" 692)),none,(some (vr 0))]⟩
noncomputable def zhp:Obj:=tp #[(vs "self" 709),(vs "turns" 710),(vs "bells" 711),(vs "late" 712)]
noncomputable def zhq:Obj:=go (u 67 0) "__init__" "Frame.__init__"
noncomputable def zhr:Obj:=co #[(vs "__init__" 706),(vs "Frame.__init__" 707),(vs "/claim/cut.py" 708),(vi 255),(vi 4),(vi 0),(vi 0),(vi 3),(vr 368),(.bool true),(vi 181),(vr 369),.none,(vr 370),(vr 371),(vr 372),(vi 713),(vi 255),(vs "/claim/cut.py" 714)]
noncomputable def zhs:Obj:=fo (u 67 0) "__init__" "Frame.__init__" (vs "bellwrite.desk" 692) 373
noncomputable def zht:Obj:=tp #[(vs "bells" 716),(vs "late" 717),(vs "turns" 718)]
noncomputable def zhu (P:Params):Obj:=⟨(vy "dict"),none,(.dict #[e P "__module__" 701 (vs "bellwrite.desk" 692),e P "__firstlineno__" 705 (.int 253 704),e P "__init__" 715 (vr 374),e P "__static_attributes__" 719 (vr 375),e P "__dict__" 721 (vr 378),e P "__weakref__" 723 (vr 379),e P "__doc__" 724 .none] 4),#[]⟩
noncomputable def zhv:Obj:=⟨(vy "type"),none,(.cls ⟨"Frame",[(vy "object")],[(vr 377),(vy "object")],376,"Frame",true,[],[],false,none,false⟩),#[none,none,(some (vs "Frame" 694)),(some (vs "Frame" 702)),(some (vb "object.__new__")),(some (.bool true))]⟩
noncomputable def zhw:Obj:=⟨(vy "getset_descriptor"),none,(.fields #[(vs "__dict__" 720),(vr 377),(vb "function.__dict__"),(vb "function.__dict__#set")]),#[]⟩
noncomputable def zhx:Obj:=⟨(vy "getset_descriptor"),none,(.fields #[(vs "__weakref__" 722),(vr 377),(vb "ExceptionGroup.__weakref__"),.none]),#[]⟩
noncomputable def zhy:Obj:=⟨(vy "super"),none,(.fields #[(vr 377),(vr 377),(vr 377)]),#[]⟩
noncomputable def zhz:Obj:=⟨(vy "builtin_function_or_method"),none,(.fields #[(vb "object.__init_subclass__"),(vr 377)]),#[]⟩
noncomputable def zhA (P:Params):Obj:=⟨(vy "dict"),none,(.dict #[e P "__module__" 734 (vs "bellwrite.desk" 692),e P "__qualname__" 736 (vs "Desk" 735),e P "__firstlineno__" 738 (.int 259 737),e P "__init__" 745 (vr 395),e P "told" 754 (vr 402),e P "keep" 765 (vr 409),e P "ring" 776 (vr 416),e P "listen" 787 (vr 423),e P "send_note" 796 (vr 430),e P "kept" 804 (vr 437),e P "__static_attributes__" 806 (vr 438)] 11),#[]⟩
noncomputable def zhB:Obj:=⟨.none,none,(.fields #[(vi 261),(vi 4),(vr 394),(vi 264),(vi 4),(vr 401),(vi 278),(vi 4),(vr 408),(vi 285),(vi 4),(vr 415),(vi 293),(vi 4),(vr 422),(vi 303),(vi 4),(vr 429),(vi 307),(vi 4),(vr 436)]),#[]⟩
noncomputable def zhC:Obj:=co #[(vs "Desk" 729),(vs "Desk" 730),(vs "/claim/cut.py" 731),(vi 259),(vi 0),(vi 0),(vi 0),(vi 0),(vr 385),(.bool false),(vi 181),(vr 386),.none,.none,.none,.none,(vi 732),(vi 259),(vs "/claim/cut.py" 733)]
noncomputable def zhD:Obj:=⟨(vy "frame"),none,.plain,#[(some (vr 387)),(some (vr 3)),(some (vr 384)),none,(some (vs "bellwrite.desk" 692)),none,(some (vr 0))]⟩
noncomputable def zhE:Obj:=tp #[(vs "self" 742)]
noncomputable def zhF:Obj:=go (u 68 0) "__init__" "Desk.__init__"
noncomputable def zhG:Obj:=co #[(vs "__init__" 739),(vs "Desk.__init__" 740),(vs "/claim/cut.py" 741),(vi 261),(vi 1),(vi 0),(vi 0),(vi 3),(vr 389),(.bool true),(vi 181),(vr 390),.none,(vr 391),(vr 392),(vr 393),(vi 743),(vi 261),(vs "/claim/cut.py" 744)]
noncomputable def zhH:Obj:=fo (u 68 0) "__init__" "Desk.__init__" (vs "bellwrite.desk" 692) 394
noncomputable def zhI:Obj:=tp #[(vs "self" 749),(vs "order" 750),(vs "words" 751)]
noncomputable def zhJ:Obj:=go (u 68 1) "told" "Desk.told"
noncomputable def zhK:Obj:=co #[(vs "told" 746),(vs "Desk.told" 747),(vs "/claim/cut.py" 748),(vi 264),(vi 2),(vi 0),(vi 0),(vi 3),(vr 396),(.bool true),(vi 181),(vr 397),.none,(vr 398),(vr 399),(vr 400),(vi 752),(vi 264),(vs "/claim/cut.py" 753)]
noncomputable def zhL:Obj:=fo (u 68 1) "told" "Desk.told" (vs "bellwrite.desk" 692) 401
noncomputable def zhM:Obj:=tp #[(vs "self" 758),(vs "words" 759),(vs "name" 760),(vs "frame" 761),(vs "count" 762)]
noncomputable def zhN:Obj:=go (u 68 2) "keep" "Desk.keep"
noncomputable def zhO:Obj:=co #[(vs "keep" 755),(vs "Desk.keep" 756),(vs "/claim/cut.py" 757),(vi 278),(vi 2),(vi 0),(vi 0),(vi 3),(vr 403),(.bool true),(vi 181),(vr 404),.none,(vr 405),(vr 406),(vr 407),(vi 763),(vi 278),(vs "/claim/cut.py" 764)]
noncomputable def zhP:Obj:=fo (u 68 2) "keep" "Desk.keep" (vs "bellwrite.desk" 692) 408
noncomputable def zhQ:Obj:=tp #[(vs "self" 769),(vs "words" 770),(vs "name" 771),(vs "message" 772),(vs "frame" 773)]
noncomputable def zhR:Obj:=go (u 68 3) "ring" "Desk.ring"
noncomputable def zhS:Obj:=co #[(vs "ring" 766),(vs "Desk.ring" 767),(vs "/claim/cut.py" 768),(vi 285),(vi 2),(vi 0),(vi 0),(vi 3),(vr 410),(.bool true),(vi 181),(vr 411),.none,(vr 412),(vr 413),(vr 414),(vi 774),(vi 285),(vs "/claim/cut.py" 775)]
noncomputable def zhT:Obj:=fo (u 68 3) "ring" "Desk.ring" (vs "bellwrite.desk" 692) 415
noncomputable def zhU:Obj:=tp #[(vs "self" 780),(vs "words" 781),(vs "name" 782),(vs "reading" 783),(vs "frame" 784)]
noncomputable def zhV:Obj:=go (u 68 4) "listen" "Desk.listen"
noncomputable def zhW:Obj:=co #[(vs "listen" 777),(vs "Desk.listen" 778),(vs "/claim/cut.py" 779),(vi 293),(vi 2),(vi 0),(vi 0),(vi 3),(vr 417),(.bool true),(vi 181),(vr 418),.none,(vr 419),(vr 420),(vr 421),(vi 785),(vi 293),(vs "/claim/cut.py" 786)]
noncomputable def zhX:Obj:=fo (u 68 4) "listen" "Desk.listen" (vs "bellwrite.desk" 692) 422
noncomputable def zhY:Obj:=tp #[(vs "self" 791),(vs "words" 792),(vs "frame" 793)]
noncomputable def zhZ:Obj:=go (u 68 5) "send_note" "Desk.send_note"
noncomputable def zh0:Obj:=co #[(vs "send_note" 788),(vs "Desk.send_note" 789),(vs "/claim/cut.py" 790),(vi 303),(vi 2),(vi 0),(vi 0),(vi 3),(vr 424),(.bool true),(vi 181),(vr 425),.none,(vr 426),(vr 427),(vr 428),(vi 794),(vi 303),(vs "/claim/cut.py" 795)]
noncomputable def zh1:Obj:=fo (u 68 5) "send_note" "Desk.send_note" (vs "bellwrite.desk" 692) 429
noncomputable def zh2:Obj:=tp #[(vs "self" 800),(vs "name" 801)]
noncomputable def zh3:Obj:=go (u 68 6) "kept" "Desk.kept"
noncomputable def zh4:Obj:=co #[(vs "kept" 797),(vs "Desk.kept" 798),(vs "/claim/cut.py" 799),(vi 307),(vi 2),(vi 0),(vi 0),(vi 3),(vr 431),(.bool true),(vi 181),(vr 432),.none,(vr 433),(vr 434),(vr 435),(vi 802),(vi 307),(vs "/claim/cut.py" 803)]
noncomputable def zh5:Obj:=fo (u 68 6) "kept" "Desk.kept" (vs "bellwrite.desk" 692) 436
noncomputable def zh6:Obj:=tp #[(vs "frames" 805)]
noncomputable def zh7 (P:Params):Obj:=⟨(vy "dict"),none,(.dict #[e P "__module__" 734 (vs "bellwrite.desk" 692),e P "__firstlineno__" 738 (.int 259 737),e P "__init__" 745 (vr 395),e P "told" 754 (vr 402),e P "keep" 765 (vr 409),e P "ring" 776 (vr 416),e P "listen" 787 (vr 423),e P "send_note" 796 (vr 430),e P "kept" 804 (vr 437),e P "__static_attributes__" 806 (vr 438),e P "__dict__" 808 (vr 441),e P "__weakref__" 810 (vr 442),e P "__doc__" 811 .none] 4),#[]⟩
noncomputable def zh8:Obj:=⟨(vy "type"),none,(.cls ⟨"Desk",[(vy "object")],[(vr 440),(vy "object")],439,"Desk",true,[],[],false,none,false⟩),#[none,none,(some (vs "Desk" 727)),(some (vs "Desk" 735)),(some (vb "object.__new__")),(some (.bool true))]⟩
noncomputable def zh9:Obj:=⟨(vy "getset_descriptor"),none,(.fields #[(vs "__dict__" 807),(vr 440),(vb "function.__dict__"),(vb "function.__dict__#set")]),#[]⟩
noncomputable def zia:Obj:=⟨(vy "getset_descriptor"),none,(.fields #[(vs "__weakref__" 809),(vr 440),(vb "ExceptionGroup.__weakref__"),.none]),#[]⟩
noncomputable def zib:Obj:=⟨(vy "super"),none,(.fields #[(vr 440),(vr 440),(vr 440)]),#[]⟩
noncomputable def zic:Obj:=⟨(vy "builtin_function_or_method"),none,(.fields #[(vb "object.__init_subclass__"),(vr 440)]),#[]⟩
noncomputable def zid:Obj:=tp #[(vs "frame" 817)]
noncomputable def zie:Obj:=go (t 69) "count_of" "count_of"
noncomputable def zif:Obj:=co #[(vs "count_of" 814),(vs "count_of" 815),(vs "/claim/cut.py" 816),(vi 311),(vi 1),(vi 0),(vi 0),(vi 3),(vr 445),(.bool true),(vi 181),(vr 446),.none,(vr 447),(vr 448),(vr 449),(vi 818),(vi 311),(vs "/claim/cut.py" 819)]
noncomputable def zig:Obj:=fo (t 69) "count_of" "count_of" (vs "bellwrite.desk" 692) 450
noncomputable def zih:Obj:=tp #[(vs "reading" 824),(vs "frame" 825)]
noncomputable def zii:Obj:=go (t 70) "note_heard" "note_heard"
noncomputable def zij:Obj:=co #[(vs "note_heard" 821),(vs "note_heard" 822),(vs "/claim/cut.py" 823),(vi 313),(vi 2),(vi 0),(vi 0),(vi 3),(vr 452),(.bool true),(vi 181),(vr 453),.none,(vr 454),(vr 455),(vr 456),(vi 826),(vi 313),(vs "/claim/cut.py" 827)]
noncomputable def zik:Obj:=fo (t 70) "note_heard" "note_heard" (vs "bellwrite.desk" 692) 457
noncomputable def zil:Obj:=tp #[(vs "words" 832)]
noncomputable def zim:Obj:=go (t 71) "choice_told" "choice_told"
noncomputable def zin:Obj:=co #[(vs "choice_told" 829),(vs "choice_told" 830),(vs "/claim/cut.py" 831),(vi 317),(vi 1),(vi 0),(vi 0),(vi 3),(vr 459),(.bool true),(vi 181),(vr 460),.none,(vr 461),(vr 462),(vr 463),(vi 833),(vi 317),(vs "/claim/cut.py" 834)]
noncomputable def zio:Obj:=fo (t 71) "choice_told" "choice_told" (vs "bellwrite.desk" 692) 464
noncomputable def ziq:Obj:=tp #[(vs "words" 839),(vs "many" 840),(vs "late" 841),(vs "found" 842),(vs "cost" 843),(vs "turns" 844),(vs "bells" 845)]
noncomputable def zir:Obj:=go (t 72) "cheapest_told" "cheapest_told"
noncomputable def zis:Obj:=co #[(vs "cheapest_told" 836),(vs "cheapest_told" 837),(vs "/claim/cut.py" 838),(vi 325),(vi 1),(vi 0),(vi 0),(vi 3),(vr 466),(.bool true),(vi 181),(vr 467),.none,(vr 468),(vr 469),(vr 470),(vi 846),(vi 325),(vs "/claim/cut.py" 847)]
noncomputable def zit:Obj:=fo (t 72) "cheapest_told" "cheapest_told" (vs "bellwrite.desk" 692) 471
noncomputable def ziu:Obj:=tp #[(vs "script" 854),(vs "k" 855)]
noncomputable def ziv:Obj:=go (t 74) "_law_cell_at" "_law_cell_at"
noncomputable def ziw:Obj:=co #[(vs "_law_cell_at" 851),(vs "_law_cell_at" 852),(vs "/claim/cut.py" 853),(vi 336),(vi 2),(vi 0),(vi 0),(vi 3),(vr 473),(.bool true),(vi 181),(vr 474),.none,(vr 475),(vr 476),(vr 477),(vi 856),(vi 336),(vs "/claim/cut.py" 857)]
noncomputable def zix:Obj:=fo (t 74) "_law_cell_at" "_law_cell_at" (vs "law_bellwrite_k94_rows_at_the_desk" 849) 478
noncomputable def ziy:Obj:=tp #[(vs "cell" 862),(vs "k" 863),(vs "number" 864)]
noncomputable def ziz:Obj:=go (t 75) "_law_drawn" "_law_drawn"
noncomputable def ziA:Obj:=co #[(vs "_law_drawn" 859),(vs "_law_drawn" 860),(vs "/claim/cut.py" 861),(vi 340),(vi 2),(vi 0),(vi 0),(vi 3),(vr 480),(.bool true),(vi 181),(vr 481),.none,(vr 482),(vr 483),(vr 484),(vi 865),(vi 340),(vs "/claim/cut.py" 866)]
noncomputable def ziB:Obj:=fo (t 75) "_law_drawn" "_law_drawn" (vs "law_bellwrite_k94_rows_at_the_desk" 849) 485
noncomputable def ziC:Obj:=go (t 76) "_law_names" "_law_names"
noncomputable def ziD:Obj:=co #[(vs "_law_names" 868),(vs "_law_names" 869),(vs "/claim/cut.py" 870),(vi 344),(vi 1),(vi 0),(vi 0),(vi 3),(vr 487),(.bool true),(vi 181),(vr 488),.none,.none,.none,(vr 489),(vi 871),(vi 344),(vs "/claim/cut.py" 872)]
noncomputable def ziE:Obj:=fo (t 76) "_law_names" "_law_names" (vs "law_bellwrite_k94_rows_at_the_desk" 849) 490
noncomputable def ziF:Obj:=tp #[(vs "cell" 877),(vs "bells" 878),(vs "late" 879),(vs "steps" 880)]
noncomputable def ziG:Obj:=go (t 77) "_law_frame" "_law_frame"
noncomputable def ziH:Obj:=co #[(vs "_law_frame" 874),(vs "_law_frame" 875),(vs "/claim/cut.py" 876),(vi 348),(vi 1),(vi 0),(vi 0),(vi 3),(vr 492),(.bool true),(vi 181),(vr 493),.none,(vr 494),(vr 495),(vr 496),(vi 881),(vi 348),(vs "/claim/cut.py" 882)]
noncomputable def ziI:Obj:=fo (t 77) "_law_frame" "_law_frame" (vs "law_bellwrite_k94_rows_at_the_desk" 849) 497
noncomputable def ziJ:Obj:=tp #[(vs "e" 887),(vs "kinds" 888)]
noncomputable def ziK:Obj:=go (t 78) "_law_kind" "_law_kind"
noncomputable def ziL:Obj:=co #[(vs "_law_kind" 884),(vs "_law_kind" 885),(vs "/claim/cut.py" 886),(vi 357),(vi 1),(vi 0),(vi 0),(vi 3),(vr 499),(.bool true),(vi 181),(vr 500),.none,(vr 501),(vr 502),(vr 503),(vi 889),(vi 357),(vs "/claim/cut.py" 890)]
noncomputable def ziM:Obj:=fo (t 78) "_law_kind" "_law_kind" (vs "law_bellwrite_k94_rows_at_the_desk" 849) 504
noncomputable def ziN:Obj:=tp #[(vs "desk" 895),(vs "order" 896),(vs "caught" 897),(vs "found" 898),(vs "e" 899)]
noncomputable def ziO:Obj:=go (t 79) "_law_told" "_law_told"
noncomputable def o300:Obj:=co #[(vs "_law_told" 892),(vs "_law_told" 893),(vs "/claim/cut.py" 894),(vi 370),(vi 2),(vi 0),(vi 0),(vi 3),(vr 506),(.bool true),(vi 181),(vr 507),.none,(vr 508),(vr 509),(vr 510),(vi 900),(vi 370),(vs "/claim/cut.py" 901)]
noncomputable def ziP:Obj:=fo (t 79) "_law_told" "_law_told" (vs "law_bellwrite_k94_rows_at_the_desk" 849) 511
noncomputable def zjw (P:Params):Obj:=⟨(vy "dict"),none,(.dict #[e P "__name__" 165 (vs "law_bellwrite_k94_rows_at_the_desk" 849),e P "__doc__" 166 .none,e P "__package__" 167 .none,e P "__loader__" 168 (vb "__main__.__loader__#opaque"),e P "__spec__" 169 .none,e P "__annotations__" 170 (vr 6),e P "__builtins__" 171 (vr 4),e P "__file__" 173 (vs "/claim/cut.py" 172),e P "__cached__" 174 .none,e P "choose" 198 (vr 21),e P "top_of" 206 (vr 28),e P "top_from" 219 (vr 35),e P "above_top" 230 (vr 42),e P "rounded_up" 238 (vr 49),e P "BellError" 258 (vr 59),e P "NoRow" 274 (vr 72),e P "NoReading" 290 (vr 84),e P "TooGreat" 306 (vr 96),e P "TooMany" 322 (vr 108),e P "NoNote" 338 (vr 120),e P "NoOrder" 354 (vr 132),e P "NoName" 370 (vr 144),e P "box_of" 378 (vr 151),e P "bell_row" 384 (vr 156),e P "heard_box" 395 (vr 163),e P "box_count" 404 (vr 170),e P "greatest_part" 413 (vr 177),e P "shortest_frame" 425 (vr 184),e P "best_bells" 438 (vr 191),e P "cheapest" 455 (vr 198),e P "box_number" 463 (vr 203),e P "box_of_message" 475 (vr 210),e P "written" 485 (vr 217),e P "read" 496 (vr 224),e P "keyed_count" 507 (vr 231),e P "keyed" 513 (vr 236),e P "unkeyed" 519 (vr 241),e P "refuse_silent" 529 (vr 248),e P "rung" 535 (vr 253),e P "by_messages" 547 (vr 260),e P "SIGNS" 551 (vs "abcdefghijklmnopqrstuvwxyz " 550),e P "MOST_SIGNS" 553 (.int 60 552),e P "LEAST_COUNT" 555 (.int 3 554),e P "note_number" 565 (vr 267),e P "note_of" 574 (vr 274),e P "parts" 584 (vr 281),e P "number_of_parts" 590 (vr 286),e P "sent" 596 (vr 291),e P "received" 602 (vr 296),e P "messages_ahead_of_end" 615 (vr 303),e P "LETTERS" 619 (vs "abcdefghijklmnopqrstuvwxyz" 618),e P "MOST_LETTERS" 621 (.int 8 620),e P "FIGURES" 623 (vs "0123456789" 622),e P "MOST_FIGURES" 625 (.int 60 624),e P "MOST_FIGURES_OF_MESSAGE" 627 (.int 3000 626),e P "MOST_BELLS" 629 (.int 60 628),e P "is_made_of" 635 (vr 308),e P "name_in" 642 (vr 315),e P "figures_in" 650 (vr 322),e P "number_in" 657 (vr 329),e P "message_in" 664 (vr 336),e P "bells_in" 672 (vr 343),e P "turns_in" 678 (vr 348),e P "number_told" 685 (vr 355),e P "turns_told" 691 (vr 360),e P "Frame" 726 (vr 377),e P "Desk" 813 (vr 440),e P "count_of" 820 (vr 451),e P "note_heard" 828 (vr 458),e P "choice_told" 835 (vr 465),e P "cheapest_told" 848 (vr 472),e P "_law_cell_at" 858 (vr 479),e P "_law_drawn" 867 (vr 486),e P "_law_names" 873 (vr 491),e P "_law_frame" 883 (vr 498),e P "_law_kind" 891 (vr 505),e P "_law_told" 902 (vr 512),e P "_law_stage" 914 (vr 519),e P "_law_words" 920 (vr 524),e P "_law_due" 932 (vr 531),e P "_law_count" 940 (vr 538),e P "_law_message" 950 (vr 545),e P "_law_reading" 956 (vr 550),e P "_law_order" 962 (vr 555),e P "law" 975 (vr 562)] 85),#[]⟩
noncomputable def zjx:Obj:=⟨.none,none,(.fields #[(vi 2),(vi 0),(vr 20),(vi 9),(vi 0),(vr 27),(vi 11),(vi 0),(vr 34),(vi 20),(vi 0),(vr 41),(vi 26),(vi 0),(vr 48),(vi 29),(vi 0),(vr 55),(vi 31),(vi 0),(vr 68),(vi 33),(vi 0),(vr 80),(vi 35),(vi 0),(vr 92),(vi 37),(vi 0),(vr 104),(vi 39),(vi 0),(vr 116),(vi 41),(vi 0),(vr 128),(vi 43),(vi 0),(vr 140),(vi 46),(vi 0),(vr 150),(vi 48),(vi 0),(vr 155),(vi 50),(vi 0),(vr 162),(vi 58),(vi 0),(vr 169),(vi 62),(vi 0),(vr 176),(vi 65),(vi 0),(vr 183),(vi 72),(vi 0),(vr 190),(vi 82),(vi 0),(vr 197),(vi 92),(vi 0),(vr 202),(vi 94),(vi 0),(vr 209),(vi 105),(vi 0),(vr 216),(vi 109),(vi 0),(vr 223),(vi 117),(vi 0),(vr 230),(vi 121),(vi 0),(vr 235),(vi 126),(vi 0),(vr 240),(vi 133),(vi 0),(vr 247),(vi 136),(vi 0),(vr 252),(vi 143),(vi 0),(vr 259),(vi 153),(vi 0),(vr 266),(vi 163),(vi 0),(vr 273),(vi 175),(vi 0),(vr 280),(vi 182),(vi 0),(vr 285),(vi 191),(vi 0),(vr 290),(vi 199),(vi 0),(vr 295),(vi 206),(vi 0),(vr 302),(vi 221),(vi 0),(vr 307),(vi 223),(vi 0),(vr 314),(vi 227),(vi 0),(vr 321),(vi 231),(vi 0),(vr 328),(vi 233),(vi 0),(vr 335),(vi 235),(vi 0),(vr 342),(vi 240),(vi 0),(vr 347),(vi 248),(vi 0),(vr 354),(vi 250),(vi 0),(vr 359),(vi 253),(vi 0),(vr 366),(vi 259),(vi 0),(vr 387),(vi 311),(vi 0),(vr 450),(vi 313),(vi 0),(vr 457),(vi 317),(vi 0),(vr 464),(vi 325),(vi 0),(vr 471),(vi 336),(vi 0),(vr 478),(vi 340),(vi 0),(vr 485),(vi 344),(vi 0),(vr 490),(vi 348),(vi 0),(vr 497),(vi 357),(vi 0),(vr 504),(vi 370),(vi 0),(vr 511),(vi 382),(vi 0),(vr 518),(vi 391),(vi 0),(vr 523),(vi 393),(vi 0),(vr 530),(vi 405),(vi 0),(vr 537),(vi 409),(vi 0),(vr 544),(vi 417),(vi 0),(vr 549),(vi 438),(vi 0),(vr 554),(vi 454),(vi 0),(vr 561)]),#[]⟩
noncomputable def zjy:Obj:=tp #[(vs "head" 906),(vs "rest" 907),(vs "frame" 908),(vs "turns" 909),(vs "bells" 910),(vs "late" 911)]
noncomputable def zjz:Obj:=go (t 80) "_law_stage" "_law_stage"
noncomputable def zjA:Obj:=co #[(vs "_law_stage" 903),(vs "_law_stage" 904),(vs "/claim/cut.py" 905),(vi 382),(vi 3),(vi 0),(vi 0),(vi 3),(vr 513),(.bool true),(vi 181),(vr 514),.none,(vr 515),(vr 516),(vr 517),(vi 912),(vi 382),(vs "/claim/cut.py" 913)]
noncomputable def zjB:Obj:=fo (t 80) "_law_stage" "_law_stage" (vs "law_bellwrite_k94_rows_at_the_desk" 849) 518
noncomputable def zjC:Obj:=go (t 81) "_law_words" "_law_words"
noncomputable def zjD:Obj:=co #[(vs "_law_words" 915),(vs "_law_words" 916),(vs "/claim/cut.py" 917),(vi 391),(vi 1),(vi 0),(vi 0),(vi 3),(vr 520),(.bool true),(vi 181),(vr 521),.none,.none,.none,(vr 522),(vi 918),(vi 391),(vs "/claim/cut.py" 919)]
noncomputable def zjE:Obj:=fo (t 81) "_law_words" "_law_words" (vs "law_bellwrite_k94_rows_at_the_desk" 849) 523
noncomputable def zjF:Obj:=tp #[(vs "head" 924),(vs "rest" 925),(vs "frame" 926),(vs "caught" 927),(vs "found" 928),(vs "e" 929)]
noncomputable def zjG:Obj:=go (t 82) "_law_due" "_law_due"
noncomputable def zjH:Obj:=co #[(vs "_law_due" 921),(vs "_law_due" 922),(vs "/claim/cut.py" 923),(vi 393),(vi 3),(vi 0),(vi 0),(vi 3),(vr 525),(.bool true),(vi 181),(vr 526),.none,(vr 527),(vr 528),(vr 529),(vi 930),(vi 393),(vs "/claim/cut.py" 931)]
noncomputable def zjI:Obj:=fo (t 82) "_law_due" "_law_due" (vs "law_bellwrite_k94_rows_at_the_desk" 849) 530
noncomputable def zjJ:Obj:=tp #[(vs "head" 936),(vs "frame" 937)]
noncomputable def zjK:Obj:=go (t 83) "_law_count" "_law_count"
noncomputable def zjL:Obj:=co #[(vs "_law_count" 933),(vs "_law_count" 934),(vs "/claim/cut.py" 935),(vi 405),(vi 2),(vi 0),(vi 0),(vi 3),(vr 532),(.bool true),(vi 181),(vr 533),.none,(vr 534),(vr 535),(vr 536),(vi 938),(vi 405),(vs "/claim/cut.py" 939)]
noncomputable def zjM:Obj:=fo (t 83) "_law_count" "_law_count" (vs "law_bellwrite_k94_rows_at_the_desk" 849) 537
noncomputable def zjN:Obj:=tp #[(vs "cell" 944),(vs "count" 945),(vs "number" 946),(vs "way" 947)]
noncomputable def zjO:Obj:=go (t 84) "_law_message" "_law_message"
noncomputable def zjP:Obj:=co #[(vs "_law_message" 941),(vs "_law_message" 942),(vs "/claim/cut.py" 943),(vi 409),(vi 2),(vi 0),(vi 0),(vi 3),(vr 539),(.bool true),(vi 181),(vr 540),.none,(vr 541),(vr 542),(vr 543),(vi 948),(vi 409),(vs "/claim/cut.py" 949)]
noncomputable def zjQ:Obj:=fo (t 84) "_law_message" "_law_message" (vs "law_bellwrite_k94_rows_at_the_desk" 849) 544
noncomputable def zjR:Obj:=go (t 85) "_law_reading" "_law_reading"
noncomputable def zjS:Obj:=co #[(vs "_law_reading" 951),(vs "_law_reading" 952),(vs "/claim/cut.py" 953),(vi 417),(vi 3),(vi 0),(vi 0),(vi 3),(vr 546),(.bool true),(vi 181),(vr 547),.none,.none,.none,(vr 548),(vi 954),(vi 417),(vs "/claim/cut.py" 955)]
noncomputable def zjT:Obj:=fo (t 85) "_law_reading" "_law_reading" (vs "law_bellwrite_k94_rows_at_the_desk" 849) 549
noncomputable def zjU:Obj:=go (t 86) "_law_order" "_law_order"
noncomputable def zjV:Obj:=co #[(vs "_law_order" 957),(vs "_law_order" 958),(vs "/claim/cut.py" 959),(vi 438),(vi 4),(vi 0),(vi 0),(vi 3),(vr 551),(.bool true),(vi 181),(vr 552),.none,.none,.none,(vr 553),(vi 960),(vi 438),(vs "/claim/cut.py" 961)]
noncomputable def zjW:Obj:=fo (t 86) "_law_order" "_law_order" (vs "law_bellwrite_k94_rows_at_the_desk" 849) 554
noncomputable def zjX:Obj:=tp #[(vs "script" 966),(vs "desks" 967),(vs "frames" 968),(vs "names" 969),(vs "cell" 970),(vs "at" 971),(vs "name" 972)]
noncomputable def zjY:Obj:=go (t 87) "law" "law"
noncomputable def zjZ:Obj:=co #[(vs "law" 963),(vs "law" 964),(vs "/claim/cut.py" 965),(vi 454),(vi 1),(vi 0),(vi 0),(vi 3),(vr 556),(.bool true),(vi 181),(vr 557),.none,(vr 558),(vr 559),(vr 560),(vi 973),(vi 454),(vs "/claim/cut.py" 974)]
noncomputable def zj0:Obj:=fo (t 87) "law" "law" (vs "law_bellwrite_k94_rows_at_the_desk" 849) 561
noncomputable def hA (P:Params):Heap:=⟨#[boot_o_0 P,boot_o_1 P,boot_o_2 P,boot_o_3 P,boot_o_4 P,boot_o_5 P,boot_o_6 P,boot_o_7 P,boot_o_8 P,boot_o_9 P,boot_o_10 P,boot_o_7 P,boot_o_8 P,o1,o2],lf⟩
noncomputable def tr0 (P:Params):BT:=(n (boot_o_0 P) (n (boot_o_1 P) (n (boot_o_3 P) (n (boot_o_7 P) z z) (n (boot_o_7 P) z z)) (n (boot_o_5 P) (n (boot_o_9 P) z z) (n o1 z z))) (n (boot_o_2 P) (n (boot_o_4 P) (n (boot_o_8 P) z z) (n (boot_o_8 P) z z)) (n (boot_o_6 P) (n (boot_o_10 P) z z) (n o2 z z))))
noncomputable def tr1 (P:Params):BT:=(n (boot_o_0 P) (n (boot_o_1 P) (n (o3 P) (n (boot_o_7 P) (n (boot_o_7 P) (n o13 (n o35 (n (boot_o_8 P) (n (boot_o_8 P) (n o300 z z) z) (n o26 z z)) (n zfM (n (boot_o_7 P) z z) (n zid z z))) (n (o53 P) (n o91 (n (boot_o_7 P) z z) (n zhS z z)) (n zf3 (n zhe z z) (n zix z z)))) (n o22 (n (boot_o_8 P) (n (o81 P) (n (boot_o_7 P) z z) (n (boot_o_7 P) z z)) (n (boot_o_7 P) (n zg6 z z) (n zim z z))) (n o35 (n o100 (n zgO z z) (n (boot_o_7 P) z z)) (n zgc (n zho z z) (n (boot_o_7 P) z z))))) (n (boot_o_8 P) (n (boot_o_7 P) (n (o39 P) (n o35 (n zgq z z) (n zhE z z)) (n (boot_o_7 P) (n zg1 z z) (n (boot_o_7 P) z z))) (n (boot_o_8 P) (n (boot_o_7 P) (n zgJ z z) (n zhX z z)) (n zf8 (n zhj z z) (n (boot_o_7 P) z z)))) (n o28 (n o35 (n o87 (n zgz z z) (n zhN z z)) (n zfY (n zhb z z) (n zis z z))) (n (o67 P) (n zfH (n zgS z z) (n (zh7 P) z z)) (n zgh (n zht z z) (n ziK z z)))))) (n (boot_o_7 P) (n o6 (n o16 (n (boot_o_8 P) (n (o74 P) (n zgo z z) (n zhC z z)) (n (boot_o_7 P) (n (boot_o_7 P) z z) (n zig z z))) (n o35 (n o94 (n zgH z z) (n zhU z z)) (n zf5 (n zhh z z) (n (boot_o_7 P) z z)))) (n o26 (n (o46 P) (n (boot_o_7 P) (n (boot_o_7 P) z z) (n (boot_o_7 P) z z)) (n (boot_o_7 P) (n zg8 z z) (n (boot_o_8 P) z z))) (n (boot_o_8 P) (n (boot_o_8 P) (n zgQ z z) (n zh3 z z)) (n (boot_o_8 P) (n (boot_o_7 P) z z) (n (boot_o_7 P) z z))))) (n o11 (n (boot_o_7 P) (n o35 (n (boot_o_8 P) (n zgt z z) (n zhH z z)) (n zfS (n (boot_o_8 P) z z) (n (boot_o_7 P) z z))) (n (o60 P) (n (boot_o_7 P) (n zgL z z) (n (boot_o_7 P) z z)) (n zga (n (zhl P) z z) (n ziE z z)))) (n o31 (n (boot_o_8 P) (n o89 (n (boot_o_8 P) z z) (n (boot_o_8 P) z z)) (n (boot_o_8 P) (n o200 z z) (n ziu z z))) (n o35 (n zfJ (n zgV z z) (n zib z z)) (n zgj (n zhx z z) (n (boot_o_8 P) z z))))))) (n (boot_o_5 P) (n (boot_o_9 P) (n o5 (n o14 (n (o36 P) (n o73 (n (boot_o_7 P) z z) (n (boot_o_7 P) z z)) (n (boot_o_8 P) (n zgY z z) (n zie z z))) (n o55 (n o92 (n zgF z z) (n (boot_o_7 P) z z)) (n (boot_o_7 P) (n zhf z z) (n (boot_o_8 P) z z)))) (n o24 (n o45 (n o83 (n zgw z z) (n zhK z z)) (n zfV (n (boot_o_7 P) z z) (n zio z z))) (n (o64 P) (n zfE (n (boot_o_8 P) z z) (n zh2 z z)) (n zge (n (boot_o_8 P) z z) (n ziH z z))))) (n (boot_o_7 P) (n o19 (n o41 (n (o78 P) (n zgr z z) (n zhF z z)) (n zfQ (n zg3 z z) (n zij z z))) (n o59 (n o97 (n (boot_o_7 P) z z) (n (boot_o_8 P) z z)) (n (boot_o_8 P) (n (boot_o_7 P) z z) (n ziC z z)))) (n (boot_o_7 P) (n (o50 P) (n (boot_o_8 P) (n zgB z z) (n zhP z z)) (n zf0 (n (boot_o_8 P) z z) (n (boot_o_7 P) z z))) (n o69 (n (boot_o_7 P) (n zgT z z) (n zh9 z z)) (n (boot_o_7 P) (n zhv z z) (n ziM z z)))))) (n o1 (n o8 (n (boot_o_8 P) (n o38 (n o76 (n (boot_o_7 P) z z) (n (boot_o_7 P) z z)) (n zfO (n zg0 z z) (n (boot_o_8 P) z z))) (n (o57 P) (n (boot_o_8 P) (n (boot_o_8 P) z z) (n zhV z z)) (n zf6 (n (boot_o_8 P) z z) (n ziA z z)))) (n (boot_o_7 P) (n o48 (n o85 (n zgy z z) (n zhM z z)) (n zfX (n zg9 z z) (n (boot_o_7 P) z z))) (n o66 (n (boot_o_7 P) (n (boot_o_7 P) z z) (n zh5 z z)) (n (boot_o_7 P) (n zhr z z) (n ziJ z z))))) (n (boot_o_7 P) (n o21 (n (o43 P) (n o80 (n (boot_o_8 P) z z) (n (boot_o_8 P) z z)) (n (boot_o_8 P) (n (boot_o_7 P) z z) (n zil z z))) (n o62 (n o99 (n zgM z z) (n zh0 z z)) (n (boot_o_7 P) (n zhm z z) (n (boot_o_8 P) z z)))) (n o33 (n o52 (n (boot_o_7 P) (n zgD z z) (n (boot_o_7 P) z z)) (n (boot_o_7 P) (n (boot_o_7 P) z z) (n ziv z z))) (n (o71 P) (n zfK (n (boot_o_8 P) z z) (n (boot_o_7 P) z z)) (n zgl (n zhz z z) (n (boot_o_7 P) z z)))))))) (n (boot_o_2 P) (n (boot_o_4 P) (n (boot_o_8 P) (n (boot_o_8 P) (n (boot_o_7 P) (n o26 (n o72 (n zgm (n ziP z z) z) (n (zhA P) z z)) (n (boot_o_7 P) (n zgX z z) (n (boot_o_7 P) z z))) (n o54 (n (boot_o_7 P) (n (boot_o_8 P) z z) (n zhT z z)) (n zf4 (n (boot_o_7 P) z z) (n (boot_o_7 P) z z)))) (n o23 (n o44 (n o82 (n zgv z z) (n zhJ z z)) (n zfU (n zg7 z z) (n zin z z))) (n o26 (n zfD (n (boot_o_7 P) z z) (n (boot_o_8 P) z z)) (n zgd (n (boot_o_7 P) z z) (n ziG z z))))) (n o9 (n o18 (n o40 (n o26 (n (boot_o_7 P) z z) (n (boot_o_7 P) z z)) (n (boot_o_8 P) (n zg2 z z) (n zii z z))) (n o58 (n o96 (n zgK z z) (n (boot_o_7 P) z z)) (n (boot_o_7 P) (n zhk z z) (n (boot_o_8 P) z z)))) (n o29 (n o26 (n (boot_o_7 P) (n zgA z z) (n zhO z z)) (n zfZ (n (boot_o_7 P) z z) (n zit z z))) (n o68 (n zfI (n (boot_o_7 P) z z) (n zh8 z z)) (n zgi (n (zhu P) z z) (n ziL z z)))))) (n o4 (n o7 (n (boot_o_7 P) (n o37 (n o75 (n zgp z z) (n zhD z z)) (n zfN (n (boot_o_8 P) z z) (n (boot_o_7 P) z z))) (n o26 (n (boot_o_7 P) (n (boot_o_7 P) z z) (n (boot_o_7 P) z z)) (n (boot_o_7 P) (n (boot_o_7 P) z z) (n ziz z z)))) (n (o27 P) (n o47 (n (boot_o_8 P) (n (boot_o_8 P) z z) (n (boot_o_8 P) z z)) (n (boot_o_8 P) (n (boot_o_7 P) z z) (n ziq z z))) (n o65 (n zfF (n zgR z z) (n zh4 z z)) (n zgf (n zhq z z) (n (boot_o_8 P) z z))))) (n o12 (n (boot_o_8 P) (n o26 (n o79 (n (boot_o_7 P) z z) (n (boot_o_7 P) z z)) (n (boot_o_7 P) (n zg4 z z) (n (boot_o_8 P) z z))) (n o61 (n (boot_o_8 P) (n (boot_o_7 P) z z) (n zhZ z z)) (n zgb (n (boot_o_7 P) z z) (n (boot_o_7 P) z z)))) (n o32 (n o51 (n o90 (n zgC z z) (n zhQ z z)) (n zf1 (n zhd z z) (n (boot_o_7 P) z z))) (n o26 (n (boot_o_7 P) (n (boot_o_7 P) z z) (n zic z z)) (n zgk (n zhy z z) (n ziN z z))))))) (n (boot_o_6 P) (n (boot_o_10 P) (n (boot_o_7 P) (n o15 (n (boot_o_7 P) (n (boot_o_7 P) (n zgn z z) (n zhB z z)) (n o111 (n zgZ z z) (n zif z z))) (n o56 (n o93 (n zgG z z) (n (boot_o_8 P) z z)) (n (boot_o_8 P) (n zhg z z) (n ziy z z)))) (n o25 (n (boot_o_7 P) (n o84 (n zgx z z) (n zhL z z)) (n zfW (n (boot_o_8 P) z z) (n (boot_o_7 P) z z))) (n (boot_o_7 P) (n (boot_o_7 P) (n zgP z z) (n (boot_o_7 P) z z)) (n (boot_o_7 P) (n zhp z z) (n ziI z z))))) (n o10 (n o20 (n o42 (n (boot_o_7 P) (n zgs z z) (n zhG z z)) (n zfR (n (boot_o_7 P) z z) (n zik z z))) (n (boot_o_7 P) (n o98 (n (boot_o_8 P) z z) (n zhY z z)) (n zf9 (n o26 z z) (n ziD z z)))) (n (o30 P) (n (boot_o_7 P) (n o88 (n (boot_o_7 P) z z) (n (boot_o_7 P) z z)) (n (boot_o_7 P) (n zhc z z) (n (boot_o_8 P) z z))) (n o70 (n (boot_o_8 P) (n zgU z z) (n zia z z)) (n (boot_o_8 P) (n zhw z z) (n (boot_o_7 P) z z)))))) (n o2 (n (boot_o_7 P) (n o17 (n (boot_o_7 P) (n o77 (n (boot_o_8 P) z z) (n (boot_o_8 P) z z)) (n zfP (n (boot_o_7 P) z z) (n zih z z))) (n (boot_o_7 P) (n o95 (n zgI z z) (n zhW z z)) (n zf7 (n zhi z z) (n ziB z z)))) (n (boot_o_8 P) (n o49 (n o86 (n (boot_o_7 P) z z) (n (boot_o_7 P) z z)) (n (boot_o_7 P) (n zha z z) (n zir z z))) (n (boot_o_7 P) (n zfG (n (boot_o_8 P) z z) (n zh6 z z)) (n zgg (n zhs z z) (n (boot_o_7 P) z z))))) (n (boot_o_8 P) (n (boot_o_7 P) (n (boot_o_7 P) (n (boot_o_7 P) (n zgu z z) (n zhI z z)) (n zfT (n zg5 z z) (n (boot_o_7 P) z z))) (n o63 (n (boot_o_7 P) (n zgN z z) (n zh1 z z)) (n (boot_o_8 P) (n zhn z z) (n ziF z z)))) (n o34 (n (boot_o_7 P) (n (boot_o_8 P) (n zgE z z) (n zhR z z)) (n zf2 (n (boot_o_8 P) z z) (n ziw z z))) (n (boot_o_7 P) (n zfL (n zgW z z) (n (boot_o_8 P) z z)) (n (boot_o_7 P) (n (boot_o_7 P) z z) (n ziO z z)))))))))
noncomputable def tr2 (P:Params):BT:=(n (boot_o_0 P) (n (boot_o_1 P) (n (zjw P) (n (boot_o_7 P) (n (boot_o_7 P) (n o13 (n o35 (n (boot_o_8 P) (n (boot_o_8 P) (n o300 z z) z) (n o26 z z)) (n zfM (n (boot_o_7 P) z z) (n zid z z))) (n (o53 P) (n o91 (n (boot_o_7 P) (n zjO z z) z) (n zhS z z)) (n zf3 (n zhe z z) (n zix z z)))) (n o22 (n (boot_o_8 P) (n (o81 P) (n (boot_o_7 P) (n zjF z z) z) (n (boot_o_7 P) z z)) (n (boot_o_7 P) (n zg6 z z) (n zim z z))) (n o35 (n o100 (n zgO (n (boot_o_7 P) z z) z) (n (boot_o_7 P) z z)) (n zgc (n zho z z) (n (boot_o_7 P) z z))))) (n (boot_o_8 P) (n (boot_o_7 P) (n (o39 P) (n o35 (n zgq (n zjB z z) z) (n zhE z z)) (n (boot_o_7 P) (n zg1 z z) (n (boot_o_7 P) z z))) (n (boot_o_8 P) (n (boot_o_7 P) (n zgJ (n (boot_o_7 P) z z) z) (n zhX z z)) (n zf8 (n zhj z z) (n (boot_o_7 P) z z)))) (n o28 (n o35 (n o87 (n zgz (n (boot_o_7 P) z z) z) (n zhN z z)) (n zfY (n zhb z z) (n zis z z))) (n (o67 P) (n zfH (n zgS z z) (n (zh7 P) z z)) (n zgh (n zht z z) (n ziK z z)))))) (n (boot_o_7 P) (n o6 (n o16 (n (boot_o_8 P) (n (o74 P) (n zgo (n zjy z z) z) (n zhC z z)) (n (boot_o_7 P) (n (boot_o_7 P) z z) (n zig z z))) (n o35 (n o94 (n zgH (n (boot_o_8 P) z z) z) (n zhU z z)) (n zf5 (n zhh z z) (n (boot_o_7 P) z z)))) (n o26 (n (o46 P) (n (boot_o_7 P) (n (boot_o_7 P) (n zjI z z) z) (n (boot_o_7 P) z z)) (n (boot_o_7 P) (n zg8 z z) (n (boot_o_8 P) z z))) (n (boot_o_8 P) (n (boot_o_8 P) (n zgQ z z) (n zh3 z z)) (n (boot_o_8 P) (n (boot_o_7 P) z z) (n (boot_o_7 P) z z))))) (n o11 (n (boot_o_7 P) (n o35 (n (boot_o_8 P) (n zgt (n zjD z z) z) (n zhH z z)) (n zfS (n (boot_o_8 P) z z) (n (boot_o_7 P) z z))) (n (o60 P) (n (boot_o_7 P) (n zgL (n zjW z z) z) (n (boot_o_7 P) z z)) (n zga (n (zhl P) z z) (n ziE z z)))) (n o31 (n (boot_o_8 P) (n o89 (n (boot_o_8 P) (n (boot_o_7 P) z z) z) (n (boot_o_8 P) z z)) (n (boot_o_8 P) (n o200 z z) (n ziu z z))) (n o35 (n zfJ (n zgV z z) (n zib z z)) (n zgj (n zhx z z) (n (boot_o_8 P) z z))))))) (n (boot_o_5 P) (n (boot_o_9 P) (n o5 (n o14 (n (o36 P) (n o73 (n (boot_o_7 P) (n (boot_o_7 P) z z) z) (n (boot_o_7 P) z z)) (n (boot_o_8 P) (n zgY z z) (n zie z z))) (n o55 (n o92 (n zgF (n zjQ z z) z) (n (boot_o_7 P) z z)) (n (boot_o_7 P) (n zhf z z) (n (boot_o_8 P) z z)))) (n o24 (n o45 (n o83 (n zgw (n zjG z z) z) (n zhK z z)) (n zfV (n (boot_o_7 P) z z) (n zio z z))) (n (o64 P) (n zfE (n (boot_o_8 P) (n zjZ z z) z) (n zh2 z z)) (n zge (n (boot_o_8 P) z z) (n ziH z z))))) (n (boot_o_7 P) (n o19 (n o41 (n (o78 P) (n zgr (n (boot_o_8 P) z z) z) (n zhF z z)) (n zfQ (n zg3 z z) (n zij z z))) (n o59 (n o97 (n (boot_o_7 P) (n zjU z z) z) (n (boot_o_8 P) z z)) (n (boot_o_8 P) (n (boot_o_7 P) z z) (n ziC z z)))) (n (boot_o_7 P) (n (o50 P) (n (boot_o_8 P) (n zgB (n zjL z z) z) (n zhP z z)) (n zf0 (n (boot_o_8 P) z z) (n (boot_o_7 P) z z))) (n o69 (n (boot_o_7 P) (n zgT z z) (n zh9 z z)) (n (boot_o_7 P) (n zhv z z) (n ziM z z)))))) (n o1 (n o8 (n (boot_o_8 P) (n o38 (n o76 (n (boot_o_7 P) (n zjz z z) z) (n (boot_o_7 P) z z)) (n zfO (n zg0 z z) (n (boot_o_8 P) z z))) (n (o57 P) (n (boot_o_8 P) (n (boot_o_8 P) (n zjS z z) z) (n zhV z z)) (n zf6 (n (boot_o_8 P) z z) (n ziA z z)))) (n (boot_o_7 P) (n o48 (n o85 (n zgy (n (boot_o_8 P) z z) z) (n zhM z z)) (n zfX (n zg9 z z) (n (boot_o_7 P) z z))) (n o66 (n (boot_o_7 P) (n (boot_o_7 P) z z) (n zh5 z z)) (n (boot_o_7 P) (n zhr z z) (n ziJ z z))))) (n (boot_o_7 P) (n o21 (n (o43 P) (n o80 (n (boot_o_8 P) (n (boot_o_7 P) z z) z) (n (boot_o_8 P) z z)) (n (boot_o_8 P) (n (boot_o_7 P) z z) (n zil z z))) (n o62 (n o99 (n zgM (n (boot_o_8 P) z z) z) (n zh0 z z)) (n (boot_o_7 P) (n zhm z z) (n (boot_o_8 P) z z)))) (n o33 (n o52 (n (boot_o_7 P) (n zgD (n zjN z z) z) (n (boot_o_7 P) z z)) (n (boot_o_7 P) (n (boot_o_7 P) z z) (n ziv z z))) (n (o71 P) (n zfK (n (boot_o_8 P) z z) (n (boot_o_7 P) z z)) (n zgl (n zhz z z) (n (boot_o_7 P) z z)))))))) (n (boot_o_2 P) (n (boot_o_4 P) (n (boot_o_8 P) (n (boot_o_8 P) (n (boot_o_7 P) (n o26 (n o72 (n zgm (n ziP z z) z) (n (zhA P) z z)) (n (boot_o_7 P) (n zgX z z) (n (boot_o_7 P) z z))) (n o54 (n (boot_o_7 P) (n (boot_o_8 P) (n zjP z z) z) (n zhT z z)) (n zf4 (n (boot_o_7 P) z z) (n (boot_o_7 P) z z)))) (n o23 (n o44 (n o82 (n zgv (n (boot_o_7 P) z z) z) (n zhJ z z)) (n zfU (n zg7 z z) (n zin z z))) (n o26 (n zfD (n (boot_o_7 P) (n zjY z z) z) (n (boot_o_8 P) z z)) (n zgd (n (boot_o_7 P) z z) (n ziG z z))))) (n o9 (n o18 (n o40 (n o26 (n (boot_o_7 P) (n (boot_o_7 P) z z) z) (n (boot_o_7 P) z z)) (n (boot_o_8 P) (n zg2 z z) (n zii z z))) (n o58 (n o96 (n zgK (n (boot_o_8 P) z z) z) (n (boot_o_7 P) z z)) (n (boot_o_7 P) (n zhk z z) (n (boot_o_8 P) z z)))) (n o29 (n o26 (n (boot_o_7 P) (n zgA (n zjK z z) z) (n zhO z z)) (n zfZ (n (boot_o_7 P) z z) (n zit z z))) (n o68 (n zfI (n (boot_o_7 P) z z) (n zh8 z z)) (n zgi (n (zhu P) z z) (n ziL z z)))))) (n zjx (n o7 (n (boot_o_7 P) (n o37 (n o75 (n zgp (n (boot_o_7 P) z z) z) (n zhD z z)) (n zfN (n (boot_o_8 P) z z) (n (boot_o_7 P) z z))) (n o26 (n (boot_o_7 P) (n (boot_o_7 P) (n zjR z z) z) (n (boot_o_7 P) z z)) (n (boot_o_7 P) (n (boot_o_7 P) z z) (n ziz z z)))) (n (o27 P) (n o47 (n (boot_o_8 P) (n (boot_o_8 P) (n (boot_o_7 P) z z) z) (n (boot_o_8 P) z z)) (n (boot_o_8 P) (n (boot_o_7 P) z z) (n ziq z z))) (n o65 (n zfF (n zgR z z) (n zh4 z z)) (n zgf (n zhq z z) (n (boot_o_8 P) z z))))) (n o12 (n (boot_o_8 P) (n o26 (n o79 (n (boot_o_7 P) (n zjE z z) z) (n (boot_o_7 P) z z)) (n (boot_o_7 P) (n zg4 z z) (n (boot_o_8 P) z z))) (n o61 (n (boot_o_8 P) (n (boot_o_7 P) (n (boot_o_7 P) z z) z) (n zhZ z z)) (n zgb (n (boot_o_7 P) z z) (n (boot_o_7 P) z z)))) (n o32 (n o51 (n o90 (n zgC (n (boot_o_8 P) z z) z) (n zhQ z z)) (n zf1 (n zhd z z) (n (boot_o_7 P) z z))) (n o26 (n (boot_o_7 P) (n (boot_o_7 P) z z) (n zic z z)) (n zgk (n zhy z z) (n ziN z z))))))) (n (boot_o_6 P) (n (boot_o_10 P) (n (boot_o_7 P) (n o15 (n (boot_o_7 P) (n (boot_o_7 P) (n zgn (n (boot_o_8 P) z z) z) (n zhB z z)) (n o111 (n zgZ z z) (n zif z z))) (n o56 (n o93 (n zgG (n (boot_o_7 P) z z) z) (n (boot_o_8 P) z z)) (n (boot_o_8 P) (n zhg z z) (n ziy z z)))) (n o25 (n (boot_o_7 P) (n o84 (n zgx (n zjH z z) z) (n zhL z z)) (n zfW (n (boot_o_8 P) z z) (n (boot_o_7 P) z z))) (n (boot_o_7 P) (n (boot_o_7 P) (n zgP (n zj0 z z) z) (n (boot_o_7 P) z z)) (n (boot_o_7 P) (n zhp z z) (n ziI z z))))) (n o10 (n o20 (n o42 (n (boot_o_7 P) (n zgs (n zjC z z) z) (n zhG z z)) (n zfR (n (boot_o_7 P) z z) (n zik z z))) (n (boot_o_7 P) (n o98 (n (boot_o_8 P) (n zjV z z) z) (n zhY z z)) (n zf9 (n o26 z z) (n ziD z z)))) (n (o30 P) (n (boot_o_7 P) (n o88 (n (boot_o_7 P) (n zjM z z) z) (n (boot_o_7 P) z z)) (n (boot_o_7 P) (n zhc z z) (n (boot_o_8 P) z z))) (n o70 (n (boot_o_8 P) (n zgU z z) (n zia z z)) (n (boot_o_8 P) (n zhw z z) (n (boot_o_7 P) z z)))))) (n o2 (n (boot_o_7 P) (n o17 (n (boot_o_7 P) (n o77 (n (boot_o_8 P) (n zjA z z) z) (n (boot_o_8 P) z z)) (n zfP (n (boot_o_7 P) z z) (n zih z z))) (n (boot_o_7 P) (n o95 (n zgI (n zjT z z) z) (n zhW z z)) (n zf7 (n zhi z z) (n ziB z z)))) (n (boot_o_8 P) (n o49 (n o86 (n (boot_o_7 P) (n zjJ z z) z) (n (boot_o_7 P) z z)) (n (boot_o_7 P) (n zha z z) (n zir z z))) (n (boot_o_7 P) (n zfG (n (boot_o_8 P) z z) (n zh6 z z)) (n zgg (n zhs z z) (n (boot_o_7 P) z z))))) (n (boot_o_8 P) (n (boot_o_7 P) (n (boot_o_7 P) (n (boot_o_7 P) (n zgu (n (boot_o_8 P) z z) z) (n zhI z z)) (n zfT (n zg5 z z) (n (boot_o_7 P) z z))) (n o63 (n (boot_o_7 P) (n zgN (n zjX z z) z) (n zh1 z z)) (n (boot_o_8 P) (n zhn z z) (n ziF z z)))) (n o34 (n (boot_o_7 P) (n (boot_o_8 P) (n zgE (n (boot_o_7 P) z z) z) (n zhR z z)) (n zf2 (n (boot_o_8 P) z z) (n ziw z z))) (n (boot_o_7 P) (n zfL (n zgW z z) (n (boot_o_8 P) z z)) (n (boot_o_7 P) (n (boot_o_7 P) z z) (n ziO z z)))))))))
noncomputable def hF (P:Params):Heap:=⟨#[boot_o_0 P,boot_o_1 P,boot_o_2 P,zjw P,boot_o_4 P,boot_o_5 P,boot_o_6 P,boot_o_7 P,boot_o_8 P,boot_o_9 P,boot_o_10 P,boot_o_7 P,zjx,o1,o2,boot_o_7 P,boot_o_8 P,o5,boot_o_7 P,o6,o7,o8,boot_o_7 P,boot_o_8 P,o9,boot_o_7 P,o10,o11,o12,boot_o_7 P,boot_o_8 P,o13,boot_o_7 P,o14,o15,o16,boot_o_7 P,boot_o_8 P,o17,boot_o_7 P,o18,o19,o20,boot_o_7 P,boot_o_8 P,o21,boot_o_7 P,o22,o23,o24,o25,o26,o27 P,boot_o_7 P,boot_o_8 P,o28,o29,boot_o_7 P,o30 P,o31,o32,o33,o34,o35,o26,o36 P,boot_o_7 P,boot_o_8 P,o37,o38,boot_o_7 P,o39 P,o40,o41,o42,o35,o26,o43 P,boot_o_7 P,boot_o_8 P,o44,o45,boot_o_7 P,o46 P,o47,o48,o49,o35,o26,o50 P,boot_o_7 P,boot_o_8 P,o51,o52,boot_o_7 P,o53 P,o54,o55,o56,o35,o26,o57 P,boot_o_7 P,boot_o_8 P,o58,o59,boot_o_7 P,o60 P,o61,o62,o63,o35,o26,o64 P,boot_o_7 P,boot_o_8 P,o65,o66,boot_o_7 P,o67 P,o68,o69,o70,o35,o26,o71 P,boot_o_7 P,boot_o_8 P,o72,o73,boot_o_7 P,o74 P,o75,o76,o77,o35,o26,o78 P,boot_o_7 P,boot_o_8 P,o79,o80,boot_o_7 P,o81 P,o82,o83,o84,boot_o_7 P,boot_o_8 P,o85,o86,o87,boot_o_7 P,boot_o_8 P,o88,o89,o90,boot_o_7 P,boot_o_8 P,o91,boot_o_7 P,o92,o93,o94,boot_o_7 P,boot_o_8 P,o95,boot_o_7 P,o96,o97,o98,boot_o_7 P,boot_o_8 P,o99,boot_o_7 P,o100,zfD,zfE,boot_o_7 P,boot_o_8 P,zfF,boot_o_7 P,zfG,zfH,zfI,boot_o_7 P,boot_o_8 P,zfJ,boot_o_7 P,zfK,zfL,zfM,boot_o_7 P,boot_o_8 P,o111,boot_o_7 P,zfN,zfO,zfP,boot_o_7 P,boot_o_8 P,zfQ,zfR,zfS,boot_o_7 P,boot_o_8 P,zfT,boot_o_7 P,zfU,zfV,zfW,boot_o_7 P,boot_o_8 P,zfX,boot_o_7 P,zfY,zfZ,zf0,boot_o_7 P,boot_o_8 P,zf1,boot_o_7 P,zf2,zf3,zf4,boot_o_7 P,boot_o_8 P,zf5,boot_o_7 P,zf6,zf7,zf8,boot_o_7 P,boot_o_8 P,zf9,zga,zgb,boot_o_7 P,boot_o_8 P,zgc,zgd,zge,boot_o_7 P,boot_o_8 P,zgf,boot_o_7 P,zgg,zgh,zgi,boot_o_7 P,boot_o_8 P,zgj,zgk,zgl,boot_o_7 P,boot_o_8 P,zgm,boot_o_7 P,zgn,zgo,zgp,boot_o_7 P,boot_o_8 P,zgq,boot_o_7 P,zgr,zgs,zgt,boot_o_7 P,boot_o_8 P,zgu,boot_o_7 P,zgv,zgw,zgx,boot_o_7 P,boot_o_8 P,zgy,boot_o_7 P,zgz,zgA,zgB,boot_o_7 P,boot_o_8 P,zgC,zgD,zgE,boot_o_7 P,boot_o_8 P,zgF,zgG,zgH,boot_o_7 P,boot_o_8 P,zgI,zgJ,zgK,boot_o_7 P,boot_o_8 P,zgL,boot_o_7 P,zgM,zgN,zgO,boot_o_7 P,boot_o_8 P,zgP,zgQ,zgR,boot_o_7 P,boot_o_8 P,zgS,boot_o_7 P,zgT,zgU,zgV,boot_o_7 P,boot_o_8 P,zgW,boot_o_7 P,zgX,zgY,zgZ,boot_o_7 P,boot_o_8 P,zg0,boot_o_7 P,zg1,zg2,zg3,boot_o_7 P,boot_o_8 P,zg4,boot_o_7 P,zg5,zg6,zg7,boot_o_7 P,boot_o_8 P,zg8,boot_o_7 P,zg9,zha,zhb,boot_o_7 P,boot_o_8 P,zhc,o200,zhd,boot_o_7 P,boot_o_8 P,zhe,boot_o_7 P,zhf,zhg,zhh,boot_o_7 P,boot_o_8 P,zhi,zhj,zhk,boot_o_7 P,o26,zhl P,boot_o_7 P,zhm,zhn,zho,boot_o_7 P,boot_o_8 P,zhp,boot_o_7 P,zhq,zhr,zhs,zht,zhu P,zhv,zhw,zhx,zhy,zhz,boot_o_7 P,o26,zhA P,boot_o_7 P,zhB,zhC,zhD,boot_o_7 P,boot_o_8 P,zhE,boot_o_7 P,zhF,zhG,zhH,boot_o_7 P,boot_o_8 P,zhI,boot_o_7 P,zhJ,zhK,zhL,boot_o_7 P,boot_o_8 P,zhM,boot_o_7 P,zhN,zhO,zhP,boot_o_7 P,boot_o_8 P,zhQ,boot_o_7 P,zhR,zhS,zhT,boot_o_7 P,boot_o_8 P,zhU,boot_o_7 P,zhV,zhW,zhX,boot_o_7 P,boot_o_8 P,zhY,boot_o_7 P,zhZ,zh0,zh1,boot_o_7 P,boot_o_8 P,zh2,boot_o_7 P,zh3,zh4,zh5,zh6,zh7 P,zh8,zh9,zia,zib,zic,boot_o_7 P,boot_o_8 P,zid,boot_o_7 P,zie,zif,zig,boot_o_7 P,boot_o_8 P,zih,boot_o_7 P,zii,zij,zik,boot_o_7 P,boot_o_8 P,zil,boot_o_7 P,zim,zin,zio,boot_o_7 P,boot_o_8 P,ziq,boot_o_7 P,zir,zis,zit,boot_o_7 P,boot_o_8 P,ziu,boot_o_7 P,ziv,ziw,zix,boot_o_7 P,boot_o_8 P,ziy,boot_o_7 P,ziz,ziA,ziB,boot_o_7 P,boot_o_8 P,ziC,ziD,ziE,boot_o_7 P,boot_o_8 P,ziF,boot_o_7 P,ziG,ziH,ziI,boot_o_7 P,boot_o_8 P,ziJ,boot_o_7 P,ziK,ziL,ziM,boot_o_7 P,boot_o_8 P,ziN,boot_o_7 P,ziO,o300,ziP,boot_o_7 P,boot_o_8 P,zjy,boot_o_7 P,zjz,zjA,zjB,boot_o_7 P,boot_o_8 P,zjC,zjD,zjE,boot_o_7 P,boot_o_8 P,zjF,boot_o_7 P,zjG,zjH,zjI,boot_o_7 P,boot_o_8 P,zjJ,boot_o_7 P,zjK,zjL,zjM,boot_o_7 P,boot_o_8 P,zjN,boot_o_7 P,zjO,zjP,zjQ,boot_o_7 P,boot_o_8 P,zjR,zjS,zjT,boot_o_7 P,boot_o_8 P,zjU,zjV,zjW,boot_o_7 P,boot_o_8 P,zjX,boot_o_7 P,zjY,zjZ,zj0],lf⟩
noncomputable def view:Program:={ p with main:={ p.main with body:=[t 1,t 2,t 3,t 4,t 5,t 7,t 8,t 9,t 10,t 11,t 12,t 13,t 14,t 16,t 17,t 18,t 19,t 20,t 22,t 23,t 25,t 27,t 28,t 29,t 30,t 32,t 33,t 34,t 36,t 37,t 38,t 40,t 41,t 42,t 43,t 44,t 45,t 46,t 47,t 48,t 49,t 51,t 52,t 53,t 54,t 55,t 56,t 57,t 58,t 59,t 60,t 61,t 62,t 63,t 64,t 65,t 67,t 68,t 69,t 70,t 71,t 72,t 74,t 75,t 76,t 77,t 78,t 79,t 80,t 81,t 82,t 83,t 84,t 85,t 86,t 87] } }
noncomputable abbrev env:Env:={ scope:=p.main.scope,locals:=mainNs,globals:=mainNs,cells:=[],code:=(.ref 13),frame:=some 14 }
noncomputable abbrev cE:Code:=.body (behindTheImports p) env
noncomputable abbrev fq:Pos:=⟨0,0,0,0⟩
noncomputable abbrev an:Option Value:=(some (.ref 6))
noncomputable abbrev s0 (w:World) (os:OsState):Shared:=⟨boot_heap w.params,#[],boot_drawn,boot_toks,os⟩
noncomputable abbrev S (w:World) (os:OsState):Shared:=⟨hF w.params,#[],⟨0,0,0,0⟩,976,os⟩
theorem pre (w:World) (os:OsState):topGo treeTable p w 11 an 12 (s0 w os) (topStub p)=some ((⟨hA w.params,#[],⟨0,0,0,0⟩,187,os⟩:Shared),⟨denote treeTable cE,cE,⟨0,0,0,0⟩,[topFrame fq]⟩):=by
 rewrite [PySem.W.Fast.te15667345088766844465,PySem.W.Fast.te14364793385576792824,PySem.W.Fast.te11892475500146522536]
 kernel_rfl
theorem block (w:World) (os:OsState):segRun treeTable p w 11 an 1 1 (⟨hA w.params,#[],⟨0,0,0,0⟩,187,os⟩:Shared) (blockOf (behindTheImports p) env cE ⟨0,0,0,0⟩ [topFrame fq])=some (.next,(⟨tr0 w.params,15,lf,#[],⟨0,0,0,0⟩,187,os⟩:SharedT).abs,cE,⟨0,0,0,0⟩):=by
 rewrite [PySem.W.Fast.te14374325043358763698,PySem.W.Fast.te14364793385576792824]
 kernel_rfl
noncomputable def ziQ:List Stmt:=[t 0,t 1,t 2,t 3,t 4,t 5,t 6,t 7,t 8,t 9,t 10,t 11,t 12,t 13,t 14,t 15,t 16,t 17,t 18,t 19,t 20,t 21,t 22,t 23,t 24,t 25,t 26,t 27,t 28,t 29,t 30,t 31,t 32,t 33,t 34,t 35,t 36,t 37,t 38,t 39,t 40,t 41,t 42,t 43,t 44,t 45,t 46,t 47,t 48,t 49,t 50,t 51,t 52,t 53,t 54,t 55,t 56,t 57,t 58,t 59,t 60,t 61,t 62,t 63,t 64,t 65,t 66,t 67,t 68,t 69,t 70,t 71,t 72,t 73,t 74,t 75,t 76,t 77,t 78,t 79]
theorem zkj (w:World) (os:OsState):segRunT treeTable p w 11 an 1 3993 (⟨tr0 w.params,15,lf,#[],⟨0,0,0,0⟩,187,os⟩:SharedT) (piecesOf ziQ env cE ⟨0,0,0,0⟩ [topFrame fq])=some (.next,(⟨tr1 w.params,513,lf,#[],⟨0,0,0,0⟩,903,os⟩:SharedT),cE,⟨370,0,381,26⟩):=by
 rewrite [PySem.W.Fast.te10110043849684766642,PySem.W.Fast.te14364793385576792824]
 kernel_rfl
noncomputable def ziR:List Stmt:=[t 80,t 81,t 82,t 83,t 84,t 85,t 86,t 87]
theorem zkk (w:World) (os:OsState):segRunT treeTable p w 11 an 1 244 (⟨tr1 w.params,513,lf,#[],⟨0,0,0,0⟩,903,os⟩:SharedT) (piecesOf ziR env cE ⟨370,0,381,26⟩ [topFrame fq])=some (.next,(⟨tr2 w.params,563,lf,#[],⟨0,0,0,0⟩,976,os⟩:SharedT),cE,⟨454,0,466,15⟩):=by
 rewrite [PySem.W.Fast.te10110043849684766642,PySem.W.Fast.te14364793385576792824]
 kernel_rfl
theorem fin (w:World) (os:OsState):topRun treeTable p w 11 an 2 (⟨tr2 w.params,563,lf,#[],⟨0,0,0,0⟩,976,os⟩:SharedT).abs ⟨doneF .next,cE,⟨454,0,466,15⟩,[topFrame fq]⟩=some (S w os):=by
 rewrite [PySem.W.Fast.te14082659384304107361,PySem.W.Fast.te14364793385576792824]
 kernel_rfl
theorem parts:behindTheImports p=ziQ++(ziR++[]):=by kernel_rfl
theorem rest (w:World) (os:OsState):topRun treeTable p w 11 an (3993+(244+(2))) (⟨tr0 w.params,15,lf,#[],⟨0,0,0,0⟩,187,os⟩:SharedT).abs (restOf (ziQ++(ziR++[])) env cE ⟨0,0,0,0⟩ [topFrame fq])=some (S w os):=(piece_app (segRun_of (zkj w os)) (piece_app (segRun_of (zkk w os)) (piece_nil (fin w os))))
theorem rest' (w:World) (os:OsState):topRun treeTable p w 11 an (3993+(244+(2))) (⟨tr0 w.params,15,lf,#[],⟨0,0,0,0⟩,187,os⟩:SharedT).abs (restOf (behindTheImports p) env cE ⟨0,0,0,0⟩ [topFrame fq])=some (S w os):=(congrArg (fun l=>topRun treeTable p w 11 an (3993+(244+(2))) (⟨tr0 w.params,15,lf,#[],⟨0,0,0,0⟩,187,os⟩:SharedT).abs (restOf l env cE ⟨0,0,0,0⟩ [topFrame fq])) parts).trans (rest w os)
theorem run (w:World) (os:OsState):topRun treeTable p w 11 an (12+(1+(3993+(244+(2))))) (s0 w os) (topStub p)=some (S w os):=go_top (pre w os) (piece_block (block w os) (rest' w os))
theorem size (w:World):((boot_heap w.params).isNs mainGlobals && (#[]:Array GenState).size == 0,(boot_heap w.params).objs.size,(boot_heap w.params).nsMap mainGlobals "__annotations__")=(true,11,an):=by
 rewrite [PySem.W.Fast.te8920871248978507458]
 kernel_rfl
noncomputable abbrev Xt:Shared→Bool:=fun s=>xlAt view [] s && recOk PySem.Challenge.rw_bellwrite_k94_rows_at_the_desk.row.toRowW.records s
theorem zj1 (w:World) (os:OsState):(staticsOk (importedModules p.main.body) (boot_heap w.params) (hF w.params) && namesBound p (hF w.params) && gensDone (S w os) && laidKept (boot_heap w.params) (hF w.params))=true:=by
 rewrite [PySem.W.Fast.te5923862056798008813]
 kernel_rfl
theorem zj2 (w:World) (os:OsState):openSeen view [] (importedModules p.main.body) Xt true (S w os)=openGood view []:=by
 unfold openSeen openGood
 refine looks_pair ?_ (looks_pair ?_ (looks_pair ?_ (looks_pair ?_ (looks_pair ?_ (looks_pair ?_ (looks_pair ?_ (looks_pair ?_ ?_)))))))
 ·(try rewrite [PySem.W.Fast.te5160383126252970620]);(try rewrite [PySem.W.R.mapR_eq]);(try rewrite [PySem.W.Fast.te3399658132070893891]);(try rewrite [PySem.W.Fast.te5991557255702980513]);kernel_rfl
 ·kernel_rfl
 ·(try rewrite [PySem.W.Fast.te10880121769531294198]);(try rewrite [PySem.W.Fast.te821141287760084731]);(try rewrite [PySem.W.R.mapR_eq]);(try rewrite [PySem.W.Fast.te3399658132070893891]);(try rewrite [PySem.W.Fast.te7409074990110511671]);(try rewrite [PySem.W.Fast.te13664370479719496447]);(try rewrite [PySem.W.Fast.te14722251495701143533]);(try rewrite [PySem.W.Fast.te5923862056798008813]);(try rewrite [PySem.W.Fast.te10994771534591457954]);kernel_rfl
 ·(try rewrite [PySem.W.Fast.te479339242167458305]);kernel_rfl
 ·(try rewrite [PySem.W.Fast.te16090120013241838585]);(try rewrite [PySem.W.Fast.te3247288618530077131]);kernel_rfl
 ·(try rewrite [PySem.W.Fast.te2386780881361962483]);(try rewrite [PySem.W.Fast.te821141287760084731]);kernel_rfl
 ·(try rewrite [PySem.W.Fast.te11698064438423848299]);kernel_rfl
 ·(try rewrite [PySem.W.Fast.te7317090234206586261]);kernel_rfl
 ·(try rewrite [PySem.W.Fast.te7369524293546568484]);kernel_rfl
theorem left (H:Hook) (hk:∀(w:World) (os:OsState),H.obs (S w os)=H.val w):LeftO p view [] Xt H.obs H.val 20000:=
 LeftO.of_pieces (boot_open (by kernel_rfl) (by decide) (fun s=>by rfl)) size run (by decide) (fun w=>funext fun os=>looks_pair (zj1 w os) (looks_pair (zj2 w os) (hk w os)))
theorem opens {d:DefRec}{kwd:List (Str×Expr)} (H:Hook) (hk:∀(w:World) (os:OsState),H.obs (S w os)=H.val w) (h1:defOf view PySem.Challenge.rw_bellwrite_k94_rows_at_the_desk.row.name=some (d,kwd)) (h2:PySem.Challenge.rw_bellwrite_k94_rows_at_the_desk.row.prog.theDef PySem.Challenge.rw_bellwrite_k94_rows_at_the_desk.row.name=some (d.params,d.body,d.scope)) (h3:kwWritten? d.params.kwonlyargs d.params.kw_defaults=some kwd) (said:PySem.Challenge.rw_bellwrite_k94_rows_at_the_desk.row.wellSaid=true) (hw:PySem.Challenge.rw_bellwrite_k94_rows_at_the_desk.row.toRowW.promised)
  (hc:WalkO view [] (XL view []) H.says PySem.Challenge.rw_bellwrite_k94_rows_at_the_desk.row.toRowW d kwd fun f vs=>PySem.call f vs):PySem.Challenge.rw_bellwrite_k94_rows_at_the_desk.row.Holds:=by
 have ok:(chainsOk view && opensWell PySem.Challenge.rw_bellwrite_k94_rows_at_the_desk.row.prog && (frees PySem.Challenge.rw_bellwrite_k94_rows_at_the_desk.row.toRowW && PySem.Challenge.rw_bellwrite_k94_rows_at_the_desk.row.within.isEmpty))=true:=by kernel_rfl
 exact holds_open (Xt:=Xt) (N:=20000) (left H hk) H.of H.keeps (fun s y=>xl_of s (Bool.and_eq_true_iff.mp y).1) XL.keeps h1 h2 h3
  (fun s y=>recFacts_of (Bool.and_eq_true_iff.mp y).2) (by rfl) said ok ⟨rfl,rfl,rfl,rfl,rfl,by decide +kernel⟩ hw hc
end
end Op
open PySem PySem.W PyProof.Rows
local macro_rules
  | `(tactic| o_head $h) => `(tactic| refine Op.opens $h (fun w os => ?hk) (by rfl) (by rfl) (by rfl) (by assumption) ?hw ?hc)
set_option maxRecDepth 100000 in
set_option maxHeartbeats 0 in
theorem PySem.Challenge.cw_bellwrite_k94_rows_at_the_desk_holds : PySem.Challenge.rw_bellwrite_k94_rows_at_the_desk.Holds := by
  w_on; o_law; k_head; (case hk => kernel_rfl); (case hw => w_witness2)
  k_fill
  refine Bw.walk (l := PySem.Challenge.rw_bellwrite_k94_rows_at_the_desk) rfl rfl (by decide +kernel) (fun w h Y => PySem.W.kIn_of Y) ?F
  case F =>
    intro w mg fa h KX G hmg
    refine' Bw.all_mk (l := PySem.Challenge.rw_bellwrite_k94_rows_at_the_desk) rfl KX G hmg ?d0 ?d1 ?d2 ?d3 ?d4 ?d5 ?d6 ?d7 ?d8 ?d9 ?d10 ?d11 ?d12 ?d13 ?d14 ?d15 ?d16 ?d17 ?d18 ?d19 ?d20 ?d21 ?d22 ?d23 ?d24 ?d25 ?d26 ?d27 ?d28 ?d29 ?d30 ?d31 ?d32 ?d33 ?d34 ?d35 ?d36 ?d37 ?d38 ?d39 ?d40 ?d41 ?d42 ?d43 ?d44 ?d45 ?d46 ?d47 ?d48 ?d49 ?d50 ?d51 ?d52 ?d53 ?d54 ?d55 ?d56 ?z_range ?z_isinstance ?z_int ?zau ?z_len ?zav ?z_max ?z_min ?z_enumerate ?z_sorted ?z_sum ?z_all ?z_str ?zcv ?z_ValueError ?jd ?vg ?zT ?qp ?jK ?jZ ?zZ ?jF ?xj ?wF ?jo ?qi ?jq ?qj ?zp ?qK ?je ?vV ?zK ?qg ?z7 ?jC ?xJ ?jf ?jr ?jt ?ju ?jw ?jx ?qt ?zU ?zL ?qx ?z8 ?qH ?z9 ?qI ?qJ ?qW ?qX ?qY ?qZ ?jb ?zV ?zF ?zB ?zW ?zM ?qd ?zN ?qe ?qy ?qM ?qN ?qO ?qP ?qQ ?zO ?zE ?zx ?zP ?zG ?zX ?zH ?zY ?JZ ?J1 ?zfA ?zfB ?zfC ?Xe ?Xf ?Xg ?Xh ?Xi ?Xj ?yQ ?yR ?Zu ?w6 ?Vv ?Vw ?Vx ?Vy ?Vz ?VB ?Zv ?Zw ?Z0 ?yS ?xU ?wG ?wH ?Zx ?Zy ?v8 ?yf ?yg ?Z1 ?Z2 ?v9 ?yh ?yj ?yo ?Z3 ?kh ?yq ?yr ?yt ?Z4 ?kj ?yu ?yw ?yx ?Z5 ?xW ?vW ?vX ?vY ?yU ?j0 ?xr ?xu ?xx ?km ?kI ?yz ?yC ?yD ?Z6
    any_goals (refine' Bw.di_mk ?a ?l ?c ?k; (case a => k_is); (case l => k_is); (case c => k_is); (case k => k_is))
    (case z_range => k_is)
    (case z_isinstance => k_is)
    (case z_int => k_is)
    (case zau => k_is)
    (case z_len => k_is)
    (case zav => k_is)
    (case z_max => k_is)
    (case z_min => k_is)
    (case z_enumerate => k_is)
    (case z_sorted => k_is)
    (case z_sum => k_is)
    (case z_all => k_is)
    (case z_str => k_is)
    (case zcv => k_is)
    (case z_ValueError => k_is)
    (case jd => k_is)
    (case vg => k_is)
    (case zT => k_is)
    (case qp => k_is)
    (case jK => k_is)
    (case jZ => k_is)
    (case zZ => k_is)
    (case jF => k_is)
    (case xj => k_is)
    (case wF => k_is)
    (case jo => k_is)
    (case qi => k_is)
    (case jq => k_is)
    (case qj => k_is)
    (case zp => k_is)
    (case qK => k_is)
    (case je => k_exc)
    (case vV => k_exc)
    (case zK => k_exc)
    (case qg => k_exc)
    (case z7 => k_exc)
    (case jC => k_exc)
    (case xJ => k_exc)
    (case jf => k_is)
    (case jr => k_is)
    (case jt => k_is)
    (case ju => k_is)
    (case jw => k_is)
    (case jx => k_is)
    (case qt => kit_is)
    (case zU => kit_is)
    (case zL => kit_is)
    (case qx => kit_is)
    (case z8 => kit_is)
    (case qH => kit_is)
    (case z9 => kit_is)
    (case qI => kit_is)
    (case qJ => k_is)
    (case qW => k_is)
    (case qX => k_is)
    (case qY => k_is)
    (case qZ => k_is)
    (case jb => k_is)
    (case zV => kit_is)
    (case zF => kit_is)
    (case zB => kit_is)
    (case zW => kit_is)
    (case zM => kit_is)
    (case qd => kit_is)
    (case zN => kit_is)
    (case qe => kit_is)
    (case qy => k_is)
    (case qM => k_is)
    (case qN => k_is)
    (case qO => k_is)
    (case qP => k_is)
    (case qQ => k_is)
    (case zO => kit_is)
    (case zE => kit_is)
    (case zx => kit_is)
    (case zP => kit_is)
    (case zG => kit_is)
    (case zX => kit_is)
    (case zH => kit_is)
    (case zY => kit_is)
    (case JZ => k_is)
    (case J1 => k_is)
    (case zfA => k_is)
    (case zfB => decide +kernel)
    (case zfC => k_is)
    (case Xe => k_is)
    (case Xf => k_is)
    (case Xg => k_is)
    (case Xh => k_is)
    (case Xi => k_is)
    (case Xj => k_is)
    (case yQ => k_is)
    (case yR => k_is)
    (case Zu => k_is)
    (case w6 => k_is)
    (case Vv => k_is)
    (case Vw => k_is)
    (case Vx => k_is)
    (case Vy => k_is)
    (case Vz => k_is)
    (case VB => k_is)
    (case Zv => k_is)
    (case Zw => k_is)
    (case Z0 => k_is)
    (case yS => k_is)
    (case xU => k_is)
    (case wG => k_is)
    (case wH => k_is)
    (case Zx => k_is)
    (case Zy => k_is)
    (case v8 => k_is)
    (case yf => k_is)
    (case yg => k_is)
    (case Z1 => k_is)
    (case Z2 => k_is)
    (case v9 => k_is)
    (case yh => k_is)
    (case yj => k_is)
    (case yo => k_is)
    (case Z3 => k_is)
    (case kh => k_is)
    (case yq => k_is)
    (case yr => k_is)
    (case yt => k_is)
    (case Z4 => k_is)
    (case kj => k_is)
    (case yu => k_is)
    (case yw => k_is)
    (case yx => k_is)
    (case Z5 => k_is)
    (case xW => k_is)
    (case vW => k_is)
    (case vX => k_is)
    (case vY => k_is)
    (case yU => k_is)
    (case j0 => k_is)
    (case xr => k_is)
    (case xu => k_is)
    (case xx => k_is)
    (case km => k_is)
    (case kI => k_is)
    (case yz => k_is)
    (case yC => k_is)
    (case yD => k_is)
    (case Z6 => k_is)